/- The document's order: halves. -/
import Derived.Test.YtnmlnjljmikmpaaRa1
namespace Go.Proofs.Ytnmlnjljmikmpaa
open Go.RowKit Go.Shelf
set_option linter.unusedVariables false
set_option linter.unusedSimpArgs false
attribute [local go_sem ↓] Go.wp_at_zero Go.wp_at_succ

def seg (O : List Nat) (i e : Nat) : List Nat := (O.drop i).take (e - i)
theorem seg_step {O : List Nat} {i e x : Nat} (hi : i < e) (hx : O[i]? = some x) : seg O i e = x :: seg O (i + 1) e := by
  unfold seg
  rw [List.drop_eq_getElem_cons (List.getElem?_eq_some_iff.1 hx).1, show e - i = (e - (i + 1)) + 1 by omega, List.take_succ_cons]
  rw [(List.getElem?_eq_some_iff.1 hx).2]
theorem seg_end (O : List Nat) (i : Nat) : seg O i i = [] := by simp [seg]
theorem seg_len {O : List Nat} {i e : Nat} (h : e ≤ O.length) : (seg O i e).length = e - i := by simp [seg]; omega
theorem mrg_nilr (f : Nat → Pt) {N : Nat} (h : 0 < N) (A : List Nat) : mrg f N A [] = A := by
  cases N with
  | zero => omega
  | succ N => cases A <;> rfl
theorem mrg_nill (f : Nat → Pt) {N : Nat} (h : 0 < N) (B : List Nat) : mrg f N [] B = B := by
  cases N with
  | zero => omega
  | succ N => rfl
theorem blk_mem {f : Nat → Pt} {n w : Nat} {O : List Nat} (h : Blk f n w O) (hw : 0 < w) {j x : Nat} (hx : O[j]? = some x) : x < n := by
  have hj := (List.getElem?_eq_some_iff.1 hx).1
  have hl := h.1
  have hd : j / w * w ≤ j := Nat.div_mul_le_self j w
  have hm := Nat.mod_lt j hw
  have e : j = j / w * w + j % w := by rw [Nat.mul_comm]; exact (Nat.div_add_mod j w).symm
  have hs := h.2 (j / w) (by omega)
  have : x ∈ (O.drop (j / w * w)).take w := by
    rw [List.mem_iff_getElem?]
    refine ⟨j % w, ?_⟩
    rw [List.getElem?_take_of_lt hm, List.getElem?_drop, ← e]
    exact hx
  have := (hs.mem this).2
  omega
set_option maxRecDepth 100000 in
set_option maxHeartbeats 8000000 in
theorem rHalves_any {w : World} {la oa : Option Addr} {n lc oc wd : Nat} {L : List Sm} {O : List Nat} (hl : LIn w la n L) (ho : RIn iC w oa n (asI O)) (hB : Blk (fun i => ptOf ((smS L).getD i Sy.zero)) n wd O) (hw : 0 < wd) (hwn : wd < n) (hn : n ≤ 1466015503701) :
    Calls Try.prog 26 #[.slice la n lc, .slice oa n oc, .int .i64 wd] w fun e w' => ∃ va vc O', e = .returned (.slice va n vc) ∧ RIn iC w' va n (asI O') ∧ Blk (fun i => ptOf ((smS L).getD i Sy.zero)) n (2 * wd) O' ∧ Kept (fun _ => False) w w' := by
  have HL := hid hl
  have HI := hid ho
  have HB := hid hB
  have HOL : Hid (O.length = n) := hid hB.1
  have HLN : Hid (n = L.length) := hid hl.1.1
  have HF := hid (fun i (m : Sm) (h : L[i]? = some m) => (show ptOf ((smS L).getD i Sy.zero) = ptOf m.s by rw [smS_at h]))
  generalize hf : (fun i => ptOf ((smS L).getD i Sy.zero)) = f at *
  have HFF : Hid (∀ i, ptOf ((smS L).getD i Sy.zero) = f i) := hid (fun i => by rw [← hf])
  clear hf
  have hn1 : (n : Int) ≤ 1466015503701 := by omega
  have hw1 : (wd : Int) < (n : Int) := by omega
  have hw0 : (0 : Int) < (wd : Int) := by omega
  have HW := hid (show 0 < wd ∧ wd < n from ⟨hw, hwn⟩)
  have s0 := r_nil iC 3 1 (St.nil w)
  have HS0 := hid s0
  clear hl ho hB s0 hw hwn hn
  go_enter Try.func26, Try.ntmps26
  go_upto_region 3 with fail
  go_loopw [7, 8] (fun v i wr => ∃ (j a : Nat) (O' : List Nat), a = j * (2 * wd) ∧ i = .int .i64 a ∧ a ≤ 3 * n ∧ Half f n wd a O' ∧ St w [lstR iC 3 1 v (asI O')] wr) (fun _ i _ => 3 * n - (intOf i).toNat)
  case atStart => exact ⟨0, 0, [], by simp, rfl, by omega, half_zero f n wd, HS0.out⟩
  case round =>
    clear HS0
    obtain ⟨j, a, O', ha, rfl, ha3, hh, hst⟩ := hrel
    by_cases hlt : a < n
    · have hlt' : (a : Int) < (n : Int) := by omega
      obtain ⟨iE, hiE⟩ : ∃ iE, iE = min (a + wd) n := ⟨_, rfl⟩
      obtain ⟨jE, hjE⟩ : ∃ jE, jE = min (a + 2 * wd) n := ⟨_, rfl⟩
      have m1 : min ((a : Int) + (wd : Int)) (n : Int) = (iE : Int) := by omega
      have m2 : min ((a : Int) + 2 * (wd : Int)) (n : Int) = (jE : Int) := by omega
      have HIE : Hid (a ≤ iE ∧ iE ≤ jE ∧ jE ≤ n ∧ iE = min (a + wd) n ∧ jE = min (a + 2 * wd) n) := hid ⟨by omega, by omega, by omega, hiE, hjE⟩
      have HA := hid ha
      have HH := hid hh
      have HST := hid hst
      have HA3 := hid (show a < n from hlt)
      clear hst ha hh hlt hiE hjE
      go_upto_region 9 with fail
      obtain ⟨M, hM⟩ : ∃ M, M = mrg f (2 * wd + 1) (seg O a iE) (seg O iE jE) := ⟨_, rfl⟩
      have HM := hid hM
      clear hM
      go_loopw [7, 9, 11] (fun v vi vj wr2 => ∃ (i j2 N : Nat) (D : List Nat), vi = .int .i64 i ∧ vj = .int .i64 j2 ∧ a ≤ i ∧ i ≤ iE ∧ iE ≤ j2 ∧ j2 ≤ jE ∧ (seg O i iE).length + (seg O j2 jE).length < N ∧ D ++ mrg f N (seg O i iE) (seg O j2 jE) = M ∧ D.length = (i - a) + (j2 - iE) ∧ St w [lstR iC 3 1 v (asI (O' ++ D))] wr2) (fun _ vi vj _ => (iE - (intOf vi).toNat) + (jE - (intOf vj).toNat))
      case atStart => exact ⟨a, iE, 2 * wd + 1, [], rfl, rfl, Nat.le_refl _, HIE.out.1, Nat.le_refl _, HIE.out.2.1, by rw [seg_len (by have := HIE.out; have := HOL.out; omega), seg_len (by have := HIE.out; have := HOL.out; omega)]; have := HIE.out; omega, by rw [HM.out]; rfl, by simp, by rw [List.append_nil]; exact HST.out⟩
      case round =>
        clear HST
        obtain ⟨i, j2, N, D, rfl, rfl, hi1, hi2, hj1, hj2, hN, hMM, hDL, hst⟩ := hrel
        have HIJ := hid (show a ≤ i ∧ i ≤ iE ∧ iE ≤ j2 ∧ j2 ≤ jE ∧ D.length = (i - a) + (j2 - iE) ∧ jE ≤ n ∧ iE ≤ jE ∧ O'.length = a from ⟨hi1, hi2, hj1, hj2, hDL, HIE.out.2.2.1, HIE.out.2.1, by have := HH.out.1; have := HA3.out; omega⟩)
        have HSZ : Hid (((asI (O' ++ D)).length + 1) * 8 ≤ 140737488355328) := hid (by rw [asI_len, List.length_append]; have := HIJ.out; omega)
        have HN := hid hN
        have HMM0 := hid hMM
        obtain ⟨va, vc, rfl⟩ := r_form hst 0 rfl rfl (fun _ => rfl)
        obtain ⟨og, ooff, rfl⟩ := HI.out.addr (by have := HA3.out; omega)
        have HS := hid hst
        have hi0 : (0 : Int) ≤ (i : Int) := by omega
        have hj0 : (0 : Int) ≤ (j2 : Int) := by omega
        clear hi1 hi2 hj1 hj2 hN hMM hDL hst
        by_cases c1 : i < iE
        · have HC1 := hid c1
          have t1 : decide ((i : Int) < (iE : Int)) = true := by simp; omega
          have t1n : decide (i < iE) = true := by simp; omega
          have t1m : decide (iE ≤ i) = false := by simp; omega
          have t1' : decide ((iE : Int) ≤ (i : Int)) = false := by simp; omega
          have hin : (i : Int) < (n : Int) := by have := HIJ.out; omega
          obtain ⟨x, hx⟩ : ∃ x, O[i]? = some x := ⟨_, List.getElem?_eq_getElem (by have := HIJ.out; have := HOL.out; omega)⟩
          have HX := hid hx
          have hsx := seg_step c1 hx
          have hxn := blk_mem HB.out HW.out.1 hx
          have hxn1 : (x : Int) < (n : Int) := by omega
          have hx0 : (0 : Int) ≤ (x : Int) := by omega
          by_cases c2 : j2 < jE
          · have HC2 := hid c2
            have t2 : decide ((j2 : Int) < (jE : Int)) = true := by simp; omega
            have t2n : decide (j2 < jE) = true := by simp; omega
            have t2m : decide (jE ≤ j2) = false := by simp; omega
            have hjn : (j2 : Int) < (n : Int) := by have := HIJ.out; omega
            obtain ⟨y, hy⟩ : ∃ y, O[j2]? = some y := ⟨_, List.getElem?_eq_getElem (by have := HIJ.out; have := HOL.out; omega)⟩
            have HY := hid hy
            have hsy := seg_step c2 hy
            have hyn := blk_mem HB.out HW.out.1 hy
            have hyn1 : (y : Int) < (n : Int) := by omega
            have hy0 : (0 : Int) ≤ (y : Int) := by omega
            obtain ⟨N', rfl⟩ : ∃ N', N = N' + 1 := ⟨N - 1, by have := HN.out; omega⟩
            obtain ⟨mx, hmx⟩ : ∃ m, L[x]? = some m := ⟨_, List.getElem?_eq_getElem (by have := HLN.out; omega)⟩
            obtain ⟨my, hmy⟩ : ∃ m, L[y]? = some m := ⟨_, List.getElem?_eq_getElem (by have := HLN.out; omega)⟩
            have hRA := fun W (k : Kept (fun _ => False) w W) => rAhead_any (w := W) my mx ((HL.out.kept k).2 my (List.mem_of_getElem? hmy)) ((HL.out.kept k).2 mx (List.mem_of_getElem? hmx))
            have e1 : ptOf my.s = f y := by rw [← HF.out y my hmy, HFF.out]
            have e2 : ptOf mx.s = f x := by rw [← HF.out x mx hmx, HFF.out]
            rw [e1, e2] at hRA
            obtain ⟨lg, loff, rfl⟩ := HL.out.1.addr (by have := HA3.out; omega)
            obtain ⟨⟨z0, z1, z2, z3, z4, z5, z6, z7, z8, ms⟩, ma, mc⟩ := mx
            obtain ⟨⟨y0, y1, y2, y3, y4, y5, y6, y7, y8, ns⟩, na, nc⟩ := my
            obtain ⟨a0, a1, a2, a3, a4, a5, a6, a7, a8, a9⟩ := story_cells HL.out HS.out.drew.same hmx
            obtain ⟨b0, b1, b2, b3, b4, b5, b6, b7, b8, b9⟩ := story_cells HL.out HS.out.drew.same hmy
            have q0 := (HI.out.kept HS.out.drew.same).at (k := 1) (fun _ => rfl) (j := i) (x := (x : Int)) (by simp [asI, hx]) 0 _ rfl
            have p0 := (HI.out.kept HS.out.drew.same).at (k := 1) (fun _ => rfl) (j := j2) (x := (y : Int)) (by simp [asI, hy]) 0 _ rfl
            rw [Nat.mul_one, Nat.add_zero] at q0 p0
            unfold syV at hRA
            simp only at hRA
            have hra := hRA _ HS.out.drew.same
            have HHN : Hid ((seg O (i + 1) iE).length + (seg O j2 jE).length < N' ∧ (seg O i iE).length + (seg O (j2 + 1) jE).length < N') := hid (by have := HN.out; rw [hsx, hsy] at this ⊢; simp only [List.length_cons] at this ⊢; omega)
            have HHM : Hid (D ++ (if ltK (f y) (f x) = true then y :: mrg f N' (seg O i iE) (seg O (j2 + 1) jE) else x :: mrg f N' (seg O (i + 1) iE) (seg O j2 jE)) = M) := hid (by have := HMM0.out; rw [hsx, hsy] at this; rw [hsx, hsy]; exact this)
            clear hx hy hsx hsy hmx hmy e1 e2 c1 c2 hRA HMM0
            generalize ltK (f y) (f x) = bb at hra HHM
            go_upto_region 12 with fail
            refine (fun key : ?KEY ∧ True => ?main) ⟨?keyproof, trivial⟩
            case main =>
              go_region_with (go_at_call 47; refine hra.mono ?_; rintro e w6 ⟨rfl, hk6⟩; have HS6 := hid (HS.out.drew.calm hk6); clear hk6)
              all_goals
                revert HS6
                revert w6
                exact key.1
            case keyproof =>
              intro w6 HS6
              clear a0 a1 a2 a3 a4 a5 a6 a7 a8 a9 b0 b1 b2 b3 b4 b5 b6 b7 b8 b9 q0 p0 hra HS
              have q0 := (HI.out.kept HS6.out.same).at (k := 1) (fun _ => rfl) (j := i) (x := (x : Int)) (by have := HX.out; simp [asI, this]) 0 _ rfl
              have p0 := (HI.out.kept HS6.out.same).at (k := 1) (fun _ => rfl) (j := j2) (x := (y : Int)) (by have := HY.out; simp [asI, this]) 0 _ rfl
              rw [Nat.mul_one, Nat.add_zero] at q0 p0
              cases bb with
              | true =>
                have HNN := hid HHN.out.2
                have HMM : Hid ((D ++ [y]) ++ mrg f N' (seg O i iE) (seg O (j2 + 1) jE) = M) := hid (by have := HHM.out; simp only [if_true] at this; rw [← this]; simp)
                clear HHM
                have t2 := (HS6.out).alloc (.cells #[.int .i64 (y : Int)] 3)
                have hrr := r_box (f := iC) (k := 1) (fun _ => rfl) 3 (HS6.out) (y : Int) _ rfl
                have hbs := buildI1 w6 (y : Int)
                have HT2 := hid t2
                have HRR := hid hrr
                clear t2 hrr
                go_wp2_with (first | simp only [hbs] | (at_builtin; refine wpList_appR Try.rowI HT2.out rfl _ _ rfl rfl (some ⟨(w6).heap.size, 0, none⟩) 1 1 rfl HRR.out (fun e => by cases e) HSZ.out ?_; intro v' w' s7'; have HEND := hid s7'; clear s7'))
                go_roundw
                case rel => exact ⟨i, j2 + 1, N', D ++ [y], rfl, by simp, HIJ.out.1, HIJ.out.2.1, by have := HIJ.out; omega, by have := HC2.out; omega, HNN.out, HMM.out, by have := HIJ.out; simp; omega, by have := HEND.out; simp only [asI, List.map_append, List.append_assoc] at this ⊢; exact this⟩
                case measure => have := HC2.out; simp [intOf]; omega
              | false =>
                have HNN := hid HHN.out.1
                have HMM : Hid ((D ++ [x]) ++ mrg f N' (seg O (i + 1) iE) (seg O j2 jE) = M) := hid (by have := HHM.out; simp only [Bool.false_eq_true, if_false] at this; rw [← this]; simp)
                clear HHM
                have t2 := (HS6.out).alloc (.cells #[.int .i64 (x : Int)] 3)
                have hrr := r_box (f := iC) (k := 1) (fun _ => rfl) 3 (HS6.out) (x : Int) _ rfl
                have hbs := buildI1 w6 (x : Int)
                have HT2 := hid t2
                have HRR := hid hrr
                clear t2 hrr
                go_wp2_with (first | simp only [hbs] | (at_builtin; refine wpList_appR Try.rowI HT2.out rfl _ _ rfl rfl (some ⟨(w6).heap.size, 0, none⟩) 1 1 rfl HRR.out (fun e => by cases e) HSZ.out ?_; intro v' w' s7'; have HEND := hid s7'; clear s7'))
                go_roundw
                case rel => exact ⟨i + 1, j2, N', D ++ [x], by simp, rfl, by have := HIJ.out; omega, by have := HC1.out; omega, HIJ.out.2.2.1, HIJ.out.2.2.2.1, HNN.out, HMM.out, by have := HIJ.out; simp; omega, by have := HEND.out; simp only [asI, List.map_append, List.append_assoc] at this ⊢; exact this⟩
                case measure => have := HC1.out; simp [intOf]; omega
          · have t2 : decide ((j2 : Int) < (jE : Int)) = false := by simp; omega
            have t2n : decide (j2 < jE) = false := by simp; omega
            have t2m : decide (jE ≤ j2) = true := by simp; omega
            have e : j2 = jE := by have := HIJ.out; omega
            have q0 := (HI.out.kept HS.out.same).at (k := 1) (fun _ => rfl) (j := i) (x := (x : Int)) (by simp [asI, hx]) 0 _ rfl
            rw [Nat.mul_one, Nat.add_zero] at q0
            have HNN : Hid ((seg O (i + 1) iE).length + (seg O j2 jE).length < N - 1 + 1) := hid (by have := HN.out; rw [hsx] at this; simp only [List.length_cons] at this; omega)
            have HMM : Hid ((D ++ [x]) ++ mrg f (N - 1 + 1) (seg O (i + 1) iE) (seg O j2 jE) = M) := hid (by have := HMM0.out; rw [e, seg_end, mrg_nilr f (by have := HN.out; omega), hsx] at this; rw [e, seg_end, mrg_nilr f (by omega), ← this]; simp)
            clear hx hsx c1 c2 HMM0 e
            have t2 := (HS.out).alloc (.cells #[.int .i64 (x : Int)] 3)
            have hrr := r_box (f := iC) (k := 1) (fun _ => rfl) 3 (HS.out) (x : Int) _ rfl
            have hbs := buildI1 wr (x : Int)
            have HT2 := hid t2
            have HRR := hid hrr
            clear t2 hrr
            go_wp2_with (first | simp only [hbs] | (at_builtin; refine wpList_appR Try.rowI HT2.out rfl _ _ rfl rfl (some ⟨(wr).heap.size, 0, none⟩) 1 1 rfl HRR.out (fun e => by cases e) HSZ.out ?_; intro v' w' s7'; have HEND := hid s7'; clear s7'))
            go_roundw
            case rel => exact ⟨i + 1, j2, N - 1 + 1, D ++ [x], by simp, rfl, by have := HIJ.out; omega, by have := HC1.out; omega, HIJ.out.2.2.1, HIJ.out.2.2.2.1, HNN.out, HMM.out, by have := HIJ.out; simp; omega, by have := HEND.out; simp only [asI, List.map_append, List.append_assoc] at this ⊢; exact this⟩
            case measure => have := HC1.out; simp [intOf]; omega
        · have t1 : decide ((i : Int) < (iE : Int)) = false := by simp; omega
          have t1n : decide (i < iE) = false := by simp; omega
          have t1m : decide (iE ≤ i) = true := by simp; omega
          have t1' : decide ((iE : Int) ≤ (i : Int)) = true := by simp; omega
          have e : i = iE := by have := HIJ.out; omega
          by_cases c2 : j2 < jE
          · have HC2 := hid c2
            have t2 : decide ((j2 : Int) < (jE : Int)) = true := by simp; omega
            have t2n : decide (j2 < jE) = true := by simp; omega
            have t2m : decide (jE ≤ j2) = false := by simp; omega
            have hjn : (j2 : Int) < (n : Int) := by have := HIJ.out; omega
            obtain ⟨y, hy⟩ : ∃ y, O[j2]? = some y := ⟨_, List.getElem?_eq_getElem (by have := HIJ.out; have := HOL.out; omega)⟩
            have hsy := seg_step c2 hy
            have p0 := (HI.out.kept HS.out.same).at (k := 1) (fun _ => rfl) (j := j2) (x := (y : Int)) (by simp [asI, hy]) 0 _ rfl
            rw [Nat.mul_one, Nat.add_zero] at p0
            have HNN : Hid ((seg O i iE).length + (seg O (j2 + 1) jE).length < N - 1 + 1) := hid (by have := HN.out; rw [hsy] at this; simp only [List.length_cons] at this; omega)
            have HMM : Hid ((D ++ [y]) ++ mrg f (N - 1 + 1) (seg O i iE) (seg O (j2 + 1) jE) = M) := hid (by have := HMM0.out; rw [e, seg_end, mrg_nill f (by have := HN.out; omega), hsy] at this; rw [e, seg_end, mrg_nill f (by omega), ← this]; simp)
            clear hy hsy c1 c2 HMM0 e
            have t2 := (HS.out).alloc (.cells #[.int .i64 (y : Int)] 3)
            have hrr := r_box (f := iC) (k := 1) (fun _ => rfl) 3 (HS.out) (y : Int) _ rfl
            have hbs := buildI1 wr (y : Int)
            have HT2 := hid t2
            have HRR := hid hrr
            clear t2 hrr
            go_wp2_with (first | simp only [hbs] | (at_builtin; refine wpList_appR Try.rowI HT2.out rfl _ _ rfl rfl (some ⟨(wr).heap.size, 0, none⟩) 1 1 rfl HRR.out (fun e => by cases e) HSZ.out ?_; intro v' w' s7'; have HEND := hid s7'; clear s7'))
            go_roundw
            case rel => exact ⟨i, j2 + 1, N - 1 + 1, D ++ [y], rfl, by simp, HIJ.out.1, HIJ.out.2.1, by have := HIJ.out; omega, by have := HC2.out; omega, HNN.out, HMM.out, by have := HIJ.out; simp; omega, by have := HEND.out; simp only [asI, List.map_append, List.append_assoc] at this ⊢; exact this⟩
            case measure => have := HC2.out; simp [intOf]; omega
          · have t2 : decide ((j2 : Int) < (jE : Int)) = false := by simp; omega
            have t2n : decide (j2 < jE) = false := by simp; omega
            have t2m : decide (jE ≤ j2) = true := by simp; omega
            have e2 : j2 = jE := by have := HIJ.out; omega
            have HD : Hid (D = mrg f (2 * wd + 1) (seg O a iE) (seg O iE jE)) := hid (by have := HMM0.out; rw [e, e2, seg_end, seg_end, mrg_nill f (by have := HN.out; omega), List.append_nil] at this; rw [this, HM.out])
            have HNX : Hid (Half f n wd (a + 2 * wd) (O' ++ D)) := hid (by
              have := half_next (N := 2 * wd + 1) HW.out.1 HB.out (by have := HH.out; rw [HA.out] at this; exact this) (by have := HA3.out; rw [HA.out] at this; exact this) (by omega)
              rw [HD.out]
              rw [← HA.out, show (j + 1) * (2 * wd) = a + 2 * wd by rw [HA.out, Nat.add_mul, Nat.one_mul]] at this
              have e3 : seg O a iE = (O.drop a).take wd := by
                unfold seg
                have := HIE.out
                have := HOL.out
                by_cases c : a + wd ≤ n
                · rw [show iE - a = wd by omega]
                · rw [List.take_of_length_le (by rw [List.length_drop]; omega), List.take_of_length_le (by rw [List.length_drop]; omega)]
              have e4 : seg O iE jE = (O.drop (a + wd)).take wd := by
                unfold seg
                have := HIE.out
                have := HOL.out
                by_cases c : a + wd ≤ n
                · rw [show iE = a + wd by omega]
                  by_cases c' : a + 2 * wd ≤ n
                  · rw [show jE - (a + wd) = wd by omega]
                  · rw [List.take_of_length_le (by rw [List.length_drop]; omega), List.take_of_length_le (by rw [List.length_drop]; omega)]
                · rw [List.drop_of_length_le (by omega), List.drop_of_length_le (by omega)]
                  simp
              rw [e3, e4]
              exact this)
            clear c1 c2 e e2 HD HMM0
            go_wp2
            go_roundw
            case rel => exact ⟨j + 1, a + 2 * wd, O' ++ D, by rw [HA.out, Nat.add_mul, Nat.one_mul], by simp, by have := HA3.out; have := HW.out; omega, HNX.out, HS.out⟩
            case measure => have := HA3.out; have := HW.out; simp [intOf]; omega
    · have hlt' : ¬ (a : Int) < (n : Int) := by omega
      obtain ⟨va, vc, rfl⟩ := r_form hst 0 rfl rfl (fun _ => rfl)
      have HH := hid hh
      have HS := hid hst
      have HBK := hid (half_all hh (by omega))
      have HLL : Hid ((asI O').length = n) := hid (by rw [asI_len]; exact HBK.out.1)
      have HR : Hid (RIn iC wr va n (asI O')) := hid (by
        have := st_rin hst 0 rfl rfl (f := iC) (fun _ => rfl)
        rw [HLL.out] at this
        exact this)
      clear hst hh hlt ha3 ha
      go_wp2
      go_ret
      exact ⟨va, ⟨vc, by rw [← HLL.out]; rfl⟩, O', HR.out, HBK.out, HS.out.same⟩
end Go.Proofs.Ytnmlnjljmikmpaa
