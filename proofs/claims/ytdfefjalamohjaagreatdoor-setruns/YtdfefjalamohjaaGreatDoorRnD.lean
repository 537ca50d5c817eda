/- The law's laid. -/
import Derived.Test.YtdfefjalamohjaaGreatDoorRnF
import Derived.Test.YtdfefjalamohjaaGreatDoorLyD
namespace Go.Proofs.YtdfefjalamohjaaGreatDoor
open Go.RowKit
set_option linter.unusedVariables false
set_option linter.unusedSimpArgs false
attribute [local go_sem ↓] Go.wp_at_zero Go.wp_at_succ

theorem take_getD {l : List Int} {i k : Nat} (h : i < k) : (l.take k).getD i 0 = l.getD i 0 := by
  simp only [List.getD_eq_getElem?_getD]
  rw [List.getElem?_take_of_lt h]
/-- The first j cells of own stand from b on. -/
def PartIn (cs own : List Int) (b j : Nat) : Prop := ∀ i, i < j → cs.getD (b + i) 0 = own.getD i 0
theorem PartIn.step {cs own : List Int} {b j : Nat} (h : PartIn cs own b j) (hl : b + j < cs.length) : PartIn (cs.set (b + j) (own.getD j 0)) own b (j + 1) := fun i hi => by
  by_cases e : i = j
  · subst e
    exact getD_set_same _ hl _
  · rw [sAt_other (by omega)]
    exact h i (by omega)
theorem PartIn.all {cs own : List Int} {b k : Nat} (h : PartIn cs own b k) (ho : own.length = k) (hl : b + k ≤ cs.length) : (cs.drop b).take k = own := by
  apply List.ext_getElem?
  intro i
  by_cases hi : i < k
  · have h1 := h i hi
    rw [List.getElem?_take_of_lt hi, List.getElem?_drop]
    rw [List.getD_eq_getElem?_getD, List.getD_eq_getElem?_getD, List.getElem?_eq_getElem (by omega), List.getElem?_eq_getElem (by omega)] at h1
    rw [List.getElem?_eq_getElem (by omega), List.getElem?_eq_getElem (by omega)]
    simpa using h1
  · rw [List.getElem?_eq_none (by rw [List.length_take]; omega), List.getElem?_eq_none (by omega)]
set_option maxRecDepth 100000 in
set_option maxHeartbeats 8000000 in
theorem laid_any {w : World} {base n0 seed : Int} {la ja da : Option Addr} {ml lc mj jc md dc : Nat} {l js : List Int} (hb : Rg base) (hn : Rg n0) (hs : Rg seed) (hX : XIn w la ml l) (hlc : ml ≤ maxLen) (hJ : XIn w ja mj js) :
    Calls Tryz.prog 27 #[.agg #[.int .i64 base, .int .i64 n0, .int .i64 seed, .slice la ml lc, .slice ja mj jc, .slice da md dc]] w fun e w' => ∃ (b n : Nat) (cs l2 : List Int) (ca va : Option Addr) (cc vc : Nat), e = .returned (.tuple #[.slice ca cs.length cc, .int .i64 b, .int .i64 n, .slice va l2.length vc]) ∧ XIn w' ca cs.length cs ∧ XV w' va l2.length vc l2 ∧ StHas cs b n l2 ∧ Kept (fun _ => False) w w' := by
  have s1 := (St.nil w).box #[.int .i64 base, .int .i64 n0, .int .i64 seed, .slice la ml lc, .slice ja mj jc, .slice da md dc] 56
  generalize hw1 : w.alloc (.cells #[.int .i64 base, .int .i64 n0, .int .i64 seed, .slice la ml lc, .slice ja mj jc, .slice da md dc] 56) = w1 at *
  generalize hM : w.heap.size = M at *
  have HC : Hid (∀ W, Kept (fun _ => False) w1 W → W.cell? ⟨M, 0, none⟩ = some (.int .i64 base) ∧ W.cell? ⟨M, 1, none⟩ = some (.int .i64 n0) ∧ W.cell? ⟨M, 2, none⟩ = some (.int .i64 seed) ∧ W.cell? ⟨M, 3, none⟩ = some (.slice la ml lc) ∧ W.cell? ⟨M, 4, none⟩ = some (.slice ja mj jc)) := hid (fun W k => ⟨(s1.calm k).cell 0 rfl 0, (s1.calm k).cell 0 rfl 1, (s1.calm k).cell 0 rfl 2, (s1.calm k).cell 0 rfl 3, (s1.calm k).cell 0 rfl 4⟩)
  have HT : Hid (∀ W, Kept (fun _ => False) w1 W → Kept (fun _ => False) w W) := hid (fun W k => s1.same.trans k (fun _ _ f => f))
  have hp1 := fun W => pick_any n0 60 W (by omega) (by omega) hn.1 hn.2
  obtain ⟨c0, c1, c2, c3, c4⟩ := HC.out w1 (Kept.refl _ _)
  have HX := hid hX
  have HJ := hid hJ
  have HB := hid hb
  have HSd := hid hs
  clear s1 hX hJ hb hn hs
  go_enter Tryz.func27, Tryz.ntmps27
  go_upto_region 2 with (first | simp only [hw1, hM] | (go_at_call 20; refine (hp1 _).mono ?_; rintro e w2 ⟨⟨k0, hk0, rfl⟩, hw2⟩; obtain rfl : w1 = w2 := hw2.symm; clear hw2))
  obtain ⟨n, hn⟩ : ∃ n : Nat, n = 1 + k0 := ⟨_, rfl⟩
  rw [show (1 : Int) + (k0 : Int) = (n : Int) by omega]
  have hn1 : 1 ≤ n := by omega
  have hn2 : n ≤ 60 := by omega
  have hR : roomS (n : Int) = 3 + 2 * (n : Int) := by unfold roomS; rw [if_pos (by omega)]
  have hr := fun W => rRoom_any (n : Int) W
  rw [hR] at hr
  have hp2 := fun W => pick_any base (254 - 2 * n) W (by omega) (by omega) HB.out.1 HB.out.2
  have e1 : (257 : Int) - (3 + 2 * (n : Int)) = ((254 - 2 * n : Nat) : Int) := by omega
  have hft := fitted_any (w := w1) (lc := lc) n (HX.out.kept (HT.out _ (Kept.refl _ _))) hn2 hlc
  clear hn hk0 hp1 hR hw1 hM
  go_upto_region 5 with (first | (go_at_call 12; refine (hr _).mono ?_; rintro e w2 ⟨rfl, hw2⟩; obtain rfl : w1 = w2 := hw2.symm; clear hw2) | (go_at_call 20; refine (hp2 _).mono ?_; rintro e w2 ⟨⟨b, hbb, rfl⟩, hw2⟩; obtain rfl : w1 = w2 := hw2.symm; clear hw2) | (go_at_call 49; refine hft.mono ?_; rintro e w3 ⟨va, vc, l2, rfl, hx3, hri3, hle3, k3⟩))
  have HL2 := hid hle3
  have HRI := hid hri3
  clear hle3 hri3
  have HX3 := hid hx3
  have HK3 := hid k3
  clear hx3 hft hr hp2 e1 c0 c1 c2 c3 c4
  obtain ⟨c0, c1, c2, c3, c4⟩ := HC.out w3 k3
  obtain ⟨N, hN⟩ : ∃ N : Nat, N = b + (3 + 2 * n) := ⟨_, rfl⟩
  have hm3 := makeX N ((b : Int) + (3 + 2 * (n : Int))) (by omega) (by omega) w3
  have s3 : St w3 (rowI w3.heap.size N N (List.replicate N 0) :: []) (w3.alloc (.cells (xC (List.replicate N 0)).toArray 2)) := by
    have := (St.nil w3).new64 (List.replicate N 0) (by rw [List.length_replicate]; unfold maxLen; omega)
    rw [List.length_replicate] at this
    exact this
  have HS3 : Hid (∃ zs, St w3 [rowI w3.heap.size N N zs] (w3.alloc (.cells (xC (List.replicate N 0)).toArray 2))) := hid ⟨_, s3⟩
  have HNN := hid hN
  have q0 : (b : Int) + (3 + 2 * (n : Int)) ≤ 1000 := by omega
  have q1 : (0 : Int) ≤ (b : Int) + (3 + 2 * (n : Int)) := by omega
  generalize xC (List.replicate N 0) = zz at *
  clear hN
  go_upto_region 6 with (simp only [hm3])
  have k4 := s3.same
  obtain ⟨c0, c1, c2, c3, c4⟩ := HC.out _ (k3.trans k4 (fun _ _ f => f))
  clear s3 k3
  generalize hw4 : w3.alloc (.cells zz.toArray 2) = w4 at *
  have HK4 := hid k4
  clear k4 hw4 hm3
  generalize w3.heap.size = g4 at *
  have HBn := hid (show b + (3 + 2 * n) ≤ N ∧ N ≤ 256 by have := HNN.out; omega)
  obtain ⟨N5, hN5⟩ : ∃ N5 : Nat, N5 = 256 := ⟨_, rfl⟩
  have hm5 := makeX N5 256 (by omega) (by omega) w4
  have s5 : St w4 (rowI w4.heap.size N5 N5 (List.replicate N5 0) :: []) (w4.alloc (.cells (xC (List.replicate N5 0)).toArray 2)) := by
    have := (St.nil w4).new64 (List.replicate N5 0) (by rw [List.length_replicate]; unfold maxLen; omega)
    rw [List.length_replicate] at this
    exact this
  have HS5 : Hid (∃ zs, St w3 [rowI w4.heap.size N5 N5 zs] (w4.alloc (.cells (xC (List.replicate N5 0)).toArray 2))) := hid ⟨_, s5.base HK4.out⟩
  have HB5 := hid (show b + (3 + 2 * n) ≤ N5 ∧ N5 ≤ 256 by omega)
  clear s5 hN5
  generalize xC (List.replicate N5 0) = z5 at *
  generalize hw5 : w4.alloc (.cells z5.toArray 2) = w5 at *
  generalize w4.heap.size = g5 at *
  by_cases hfull : N < 256
  · have t1 : decide (((N : Nat) : Int) < 256) = true := decide_eq_true (by omega)
    have t1' : decide (N < 256) = true := decide_eq_true hfull
    cases hbit : decide (0 < bits BinOp.and IntKind.i64 seed 1) with
    | true =>
      have HSN := HS5
      have HBn := HB5
      clear HS3
      go_wp2_with (simp only [hm5, hw5])
      go_loopw [11] (fun i wr => ∃ (j : Nat) (zs : List Int), i = .int .i64 j ∧ j ≤ N5 ∧ St w3 [rowI g5 N5 N5 zs] wr) (fun i _ => N5 - (intOf i).toNat)
      case atStart => obtain ⟨zs, hz⟩ := HSN.out; exact ⟨0, zs, rfl, Nat.zero_le _, hz⟩
      case round =>
        clear HSN
        obtain ⟨j, zs, rfl, hj, hst⟩ := hrel
        obtain ⟨hBn, hBm⟩ := HBn.out
        obtain ⟨c0, c1, c2, c3, c4⟩ := HC.out wr (HK3.out.trans hst.same (fun _ _ f => f))
        obtain ⟨d0, d1, d2, d3, d4⟩ := HC.out wr.drew (HK3.out.trans hst.drew.same (fun _ _ f => f))
        by_cases hgo : j < N5 ∧ 0 < mj
        · have t1 : (j : Int) < ((N5 : Nat) : Int) := by omega
          have t2 : (0 : Int) < (mj : Int) := by omega
          have t3 : (0 : Int) ≤ (j : Int) := by omega
          obtain ⟨gj, oj, rfl⟩ := HJ.out.addr hgo.2
          have hmd : j % mj < mj := Nat.mod_lt _ hgo.2
          have x1 : wr.drew.cell? ⟨gj, oj + j % mj, none⟩ = some (.int .i64 (js.getD (j % mj) 0)) := (HJ.out.kept (HT.out _ (HK3.out.trans hst.drew.same (fun _ _ f => f)))).cell hmd
          have f2 : wr.drew.frozen? ⟨g5, j, none⟩ = false := row_frozen hst.drew _
          obtain ⟨u2, c9⟩ : ∃ u, wr.drew.cell? ⟨g5, j, none⟩ = some u := ⟨_, row_cell hst.drew (j := j) hgo.1⟩
          have HT1 := hid (row_set hst.drew (j := j) hgo.1 (js.getD (j % mj) 0))
          have HT2 := hid (row_set hst (j := j) hgo.1 (js.getD (j % mj) 0)).drew
          have e1 : (j : Int) % (mj : Int) = ((j % mj : Nat) : Int) := by push_cast; rfl
          have e2 : (j : Int).tmod (mj : Int) = ((j % mj : Nat) : Int) := by rw [Int.tmod_eq_emod_of_nonneg (by omega)]; push_cast; rfl
          generalize js.getD (j % mj) 0 = jv at *
          generalize j % mj = r at *
          have z1 : (0 : Int) ≤ (r : Int) := by omega
          have z2 : (r : Int) < (mj : Int) := by omega
          have z3 : ((mj : Int) == 0) = false := by simp; omega
          have z4 : ¬ (mj : Int) = 0 := by omega
          have z5 : (j : Int) ≤ 1000 := by omega
          have HJJ := hid hgo
          clear hst hj hgo hmd
          go_upto_region 11 with fail
          go_region_with fail
          all_goals go_wp2
          all_goals go_roundw
          all_goals first
            | exact ⟨j + 1, _, by push_cast; rfl, by have := HJJ.out; omega, HT1.out⟩
            | exact ⟨j + 1, _, by push_cast; rfl, by have := HJJ.out; omega, HT2.out⟩
            | (have := HJJ.out; simp [intOf]; omega)
        · have hend : (decide ((j : Int) < ((N5 : Nat) : Int)) = false ∧ decide (j < N5) = false) ∨ ((decide ((j : Int) < ((N5 : Nat) : Int)) = true ∧ decide (j < N5) = true) ∧ mj = 0) := by
            by_cases h : j < N5
            · exact .inr ⟨⟨decide_eq_true (by omega), decide_eq_true h⟩, by omega⟩
            · exact .inl ⟨decide_eq_false (by omega), decide_eq_false h⟩
          have hL := Lay_any va l2.length vc l2 n seed wr ((HX3.out.kept hst.same).1) (by omega) hn2 HL2.out HSd.out.1 HSd.out.2
          have HST := hid hst
          have hzl : N5 = zs.length := row_len hst
          have HZL := hid hzl
          clear hst hj hgo d0 d1 d2 d3 d4 hzl
          generalize hll : l2.length = ll at *
          have HLL := hid hll
          clear hll
          rcases hend with ⟨t1, t2⟩ | ⟨⟨t1, t2⟩, rfl⟩
          all_goals
            go_upto_region 13 with (go_at_call 19; refine hL.mono ?_; rintro e w6 ⟨g6, own, rfl, ho6, hr6, s6⟩; replace hr6 := hr6 HRI.out)
            have HS6 : Hid (St w3 [rowI g5 N5 N5 zs, rowI g6 (3 + 2 * n) (3 + 2 * n) own] w6) := hid ((HST.out.join s6).perm (List.Perm.swap _ _ _))
            have HO6 := hid ho6
            have HR6 := hid hr6
            clear s6 ho6 hr6 hL HST c0 c1 c2 c3 c4
            go_wp2
            go_loopw [13] (fun i wr => ∃ (q : Nat) (cs : List Int), i = .int .i64 q ∧ q ≤ 3 + 2 * n ∧ PartIn cs own b q ∧ St w3 [rowI g5 N5 N5 cs, rowI g6 (3 + 2 * n) (3 + 2 * n) own] wr) (fun i _ => 3 + 2 * n - (intOf i).toNat)
            case atStart => exact ⟨0, zs, rfl, Nat.zero_le _, fun i hi => by omega, HS6.out⟩
            case round =>
              clear HS6
              obtain ⟨q, cs, rfl, hq, hpi, hst⟩ := hrel
              obtain ⟨hBn, hBm⟩ := HBn.out
              have hcl : N5 = cs.length := row_len hst
              by_cases hlt : q < 3 + 2 * n
              · have y1 : (q : Int) < 3 + 2 * (n : Int) := by omega
                have y2 : (0 : Int) ≤ (q : Int) := by omega
                have y3 : (q : Int) < ((3 + 2 * n : Nat) : Int) := by omega
                have y4 : (0 : Int) ≤ (b : Int) + (q : Int) := by omega
                have y5 : (b : Int) + (q : Int) < ((N5 : Nat) : Int) := by omega
                have y6 : ((b : Int) + (q : Int)).toNat = b + q := by omega
                have x1 : wr.cell? ⟨g6, q, none⟩ = some (.int .i64 (own.getD q 0)) := by
                  rw [hst.ownCell 1 rfl q (by omega)]
                  exact xC_at own q (by have := HO6.out; omega)
                have f2 : wr.frozen? ⟨g5, b + q, none⟩ = false := row_frozen hst _
                obtain ⟨u2, c9⟩ : ∃ u, wr.cell? ⟨g5, b + q, none⟩ = some u := ⟨_, row_cell hst (j := b + q) (by omega)⟩
                have HT1 := hid (row_set hst (j := b + q) (by omega) (own.getD q 0))
                have HP1 := hid (hpi.step (by omega))
                generalize own.getD q 0 = ov at *
                have HQ := hid hlt
                clear hst hpi hq hlt hcl hBn hBm
                go_wp2
                go_roundw
                case rel => exact ⟨q + 1, _, by push_cast; rfl, by have := HQ.out; omega, HP1.out, HT1.out⟩
                case measure =>
                  have := HQ.out
                  simp [intOf]
                  omega
              · have y1 : ¬ (q : Int) < 3 + 2 * (n : Int) := by omega
                obtain rfl : q = 3 + 2 * n := by omega
                have hall := hpi.all HO6.out (by omega)
                have hdq : StHas cs b n l2 := StHas.of (by omega) hn2 (by omega) (by omega) (by rw [hall]; exact HR6.out)
                have hxc : XIn wr (some ⟨g5, 0, none⟩) N5 cs := row_xin hst
                have HFin : Hid (∃ (b' n' : Nat) (cs' l2' : List Int) (ca va' : Option Addr) (cc vc' : Nat), Ending.returned (.tuple #[.slice (some ⟨g5, 0, none⟩) N5 N5, .int .i64 b, .int .i64 n, .slice va ll vc]) = .returned (.tuple #[.slice ca cs'.length cc, .int .i64 b', .int .i64 n', .slice va' l2'.length vc']) ∧ XIn wr ca cs'.length cs' ∧ XV wr va' l2'.length vc' l2' ∧ StHas cs' b' n' l2' ∧ Kept (fun _ => False) w wr) := hid ⟨b, n, cs, l2, some ⟨g5, 0, none⟩, va, N5, vc, by rw [← hcl, HLL.out], by rw [← hcl]; exact hxc, by rw [HLL.out]; exact HX3.out.kept hst.same, hdq, HT.out _ (HK3.out.trans hst.same (fun _ _ f => f))⟩
                clear hst hpi hq hlt hcl hBn hBm hall hdq hxc
                go_wp2
                refine bodyPost_ret (v := .tuple #[.slice (some ⟨g5, 0, none⟩) N5 N5, .int .i64 b, .int .i64 n, .slice va ll vc]) (by simp [results, Tryz.results27, go_sem]) rfl ?_
                exact HFin.out
    | false =>
      have HSN := HS3
      clear HS5
      go_wp2
      go_loopw [11] (fun i wr => ∃ (j : Nat) (zs : List Int), i = .int .i64 j ∧ j ≤ N ∧ St w3 [rowI g4 N N zs] wr) (fun i _ => N - (intOf i).toNat)
      case atStart => obtain ⟨zs, hz⟩ := HSN.out; exact ⟨0, zs, rfl, Nat.zero_le _, hz⟩
      case round =>
        clear HSN
        obtain ⟨j, zs, rfl, hj, hst⟩ := hrel
        obtain ⟨hBn, hBm⟩ := HBn.out
        obtain ⟨c0, c1, c2, c3, c4⟩ := HC.out wr (HK3.out.trans hst.same (fun _ _ f => f))
        obtain ⟨d0, d1, d2, d3, d4⟩ := HC.out wr.drew (HK3.out.trans hst.drew.same (fun _ _ f => f))
        by_cases hgo : j < N ∧ 0 < mj
        · have t1 : (j : Int) < ((N : Nat) : Int) := by omega
          have t2 : (0 : Int) < (mj : Int) := by omega
          have t3 : (0 : Int) ≤ (j : Int) := by omega
          obtain ⟨gj, oj, rfl⟩ := HJ.out.addr hgo.2
          have hmd : j % mj < mj := Nat.mod_lt _ hgo.2
          have x1 : wr.drew.cell? ⟨gj, oj + j % mj, none⟩ = some (.int .i64 (js.getD (j % mj) 0)) := (HJ.out.kept (HT.out _ (HK3.out.trans hst.drew.same (fun _ _ f => f)))).cell hmd
          have f2 : wr.drew.frozen? ⟨g4, j, none⟩ = false := row_frozen hst.drew _
          obtain ⟨u2, c9⟩ : ∃ u, wr.drew.cell? ⟨g4, j, none⟩ = some u := ⟨_, row_cell hst.drew (j := j) hgo.1⟩
          have HT1 := hid (row_set hst.drew (j := j) hgo.1 (js.getD (j % mj) 0))
          have HT2 := hid (row_set hst (j := j) hgo.1 (js.getD (j % mj) 0)).drew
          have e1 : (j : Int) % (mj : Int) = ((j % mj : Nat) : Int) := by push_cast; rfl
          have e2 : (j : Int).tmod (mj : Int) = ((j % mj : Nat) : Int) := by rw [Int.tmod_eq_emod_of_nonneg (by omega)]; push_cast; rfl
          generalize js.getD (j % mj) 0 = jv at *
          generalize j % mj = r at *
          have z1 : (0 : Int) ≤ (r : Int) := by omega
          have z2 : (r : Int) < (mj : Int) := by omega
          have z3 : ((mj : Int) == 0) = false := by simp; omega
          have z4 : ¬ (mj : Int) = 0 := by omega
          have z5 : (j : Int) ≤ 1000 := by omega
          have HJJ := hid hgo
          clear hst hj hgo hmd
          go_upto_region 11 with fail
          go_region_with fail
          all_goals go_wp2
          all_goals go_roundw
          all_goals first
            | exact ⟨j + 1, _, by push_cast; rfl, by have := HJJ.out; omega, HT1.out⟩
            | exact ⟨j + 1, _, by push_cast; rfl, by have := HJJ.out; omega, HT2.out⟩
            | (have := HJJ.out; simp [intOf]; omega)
        · have hend : (decide ((j : Int) < ((N : Nat) : Int)) = false ∧ decide (j < N) = false) ∨ ((decide ((j : Int) < ((N : Nat) : Int)) = true ∧ decide (j < N) = true) ∧ mj = 0) := by
            by_cases h : j < N
            · exact .inr ⟨⟨decide_eq_true (by omega), decide_eq_true h⟩, by omega⟩
            · exact .inl ⟨decide_eq_false (by omega), decide_eq_false h⟩
          have hL := Lay_any va l2.length vc l2 n seed wr ((HX3.out.kept hst.same).1) (by omega) hn2 HL2.out HSd.out.1 HSd.out.2
          have HST := hid hst
          have hzl : N = zs.length := row_len hst
          have HZL := hid hzl
          clear hst hj hgo d0 d1 d2 d3 d4 hzl
          generalize hll : l2.length = ll at *
          have HLL := hid hll
          clear hll
          rcases hend with ⟨t1, t2⟩ | ⟨⟨t1, t2⟩, rfl⟩
          all_goals
            go_upto_region 13 with (go_at_call 19; refine hL.mono ?_; rintro e w6 ⟨g6, own, rfl, ho6, hr6, s6⟩; replace hr6 := hr6 HRI.out)
            have HS6 : Hid (St w3 [rowI g4 N N zs, rowI g6 (3 + 2 * n) (3 + 2 * n) own] w6) := hid ((HST.out.join s6).perm (List.Perm.swap _ _ _))
            have HO6 := hid ho6
            have HR6 := hid hr6
            clear s6 ho6 hr6 hL HST c0 c1 c2 c3 c4
            go_wp2
            go_loopw [13] (fun i wr => ∃ (q : Nat) (cs : List Int), i = .int .i64 q ∧ q ≤ 3 + 2 * n ∧ PartIn cs own b q ∧ St w3 [rowI g4 N N cs, rowI g6 (3 + 2 * n) (3 + 2 * n) own] wr) (fun i _ => 3 + 2 * n - (intOf i).toNat)
            case atStart => exact ⟨0, zs, rfl, Nat.zero_le _, fun i hi => by omega, HS6.out⟩
            case round =>
              clear HS6
              obtain ⟨q, cs, rfl, hq, hpi, hst⟩ := hrel
              obtain ⟨hBn, hBm⟩ := HBn.out
              have hcl : N = cs.length := row_len hst
              by_cases hlt : q < 3 + 2 * n
              · have y1 : (q : Int) < 3 + 2 * (n : Int) := by omega
                have y2 : (0 : Int) ≤ (q : Int) := by omega
                have y3 : (q : Int) < ((3 + 2 * n : Nat) : Int) := by omega
                have y4 : (0 : Int) ≤ (b : Int) + (q : Int) := by omega
                have y5 : (b : Int) + (q : Int) < ((N : Nat) : Int) := by omega
                have y6 : ((b : Int) + (q : Int)).toNat = b + q := by omega
                have x1 : wr.cell? ⟨g6, q, none⟩ = some (.int .i64 (own.getD q 0)) := by
                  rw [hst.ownCell 1 rfl q (by omega)]
                  exact xC_at own q (by have := HO6.out; omega)
                have f2 : wr.frozen? ⟨g4, b + q, none⟩ = false := row_frozen hst _
                obtain ⟨u2, c9⟩ : ∃ u, wr.cell? ⟨g4, b + q, none⟩ = some u := ⟨_, row_cell hst (j := b + q) (by omega)⟩
                have HT1 := hid (row_set hst (j := b + q) (by omega) (own.getD q 0))
                have HP1 := hid (hpi.step (by omega))
                generalize own.getD q 0 = ov at *
                have HQ := hid hlt
                clear hst hpi hq hlt hcl hBn hBm
                go_wp2
                go_roundw
                case rel => exact ⟨q + 1, _, by push_cast; rfl, by have := HQ.out; omega, HP1.out, HT1.out⟩
                case measure =>
                  have := HQ.out
                  simp [intOf]
                  omega
              · have y1 : ¬ (q : Int) < 3 + 2 * (n : Int) := by omega
                obtain rfl : q = 3 + 2 * n := by omega
                have hall := hpi.all HO6.out (by omega)
                have hdq : StHas cs b n l2 := StHas.of (by omega) hn2 (by omega) (by omega) (by rw [hall]; exact HR6.out)
                have hxc : XIn wr (some ⟨g4, 0, none⟩) N cs := row_xin hst
                have HFin : Hid (∃ (b' n' : Nat) (cs' l2' : List Int) (ca va' : Option Addr) (cc vc' : Nat), Ending.returned (.tuple #[.slice (some ⟨g4, 0, none⟩) N N, .int .i64 b, .int .i64 n, .slice va ll vc]) = .returned (.tuple #[.slice ca cs'.length cc, .int .i64 b', .int .i64 n', .slice va' l2'.length vc']) ∧ XIn wr ca cs'.length cs' ∧ XV wr va' l2'.length vc' l2' ∧ StHas cs' b' n' l2' ∧ Kept (fun _ => False) w wr) := hid ⟨b, n, cs, l2, some ⟨g4, 0, none⟩, va, N, vc, by rw [← hcl, HLL.out], by rw [← hcl]; exact hxc, by rw [HLL.out]; exact HX3.out.kept hst.same, hdq, HT.out _ (HK3.out.trans hst.same (fun _ _ f => f))⟩
                clear hst hpi hq hlt hcl hBn hBm hall hdq hxc
                go_wp2
                refine bodyPost_ret (v := .tuple #[.slice (some ⟨g4, 0, none⟩) N N, .int .i64 b, .int .i64 n, .slice va ll vc]) (by simp [results, Tryz.results27, go_sem]) rfl ?_
                exact HFin.out
  · have t1 : decide (((N : Nat) : Int) < 256) = false := decide_eq_false (by omega)
    have t1' : decide (N < 256) = false := decide_eq_false hfull
    have HSN := HS3
    clear HS5
    go_wp2
    go_loopw [11] (fun i wr => ∃ (j : Nat) (zs : List Int), i = .int .i64 j ∧ j ≤ N ∧ St w3 [rowI g4 N N zs] wr) (fun i _ => N - (intOf i).toNat)
    case atStart => obtain ⟨zs, hz⟩ := HSN.out; exact ⟨0, zs, rfl, Nat.zero_le _, hz⟩
    case round =>
      clear HSN
      obtain ⟨j, zs, rfl, hj, hst⟩ := hrel
      obtain ⟨hBn, hBm⟩ := HBn.out
      obtain ⟨c0, c1, c2, c3, c4⟩ := HC.out wr (HK3.out.trans hst.same (fun _ _ f => f))
      obtain ⟨d0, d1, d2, d3, d4⟩ := HC.out wr.drew (HK3.out.trans hst.drew.same (fun _ _ f => f))
      by_cases hgo : j < N ∧ 0 < mj
      · have t1 : (j : Int) < ((N : Nat) : Int) := by omega
        have t2 : (0 : Int) < (mj : Int) := by omega
        have t3 : (0 : Int) ≤ (j : Int) := by omega
        obtain ⟨gj, oj, rfl⟩ := HJ.out.addr hgo.2
        have hmd : j % mj < mj := Nat.mod_lt _ hgo.2
        have x1 : wr.drew.cell? ⟨gj, oj + j % mj, none⟩ = some (.int .i64 (js.getD (j % mj) 0)) := (HJ.out.kept (HT.out _ (HK3.out.trans hst.drew.same (fun _ _ f => f)))).cell hmd
        have f2 : wr.drew.frozen? ⟨g4, j, none⟩ = false := row_frozen hst.drew _
        obtain ⟨u2, c9⟩ : ∃ u, wr.drew.cell? ⟨g4, j, none⟩ = some u := ⟨_, row_cell hst.drew (j := j) hgo.1⟩
        have HT1 := hid (row_set hst.drew (j := j) hgo.1 (js.getD (j % mj) 0))
        have HT2 := hid (row_set hst (j := j) hgo.1 (js.getD (j % mj) 0)).drew
        have e1 : (j : Int) % (mj : Int) = ((j % mj : Nat) : Int) := by push_cast; rfl
        have e2 : (j : Int).tmod (mj : Int) = ((j % mj : Nat) : Int) := by rw [Int.tmod_eq_emod_of_nonneg (by omega)]; push_cast; rfl
        generalize js.getD (j % mj) 0 = jv at *
        generalize j % mj = r at *
        have z1 : (0 : Int) ≤ (r : Int) := by omega
        have z2 : (r : Int) < (mj : Int) := by omega
        have z3 : ((mj : Int) == 0) = false := by simp; omega
        have z4 : ¬ (mj : Int) = 0 := by omega
        have z5 : (j : Int) ≤ 1000 := by omega
        have HJJ := hid hgo
        clear hst hj hgo hmd
        go_upto_region 11 with fail
        go_region_with fail
        all_goals go_wp2
        all_goals go_roundw
        all_goals first
          | exact ⟨j + 1, _, by push_cast; rfl, by have := HJJ.out; omega, HT1.out⟩
          | exact ⟨j + 1, _, by push_cast; rfl, by have := HJJ.out; omega, HT2.out⟩
          | (have := HJJ.out; simp [intOf]; omega)
      · have hend : (decide ((j : Int) < ((N : Nat) : Int)) = false ∧ decide (j < N) = false) ∨ ((decide ((j : Int) < ((N : Nat) : Int)) = true ∧ decide (j < N) = true) ∧ mj = 0) := by
          by_cases h : j < N
          · exact .inr ⟨⟨decide_eq_true (by omega), decide_eq_true h⟩, by omega⟩
          · exact .inl ⟨decide_eq_false (by omega), decide_eq_false h⟩
        have hL := Lay_any va l2.length vc l2 n seed wr ((HX3.out.kept hst.same).1) (by omega) hn2 HL2.out HSd.out.1 HSd.out.2
        have HST := hid hst
        have hzl : N = zs.length := row_len hst
        have HZL := hid hzl
        clear hst hj hgo d0 d1 d2 d3 d4 hzl
        generalize hll : l2.length = ll at *
        have HLL := hid hll
        clear hll
        rcases hend with ⟨t1, t2⟩ | ⟨⟨t1, t2⟩, rfl⟩
        all_goals
          go_upto_region 13 with (go_at_call 19; refine hL.mono ?_; rintro e w6 ⟨g6, own, rfl, ho6, hr6, s6⟩; replace hr6 := hr6 HRI.out)
          have HS6 : Hid (St w3 [rowI g4 N N zs, rowI g6 (3 + 2 * n) (3 + 2 * n) own] w6) := hid ((HST.out.join s6).perm (List.Perm.swap _ _ _))
          have HO6 := hid ho6
          have HR6 := hid hr6
          clear s6 ho6 hr6 hL HST c0 c1 c2 c3 c4
          go_wp2
          go_loopw [13] (fun i wr => ∃ (q : Nat) (cs : List Int), i = .int .i64 q ∧ q ≤ 3 + 2 * n ∧ PartIn cs own b q ∧ St w3 [rowI g4 N N cs, rowI g6 (3 + 2 * n) (3 + 2 * n) own] wr) (fun i _ => 3 + 2 * n - (intOf i).toNat)
          case atStart => exact ⟨0, zs, rfl, Nat.zero_le _, fun i hi => by omega, HS6.out⟩
          case round =>
            clear HS6
            obtain ⟨q, cs, rfl, hq, hpi, hst⟩ := hrel
            obtain ⟨hBn, hBm⟩ := HBn.out
            have hcl : N = cs.length := row_len hst
            by_cases hlt : q < 3 + 2 * n
            · have y1 : (q : Int) < 3 + 2 * (n : Int) := by omega
              have y2 : (0 : Int) ≤ (q : Int) := by omega
              have y3 : (q : Int) < ((3 + 2 * n : Nat) : Int) := by omega
              have y4 : (0 : Int) ≤ (b : Int) + (q : Int) := by omega
              have y5 : (b : Int) + (q : Int) < ((N : Nat) : Int) := by omega
              have y6 : ((b : Int) + (q : Int)).toNat = b + q := by omega
              have x1 : wr.cell? ⟨g6, q, none⟩ = some (.int .i64 (own.getD q 0)) := by
                rw [hst.ownCell 1 rfl q (by omega)]
                exact xC_at own q (by have := HO6.out; omega)
              have f2 : wr.frozen? ⟨g4, b + q, none⟩ = false := row_frozen hst _
              obtain ⟨u2, c9⟩ : ∃ u, wr.cell? ⟨g4, b + q, none⟩ = some u := ⟨_, row_cell hst (j := b + q) (by omega)⟩
              have HT1 := hid (row_set hst (j := b + q) (by omega) (own.getD q 0))
              have HP1 := hid (hpi.step (by omega))
              generalize own.getD q 0 = ov at *
              have HQ := hid hlt
              clear hst hpi hq hlt hcl hBn hBm
              go_wp2
              go_roundw
              case rel => exact ⟨q + 1, _, by push_cast; rfl, by have := HQ.out; omega, HP1.out, HT1.out⟩
              case measure =>
                have := HQ.out
                simp [intOf]
                omega
            · have y1 : ¬ (q : Int) < 3 + 2 * (n : Int) := by omega
              obtain rfl : q = 3 + 2 * n := by omega
              have hall := hpi.all HO6.out (by omega)
              have hdq : StHas cs b n l2 := StHas.of (by omega) hn2 (by omega) (by omega) (by rw [hall]; exact HR6.out)
              have hxc : XIn wr (some ⟨g4, 0, none⟩) N cs := row_xin hst
              have HFin : Hid (∃ (b' n' : Nat) (cs' l2' : List Int) (ca va' : Option Addr) (cc vc' : Nat), Ending.returned (.tuple #[.slice (some ⟨g4, 0, none⟩) N N, .int .i64 b, .int .i64 n, .slice va ll vc]) = .returned (.tuple #[.slice ca cs'.length cc, .int .i64 b', .int .i64 n', .slice va' l2'.length vc']) ∧ XIn wr ca cs'.length cs' ∧ XV wr va' l2'.length vc' l2' ∧ StHas cs' b' n' l2' ∧ Kept (fun _ => False) w wr) := hid ⟨b, n, cs, l2, some ⟨g4, 0, none⟩, va, N, vc, by rw [← hcl, HLL.out], by rw [← hcl]; exact hxc, by rw [HLL.out]; exact HX3.out.kept hst.same, hdq, HT.out _ (HK3.out.trans hst.same (fun _ _ f => f))⟩
              clear hst hpi hq hlt hcl hBn hBm hall hdq hxc
              go_wp2
              refine bodyPost_ret (v := .tuple #[.slice (some ⟨g4, 0, none⟩) N N, .int .i64 b, .int .i64 n, .slice va ll vc]) (by simp [results, Tryz.results27, go_sem]) rfl ?_
              exact HFin.out
end Go.Proofs.YtdfefjalamohjaaGreatDoor
