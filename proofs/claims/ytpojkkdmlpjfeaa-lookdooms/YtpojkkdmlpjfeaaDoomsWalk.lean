/- LookDooms, step by step. -/
import Derived.Test.YtpojkkdmlpjfeaaDms
import Derived.BigQuiet
import Derived.Deep.Cut
import Derived.Deep.CutBlock
namespace Go.Proofs.Ytpojkkdmlpjfeaa
open Go.RowKit
set_option linter.unusedVariables false
set_option linter.unusedSimpArgs false
attribute [local go_sem ↓] Go.wp_at_zero Go.wp_at_succ
attribute [local go_sem ↓] exec_neSl run_neSl

def cut8 (t : Vt) : Vt := ⟨t.so % 8, t.ge, t.sp, t.th⟩
def cutL (zs : List Vt) : List Vt := zs.map cut8
theorem cutL_len (zs : List Vt) : (cutL zs).length = zs.length := by simp [cutL]
theorem cutL_in (zs : List Vt) {n : Nat} (h : n = 8) : allIn n (cutL zs) := by
  intro j hj
  have e : (cutL zs)[j].so = (zs[j]'(by simpa [cutL] using hj)).so % 8 := by simp [cutL, cut8]
  rw [e, h]
  unfold inT
  rw [decide_eq_true (by omega), decide_eq_true (by omega)]
  rfl
theorem take_cut (zs : List Vt) (j : Nat) (h : j < zs.length) : (cutL zs).take (j + 1) = (cutL zs).take j ++ [cut8 zs[j]] := by
  rw [List.take_succ_eq_append_getElem (by simpa [cutL] using h)]
  simp [cutL]

theorem vField_slots (p q : Option Addr) (n m k l : Nat) (a b : Int) (w : World) : (Instr.field 40 (.agg #[.slice p n k, .int .i64 a, .int .i64 b, .slice q m l]) 2).run Try.prog w = .ok (.slice q m l) w := by kernel_rfl
theorem boxed {wr w3 : World} {HH j : Nat} {v : Value} {L : List Value} (ho : wr.ownsRow HH 48 4 v j L) (hK : Kept (fun _ => False) w3 wr) (a b c d : Int) {W : World} (hW : wr.alloc (.cells #[.int .i64 a, .int .i64 b, .int .i64 c, .int .i64 d] 48) = W) :
    W.cell? ⟨wr.heap.size, 0, none⟩ = some (.int .i64 a) ∧ W.cell? ⟨wr.heap.size, 1, none⟩ = some (.int .i64 b) ∧ W.cell? ⟨wr.heap.size, 2, none⟩ = some (.int .i64 c) ∧ W.cell? ⟨wr.heap.size, 3, none⟩ = some (.int .i64 d) ∧ W.ownsRow HH 48 4 v j L ∧ Kept (fun _ => False) w3 W ∧ wr.heap.size ≤ W.heap.size := by
  subst hW
  have hb := heap_alloc_new wr (.cells #[.int .i64 a, .int .i64 b, .int .i64 c, .int .i64 d] 48)
  exact ⟨cell_of_heap hb, cell_of_heap hb, cell_of_heap hb, cell_of_heap hb, ho.alloc _, hK.alloc _, by simp⟩

set_option maxRecDepth 100000 in
set_option maxHeartbeats 8000000 in
theorem dooms_walk (w : World) {sa : Option Addr} {sl sc : Nat} {f : Nat → SeD} (hf : SesAt w sa sl f) (hs40 : sl * 40 ≤ 140737488351232) {la : Option Addr} {m lc : Nat} {zs : List Vt} (hL : VIn w la m zs) (hR : m ≤ lc ∧ lc * 32 ≤ 140737488351232 ∧ (la = none → m = 0 ∧ lc = 0)) (wy : Int) :
    Calls Try.prog 5 #[.slice sa sl sc, .slice la m lc, .int .i64 wy] w fun e w' => e = .returned (.bool true) ∧ Kept (fun _ => False) w w' := by
  obtain ⟨i0, hi0, hz0, hz1, hz2⟩ := info_parts Try.infoVt
  obtain ⟨q, hq7, hq8⟩ : ∃ q : Nat, bits .and .i64 wy 7 = (q : Int) ∧ q < 8 := ⟨(wy % 8).toNat, by rw [and7]; omega, by omega⟩
  have q0 : (0 : Int) ≤ (q : Int) := by omega
  have q8 : (q : Int) < 8 := by omega
  have hm32 : m * 32 ≤ 140737488351232 := by have := hR.1; have := hR.2.1; omega
  have HV : Hid (VIn w la m zs) := hL
  have HMZ : Hid (m = zs.length) := hL.1
  have hmb : (m : Int) ≤ 4398046510976 := by omega
  clear hL hR
  go_enter Try.func5, Try.ntmps5
  go_wp2_with fail
  refine (up_any _).mono ?_
  rintro e w1 ⟨rfl, k1⟩
  have hq := lkTable ((St.nil w).calm k1) 8 rfl
  clear k1
  go_wp2_with fail
  refine hq.mono ?_
  rintro e w2 ⟨A, rfl, s2⟩
  clear hq
  unfold spp
  have hq := seats_st (cap := sc) s2 0 rfl (SSt.ok_zero (tbC 8) rfl 0) (by omega) rfl hf
  unfold spp at hq
  clear s2
  go_wp2_with fail
  refine hq.mono ?_
  rintro e w3 ⟨rfl, v3, s3⟩
  clear hq
  have okz : (seatsZ (SSt.zero (tbC 8)) f (min sl 8)).ok (tbC 8) 45 := (seatsZ_ok (SSt.ok_zero (tbC 8) rfl 0) f (min sl 8)).more (by omega)
  have s3' : St w [spI A (tbC 8) (seatsZ (SSt.zero (tbC 8)) f (min sl 8)) v3 (.slice none 0 0)] w3 := s3
  clear s3
  generalize seatsZ (SSt.zero (tbC 8)) f (min sl 8) = z0 at *
  go_wp2_with fail
  generalize hHH : w3.heap.size = HH at *
  have HHH : Hid (w3.heap.size = HH) := hHH
  clear hHH
  go_loopw [10, 11] (fun x i wr => ∃ j : Nat, i = .int .i64 j ∧ j ≤ m ∧ wr.ownsRow HH 48 4 x j (vtCells ((cutL zs).take j)) ∧ Kept (fun _ => False) w3 wr) (fun _ i _ => m - (intOf i).toNat)
  case atStart => exact ⟨0, rfl, Nat.zero_le _, World.ownsRow_nil _ _ _ _, Kept.refl _ _⟩
  case round =>
    obtain ⟨j, rfl, hj, ho, hK⟩ := hrel
    have e0 : (0 : Int) ≤ (j : Int) := by omega
    by_cases hlt : j < m
    · as_aux_lemma =>
        have hzj : j < zs.length := by have := HMZ.out; omega
        have e1 : (j : Int) < (m : Int) := by omega
        obtain ⟨gb, off, rfl, _⟩ := HV.out.2 (by omega)
        obtain ⟨a0, a1, a2, a3⟩ := (HV.out.kept (s3'.same.trans hK (fun _ _ f => f))).cells hzj
        have HT : Hid ((cutL zs).take (j + 1) = (cutL zs).take j ++ [cut8 zs[j]]) := take_cut zs j hzj
        have hmw : Hid (HH ≤ wr.heap.size) := by have := hK.size; rw [HHH.out] at this; exact this
        generalize zs[j] = tt at *
        obtain ⟨xs, xg, xp, xt⟩ := tt
        simp only at a0 a1 a2 a3
        obtain ⟨xs8, hx8, hxr⟩ : ∃ n : Nat, bits .and .i64 xs 7 = (n : Int) ∧ (n : Int) = xs % 8 := ⟨(xs % 8).toNat, by rw [and7]; omega, by omega⟩
        have HX : Hid ((xs8 : Int) = xs % 8) := hxr
        clear hxr s3'
        go_upto_region 12 with (simp only [hx8])
        generalize hWW : wr.alloc (.cells #[.int .i64 (xs8 : Nat), .int .i64 xg, .int .i64 xp, .int .i64 xt] 48) = W at *
        obtain ⟨P0, P1, P2, P3, P4, P5, P7⟩ := boxed ho hK xs8 xg xp xt hWW
        clear ho hK hWW
        generalize wr.heap.size = M at *
        have hbs := buildVt W xs8 xg xp xt
        have hj44 : j ≤ 4398046511103 := by omega
        have hWs : Hid (HH ≤ W.heap.size) := by have := hmw.out; show _ ≤ _; omega
        clear a0 a1 a2 a3 hmw
        go_wp2_with (first | simp only [hbs] | (at_builtin; refine wpList_append_lies _ rfl (.tmp 49) (.tmp 51) 42 rfl HH 48 i0 _ 4 32 Try.underlying42 hi0 hz0 hz1 hz2 rfl (by omega) _ j (vtCells ((cutL zs).take j)) rfl (P4.alloc _) ⟨W.heap.size, 0, none⟩ 1 1 [.int .i64 (xs8 : Nat), .int .i64 xg, .int .i64 xp, .int .i64 xt] rfl rfl (World.news_of_block (cs := #[.int .i64 (xs8 : Nat), .int .i64 xg, .int .i64 xp, .int .i64 xt]) (t := 48) (fr := (0, 0)) (heap_alloc_new W _)) (by simp [Value.oneCell']) (by omega) (by unfold maxLen; omega) (by omega) (by simp; have := hWs.out; omega) (W.heap.size + 1) (by simp) ?_; intro g2 cap2 w5 hown5 hgrow hat hlt5))
        have HO5 : Hid (w5.ownsRow HH 48 4 (.slice (some ⟨g2, 0, none⟩) (j + 1) cap2) (j + 1) (vtCells ((cutL zs).take (j + 1)))) := by
          show World.ownsRow _ _ _ _ _ _ _
          rw [HT.out, vtCells_append]
          have : vtCells [cut8 ⟨xs, xg, xp, xt⟩] = [.int .i64 (xs8 : Nat), .int .i64 xg, .int .i64 xp, .int .i64 xt] := by simp [vtCells, Vt.cells, cut8, HX.out]
          rw [this]
          exact hown5
        have HK5 : Hid (Kept (fun _ => False) w3 w5) := (P5.alloc _).grown hgrow (fun k e => .inr (by rw [HHH.out]; exact (P4.lt k e).1))
        clear hown5 hgrow hat hlt5 P4 P5
        go_roundw
        case rel => exact ⟨j + 1, by go_num, hlt, HO5.out, HK5.out⟩
        case measure => simp [intOf]; omega
    · obtain rfl : j = m := by omega
      have e1 : ¬ (j : Int) < (j : Int) := by omega
      have hvl : (cutL zs).length = j := by rw [cutL_len]; exact HMZ.out.symm
      rw [show (cutL zs).take j = cutL zs from List.take_of_length_le (by omega)] at ho
      have hall := cutL_in zs (n := z0.hs.length) (by have := okz.hl; simp [tbC] at this; omega)
      generalize cutL zs = vs at *
      rw [← HHH.out] at ho
      have s4 := s3'.own hK ho
      clear ho hK s3'
      obtain ⟨la2, lc2, hv10, hV, hN⟩ := own_vin0 (ys := vs) (by rw [hvl]; exact (s4.get 0 rfl))
      rw [hvl] at hv10 hV hN
      subst hv10
      have hq := dmNew_st (lc := lc2) s4 1 rfl (1 + (q : Int)) (by omega) (by omega) hV hN (by omega) hall
      unfold spp at hq
      clear s4 hV
      go_wp2_with (simp only [hq7])
      refine hq.mono ?_
      rintro e w5 ⟨D, vl, rfl, s5⟩
      clear hq hN
      have hq := spView s5 2 rfl okz.wl okz.h1 okz.h8
      unfold spp at hq
      clear s5
      go_wp2_with fail
      refine hq.mono ?_
      rintro e w6 ⟨va, vs0, rfl, s6⟩
      clear hq
      obtain ⟨g2, cap2, rfl⟩ := s6.form 1 rfl (by have := okz.h1; omega)
      obtain ⟨ga, capa, rfl⟩ := s6.form 0 rfl (by have := okz.c1; omega)
      have HSZ : Hid (∀ i, (dzS z0 ⟨1 + (q : Int), vs, []⟩ i).1.ok (tbC 8) (45 + i)) := fun i => dzS_ok okz i
      have HLF : Hid (∀ i, (dzS z0 ⟨1 + (q : Int), vs, []⟩ i).2.left = vs.drop i ∧ (dzS z0 ⟨1 + (q : Int), vs, []⟩ i).2.wy = 1 + (q : Int) ∧ (dzS z0 ⟨1 + (q : Int), vs, []⟩ i).2.dn.length ≤ i) := fun i => by
        have := dzS_left (z := z0) (d := ⟨1 + (q : Int), vs, []⟩) i
        simpa using this
      have hth : isTh (1 + (q : Int)) = true := by unfold isTh; rw [decide_eq_true (by omega), decide_eq_true (by omega)]; rfl
      have HLG : Hid (∀ i, i ≤ vs.length → i ≤ (dzS z0 ⟨1 + (q : Int), vs, []⟩ i).1.s.l.length) := fun i hi => dzS_log (d := ⟨1 + (q : Int), vs, []⟩) hth okz hall i hi
      have HWS : Hid (∀ i, (dzS z0 ⟨1 + (q : Int), vs, []⟩ i).1.ws = z0.ws) := fun i => dzS_ws i
      have HST : Hid (∀ i, (dzS z0 ⟨1 + (q : Int), vs, []⟩ (i + 1)).1 = (dzS z0 ⟨1 + (q : Int), vs, []⟩ i).1.dooms (dzS z0 ⟨1 + (q : Int), vs, []⟩ i).2 ∧ (dzS z0 ⟨1 + (q : Int), vs, []⟩ (i + 1)).2 = (dzS z0 ⟨1 + (q : Int), vs, []⟩ i).2.next (dzS z0 ⟨1 + (q : Int), vs, []⟩ i).1.hs) := fun i => ⟨rfl, rfl⟩
      have H0 : Hid (dzS z0 ⟨1 + (q : Int), vs, []⟩ 0 = (z0, ⟨1 + (q : Int), vs, []⟩)) := rfl
      have H8 : Hid (∀ i, (dzS z0 ⟨1 + (q : Int), vs, []⟩ i).1.hs.length = 8) := fun i => by have := (HSZ.out i).hl; simp [tbC] at this; exact_mod_cast this
      have h80 : Hid (z0.hs.length = 8) := by have := okz.hl; simp [tbC] at this; show _ = _; exact_mod_cast this
      have hxl : Hid (z0.xs.length = 1) := by have := okz.cl; simp [tbC] at this; show _ = _; exact_mod_cast this
      have HAL : Hid (allIn 8 vs) := by rw [← h80.out]; exact hall
      have HVL : Hid (vs.length = j) := hvl
      have HZW : Hid (z0.ws.length = 16) := by show _ = _; rw [okz.wl, h80.out]
      rw [h80.out] at s6
      have s6' : ∃ XX, Hid (XX = ownI 2 1 (.slice (some ⟨ga, 0, none⟩) z0.xs.length capa) z0.xs.length (clCells z0.xs)) ∧ St w [XX, ownI 46 8 (.slice (some ⟨g2, 0, none⟩) 8 cap2) 8 (slCells (slots (dzS z0 ⟨1 + (q : Int), vs, []⟩ 0).1.hs z0.ws)), dmI D A.t (dzS z0 ⟨1 + (q : Int), vs, []⟩ 0).2 vl (.slice none 0 0), ownI 48 4 (.slice la2 j lc2) j (vtCells vs), spI A (tbC 8) (dzS z0 ⟨1 + (q : Int), vs, []⟩ 0).1 v3 (.slice none 0 0)] w6 := ⟨_, rfl, s6⟩
      obtain ⟨XX, HXX, s6''⟩ := s6'
      rw [h80.out]
      clear s6 hvl hall
      generalize z0.xs.length = nx at *
      clear HXX
      generalize hdd : dzS z0 ⟨1 + (q : Int), vs, []⟩ = S at *
      clear hdd okz
      go_wp2_with (simp only [vField_slots])
      go_loopw [16, 17] (fun x i wr => ∃ (jj : Nat) (v vl vv : Value), x = .int .i64 ((S jj).2.dn.length : Nat) ∧ i = .int .i64 jj ∧ jj ≤ j ∧ St w [XX, ownI 46 8 (.slice (some ⟨g2, 0, none⟩) 8 cap2) 8 (slCells (slots (S jj).1.hs z0.ws)), dmI D A.t (S jj).2 vl vv, ownI 48 4 (.slice la2 j lc2) j (vtCells vs), spI A (tbC 8) (S jj).1 v (.slice none 0 0)] wr) (fun _ i _ => j - (intOf i).toNat)
      case atStart => exact ⟨0, v3, vl, _, by rw [H0.out]; rfl, rfl, Nat.zero_le _, s6''⟩
      case round =>
        clear s6''
        obtain ⟨jj, v, vl, vv, rfl, rfl, hjj, hS⟩ := hrel
        have ee0 : (0 : Int) ≤ (jj : Int) := by omega
        obtain ⟨hlf, hwf, hdl⟩ := HLF.out jj
        have hok := HSZ.out jj
        have hd := dmDone hS 2 rfl
        have hdnb : ((S jj).2.dn.length : Int) ≤ 4398046510976 := by omega
        have hdn0 : (0 : Int) ≤ ((S jj).2.dn.length : Int) := by omega
        by_cases hlt2 : jj < j
        · have hvj : jj < vs.length := by rw [HVL.out]; exact hlt2
          have ee1 : (jj : Int) < (j : Int) := by omega
          have hcons : (S jj).2.left = vs[jj] :: vs.drop (jj + 1) := by rw [hlf]; exact List.drop_eq_getElem_cons hvj
          have hne : (S jj).2.left ≠ [] := by rw [hcons]; exact List.cons_ne_nil _ _
          rw [decide_eq_false hne] at hd
          have hin := HAL.out jj hvj
          simp only [inT, Bool.and_eq_true, decide_eq_true_eq] at hin
          obtain ⟨k, hk⟩ := Int.eq_ofNat_of_zero_le hin.1
          have hk8 : k < 8 := by omega
          obtain ⟨t1, t2, t3⟩ := doom_step (z := (S jj).1) (d := (S jj).2) hcons (by rw [hwf]; unfold isTh; rw [decide_eq_true (by omega), decide_eq_true (by omega)]; rfl) (k := k) (by rw [H8.out]; exact hk8) hk
          have hans : (S jj).2.ans = 1 := by unfold Dm.ans; rw [if_neg hne]
          have hq := dmStep hS 4 2 (by omega) rfl rfl hok (by omega) (by omega)
          rw [hans] at hq
          obtain ⟨n1, n2⟩ := HST.out jj
          rw [t2] at hq
          rw [t2] at n2
          rw [hwf] at hq n2 t1
          have hla : ∃ g1, la2 = some ⟨g1, 0, none⟩ := by
            obtain ⟨g1, cap1, e1⟩ := hS.form 3 rfl (by omega)
            simp only [Value.slice.injEq] at e1
            exact ⟨g1, e1.1⟩
          obtain ⟨g1, rfl⟩ := hla
          obtain ⟨y0, y1, _, _⟩ := vtCells_at vs jj hvj
          have HH8 := H8.out jj
          have HW8 := HZW.out
          clear hS
          have hk' : (vs[jj]'hvj).so = (k : Int) := hk
          generalize (vs[jj]'hvj) = xx at *
          obtain ⟨xs, xg, xp, xt⟩ := xx
          simp only at hk' y0 y1 t1 hq n2
          subst hk'
          clear hk hin hlf hcons hne t2 t3 hans hwf
          generalize (S jj).1.hs = hs0 at *
          generalize hz9 : (S jj).1.dooms (S jj).2 = z9 at *
          generalize hHd : hs0.getD k Hd.zero = HD at *
          go_wp2_with (go_at_call 16; refine hd.mono ?_; rintro e wq ⟨rfl, rfl⟩)
          refine hq.mono ?_
          rintro e w7 ⟨rfl, v7, vl7, vv7, s7⟩
          clear hq hd
          have s7' : St w [XX, ownI 46 8 (.slice (some ⟨g2, 0, none⟩) hs0.length cap2) hs0.length (slCells (slots hs0 z0.ws)), dmI D A.t ⟨1 + (q : Int), vs.drop (jj + 1), if HD.isV ⟨(k : Nat), xg, xp, xt⟩ then (S jj).2.dn ++ [⟨(k : Nat), xg, xp, xt⟩] else (S jj).2.dn⟩ vl7 vv7, ownI 48 4 (.slice (some ⟨g1, 0, none⟩) j lc2) j (vtCells vs), spI A (tbC 8) z9 v7 (.slice none 0 0)] w7 := by rw [HH8]; exact s7
          clear s7
          have u0 : w7.cell? ⟨g1, jj * 4, none⟩ = some (.int .i64 (k : Nat)) := (s7'.ownCell 3 rfl _ (by omega)).trans y0
          have u1 : w7.cell? ⟨g1, jj * 4 + 1, none⟩ = some (.int .i64 xg) := (s7'.ownCell 3 rfl _ (by omega)).trans y1
          obtain ⟨b0, b1, b2, b3, b4, b5, _, _⟩ := slot_cells s7' 1 rfl (by rw [HW8, HH8]) (k := k) (by omega)
          rw [hHd] at b0 b1 b2 b3 b4 b5
          have s8 := s7'.box #[.int .i64 HD.gn, .int .i64 HD.sa, .int .i64 HD.sp, .int .i64 HD.th, .bool HD.dm, .int .i64 HD.wy] 44
          have kk1 : (k : Int) < 8 := by omega
          have kk0 : (0 : Int) ≤ (k : Int) := by omega
          clear s7'
          obtain ⟨hg, hsa, hp, ht, hdm, hb⟩ := HD
          simp only at b0 b1 b2 b3 b4 b5 s8
          go_upto_region 24 with fail
          generalize w7.alloc (.cells #[.int .i64 hg, .int .i64 hsa, .int .i64 hp, .int .i64 ht, .bool hdm, .int .i64 hb] 44) = w8 at *
          generalize w7.heap.size = M at *
          clear u0 u1 b0 b1 b2 b3 b4 b5
          have u0 : w8.cell? ⟨g1, jj * 4, none⟩ = some (.int .i64 (k : Nat)) := (s8.ownCell 4 rfl _ (by omega)).trans y0
          have u1 : w8.cell? ⟨g1, jj * 4 + 1, none⟩ = some (.int .i64 xg) := (s8.ownCell 4 rfl _ (by omega)).trans y1
          have m0 : w8.cell? ⟨M, 0, none⟩ = some (.int .i64 hg) := s8.cell 0 rfl 0
          have m1 : w8.cell? ⟨M, 1, none⟩ = some (.int .i64 hsa) := s8.cell 0 rfl 1
          have m4 : w8.cell? ⟨M, 4, none⟩ = some (.bool hdm) := s8.cell 0 rfl 4
          unfold Hd.isV at *
          simp only at *
          have HR1 : Hid ((S (jj + 1)).1 = z9) := n1
          have HR2 : Hid ((S (jj + 1)).2 = ⟨1 + (q : Int), vs.drop (jj + 1), if (hsa == 2) && (hg == xg) then (S jj).2.dn ++ [⟨(k : Nat), xg, xp, xt⟩] else (S jj).2.dn⟩) := n2
          have HR3 : Hid (z9.hs = if (hsa == 2) && (hg == xg) then (if hdm then hs0 else hs0.set k (Hd.doomed ⟨hg, hsa, hp, ht, hdm, hb⟩ (1 + (q : Int)))) else hs0) := t1
          have HHS : Hid (hs0.length = 8) := HH8
          have HHD : Hid (hs0.getD k Hd.zero = ⟨hg, hsa, hp, ht, hdm, hb⟩) := hHd
          clear n1 n2 t1 HH8 HW8 hHd hz9
          generalize hdnn : (S jj).2.dn.length = dn at *
          have HDN : Hid ((S jj).2.dn.length = dn) := hdnn
          clear hdnn
          cases h2 : hsa == 2 with
          | false =>
            as_aux_lemma =>
              rw [h2] at HR2 HR3 s8
              simp only [Bool.false_and, Bool.false_eq_true, if_false] at HR2 HR3 s8
              have HE : Hid _ := s8.pop
              clear s8
              go_upto_region 24 with fail
              go_quiet (fail)
              go_wp2
              go_roundw
              case rel =>
                refine ⟨jj + 1, v7, vl7, vv7, by rw [HR2.out, HDN.out], by go_num, by omega, ?_⟩
                rw [HR1.out, HR2.out, HR3.out]
                rw [HHS.out] at HE
                exact HE.out.calm ((Kept.refl _ _).drewN _)
              case measure => simp [intOf]; omega
          | true =>
            cases h3 : hg == xg with
            | false =>
              as_aux_lemma =>
                rw [h2, h3] at HR2 HR3 s8
                simp only [Bool.and_false, Bool.false_eq_true, if_false] at HR2 HR3 s8
                have HE : Hid _ := s8.pop
                clear s8
                go_upto_region 24 with fail
                go_quiet (fail)
                go_wp2
                go_roundw
                case rel =>
                  refine ⟨jj + 1, v7, vl7, vv7, by rw [HR2.out, HDN.out], by go_num, by omega, ?_⟩
                  rw [HR1.out, HR2.out, HR3.out]
                  rw [HHS.out] at HE
                  exact HE.out.calm ((Kept.refl _ _).drewN _)
                case measure => simp [intOf]; omega
            | true =>
              rw [h2, h3] at HR2 HR3 s8
              simp only [Bool.and_true, if_true] at HR2 HR3 s8
              cases hdm with
              | true =>
                as_aux_lemma =>
                  simp only [if_true] at HR3
                  have HE : Hid _ := s8.pop
                  clear s8
                  go_upto_region 24 with fail
                  go_quiet (fail)
                  go_wp2
                  go_roundw
                  case rel =>
                    refine ⟨jj + 1, v7, vl7, vv7, by rw [HR2.out]; simp [HDN.out], by go_num, by omega, ?_⟩
                    rw [HR1.out, HR2.out, HR3.out]
                    rw [HHS.out] at HE
                    exact HE.out.calm ((Kept.refl _ _).drewN _)
                  case measure => simp [intOf]; omega
              | false =>
                simp only [Bool.false_eq_true, if_false] at HR3
                have HS8 : Hid (∀ n, St w [boxI M #[.int .i64 hg, .int .i64 hsa, .int .i64 hp, .int .i64 ht, .bool false, .int .i64 hb] 44, XX, ownI 46 8 (.slice (some ⟨g2, 0, none⟩) hs0.length cap2) hs0.length (slCells (slots hs0 z0.ws)), dmI D A.t ⟨1 + (q : Int), vs.drop (jj + 1), (S jj).2.dn ++ [⟨(k : Nat), xg, xp, xt⟩]⟩ vl7 vv7, ownI 48 4 (.slice (some ⟨g1, 0, none⟩) j lc2) j (vtCells vs), spI A (tbC 8) z9 v7 (.slice none 0 0)] (w8.drewN n)) := fun n => s8.calm ((Kept.refl _ _).drewN n)
                clear s8
                go_upto_region 24 with fail
                go_quiet (fail)
                have s9 := HS8.out nq
                clear HS8
                generalize w8.drewN nq = w9 at *
                have d4 : w9.cell? ⟨M, 4, none⟩ = some (.bool false) := s9.cell 0 rfl 4
                have d5 : w9.cell? ⟨M, 5, none⟩ = some (.int .i64 hb) := s9.cell 0 rfl 5
                have f4 := s9.frozen 0 rfl 4
                have f5 := s9.frozen 0 rfl 5
                have s10 := (s9.write 0 rfl 4 (.bool true)).write 0 rfl 5 (.int .i64 (1 + (q : Int)))
                clear s9 u0 u1 m0 m1 m4
                go_upto_region 29 with (simp only [hq7])
                generalize (w9.setCell ⟨M, 4, none⟩ (.bool true)).setCell ⟨M, 5, none⟩ (.int .i64 (1 + (q : Int))) = w10 at *
                clear d4 d5 f4 f5
                have s11 : St w [boxI M #[.int .i64 hg, .int .i64 hsa, .int .i64 hp, .int .i64 ht, .bool true, .int .i64 (1 + (q : Int))] 44, XX, ownI 46 8 (.slice (some ⟨g2, 0, none⟩) hs0.length cap2) hs0.length (slCells (slots hs0 z0.ws)), dmI D A.t ⟨1 + (q : Int), vs.drop (jj + 1), (S jj).2.dn ++ [⟨(k : Nat), xg, xp, xt⟩]⟩ vl7 vv7, ownI 48 4 (.slice (some ⟨g1, 0, none⟩) j lc2) j (vtCells vs), spI A (tbC 8) z9 v7 (.slice none 0 0)] w10 := s10
                clear s10
                have u0 : w10.cell? ⟨g1, jj * 4, none⟩ = some (.int .i64 (k : Nat)) := (s11.ownCell 4 rfl _ (by omega)).trans y0
                have m0 : w10.cell? ⟨M, 0, none⟩ = some (.int .i64 hg) := s11.cell 0 rfl 0
                have m1 : w10.cell? ⟨M, 1, none⟩ = some (.int .i64 hsa) := s11.cell 0 rfl 1
                have m2 : w10.cell? ⟨M, 2, none⟩ = some (.int .i64 hp) := s11.cell 0 rfl 2
                have m3 : w10.cell? ⟨M, 3, none⟩ = some (.int .i64 ht) := s11.cell 0 rfl 3
                have m4 : w10.cell? ⟨M, 4, none⟩ = some (.bool true) := s11.cell 0 rfl 4
                have m5 : w10.cell? ⟨M, 5, none⟩ = some (.int .i64 (1 + (q : Int))) := s11.cell 0 rfl 5
                obtain ⟨b0, b1, b2, b3, b4, b5, _, _⟩ := slot_cells s11 2 rfl (by rw [HZW.out, HHS.out]) (k := k) (by rw [HHS.out]; omega)
                rw [HHD.out] at b0 b1 b2 b3 b4 b5
                simp only at b0 b1 b2 b3 b4 b5
                have q0' := s11.ownFrozen 2 rfl (k * 8)
                have q1' := s11.ownFrozen 2 rfl (k * 8 + 1)
                have q2' := s11.ownFrozen 2 rfl (k * 8 + 2)
                have q3' := s11.ownFrozen 2 rfl (k * 8 + 3)
                have q4' := s11.ownFrozen 2 rfl (k * 8 + 4)
                have q5' := s11.ownFrozen 2 rfl (k * 8 + 5)
                have HE : Hid (St w [XX, ownI 46 8 (.slice (some ⟨g2, 0, none⟩) 8 cap2) 8 (slCells (slots (hs0.set k (Hd.doomed ⟨hg, hsa, hp, ht, false, hb⟩ (1 + (q : Int)))) z0.ws)), dmI D A.t ⟨1 + (q : Int), vs.drop (jj + 1), (S jj).2.dn ++ [⟨(k : Nat), xg, xp, xt⟩]⟩ vl7 vv7, ownI 48 4 (.slice (some ⟨g1, 0, none⟩) j lc2) j (vtCells vs), spI A (tbC 8) z9 v7 (.slice none 0 0)] ((((((w10.setCell ⟨g2, k * 8, none⟩ (.int .i64 hg)).setCell ⟨g2, k * 8 + 1, none⟩ (.int .i64 hsa)).setCell ⟨g2, k * 8 + 2, none⟩ (.int .i64 hp)).setCell ⟨g2, k * 8 + 3, none⟩ (.int .i64 ht)).setCell ⟨g2, k * 8 + 4, none⟩ (.bool true)).setCell ⟨g2, k * 8 + 5, none⟩ (.int .i64 (1 + (q : Int)))).drew) := by
                  have := (St.slotHead s11 2 rfl (by rw [HZW.out, HHS.out]) (k := k) (by rw [HHS.out]; omega) (Hd.doomed ⟨hg, hsa, hp, ht, false, hb⟩ (1 + (q : Int)))).drew.pop
                  rw [HHS.out] at this
                  exact this
                clear s11
                go_region_with (fail)
                all_goals generalize ((((((w10.setCell ⟨g2, k * 8, none⟩ (.int .i64 hg)).setCell ⟨g2, k * 8 + 1, none⟩ (.int .i64 hsa)).setCell ⟨g2, k * 8 + 2, none⟩ (.int .i64 hp)).setCell ⟨g2, k * 8 + 3, none⟩ (.int .i64 ht)).setCell ⟨g2, k * 8 + 4, none⟩ (.bool true)).setCell ⟨g2, k * 8 + 5, none⟩ (.int .i64 (1 + (q : Int)))).drew = w11 at *
                all_goals
                  go_wp2
                  go_roundw
                  case rel =>
                    refine ⟨jj + 1, v7, vl7, vv7, by rw [HR2.out]; simp [HDN.out], by go_num, by omega, ?_⟩
                    rw [HR1.out, HR2.out, HR3.out]
                    exact HE.out
                  case measure => simp [intOf]; omega
        · obtain rfl : jj = j := by omega
          have ee1 : ¬ (jj : Int) < (jj : Int) := by omega
          have hlg := HLG.out jj (by rw [HVL.out]; omega)
          have hnil : (S jj).2.left = [] := by rw [hlf]; exact List.drop_eq_nil_of_le (by rw [HVL.out]; omega)
          have hd2 : decide ((S jj).2.left = []) = true := decide_eq_true hnil
          have h8' := H8.out jj
          have hws := HWS.out jj
          have hq := spView hS 4 rfl hok.wl hok.h1 hok.h8
          unfold spp at hq
          rw [hws, h8'] at hq
          clear hS hd
          go_wp2_with fail
          refine hq.mono ?_
          rintro e w6 ⟨va2, vs2, rfl, s6⟩
          clear hq
          obtain ⟨g3, cap3, rfl⟩ := s6.form 1 rfl (by omega)
          obtain ⟨gb, capb, rfl⟩ := s6.form 0 rfl (by have := hok.c1; omega)
          have s6c : St w _ w6 := s6
          have HC : Hid (∀ p, p < 8 → ∃ (a b c d : Int) (e : Bool) (f x y : Int), (w6.cell? ⟨g3, p * 8, none⟩ = some (.int .i64 a) ∧ w6.cell? ⟨g3, p * 8 + 1, none⟩ = some (.int .i64 b) ∧ w6.cell? ⟨g3, p * 8 + 2, none⟩ = some (.int .i64 c) ∧ w6.cell? ⟨g3, p * 8 + 3, none⟩ = some (.int .i64 d) ∧ w6.cell? ⟨g3, p * 8 + 4, none⟩ = some (.bool e) ∧ w6.cell? ⟨g3, p * 8 + 5, none⟩ = some (.int .i64 f) ∧ w6.cell? ⟨g3, p * 8 + 6, none⟩ = some (.int .u64 x) ∧ w6.cell? ⟨g3, p * 8 + 7, none⟩ = some (.int .u64 y)) ∧ (w6.cell? ⟨g2, p * 8, none⟩ = some (.int .i64 a) ∧ w6.cell? ⟨g2, p * 8 + 1, none⟩ = some (.int .i64 b) ∧ w6.cell? ⟨g2, p * 8 + 2, none⟩ = some (.int .i64 c) ∧ w6.cell? ⟨g2, p * 8 + 3, none⟩ = some (.int .i64 d) ∧ w6.cell? ⟨g2, p * 8 + 4, none⟩ = some (.bool e) ∧ w6.cell? ⟨g2, p * 8 + 5, none⟩ = some (.int .i64 f) ∧ w6.cell? ⟨g2, p * 8 + 6, none⟩ = some (.int .u64 x) ∧ w6.cell? ⟨g2, p * 8 + 7, none⟩ = some (.int .u64 y))) := by
            intro p hp
            have s6r : St w [ownI 2 1 (.slice (some ⟨gb, 0, none⟩) (S jj).1.xs.length capb) (S jj).1.xs.length (clCells (S jj).1.xs), ownI 46 8 (.slice (some ⟨g3, 0, none⟩) (S jj).1.hs.length cap3) (S jj).1.hs.length (slCells (slots (S jj).1.hs z0.ws)), XX, ownI 46 8 (.slice (some ⟨g2, 0, none⟩) (S jj).1.hs.length cap2) (S jj).1.hs.length (slCells (slots (S jj).1.hs z0.ws)), dmI D A.t (S jj).2 vl vv, ownI 48 4 (.slice la2 jj lc2) jj (vtCells vs), spI A (tbC 8) (S jj).1 v (.slice none 0 0)] w6 := by rw [h8']; exact s6
            exact ⟨_, _, _, _, _, _, _, _, slot_cells s6r 1 rfl (by rw [HZW.out, h8']) (k := p) (by omega), slot_cells s6r 3 rfl (by rw [HZW.out, h8']) (k := p) (by omega)⟩
          have HS6 : Hid (∀ n, St w _ (w6.drewN n)) := fun n => s6c.calm ((Kept.refl _ _).drewN n)
          clear s6 s6c
          generalize (S jj).1.xs.length = nx2 at *
          go_wp2_with (simp only [vField_slots])
          go_loopw [20] (fun i wr => ∃ (p nn : Nat), i = .int .i64 p ∧ p ≤ 8 ∧ wr = w6.drewN nn) (fun i _ => 8 - (intOf i).toNat)
          case atStart => exact ⟨0, 0, rfl, Nat.zero_le _, rfl⟩
          case round =>
            obtain ⟨p, nn, rfl, hp, rfl⟩ := hrel
            have pp0 : (0 : Int) ≤ (p : Int) := by omega
            by_cases hp8 : p < 8
            · as_aux_lemma =>
                have pp1 : (p : Int) < 8 := by omega
                obtain ⟨a, b, c, d, e, f, x, y, ⟨a0, a1, a2, a3, a4, a5, a6, a7⟩, b0, b1, b2, b3, b4, b5, b6, b7⟩ := HC.out p hp8
                clear HC HS6
                go_wp2_with fail
                go_quiet (fail)
                go_wp2
                go_roundw
                case rel => exact ⟨p + 1, _, by go_num, by omega, rfl⟩
                case measure => simp [intOf]; omega
            · obtain rfl : p = 8 := by omega
              have s7 := HS6.out nn
              clear HS6 HC
              generalize w6.drewN nn = w7 at *
              have hd := dmDone s7 4 rfl
              rw [hd2] at hd
              have hq := dmDoomed s7 4 rfl (by omega)
              clear s7
              go_wp2_with (go_at_call 16; refine hd.mono ?_; rintro e wq ⟨rfl, rfl⟩)
              refine hq.mono ?_
              rintro e w8 ⟨v8, rfl, s8⟩
              clear hq hd
              obtain ⟨l8, c8, rfl⟩ := own_form (show w8.ownsRow 0 48 4 v8 (S jj).2.dn.length (vtCells (S jj).2.dn) from s8.get 0 rfl)
              have x0 : w8.cell? ⟨A.sp, 0, none⟩ = some (.pointer (some ⟨A.m, 0, none⟩)) := spCell s8 7 rfl 0
              have hq := spLog s8 7 rfl hok (by omega)
              clear s8
              go_wp2_with fail
              refine hq.mono ?_
              rintro e w9 ⟨v9, rfl, s9⟩
              clear hq
              obtain ⟨l9, c9, rfl⟩ := own_form (show w9.ownsRow 0 114 6 v9 (S jj).1.s.l.length (logCells (S jj).1.s.l) from s9.get 0 rfl)
              have HK : Hid (Kept (fun _ => False) w w9) := s9.same
              have hge : (jj : Int) ≤ ((S jj).1.s.l.length : Int) := by omega
              clear s9
              go_wp2
              go_ret
              exact ⟨by simp [hge], HK.out⟩
end Go.Proofs.Ytpojkkdmlpjfeaa
