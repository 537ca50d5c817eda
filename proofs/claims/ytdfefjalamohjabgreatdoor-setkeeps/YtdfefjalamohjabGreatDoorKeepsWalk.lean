/- SetKeeps, walked. -/
import Derived.Test.YtdfefjalamohjabGreatDoorSeU
import Derived.Test.YtdfefjalamohjabGreatDoorKpM
import Derived.Test.YtdfefjalamohjabGreatDoorAr
namespace Go.Proofs.YtdfefjalamohjabGreatDoor
open Go.RowKit
set_option linter.unusedVariables false
set_option linter.unusedSimpArgs false
attribute [local go_sem ↓] Go.wp_at_zero Go.wp_at_succ

theorem keep_cell {w w' : World} {g j : Nat} {v : Value} (k : Kept (fun _ => False) w w') (c : w.cell? ⟨g, j, none⟩ = some v) : w'.cell? ⟨g, j, none⟩ = some v := by
  rw [World.cell?_of_block (k.block g (World.block_lt_of_cell? w _ c) (fun f => f))]
  exact c
/-- A deed that tells one number. -/
theorem do_one {W : World} {va : Option Addr} {m vc : Nat} {n : Int} {R r : List Int} {d : Dd} {t : Int} (h : XIn W va m R) (hm : m ≤ 9223372036854775807) (hok : okS R n d = true) (he : doS R n d = (r, [t])) :
    Calls Tryz.prog 19 #[.slice va m vc, .int .i64 n, d.val] W fun e w' => ∃ va' vc' ga tc, e = .returned (.tuple #[.slice va' r.length vc', .slice (some ⟨ga, 0, none⟩) 1 tc, .int .i64 0]) ∧ Hid (XIn w' va' r.length r ∧ w'.cell? ⟨ga, 0, none⟩ = some (.int .i64 t) ∧ Kept (fun _ => False) W w') := by
  refine (Do_any (n := n) (d := d) h hm).mono fun e w' hh => ?_
  unfold DoE at hh
  rw [if_pos hok, he] at hh
  obtain ⟨v, tv, rfl, s⟩ := hh
  have s' : St W [ownI 2 1 tv 1 (xC [t]), ownI 2 1 v r.length (xC r)] w' := s
  obtain ⟨ga, tc, rfl⟩ := s'.form 0 rfl (by decide)
  obtain ⟨va', vc', rfl, hx, -, -⟩ := own_xin (show w'.ownsRow 0 2 1 v r.length (xC r) from s'.get 1 rfl)
  exact ⟨va', vc', ga, tc, rfl, hx, s'.ownCell 0 rfl 0 (by decide), s'.same⟩
theorem do_none {W : World} {va : Option Addr} {m vc : Nat} {n : Int} {R : List Int} {d : Dd} (h : XIn W va m R) (hm : m ≤ 9223372036854775807) (hok : okS R n d = false) :
    Calls Tryz.prog 19 #[.slice va m vc, .int .i64 n, d.val] W fun e w' => e = .returned (.tuple #[.slice none 0 0, .slice none 0 0, .int .i64 180]) ∧ Kept (fun _ => False) W w' := by
  refine (Do_any (n := n) (d := d) h hm).mono fun e w' hh => ?_
  unfold DoE at hh
  rw [if_neg (by rw [hok]; decide)] at hh
  exact hh
set_option maxRecDepth 100000 in
set_option maxHeartbeats 16000000 in
theorem keeps_t (la : Option Addr) (m lc : Nat) (l : List Int) (n x y : Int) (w : World) (hE : Env w) (hC : CameX w la m lc l) :
    Calls Tryz.prog 4 #[.slice la m lc, .int .i64 n, .int .i64 x, .int .i64 y, .bool true] w fun e w' => e = .returned (.bool true) ∧ Kept (fun _ => False) w w' := by
  obtain ⟨hX, hlc, hbig, hnil⟩ := hC
  have hA := awake_any w hE
  have HX := hid hX
  have HM : Hid (m ≤ 9223372036854775807) := hid (by omega)
  have HML := hid hX.1
  have HMb : Hid (m * 8 ≤ 140737488351232) := hid (by omega)
  clear hE hX hnil hlc hbig
  go_enter Tryz.func4, Tryz.ntmps4
  go_upto_region 2 with (go_at_call 5; refine hA.mono ?_; rintro e w1 ⟨rfl, k1⟩; clear hA)
  have s2 := ((St.nil w).calm k1).box #[.int .i64 0, .int .i64 0, .int .i64 0, .int .i64 0, .int .i64 0] 33
  have s3 : St w [boxI w1.heap.size #[.int .i64 2, .int .i64 0, .int .i64 0, .int .i64 x, .int .i64 0] 33] _ := ((((s2.write 0 rfl 0 (.int .i64 2)).write 0 rfl 1 (.int .i64 0)).write 0 rfl 2 (.int .i64 0)).write 0 rfl 3 (.int .i64 x)).write 0 rfl 4 (.int .i64 0)
  generalize hw2 : w1.alloc (.cells #[.int .i64 0, .int .i64 0, .int .i64 0, .int .i64 0, .int .i64 0] 33) = w2 at *
  generalize hD : w1.heap.size = D at *
  have f0 := s2.frozen 0 rfl 0
  have f1 := s2.frozen 0 rfl 1
  have f2 := s2.frozen 0 rfl 2
  have f3 := s2.frozen 0 rfl 3
  have f4 := s2.frozen 0 rfl 4
  have c0 : w2.cell? ⟨D, 0, none⟩ = some (.int .i64 0) := s2.cell 0 rfl 0
  have c1 : w2.cell? ⟨D, 1, none⟩ = some (.int .i64 0) := s2.cell 0 rfl 1
  have c2 : w2.cell? ⟨D, 2, none⟩ = some (.int .i64 0) := s2.cell 0 rfl 2
  have c3 : w2.cell? ⟨D, 3, none⟩ = some (.int .i64 0) := s2.cell 0 rfl 3
  have c4 : w2.cell? ⟨D, 4, none⟩ = some (.int .i64 0) := s2.cell 0 rfl 4
  have HS3 := hid s3
  clear s2 s3 k1
  go_upto_region 3 with (simp only [hw2, hD])
  clear hw2 hD f0 f1 f2 f3 f4 c0 c1 c2 c3 c4
  have s3 := HS3.out
  clear HS3
  generalize ((((w2.setCell ⟨D, 0, none⟩ (.int .i64 2)).setCell ⟨D, 1, none⟩ (.int .i64 0)).setCell ⟨D, 2, none⟩ (.int .i64 0)).setCell ⟨D, 3, none⟩ (.int .i64 x)).setCell ⟨D, 4, none⟩ (.int .i64 0) = wq at *
  have s4 : St w [boxI D #[.int .i64 1, .int .i64 0, .int .i64 0, .int .i64 x, .int .i64 0] 33] _ := s3.write 0 rfl 0 (.int .i64 1)
  have f0 := s3.frozen 0 rfl 0
  have c0 : wq.cell? ⟨D, 0, none⟩ = some (.int .i64 2) := s3.cell 0 rfl 0
  have HS3 := hid s4
  clear s3 s4
  go_upto_region 5 with fail
  clear f0 c0
  generalize wq.setCell ⟨D, 0, none⟩ (.int .i64 1) = w3 at *
  have HS3' : Hid (St w [boxI D #[.int .i64 1, .int .i64 0, .int .i64 0, .int .i64 x, .int .i64 0] 33] w3) := hid HS3.out
  have KW := hid HS3'.out.same
  have HBx : Hid (∀ W, Kept (fun _ => False) w3 W → W.cell? ⟨D, 0, none⟩ = some (.int .i64 1) ∧ W.cell? ⟨D, 1, none⟩ = some (.int .i64 0) ∧ W.cell? ⟨D, 2, none⟩ = some (.int .i64 0) ∧ W.cell? ⟨D, 3, none⟩ = some (.int .i64 x) ∧ W.cell? ⟨D, 4, none⟩ = some (.int .i64 0)) := hid (fun W k => ⟨(HS3'.out.calm k).cell 0 rfl 0, (HS3'.out.calm k).cell 0 rfl 1, (HS3'.out.calm k).cell 0 rfl 2, (HS3'.out.calm k).cell 0 rfl 3, (HS3'.out.calm k).cell 0 rfl 4⟩)
  clear HS3 HS3'
  cases hok : okS l n ⟨3, 0, 0, y, 0⟩ with
  | false =>
    have h1 : Calls Tryz.prog 19 #[.slice la m lc, .int .i64 n, .agg #[.int .i64 3, .int .i64 0, .int .i64 0, .int .i64 y, .int .i64 0]] w3 _ := do_none (d := ⟨3, 0, 0, y, 0⟩) (HX.out.kept KW.out) HM.out hok
    have HOk : Hid (okS l n (kpD true x) = false) := hid (by rw [kp_same l n x y]; exact hok)
    clear hok
    go_upto_region 6 with (go_at_call 19; refine h1.mono ?_; rintro e w4 ⟨rfl, k4⟩)
    obtain ⟨d0, d1, d2, d3, d4⟩ := HBx.out w4 k4
    have h2 : Calls Tryz.prog 19 #[.slice la m lc, .int .i64 n, .agg #[.int .i64 1, .int .i64 0, .int .i64 0, .int .i64 x, .int .i64 0]] w4 _ := do_none (d := kpD true x) (HX.out.kept (KW.out.trans k4 (fun _ _ f => f))) HM.out HOk.out
    clear h1
    go_wp2_with (go_at_call 19; refine h2.mono ?_; rintro e w5 ⟨rfl, k5⟩)
    go_ret
    exact ⟨rfl, (KW.out.trans k4 (fun _ _ f => f)).trans k5 (fun _ _ f => f)⟩
  | true =>
    have h1 : Calls Tryz.prog 19 #[.slice la m lc, .int .i64 n, .agg #[.int .i64 3, .int .i64 0, .int .i64 0, .int .i64 y, .int .i64 0]] w3 _ := do_one (d := ⟨3, 0, 0, y, 0⟩) (HX.out.kept KW.out) HM.out hok (doS_has l n y)
    have HOk := hid hok
    have HRi : Hid (risesB l = true) := hid (by unfold okS at hok; simp only [Bool.and_eq_true] at hok; exact hok.2.2.2)
    clear hok
    go_upto_region 6 with (go_at_call 19; refine h1.mono ?_; rintro e w4 ⟨va4, vc4, g4, tc4, rfl, H4⟩)
    obtain ⟨d0, d1, d2, d3, d4⟩ := HBx.out w4 H4.out.2.2
    obtain ⟨t, ht, hhx⟩ := kp_told (n := n) (x := x) true HRi.out
    obtain ⟨L2, hL2⟩ : ∃ L2, L2 = (doS l n (kpD true x)).1 := ⟨_, rfl⟩
    have he2 : doS l n (kpD true x) = (L2, [t]) := by rw [hL2, ← ht]
    have K4 := KW.out.trans H4.out.2.2 (fun _ _ f => f)
    have h2 : Calls Tryz.prog 19 #[.slice la m lc, .int .i64 n, .agg #[.int .i64 1, .int .i64 0, .int .i64 0, .int .i64 x, .int .i64 0]] w4 _ := do_one (d := kpD true x) (HX.out.kept K4) HM.out (by rw [kp_same l n x y]; exact HOk.out) he2
    have HT := hid (show hasS L2 x = (if true = true ∧ t ≠ 2 then 1 else 0) by rw [hL2]; exact hhx)
    have HY := hid (fun (hne : y ≠ x) => (show hasS L2 y = hasS l y by rw [hL2]; exact kp_other true HRi.out hne))
    have HO3 : Hid (okS L2 n ⟨3, 0, 0, x, 0⟩ = true) := hid (by rw [hL2]; exact kp_ok true HOk.out)
    have HO4 : Hid (okS L2 n ⟨3, 0, 0, y, 0⟩ = true) := hid (by rw [hL2]; exact kp_ok true HOk.out)
    have HO5 : Hid (okS L2 n ⟨5, 0, 0, 0, 0⟩ = true) := hid (by rw [hL2]; exact kp_okz true HOk.out)
    have HLn : Hid (L2.length ≤ 60) := hid (by
      have := HO5.out
      unfold okS at this
      simp only [Bool.and_eq_true, decide_eq_true_eq] at this
      obtain ⟨a1, a2, -⟩ := this
      have := (roomS_pos a1).2.1
      omega)
    have HK4 := hid K4
    clear h1 ht hhx hL2 he2 K4
    go_upto_region 7 with (go_at_call 19; refine h2.mono ?_; rintro e w5 ⟨va5, vc5, g5, tc5, rfl, H5⟩)
    clear h2 d0 d1 d2 d3 d4
    have h3 : Calls Tryz.prog 19 #[.slice va5 L2.length vc5, .int .i64 n, .agg #[.int .i64 3, .int .i64 0, .int .i64 0, .int .i64 x, .int .i64 0]] w5 _ := do_one (d := ⟨3, 0, 0, x, 0⟩) H5.out.1 (by have := HLn.out; omega) HO3.out (doS_has L2 n x)
    go_upto_region 10 with (go_at_call 19; refine h3.mono ?_; rintro e w6 ⟨va6, vc6, g6, tc6, rfl, H6⟩)
    have h4 : Calls Tryz.prog 19 #[.slice va5 L2.length vc5, .int .i64 n, .agg #[.int .i64 3, .int .i64 0, .int .i64 0, .int .i64 y, .int .i64 0]] w6 _ := do_one (d := ⟨3, 0, 0, y, 0⟩) (H5.out.1.kept H6.out.2.2) (by have := HLn.out; omega) HO4.out (doS_has L2 n y)
    clear h3
    go_upto_region 11 with (go_at_call 19; refine h4.mono ?_; rintro e w7 ⟨va7, vc7, g7, tc7, rfl, H7⟩)
    have K57 := hid (H6.out.2.2.trans H7.out.2.2 (fun _ _ f => f))
    have h5 : Calls Tryz.prog 19 #[.slice va5 L2.length vc5, .int .i64 n, .agg #[.int .i64 5, .int .i64 0, .int .i64 0, .int .i64 0, .int .i64 0]] w7 _ := do_one (d := ⟨5, 0, 0, 0, 0⟩) (H5.out.1.kept K57.out) (by have := HLn.out; omega) HO5.out (doS_size L2 n)
    clear h4
    go_upto_region 12 with (go_at_call 19; refine h5.mono ?_; rintro e w8 ⟨va8, vc8, g8, tc8, rfl, H8⟩)
    clear h5
    have K58 := hid (K57.out.trans H8.out.2.2 (fun _ _ f => f))
    have K48 := hid (H5.out.2.2.trans K58.out (fun _ _ f => f))
    have KW8 := hid (HK4.out.trans K48.out (fun _ _ f => f))
    have HCs : Hid (∀ W, Kept (fun _ => False) w8 W → W.cell? ⟨g4, 0, none⟩ = some (.int .i64 (hasS l y)) ∧ W.cell? ⟨g5, 0, none⟩ = some (.int .i64 t) ∧ W.cell? ⟨g6, 0, none⟩ = some (.int .i64 (hasS L2 x)) ∧ W.cell? ⟨g7, 0, none⟩ = some (.int .i64 (hasS L2 y)) ∧ W.cell? ⟨g8, 0, none⟩ = some (.int .i64 (L2.length : Int))) := hid (fun W k => ⟨keep_cell (K48.out.trans k (fun _ _ f => f)) H4.out.2.1, keep_cell (K58.out.trans k (fun _ _ f => f)) H5.out.2.1, keep_cell ((H7.out.2.2.trans H8.out.2.2 (fun _ _ f => f)).trans k (fun _ _ f => f)) H6.out.2.1, keep_cell (H8.out.2.2.trans k (fun _ _ f => f)) H7.out.2.1, keep_cell k H8.out.2.1⟩)
    obtain ⟨c1, c2, c3, c4, c5⟩ := HCs.out w8 (Kept.refl _ _)
    obtain ⟨e1, e2, e3, e4, e5⟩ := HCs.out w8.drew (Kept.refl _ _).drew
    rw [HT.out] at c3 e3
    have hlz : (L2.length : Int) ≤ 60 := by have := HLn.out; omega
    generalize hsl : hasS l y = a1 at *
    generalize hsy : hasS L2 y = a2 at *
    generalize hz : L2.length = z at *
    have HYY : Hid (x = y ∨ ((x == y) = false ∧ a2 = a1)) := hid (by
      by_cases e : x = y
      · exact .inl e
      · exact .inr ⟨by simpa using e, HY.out (fun h => e h.symm)⟩)
    clear hsl hsy hz HCs HY HT HBx H4 H5 H6 H7 H8 K57 K58 K48 HLn HOk HRi HO3 HO4 HO5 HX
    have HYx := HYY.out
    clear HYY
    by_cases ht2 : t = 2
    · have q2 : (t != 2) = false := by simp [ht2]
      rw [if_neg (by simp [ht2])] at c3 e3
      clear ht2
      rcases HYx with rfl | ⟨q1, rfl⟩
      all_goals
        go_upto_region 17 with fail
        go_region
        all_goals go_wp2
        all_goals go_ret
        all_goals exact ⟨by first | rfl | simp, KW8.out.drew⟩
    · have q2 : (t != 2) = true := by simpa using ht2
      rw [if_pos (by simpa using ht2)] at c3 e3
      clear ht2
      rcases HYx with rfl | ⟨q1, rfl⟩
      all_goals
        go_upto_region 17 with fail
        go_region
        all_goals go_wp2
        all_goals go_ret
        all_goals exact ⟨by first | rfl | simp, KW8.out.drew⟩
set_option maxRecDepth 100000 in
set_option maxHeartbeats 16000000 in
theorem keeps_f (la : Option Addr) (m lc : Nat) (l : List Int) (n x y : Int) (w : World) (hE : Env w) (hC : CameX w la m lc l) :
    Calls Tryz.prog 4 #[.slice la m lc, .int .i64 n, .int .i64 x, .int .i64 y, .bool false] w fun e w' => e = .returned (.bool true) ∧ Kept (fun _ => False) w w' := by
  obtain ⟨hX, hlc, hbig, hnil⟩ := hC
  have hA := awake_any w hE
  have HX := hid hX
  have HM : Hid (m ≤ 9223372036854775807) := hid (by omega)
  have HML := hid hX.1
  have HMb : Hid (m * 8 ≤ 140737488351232) := hid (by omega)
  clear hE hX hnil hlc hbig
  go_enter Tryz.func4, Tryz.ntmps4
  go_upto_region 2 with (go_at_call 5; refine hA.mono ?_; rintro e w1 ⟨rfl, k1⟩; clear hA)
  have s2 := ((St.nil w).calm k1).box #[.int .i64 0, .int .i64 0, .int .i64 0, .int .i64 0, .int .i64 0] 33
  have s3 : St w [boxI w1.heap.size #[.int .i64 2, .int .i64 0, .int .i64 0, .int .i64 x, .int .i64 0] 33] _ := ((((s2.write 0 rfl 0 (.int .i64 2)).write 0 rfl 1 (.int .i64 0)).write 0 rfl 2 (.int .i64 0)).write 0 rfl 3 (.int .i64 x)).write 0 rfl 4 (.int .i64 0)
  generalize hw2 : w1.alloc (.cells #[.int .i64 0, .int .i64 0, .int .i64 0, .int .i64 0, .int .i64 0] 33) = w2 at *
  generalize hD : w1.heap.size = D at *
  have f0 := s2.frozen 0 rfl 0
  have f1 := s2.frozen 0 rfl 1
  have f2 := s2.frozen 0 rfl 2
  have f3 := s2.frozen 0 rfl 3
  have f4 := s2.frozen 0 rfl 4
  have c0 : w2.cell? ⟨D, 0, none⟩ = some (.int .i64 0) := s2.cell 0 rfl 0
  have c1 : w2.cell? ⟨D, 1, none⟩ = some (.int .i64 0) := s2.cell 0 rfl 1
  have c2 : w2.cell? ⟨D, 2, none⟩ = some (.int .i64 0) := s2.cell 0 rfl 2
  have c3 : w2.cell? ⟨D, 3, none⟩ = some (.int .i64 0) := s2.cell 0 rfl 3
  have c4 : w2.cell? ⟨D, 4, none⟩ = some (.int .i64 0) := s2.cell 0 rfl 4
  have HS3 := hid s3
  clear s2 s3 k1
  go_upto_region 3 with (simp only [hw2, hD])
  clear hw2 hD f0 f1 f2 f3 f4 c0 c1 c2 c3 c4
  have s3 := HS3.out
  clear HS3
  generalize ((((w2.setCell ⟨D, 0, none⟩ (.int .i64 2)).setCell ⟨D, 1, none⟩ (.int .i64 0)).setCell ⟨D, 2, none⟩ (.int .i64 0)).setCell ⟨D, 3, none⟩ (.int .i64 x)).setCell ⟨D, 4, none⟩ (.int .i64 0) = wq at *
  have HS3 := hid s3
  clear s3
  go_upto_region 5 with fail
  generalize wq = w3 at *
  have HS3' : Hid (St w [boxI D #[.int .i64 2, .int .i64 0, .int .i64 0, .int .i64 x, .int .i64 0] 33] w3) := hid HS3.out
  have KW := hid HS3'.out.same
  have HBx : Hid (∀ W, Kept (fun _ => False) w3 W → W.cell? ⟨D, 0, none⟩ = some (.int .i64 2) ∧ W.cell? ⟨D, 1, none⟩ = some (.int .i64 0) ∧ W.cell? ⟨D, 2, none⟩ = some (.int .i64 0) ∧ W.cell? ⟨D, 3, none⟩ = some (.int .i64 x) ∧ W.cell? ⟨D, 4, none⟩ = some (.int .i64 0)) := hid (fun W k => ⟨(HS3'.out.calm k).cell 0 rfl 0, (HS3'.out.calm k).cell 0 rfl 1, (HS3'.out.calm k).cell 0 rfl 2, (HS3'.out.calm k).cell 0 rfl 3, (HS3'.out.calm k).cell 0 rfl 4⟩)
  clear HS3 HS3'
  cases hok : okS l n ⟨3, 0, 0, y, 0⟩ with
  | false =>
    have h1 : Calls Tryz.prog 19 #[.slice la m lc, .int .i64 n, .agg #[.int .i64 3, .int .i64 0, .int .i64 0, .int .i64 y, .int .i64 0]] w3 _ := do_none (d := ⟨3, 0, 0, y, 0⟩) (HX.out.kept KW.out) HM.out hok
    have HOk : Hid (okS l n (kpD false x) = false) := hid (by rw [kp_same l n x y]; exact hok)
    clear hok
    go_upto_region 6 with (go_at_call 19; refine h1.mono ?_; rintro e w4 ⟨rfl, k4⟩)
    obtain ⟨d0, d1, d2, d3, d4⟩ := HBx.out w4 k4
    have h2 : Calls Tryz.prog 19 #[.slice la m lc, .int .i64 n, .agg #[.int .i64 2, .int .i64 0, .int .i64 0, .int .i64 x, .int .i64 0]] w4 _ := do_none (d := kpD false x) (HX.out.kept (KW.out.trans k4 (fun _ _ f => f))) HM.out HOk.out
    clear h1
    go_wp2_with (go_at_call 19; refine h2.mono ?_; rintro e w5 ⟨rfl, k5⟩)
    go_ret
    exact ⟨rfl, (KW.out.trans k4 (fun _ _ f => f)).trans k5 (fun _ _ f => f)⟩
  | true =>
    have h1 : Calls Tryz.prog 19 #[.slice la m lc, .int .i64 n, .agg #[.int .i64 3, .int .i64 0, .int .i64 0, .int .i64 y, .int .i64 0]] w3 _ := do_one (d := ⟨3, 0, 0, y, 0⟩) (HX.out.kept KW.out) HM.out hok (doS_has l n y)
    have HOk := hid hok
    have HRi : Hid (risesB l = true) := hid (by unfold okS at hok; simp only [Bool.and_eq_true] at hok; exact hok.2.2.2)
    clear hok
    go_upto_region 6 with (go_at_call 19; refine h1.mono ?_; rintro e w4 ⟨va4, vc4, g4, tc4, rfl, H4⟩)
    obtain ⟨d0, d1, d2, d3, d4⟩ := HBx.out w4 H4.out.2.2
    obtain ⟨t, ht, hhx⟩ := kp_told (n := n) (x := x) false HRi.out
    obtain ⟨L2, hL2⟩ : ∃ L2, L2 = (doS l n (kpD false x)).1 := ⟨_, rfl⟩
    have he2 : doS l n (kpD false x) = (L2, [t]) := by rw [hL2, ← ht]
    have K4 := KW.out.trans H4.out.2.2 (fun _ _ f => f)
    have h2 : Calls Tryz.prog 19 #[.slice la m lc, .int .i64 n, .agg #[.int .i64 2, .int .i64 0, .int .i64 0, .int .i64 x, .int .i64 0]] w4 _ := do_one (d := kpD false x) (HX.out.kept K4) HM.out (by rw [kp_same l n x y]; exact HOk.out) he2
    have HT := hid (show hasS L2 x = (if false = true ∧ t ≠ 2 then 1 else 0) by rw [hL2]; exact hhx)
    have HY := hid (fun (hne : y ≠ x) => (show hasS L2 y = hasS l y by rw [hL2]; exact kp_other false HRi.out hne))
    have HO3 : Hid (okS L2 n ⟨3, 0, 0, x, 0⟩ = true) := hid (by rw [hL2]; exact kp_ok false HOk.out)
    have HO4 : Hid (okS L2 n ⟨3, 0, 0, y, 0⟩ = true) := hid (by rw [hL2]; exact kp_ok false HOk.out)
    have HO5 : Hid (okS L2 n ⟨5, 0, 0, 0, 0⟩ = true) := hid (by rw [hL2]; exact kp_okz false HOk.out)
    have HLn : Hid (L2.length ≤ 60) := hid (by
      have := HO5.out
      unfold okS at this
      simp only [Bool.and_eq_true, decide_eq_true_eq] at this
      obtain ⟨a1, a2, -⟩ := this
      have := (roomS_pos a1).2.1
      omega)
    have HK4 := hid K4
    clear h1 ht hhx hL2 he2 K4
    go_upto_region 7 with (go_at_call 19; refine h2.mono ?_; rintro e w5 ⟨va5, vc5, g5, tc5, rfl, H5⟩)
    clear h2 d0 d1 d2 d3 d4
    have h3 : Calls Tryz.prog 19 #[.slice va5 L2.length vc5, .int .i64 n, .agg #[.int .i64 3, .int .i64 0, .int .i64 0, .int .i64 x, .int .i64 0]] w5 _ := do_one (d := ⟨3, 0, 0, x, 0⟩) H5.out.1 (by have := HLn.out; omega) HO3.out (doS_has L2 n x)
    go_upto_region 10 with (go_at_call 19; refine h3.mono ?_; rintro e w6 ⟨va6, vc6, g6, tc6, rfl, H6⟩)
    have h4 : Calls Tryz.prog 19 #[.slice va5 L2.length vc5, .int .i64 n, .agg #[.int .i64 3, .int .i64 0, .int .i64 0, .int .i64 y, .int .i64 0]] w6 _ := do_one (d := ⟨3, 0, 0, y, 0⟩) (H5.out.1.kept H6.out.2.2) (by have := HLn.out; omega) HO4.out (doS_has L2 n y)
    clear h3
    go_upto_region 11 with (go_at_call 19; refine h4.mono ?_; rintro e w7 ⟨va7, vc7, g7, tc7, rfl, H7⟩)
    have K57 := hid (H6.out.2.2.trans H7.out.2.2 (fun _ _ f => f))
    have h5 : Calls Tryz.prog 19 #[.slice va5 L2.length vc5, .int .i64 n, .agg #[.int .i64 5, .int .i64 0, .int .i64 0, .int .i64 0, .int .i64 0]] w7 _ := do_one (d := ⟨5, 0, 0, 0, 0⟩) (H5.out.1.kept K57.out) (by have := HLn.out; omega) HO5.out (doS_size L2 n)
    clear h4
    go_upto_region 12 with (go_at_call 19; refine h5.mono ?_; rintro e w8 ⟨va8, vc8, g8, tc8, rfl, H8⟩)
    clear h5
    have K58 := hid (K57.out.trans H8.out.2.2 (fun _ _ f => f))
    have K48 := hid (H5.out.2.2.trans K58.out (fun _ _ f => f))
    have KW8 := hid (HK4.out.trans K48.out (fun _ _ f => f))
    have HCs : Hid (∀ W, Kept (fun _ => False) w8 W → W.cell? ⟨g4, 0, none⟩ = some (.int .i64 (hasS l y)) ∧ W.cell? ⟨g5, 0, none⟩ = some (.int .i64 t) ∧ W.cell? ⟨g6, 0, none⟩ = some (.int .i64 (hasS L2 x)) ∧ W.cell? ⟨g7, 0, none⟩ = some (.int .i64 (hasS L2 y)) ∧ W.cell? ⟨g8, 0, none⟩ = some (.int .i64 (L2.length : Int))) := hid (fun W k => ⟨keep_cell (K48.out.trans k (fun _ _ f => f)) H4.out.2.1, keep_cell (K58.out.trans k (fun _ _ f => f)) H5.out.2.1, keep_cell ((H7.out.2.2.trans H8.out.2.2 (fun _ _ f => f)).trans k (fun _ _ f => f)) H6.out.2.1, keep_cell (H8.out.2.2.trans k (fun _ _ f => f)) H7.out.2.1, keep_cell k H8.out.2.1⟩)
    obtain ⟨c1, c2, c3, c4, c5⟩ := HCs.out w8 (Kept.refl _ _)
    obtain ⟨e1, e2, e3, e4, e5⟩ := HCs.out w8.drew (Kept.refl _ _).drew
    rw [HT.out] at c3 e3
    have hlz : (L2.length : Int) ≤ 60 := by have := HLn.out; omega
    generalize hsl : hasS l y = a1 at *
    generalize hsy : hasS L2 y = a2 at *
    generalize hz : L2.length = z at *
    have HYY : Hid (x = y ∨ ((x == y) = false ∧ a2 = a1)) := hid (by
      by_cases e : x = y
      · exact .inl e
      · exact .inr ⟨by simpa using e, HY.out (fun h => e h.symm)⟩)
    clear hsl hsy hz HCs HY HT HBx H4 H5 H6 H7 H8 K57 K58 K48 HLn HOk HRi HO3 HO4 HO5 HX
    have HYx := HYY.out
    clear HYY
    rw [if_neg (by simp)] at c3 e3
    rcases HYx with rfl | ⟨q1, rfl⟩
    all_goals
      go_upto_region 17 with fail
      go_region
      all_goals go_wp2
      all_goals go_ret
      all_goals exact ⟨by first | rfl | simp, KW8.out.drew⟩
theorem keeps_walk (la : Option Addr) (m lc : Nat) (l : List Int) (n x y : Int) (puts : Bool) (w : World) (hE : Env w) (hC : CameX w la m lc l) :
    Calls Tryz.prog 4 #[.slice la m lc, .int .i64 n, .int .i64 x, .int .i64 y, .bool puts] w fun e w' => e = .returned (.bool true) ∧ Kept (fun _ => False) w w' := by
  cases puts with
  | true => exact keeps_t la m lc l n x y w hE hC
  | false => exact keeps_f la m lc l n x y w hE hC
end Go.Proofs.YtdfefjalamohjabGreatDoor
