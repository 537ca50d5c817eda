/- The document's Look, Word, Put; Same of slots. -/
import Derived.Test.YtajfjkhbimehbaaGreatRefOps
import Derived.Test.YtajfjkhbimehbaaGreatFar
import Derived.BigQuiet
namespace Go.Proofs.YtajfjkhbimehbaaGreat
open Go.RowKit
set_option linter.unusedVariables false
set_option linter.unusedSimpArgs false
attribute [local go_sem ↓] Go.wp_at_zero Go.wp_at_succ

set_option maxRecDepth 100000 in
set_option maxHeartbeats 2000000 in
theorem refLook_st {o w : World} {its : List It} (h : St o its w) (i j : Nat) {y g x : Nat} {s : Mt} {v : Value} {hs : List Hd} {ws : List Int} (hi : its[i]? = some (meterI 67 (some x) s v)) (hj : its[j]? = some (refI y g x hs ws)) (hij : i ≠ j)
    {n : Nat} (hw : s.within n) (hn : n ≤ 4611686018427) (k : Int) :
    Calls Tryz.prog 40 #[.pointer (some ⟨y, 0, none⟩), .int .i64 k] w fun e w' => e = .returned (.tuple #[(nowAt hs k).val, .int .i64 (lookE hs k)]) ∧ ∃ v', St o (its.set i (meterI 67 (some x) (lookS s hs k) v')) w' := by
  have hS0 := h.box #[.int .i64 0, .int .i64 0, .int .i64 0, .int .i64 0, .bool false, .int .i64 0] 105
  have hthere := refThere hS0 (j + 1) hj k
  unfold nowAt lookE lookS
  rcases headAt_cases hs k with ⟨m, hm, rfl, hx⟩ | ⟨hk, hx⟩
  · simp only [hx, Option.getD_some]
    have hT : hasSlot hs.length (m : Int) = true := (hasSlot_iff _ _).2 ⟨by omega, by omega⟩
    rw [hT] at hthere
    have i0 : (0 : Int) ≤ (m : Int) := Int.natCast_nonneg _
    have i1 : (m : Int) < (hs.length : Int) := by omega
    have hnote := refTnote hS0 (i + 1) (j + 1) hi hj hw hn 3 m 1 true
    have hxm : hs[m] = hs[m] := rfl
    have HM : Hid (∃ X, hs[m] = X) := ⟨_, rfl⟩
    obtain ⟨X, hX⟩ := HM.out
    rw [hX] at hx ⊢
    have HX : Hid (hs[m] = X) := hX
    obtain ⟨xgn, xsa, xsp, xth, xdm, xwy⟩ := X
    simp only [Hd.val]
    clear hX hxm HM h hx
    go_enter Tryz.func40, Tryz.ntmps40
    go_wp2_with (go_at_call 82; refine hthere.mono ?_; rintro e w' ⟨rfl, rfl⟩)
    generalize w.alloc (.cells #[.int .i64 0, .int .i64 0, .int .i64 0, .int .i64 0, .bool false, .int .i64 0] 105) = W0 at *
    generalize w.heap.size = B at *
    refine hnote.mono ?_
    rintro e w1 ⟨rfl, v', hS⟩
    have hjj : (boxI B #[.int .i64 0, .int .i64 0, .int .i64 0, .int .i64 0, .bool false, .int .i64 0] 105 :: its.set i (meterI 67 (some x) (s.note 3 m 1 true) v'))[j + 1]? = some (refI y g x hs ws) := set_other hj hij
    have p1 : RefTab w1 y g x hs ws := hS.get (j + 1) hjj
    have hl8 : (hs.length : Int) ≤ 8 := by have := p1.n8; omega
    have c1 : w1.cell? ⟨y, 1, none⟩ = some (.slice (some ⟨g, 0, none⟩) hs.length hs.length) := cell_of_heap p1.tab
    have d := p1.cell hm
    rw [HX.out] at d
    obtain ⟨d0, d1, d2, d3, d4, d5, _, _⟩ := d
    simp only at d0 d1 d2 d3 d4 d5
    have b0 : w1.cell? ⟨B, 0, none⟩ = some (.int .i64 0) := hS.cell 0 rfl 0
    have f0 : w1.frozen? ⟨B, 0, none⟩ = false := hS.frozen 0 rfl 0
    have b1 : w1.cell? ⟨B, 1, none⟩ = some (.int .i64 0) := hS.cell 0 rfl 1
    have f1 : w1.frozen? ⟨B, 1, none⟩ = false := hS.frozen 0 rfl 1
    have b2 : w1.cell? ⟨B, 2, none⟩ = some (.int .i64 0) := hS.cell 0 rfl 2
    have f2 : w1.frozen? ⟨B, 2, none⟩ = false := hS.frozen 0 rfl 2
    have b3 : w1.cell? ⟨B, 3, none⟩ = some (.int .i64 0) := hS.cell 0 rfl 3
    have f3 : w1.frozen? ⟨B, 3, none⟩ = false := hS.frozen 0 rfl 3
    have b4 : w1.cell? ⟨B, 4, none⟩ = some (.bool false) := hS.cell 0 rfl 4
    have f4 : w1.frozen? ⟨B, 4, none⟩ = false := hS.frozen 0 rfl 4
    have b5 : w1.cell? ⟨B, 5, none⟩ = some (.int .i64 0) := hS.cell 0 rfl 5
    have f5 : w1.frozen? ⟨B, 5, none⟩ = false := hS.frozen 0 rfl 5
    have ne : ¬ g = B := hS.ne (j + 1) 0 hjj rfl (by omega) (by simp [refI]) (by simp [boxI])
    have HS : Hid (∀ u0 u1 u2 u3 u4 u5 : Value, St o (its.set i (meterI 67 (some x) (s.note 3 m 1 true) v')) ((((((w1.setCell ⟨B, 0, none⟩ u0).setCell ⟨B, 1, none⟩ u1).setCell ⟨B, 2, none⟩ u2).setCell ⟨B, 3, none⟩ u3).setCell ⟨B, 4, none⟩ u4).setCell ⟨B, 5, none⟩ u5)) := fun u0 u1 u2 u3 u4 u5 => ((((((hS.write 0 rfl 0 u0).write 0 rfl 1 u1).write 0 rfl 2 u2).write 0 rfl 3 u3).write 0 rfl 4 u4).write 0 rfl 5 u5).pop
    clear hS hnote hS0 p1 hjj hthere
    go_wp2
    exact bodyPost_ret (v := .tuple #[.agg #[.int .i64 xgn, .int .i64 xsa, .int .i64 xsp, .int .i64 xth, .bool xdm, .int .i64 xwy], .int .i64 0]) (by simp [results, Tryz.results40, go_sem, b0, b1, b2, b3, b4, b5]) rfl ⟨rfl, v', HS.out _ _ _ _ _ _⟩
  · simp only [hx, Option.getD_none]
    have hT : hasSlot hs.length k = false := by
      cases hq : hasSlot hs.length k
      · rfl
      · exact absurd ((hasSlot_iff _ _).1 hq) hk
    rw [hT] at hthere
    simp only [Hd.val, Hd.zero]
    clear hx hk
    go_enter Tryz.func40, Tryz.ntmps40
    go_wp2_with fail
    generalize w.alloc (.cells #[.int .i64 0, .int .i64 0, .int .i64 0, .int .i64 0, .bool false, .int .i64 0] 105) = W0 at *
    generalize w.heap.size = B at *
    refine hthere.mono ?_
    rintro e w1 ⟨rfl, rfl⟩
    have b0 : w1.cell? ⟨B, 0, none⟩ = some (.int .i64 0) := hS0.cell 0 rfl 0
    have f0 : w1.frozen? ⟨B, 0, none⟩ = false := hS0.frozen 0 rfl 0
    have b1 : w1.cell? ⟨B, 1, none⟩ = some (.int .i64 0) := hS0.cell 0 rfl 1
    have f1 : w1.frozen? ⟨B, 1, none⟩ = false := hS0.frozen 0 rfl 1
    have b2 : w1.cell? ⟨B, 2, none⟩ = some (.int .i64 0) := hS0.cell 0 rfl 2
    have f2 : w1.frozen? ⟨B, 2, none⟩ = false := hS0.frozen 0 rfl 2
    have b3 : w1.cell? ⟨B, 3, none⟩ = some (.int .i64 0) := hS0.cell 0 rfl 3
    have f3 : w1.frozen? ⟨B, 3, none⟩ = false := hS0.frozen 0 rfl 3
    have b4 : w1.cell? ⟨B, 4, none⟩ = some (.bool false) := hS0.cell 0 rfl 4
    have f4 : w1.frozen? ⟨B, 4, none⟩ = false := hS0.frozen 0 rfl 4
    have b5 : w1.cell? ⟨B, 5, none⟩ = some (.int .i64 0) := hS0.cell 0 rfl 5
    have f5 : w1.frozen? ⟨B, 5, none⟩ = false := hS0.frozen 0 rfl 5
    have HS : Hid (∀ u0 u1 u2 u3 u4 u5 : Value, St o its ((((((w1.setCell ⟨B, 0, none⟩ u0).setCell ⟨B, 1, none⟩ u1).setCell ⟨B, 2, none⟩ u2).setCell ⟨B, 3, none⟩ u3).setCell ⟨B, 4, none⟩ u4).setCell ⟨B, 5, none⟩ u5)) := fun u0 u1 u2 u3 u4 u5 => ((((((hS0.write 0 rfl 0 u0).write 0 rfl 1 u1).write 0 rfl 2 u2).write 0 rfl 3 u3).write 0 rfl 4 u4).write 0 rfl 5 u5).pop
    clear hS0 hthere h
    go_wp2
    exact bodyPost_ret (v := .tuple #[.agg #[.int .i64 0, .int .i64 0, .int .i64 0, .int .i64 0, .bool false, .int .i64 0], .int .i64 2]) (by simp [results, Tryz.results40, go_sem, b0, b1, b2, b3, b4, b5]) rfl ⟨rfl, v, by rw [set_back hi]; exact HS.out _ _ _ _ _ _⟩

theorem hasWd_parts {n : Nat} {k j : Int} (h : hasWd n k j = false) : hasSlot n k = false ∨ (hasSlot n k = true ∧ j < 0) ∨ (hasSlot n k = true ∧ ¬ j < 0 ∧ 1 < j) := by
  simp only [hasWd, Bool.and_eq_false_iff, decide_eq_false_iff_not] at h
  cases hs : hasSlot n k
  · exact .inl rfl
  · rcases h with (h | h) | h
    · rw [hs] at h; cases h
    · exact .inr (.inl ⟨rfl, by omega⟩)
    · by_cases h0 : j < 0
      · exact .inr (.inl ⟨rfl, h0⟩)
      · exact .inr (.inr ⟨rfl, h0, by omega⟩)

set_option maxRecDepth 100000 in
set_option maxHeartbeats 2000000 in
theorem refPut_st {o w : World} {its : List It} (h : St o its w) (i j : Nat) {y g x : Nat} {s : Mt} {v : Value} {hs : List Hd} {ws : List Int} (hi : its[i]? = some (meterI 67 (some x) s v)) (hj : its[j]? = some (refI y g x hs ws)) (hij : i ≠ j)
    {n : Nat} (hw : s.within n) (hn : n ≤ 4611686018427) (k j2 X : Int) :
    Calls Tryz.prog 58 #[.pointer (some ⟨y, 0, none⟩), .int .i64 k, .int .i64 j2, .int .u64 X] w fun e w' => e = .returned (.int .i64 (wordE hs.length k j2)) ∧ ∃ v', St o ((its.set i (meterI 67 (some x) (putS s hs.length k j2) v')).set j (refI y g x hs (putW ws hs.length k j2 X))) w' := by
  have hthere := refThere h j hj k
  unfold wordE putS putW
  rcases word_cases hs.length k j2 with ⟨m, b, rfl, rfl, hm, hb, e1, e2⟩ | ⟨e1, e2⟩
  · simp only [e2]
    have hT : hasSlot hs.length (m : Int) = true := (hasSlot_iff _ _).2 ⟨by omega, by omega⟩
    rw [hT] at hthere
    have i0 : (0 : Int) ≤ (m : Int) := Int.natCast_nonneg _
    have i1 : (m : Int) < (hs.length : Int) := by omega
    have i2 : ¬ (b : Int) < 0 := by omega
    have i3 : ¬ (1 : Int) < (b : Int) := by omega
    have i4 : (b : Int) < 2 := by omega
    have i5 : (0 : Int) ≤ (b : Int) := by omega
    have p0 : RefTab w y g x hs ws := h.get j hj
    have hl8 : (hs.length : Int) ≤ 8 := by have := p0.n8; omega
    have ec : 2 * (m : Int) + (b : Int) = ((m * 2 + b : Nat) : Int) := by omega
    have hnote : Calls Tryz.prog 83 #[.pointer (some ⟨y, 0, none⟩), .int .i64 4, .int .i64 (2 * (m : Int) + (b : Int)), .int .i64 2, .bool true] w fun e w' => e = .returned (.tuple #[]) ∧ ∃ v', St o (its.set i (meterI 67 (some x) (s.note 4 ((m * 2 + b : Nat) : Int) 2 true) v')) w' := by
      rw [ec]
      exact refTnote h i j hi hj hw hn 4 _ 2 true
    clear h p0 e1 e2 ec
    go_enter Tryz.func58, Tryz.ntmps58
    go_wp2_with (go_at_call 82; refine hthere.mono ?_; rintro e w' ⟨rfl, rfl⟩)
    refine hnote.mono ?_
    rintro e w1 ⟨rfl, v', hS⟩
    have hjj : (its.set i (meterI 67 (some x) (s.note 4 ((m * 2 + b : Nat) : Int) 2 true) v'))[j]? = some (refI y g x hs ws) := set_other hj hij
    have p1 : RefTab w1 y g x hs ws := hS.get j hjj
    have c1 : w1.cell? ⟨y, 1, none⟩ = some (.slice (some ⟨g, 0, none⟩) hs.length hs.length) := cell_of_heap p1.tab
    have d := p1.cell hm
    generalize hX : hs[m] = Y at d
    obtain ⟨xgn, xsa, xsp, xth, xdm, xwy⟩ := Y
    have HX : Hid (hs[m] = ⟨xgn, xsa, xsp, xth, xdm, xwy⟩) := hX
    clear hX
    obtain ⟨d0, d1, d2, d3, d4, d5, d6, d7⟩ := d
    simp only at d0 d1 d2 d3 d4 d5
    generalize hwa : ws.getD (m * 2) 0 = wa at d6
    generalize hwb : ws.getD (m * 2 + 1) 0 = wb at d7
    have HA : Hid (ws.getD (m * 2) 0 = wa) := hwa
    have HB : Hid (ws.getD (m * 2 + 1) 0 = wb) := hwb
    clear hwa hwb
    have hb2 : b = 0 ∨ b = 1 := by omega
    rcases hb2 with rfl | rfl
    · have hSB := hS.box #[.int .i64 xgn, .int .i64 xsa, .int .i64 xsp, .int .i64 xth, .bool xdm, .int .i64 xwy, .int .u64 X, .int .u64 wb] 156
      clear hS hnote p1
      go_wp2_with fail
      generalize w1.alloc (.cells #[.int .i64 xgn, .int .i64 xsa, .int .i64 xsp, .int .i64 xth, .bool xdm, .int .i64 xwy, .int .u64 X, .int .u64 wb] 156) = W2 at *
      generalize w1.heap.size = B at *
      clear d0 d1 d2 d3 d4 d5 d6 d7 c1
      have p2 : RefTab W2 y g x hs ws := hSB.get (j + 1) hjj
      have c2 : W2.cell? ⟨y, 1, none⟩ = some (.slice (some ⟨g, 0, none⟩) hs.length hs.length) := cell_of_heap p2.tab
      obtain ⟨t0, t1, t2, t3, t4, t5, t6, t7⟩ := p2.cell hm
      have b0 : W2.cell? ⟨B, 0, none⟩ = some (.int .i64 xgn) := hSB.cell 0 rfl 0
      have l0 : W2.frozen? ⟨g, m * 8, none⟩ = false := frozen_of_heap p2.cells
      have b1 : W2.cell? ⟨B, 1, none⟩ = some (.int .i64 xsa) := hSB.cell 0 rfl 1
      have l1 : W2.frozen? ⟨g, m * 8 + 1, none⟩ = false := frozen_of_heap p2.cells
      have b2 : W2.cell? ⟨B, 2, none⟩ = some (.int .i64 xsp) := hSB.cell 0 rfl 2
      have l2 : W2.frozen? ⟨g, m * 8 + 2, none⟩ = false := frozen_of_heap p2.cells
      have b3 : W2.cell? ⟨B, 3, none⟩ = some (.int .i64 xth) := hSB.cell 0 rfl 3
      have l3 : W2.frozen? ⟨g, m * 8 + 3, none⟩ = false := frozen_of_heap p2.cells
      have b4 : W2.cell? ⟨B, 4, none⟩ = some (.bool xdm) := hSB.cell 0 rfl 4
      have l4 : W2.frozen? ⟨g, m * 8 + 4, none⟩ = false := frozen_of_heap p2.cells
      have b5 : W2.cell? ⟨B, 5, none⟩ = some (.int .i64 xwy) := hSB.cell 0 rfl 5
      have l5 : W2.frozen? ⟨g, m * 8 + 5, none⟩ = false := frozen_of_heap p2.cells
      have b6 : W2.cell? ⟨B, 6, none⟩ = some (.int .u64 X) := hSB.cell 0 rfl 6
      have l6 : W2.frozen? ⟨g, m * 8 + 6, none⟩ = false := frozen_of_heap p2.cells
      have b7 : W2.cell? ⟨B, 7, none⟩ = some (.int .u64 wb) := hSB.cell 0 rfl 7
      have l7 : W2.frozen? ⟨g, m * 8 + 7, none⟩ = false := frozen_of_heap p2.cells
      have n1 : ¬ g = B := hSB.ne (j + 1) 0 hjj rfl (by omega) (by simp [refI]) (by simp [boxI])
      have n2 : ¬ B = g := fun e => n1 e.symm
      have n3 : ¬ y = g := p2.yg
      have HS : Hid (St o ((its.set i (meterI 67 (some x) (s.note 4 ((m * 2 + 0 : Nat) : Int) 2 true) v')).set j (refI y g x hs (ws.set (m * 2 + 0) X))) ((((((((W2.setCell ⟨g, m * 8, none⟩ (.int .i64 xgn)).setCell ⟨g, m * 8 + 1, none⟩ (.int .i64 xsa)).setCell ⟨g, m * 8 + 2, none⟩ (.int .i64 xsp)).setCell ⟨g, m * 8 + 3, none⟩ (.int .i64 xth)).setCell ⟨g, m * 8 + 4, none⟩ (.bool xdm)).setCell ⟨g, m * 8 + 5, none⟩ (.int .i64 xwy)).setCell ⟨g, m * 8 + 6, none⟩ (.int .u64 X)).setCell ⟨g, m * 8 + 7, none⟩ (.int .u64 wb))) := by
        have := (St.refWords hSB (j + 1) hjj hm 0 (by omega) X X wb (by rw [if_pos rfl]) (by rw [if_neg (by omega)]; exact HB.out.symm)).pop
        simp only [HX.out] at this
        exact this
      clear hSB p2 hjj hthere
      go_region
      all_goals
        go_wp2
        go_ret
        exact ⟨rfl, v', by first | exact HS.out.drew | exact HS.out⟩
    · have hSB := hS.box #[.int .i64 xgn, .int .i64 xsa, .int .i64 xsp, .int .i64 xth, .bool xdm, .int .i64 xwy, .int .u64 wa, .int .u64 X] 156
      clear hS hnote p1
      go_wp2_with fail
      generalize w1.alloc (.cells #[.int .i64 xgn, .int .i64 xsa, .int .i64 xsp, .int .i64 xth, .bool xdm, .int .i64 xwy, .int .u64 wa, .int .u64 X] 156) = W2 at *
      generalize w1.heap.size = B at *
      clear d0 d1 d2 d3 d4 d5 d6 d7 c1
      have p2 : RefTab W2 y g x hs ws := hSB.get (j + 1) hjj
      have c2 : W2.cell? ⟨y, 1, none⟩ = some (.slice (some ⟨g, 0, none⟩) hs.length hs.length) := cell_of_heap p2.tab
      obtain ⟨t0, t1, t2, t3, t4, t5, t6, t7⟩ := p2.cell hm
      have b0 : W2.cell? ⟨B, 0, none⟩ = some (.int .i64 xgn) := hSB.cell 0 rfl 0
      have l0 : W2.frozen? ⟨g, m * 8, none⟩ = false := frozen_of_heap p2.cells
      have b1 : W2.cell? ⟨B, 1, none⟩ = some (.int .i64 xsa) := hSB.cell 0 rfl 1
      have l1 : W2.frozen? ⟨g, m * 8 + 1, none⟩ = false := frozen_of_heap p2.cells
      have b2 : W2.cell? ⟨B, 2, none⟩ = some (.int .i64 xsp) := hSB.cell 0 rfl 2
      have l2 : W2.frozen? ⟨g, m * 8 + 2, none⟩ = false := frozen_of_heap p2.cells
      have b3 : W2.cell? ⟨B, 3, none⟩ = some (.int .i64 xth) := hSB.cell 0 rfl 3
      have l3 : W2.frozen? ⟨g, m * 8 + 3, none⟩ = false := frozen_of_heap p2.cells
      have b4 : W2.cell? ⟨B, 4, none⟩ = some (.bool xdm) := hSB.cell 0 rfl 4
      have l4 : W2.frozen? ⟨g, m * 8 + 4, none⟩ = false := frozen_of_heap p2.cells
      have b5 : W2.cell? ⟨B, 5, none⟩ = some (.int .i64 xwy) := hSB.cell 0 rfl 5
      have l5 : W2.frozen? ⟨g, m * 8 + 5, none⟩ = false := frozen_of_heap p2.cells
      have b6 : W2.cell? ⟨B, 6, none⟩ = some (.int .u64 wa) := hSB.cell 0 rfl 6
      have l6 : W2.frozen? ⟨g, m * 8 + 6, none⟩ = false := frozen_of_heap p2.cells
      have b7 : W2.cell? ⟨B, 7, none⟩ = some (.int .u64 X) := hSB.cell 0 rfl 7
      have l7 : W2.frozen? ⟨g, m * 8 + 7, none⟩ = false := frozen_of_heap p2.cells
      have n1 : ¬ g = B := hSB.ne (j + 1) 0 hjj rfl (by omega) (by simp [refI]) (by simp [boxI])
      have n2 : ¬ B = g := fun e => n1 e.symm
      have n3 : ¬ y = g := p2.yg
      have HS : Hid (St o ((its.set i (meterI 67 (some x) (s.note 4 ((m * 2 + 1 : Nat) : Int) 2 true) v')).set j (refI y g x hs (ws.set (m * 2 + 1) X))) ((((((((W2.setCell ⟨g, m * 8, none⟩ (.int .i64 xgn)).setCell ⟨g, m * 8 + 1, none⟩ (.int .i64 xsa)).setCell ⟨g, m * 8 + 2, none⟩ (.int .i64 xsp)).setCell ⟨g, m * 8 + 3, none⟩ (.int .i64 xth)).setCell ⟨g, m * 8 + 4, none⟩ (.bool xdm)).setCell ⟨g, m * 8 + 5, none⟩ (.int .i64 xwy)).setCell ⟨g, m * 8 + 6, none⟩ (.int .u64 wa)).setCell ⟨g, m * 8 + 7, none⟩ (.int .u64 X))) := by
        have := (St.refWords hSB (j + 1) hjj hm 1 (by omega) X wa X (by rw [if_neg (by omega)]; exact HA.out.symm) (by rw [if_pos rfl])).pop
        simp only [HX.out] at this
        exact this
      clear hSB p2 hjj hthere
      go_region
      all_goals
        go_wp2
        go_ret
        exact ⟨rfl, v', by first | exact HS.out.drew | exact HS.out⟩
  · simp only [e2]
    have HS : Hid (St o its w) := h
    rcases hasWd_parts e1 with q | ⟨q, q1⟩ | ⟨q, q1, q2⟩
    all_goals
      rw [q] at hthere
      go_enter Tryz.func58, Tryz.ntmps58
      go_wp2_with (go_at_call 82; refine hthere.mono ?_; rintro e w' ⟨rfl, rfl⟩)
      go_ret
      refine ⟨rfl, v, ?_⟩
      rw [set_back hi, set_back hj]
      exact HS.out

set_option maxRecDepth 100000 in
set_option maxHeartbeats 1000000 in
theorem same_slots (ga gb ca cb n : Nat) (ss : List Sl) (w : World) (ha : w.ownsRow 0 156 8 (.slice (some ⟨ga, 0, none⟩) n ca) n (slCells ss)) (hb : w.ownsRow 0 156 8 (.slice (some ⟨gb, 0, none⟩) n cb) n (slCells ss)) (hss : ss.length = n) (n8 : n ≤ 8) :
    Calls Tryz.prog 96 #[.slice (some ⟨ga, 0, none⟩) n ca, .slice (some ⟨gb, 0, none⟩) n cb] w fun e w' => e = .returned (.bool true) ∧ ∃ k, w' = w.drewN k := by
  have hnn : ((n : Int) != (n : Int)) = false := by simp
  have hl8 : (n : Int) ≤ 8 := by omega
  go_enter Tryz.func96, Tryz.ntmps96
  go_wp2
  go_loopw [5] (fun i wr => ∃ j q : Nat, i = .int .i64 j ∧ j ≤ n ∧ wr = w.drewN q) (fun i _ => n - (intOf i).toNat)
  case atStart => exact ⟨0, 0, rfl, Nat.zero_le _, rfl⟩
  case round =>
    obtain ⟨j, q, rfl, hj, rfl⟩ := hrel
    by_cases hlt : j < n
    · obtain ⟨sl, hsl⟩ : ∃ sl, ss[j]? = some sl := ⟨_, List.getElem?_eq_getElem (by omega)⟩
      obtain ⟨p0, p1, p2, p3, p4, p5, p6, p7⟩ := told_cells ha hlt hsl
      obtain ⟨q0, q1, q2, q3, q4, q5, q6, q7⟩ := told_cells hb hlt hsl
      obtain ⟨sgn, ssa, ssp, sth, sdm, swy, swa, swb⟩ := sl
      simp only at p0 p1 p2 p3 p4 p5 p6 p7 q0 q1 q2 q3 q4 q5 q6 q7
      have hE := eqSlot sgn ssa ssp sth sdm swy swa swb
      have h0 : (0 : Int) ≤ (j : Int) := Int.natCast_nonneg _
      have h1 : (j : Int) < (n : Int) := by omega
      clear hsl
      go_wp2_with fail
      go_quiet (fail)
      go_wp2
      go_roundw
      case rel => exact ⟨j + 1, _, by go_num, by omega, rfl⟩
      case measure => simp [intOf]; omega
    · have h1 : ¬ (j : Int) < (n : Int) := by omega
      go_wp2
      go_ret
      exact ⟨rfl, q, rfl⟩
theorem RefTab.own {w : World} {y g x : Nat} {hs : List Hd} {ws : List Int} (h : RefTab w y g x hs ws) : w.ownsRow 0 156 8 (.slice (some ⟨g, 0, none⟩) hs.length hs.length) hs.length (slCells (slots hs ws)) := by
  have hx : (slCells (slots hs ws)).length = hs.length * 8 := by rw [slCells_length, slots_length hs ws h.wn]
  exact ⟨hx, .inr ⟨g, hs.length, (slCells (slots hs ws)).toArray, rfl, Nat.zero_le _, h.cells, Nat.le_refl _, by have := h.n8; unfold maxLen; omega, by simpa using hx, by rw [List.toList_toArray, ← hx, List.take_length]⟩⟩
end Go.Proofs.YtajfjkhbimehbaaGreat

