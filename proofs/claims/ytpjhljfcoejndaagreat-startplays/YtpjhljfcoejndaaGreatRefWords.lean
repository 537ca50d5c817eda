/- The document's Look, Word, Put; Same of slots. -/
import Derived.Test.YtpjhljfcoejndaaGreatRefOps
import Derived.Test.YtpjhljfcoejndaaGreatFar
import Derived.BigQuiet
namespace Go.Proofs.YtpjhljfcoejndaaGreat
open Go.RowKit
set_option linter.unusedVariables false
set_option linter.unusedSimpArgs false
attribute [local go_sem ↓] Go.wp_at_zero Go.wp_at_succ

theorem hasWd_parts {n : Nat} {k j : Int} (h : hasWd n k j = false) : hasSlot n k = false ∨ (hasSlot n k = true ∧ j < 0) ∨ (hasSlot n k = true ∧ ¬ j < 0 ∧ 1 < j) := by
  simp only [hasWd, Bool.and_eq_false_iff, decide_eq_false_iff_not] at h
  cases hs : hasSlot n k
  · exact .inl rfl
  · rcases h with (h | h) | h
    · rw [hs] at h; cases h
    · exact .inr (.inl ⟨rfl, by omega⟩)
    · by_cases h0 : j < 0
      · exact .inr (.inl ⟨rfl, h0⟩)
      · exact .inr (.inr ⟨rfl, h0, by omega⟩)

set_option maxRecDepth 100000 in
set_option maxHeartbeats 2000000 in
theorem refPut_st {o w : World} {its : List It} (h : St o its w) (i j : Nat) {y g x : Nat} {s : Mt} {v : Value} {hs : List Hd} {ws : List Int} (hi : its[i]? = some (meterI 60 (some x) s v)) (hj : its[j]? = some (refI y g x hs ws)) (hij : i ≠ j)
    {n : Nat} (hw : s.within n) (hn : n ≤ 4611686018427) (k j2 X : Int) :
    Calls Tryz.prog 38 #[.pointer (some ⟨y, 0, none⟩), .int .i64 k, .int .i64 j2, .int .u64 X] w fun e w' => e = .returned (.int .i64 (wordE hs.length k j2)) ∧ ∃ v', St o ((its.set i (meterI 60 (some x) (putS s hs.length k j2) v')).set j (refI y g x hs (putW ws hs.length k j2 X))) w' := by
  have hthere := refThere h j hj k
  unfold wordE putS putW
  rcases word_cases hs.length k j2 with ⟨m, b, rfl, rfl, hm, hb, e1, e2⟩ | ⟨e1, e2⟩
  · simp only [e2]
    have hT : hasSlot hs.length (m : Int) = true := (hasSlot_iff _ _).2 ⟨by omega, by omega⟩
    rw [hT] at hthere
    have i0 : (0 : Int) ≤ (m : Int) := Int.natCast_nonneg _
    have i1 : (m : Int) < (hs.length : Int) := by omega
    have i2 : ¬ (b : Int) < 0 := by omega
    have i3 : ¬ (1 : Int) < (b : Int) := by omega
    have i4 : (b : Int) < 2 := by omega
    have i5 : (0 : Int) ≤ (b : Int) := by omega
    have p0 : RefTab w y g x hs ws := h.get j hj
    have hl8 : (hs.length : Int) ≤ 8 := by have := p0.n8; omega
    have ec : 2 * (m : Int) + (b : Int) = ((m * 2 + b : Nat) : Int) := by omega
    have hnote : Calls Tryz.prog 68 #[.pointer (some ⟨y, 0, none⟩), .int .i64 4, .int .i64 (2 * (m : Int) + (b : Int)), .int .i64 2, .bool true] w fun e w' => e = .returned (.tuple #[]) ∧ ∃ v', St o (its.set i (meterI 60 (some x) (s.note 4 ((m * 2 + b : Nat) : Int) 2 true) v')) w' := by
      rw [ec]
      exact refTnote h i j hi hj hw hn 4 _ 2 true
    clear h p0 e1 e2 ec
    go_enter Tryz.func38, Tryz.ntmps38
    go_wp2_with (go_at_call 67; refine hthere.mono ?_; rintro e w' ⟨rfl, rfl⟩)
    refine hnote.mono ?_
    rintro e w1 ⟨rfl, v', hS⟩
    have hjj : (its.set i (meterI 60 (some x) (s.note 4 ((m * 2 + b : Nat) : Int) 2 true) v'))[j]? = some (refI y g x hs ws) := set_other hj hij
    have p1 : RefTab w1 y g x hs ws := hS.get j hjj
    have c1 : w1.cell? ⟨y, 1, none⟩ = some (.slice (some ⟨g, 0, none⟩) hs.length hs.length) := cell_of_heap p1.tab
    have d := p1.cell hm
    generalize hX : hs[m] = Y at d
    obtain ⟨xgn, xsa, xsp, xth, xdm, xwy⟩ := Y
    have HX : Hid (hs[m] = ⟨xgn, xsa, xsp, xth, xdm, xwy⟩) := hX
    clear hX
    obtain ⟨d0, d1, d2, d3, d4, d5, d6, d7⟩ := d
    simp only at d0 d1 d2 d3 d4 d5
    generalize hwa : ws.getD (m * 2) 0 = wa at d6
    generalize hwb : ws.getD (m * 2 + 1) 0 = wb at d7
    have HA : Hid (ws.getD (m * 2) 0 = wa) := hwa
    have HB : Hid (ws.getD (m * 2 + 1) 0 = wb) := hwb
    clear hwa hwb
    have hb2 : b = 0 ∨ b = 1 := by omega
    rcases hb2 with rfl | rfl
    · have hSB := hS.box #[.int .i64 xgn, .int .i64 xsa, .int .i64 xsp, .int .i64 xth, .bool xdm, .int .i64 xwy, .int .u64 X, .int .u64 wb] 140
      clear hS hnote p1
      go_wp2_with fail
      generalize w1.alloc (.cells #[.int .i64 xgn, .int .i64 xsa, .int .i64 xsp, .int .i64 xth, .bool xdm, .int .i64 xwy, .int .u64 X, .int .u64 wb] 140) = W2 at *
      generalize w1.heap.size = B at *
      clear d0 d1 d2 d3 d4 d5 d6 d7 c1
      have p2 : RefTab W2 y g x hs ws := hSB.get (j + 1) hjj
      have c2 : W2.cell? ⟨y, 1, none⟩ = some (.slice (some ⟨g, 0, none⟩) hs.length hs.length) := cell_of_heap p2.tab
      obtain ⟨t0, t1, t2, t3, t4, t5, t6, t7⟩ := p2.cell hm
      have b0 : W2.cell? ⟨B, 0, none⟩ = some (.int .i64 xgn) := hSB.cell 0 rfl 0
      have l0 : W2.frozen? ⟨g, m * 8, none⟩ = false := frozen_of_heap p2.cells
      have b1 : W2.cell? ⟨B, 1, none⟩ = some (.int .i64 xsa) := hSB.cell 0 rfl 1
      have l1 : W2.frozen? ⟨g, m * 8 + 1, none⟩ = false := frozen_of_heap p2.cells
      have b2 : W2.cell? ⟨B, 2, none⟩ = some (.int .i64 xsp) := hSB.cell 0 rfl 2
      have l2 : W2.frozen? ⟨g, m * 8 + 2, none⟩ = false := frozen_of_heap p2.cells
      have b3 : W2.cell? ⟨B, 3, none⟩ = some (.int .i64 xth) := hSB.cell 0 rfl 3
      have l3 : W2.frozen? ⟨g, m * 8 + 3, none⟩ = false := frozen_of_heap p2.cells
      have b4 : W2.cell? ⟨B, 4, none⟩ = some (.bool xdm) := hSB.cell 0 rfl 4
      have l4 : W2.frozen? ⟨g, m * 8 + 4, none⟩ = false := frozen_of_heap p2.cells
      have b5 : W2.cell? ⟨B, 5, none⟩ = some (.int .i64 xwy) := hSB.cell 0 rfl 5
      have l5 : W2.frozen? ⟨g, m * 8 + 5, none⟩ = false := frozen_of_heap p2.cells
      have b6 : W2.cell? ⟨B, 6, none⟩ = some (.int .u64 X) := hSB.cell 0 rfl 6
      have l6 : W2.frozen? ⟨g, m * 8 + 6, none⟩ = false := frozen_of_heap p2.cells
      have b7 : W2.cell? ⟨B, 7, none⟩ = some (.int .u64 wb) := hSB.cell 0 rfl 7
      have l7 : W2.frozen? ⟨g, m * 8 + 7, none⟩ = false := frozen_of_heap p2.cells
      have n1 : ¬ g = B := hSB.ne (j + 1) 0 hjj rfl (by omega) (by simp [refI]) (by simp [boxI])
      have n2 : ¬ B = g := fun e => n1 e.symm
      have n3 : ¬ y = g := p2.yg
      have HS : Hid (St o ((its.set i (meterI 60 (some x) (s.note 4 ((m * 2 + 0 : Nat) : Int) 2 true) v')).set j (refI y g x hs (ws.set (m * 2 + 0) X))) ((((((((W2.setCell ⟨g, m * 8, none⟩ (.int .i64 xgn)).setCell ⟨g, m * 8 + 1, none⟩ (.int .i64 xsa)).setCell ⟨g, m * 8 + 2, none⟩ (.int .i64 xsp)).setCell ⟨g, m * 8 + 3, none⟩ (.int .i64 xth)).setCell ⟨g, m * 8 + 4, none⟩ (.bool xdm)).setCell ⟨g, m * 8 + 5, none⟩ (.int .i64 xwy)).setCell ⟨g, m * 8 + 6, none⟩ (.int .u64 X)).setCell ⟨g, m * 8 + 7, none⟩ (.int .u64 wb))) := by
        have := (St.refWords hSB (j + 1) hjj hm 0 (by omega) X X wb (by rw [if_pos rfl]) (by rw [if_neg (by omega)]; exact HB.out.symm)).pop
        simp only [HX.out] at this
        exact this
      clear hSB p2 hjj hthere
      go_region
      all_goals
        go_wp2
        go_ret
        exact ⟨rfl, v', by first | exact HS.out.drew | exact HS.out⟩
    · have hSB := hS.box #[.int .i64 xgn, .int .i64 xsa, .int .i64 xsp, .int .i64 xth, .bool xdm, .int .i64 xwy, .int .u64 wa, .int .u64 X] 140
      clear hS hnote p1
      go_wp2_with fail
      generalize w1.alloc (.cells #[.int .i64 xgn, .int .i64 xsa, .int .i64 xsp, .int .i64 xth, .bool xdm, .int .i64 xwy, .int .u64 wa, .int .u64 X] 140) = W2 at *
      generalize w1.heap.size = B at *
      clear d0 d1 d2 d3 d4 d5 d6 d7 c1
      have p2 : RefTab W2 y g x hs ws := hSB.get (j + 1) hjj
      have c2 : W2.cell? ⟨y, 1, none⟩ = some (.slice (some ⟨g, 0, none⟩) hs.length hs.length) := cell_of_heap p2.tab
      obtain ⟨t0, t1, t2, t3, t4, t5, t6, t7⟩ := p2.cell hm
      have b0 : W2.cell? ⟨B, 0, none⟩ = some (.int .i64 xgn) := hSB.cell 0 rfl 0
      have l0 : W2.frozen? ⟨g, m * 8, none⟩ = false := frozen_of_heap p2.cells
      have b1 : W2.cell? ⟨B, 1, none⟩ = some (.int .i64 xsa) := hSB.cell 0 rfl 1
      have l1 : W2.frozen? ⟨g, m * 8 + 1, none⟩ = false := frozen_of_heap p2.cells
      have b2 : W2.cell? ⟨B, 2, none⟩ = some (.int .i64 xsp) := hSB.cell 0 rfl 2
      have l2 : W2.frozen? ⟨g, m * 8 + 2, none⟩ = false := frozen_of_heap p2.cells
      have b3 : W2.cell? ⟨B, 3, none⟩ = some (.int .i64 xth) := hSB.cell 0 rfl 3
      have l3 : W2.frozen? ⟨g, m * 8 + 3, none⟩ = false := frozen_of_heap p2.cells
      have b4 : W2.cell? ⟨B, 4, none⟩ = some (.bool xdm) := hSB.cell 0 rfl 4
      have l4 : W2.frozen? ⟨g, m * 8 + 4, none⟩ = false := frozen_of_heap p2.cells
      have b5 : W2.cell? ⟨B, 5, none⟩ = some (.int .i64 xwy) := hSB.cell 0 rfl 5
      have l5 : W2.frozen? ⟨g, m * 8 + 5, none⟩ = false := frozen_of_heap p2.cells
      have b6 : W2.cell? ⟨B, 6, none⟩ = some (.int .u64 wa) := hSB.cell 0 rfl 6
      have l6 : W2.frozen? ⟨g, m * 8 + 6, none⟩ = false := frozen_of_heap p2.cells
      have b7 : W2.cell? ⟨B, 7, none⟩ = some (.int .u64 X) := hSB.cell 0 rfl 7
      have l7 : W2.frozen? ⟨g, m * 8 + 7, none⟩ = false := frozen_of_heap p2.cells
      have n1 : ¬ g = B := hSB.ne (j + 1) 0 hjj rfl (by omega) (by simp [refI]) (by simp [boxI])
      have n2 : ¬ B = g := fun e => n1 e.symm
      have n3 : ¬ y = g := p2.yg
      have HS : Hid (St o ((its.set i (meterI 60 (some x) (s.note 4 ((m * 2 + 1 : Nat) : Int) 2 true) v')).set j (refI y g x hs (ws.set (m * 2 + 1) X))) ((((((((W2.setCell ⟨g, m * 8, none⟩ (.int .i64 xgn)).setCell ⟨g, m * 8 + 1, none⟩ (.int .i64 xsa)).setCell ⟨g, m * 8 + 2, none⟩ (.int .i64 xsp)).setCell ⟨g, m * 8 + 3, none⟩ (.int .i64 xth)).setCell ⟨g, m * 8 + 4, none⟩ (.bool xdm)).setCell ⟨g, m * 8 + 5, none⟩ (.int .i64 xwy)).setCell ⟨g, m * 8 + 6, none⟩ (.int .u64 wa)).setCell ⟨g, m * 8 + 7, none⟩ (.int .u64 X))) := by
        have := (St.refWords hSB (j + 1) hjj hm 1 (by omega) X wa X (by rw [if_neg (by omega)]; exact HA.out.symm) (by rw [if_pos rfl])).pop
        simp only [HX.out] at this
        exact this
      clear hSB p2 hjj hthere
      go_region
      all_goals
        go_wp2
        go_ret
        exact ⟨rfl, v', by first | exact HS.out.drew | exact HS.out⟩
  · simp only [e2]
    have HS : Hid (St o its w) := h
    rcases hasWd_parts e1 with q | ⟨q, q1⟩ | ⟨q, q1, q2⟩
    all_goals
      rw [q] at hthere
      go_enter Tryz.func38, Tryz.ntmps38
      go_wp2_with (go_at_call 67; refine hthere.mono ?_; rintro e w' ⟨rfl, rfl⟩)
      go_ret
      refine ⟨rfl, v, ?_⟩
      rw [set_back hi, set_back hj]
      exact HS.out

set_option maxRecDepth 100000 in
set_option maxHeartbeats 1000000 in
theorem same_slots (ga gb ca cb n : Nat) (ss : List Sl) (w : World) (ha : w.ownsRow 0 140 8 (.slice (some ⟨ga, 0, none⟩) n ca) n (slCells ss)) (hb : w.ownsRow 0 140 8 (.slice (some ⟨gb, 0, none⟩) n cb) n (slCells ss)) (hss : ss.length = n) (n8 : n ≤ 8) :
    Calls Tryz.prog 78 #[.slice (some ⟨ga, 0, none⟩) n ca, .slice (some ⟨gb, 0, none⟩) n cb] w fun e w' => e = .returned (.bool true) ∧ ∃ k, w' = w.drewN k := by
  have hnn : ((n : Int) != (n : Int)) = false := by simp
  have hl8 : (n : Int) ≤ 8 := by omega
  go_enter Tryz.func78, Tryz.ntmps78
  go_wp2
  go_loopw [5] (fun i wr => ∃ j q : Nat, i = .int .i64 j ∧ j ≤ n ∧ wr = w.drewN q) (fun i _ => n - (intOf i).toNat)
  case atStart => exact ⟨0, 0, rfl, Nat.zero_le _, rfl⟩
  case round =>
    obtain ⟨j, q, rfl, hj, rfl⟩ := hrel
    by_cases hlt : j < n
    · obtain ⟨sl, hsl⟩ : ∃ sl, ss[j]? = some sl := ⟨_, List.getElem?_eq_getElem (by omega)⟩
      obtain ⟨p0, p1, p2, p3, p4, p5, p6, p7⟩ := told_cells ha hlt hsl
      obtain ⟨q0, q1, q2, q3, q4, q5, q6, q7⟩ := told_cells hb hlt hsl
      obtain ⟨sgn, ssa, ssp, sth, sdm, swy, swa, swb⟩ := sl
      simp only at p0 p1 p2 p3 p4 p5 p6 p7 q0 q1 q2 q3 q4 q5 q6 q7
      have hE := eqSlot sgn ssa ssp sth sdm swy swa swb
      have h0 : (0 : Int) ≤ (j : Int) := Int.natCast_nonneg _
      have h1 : (j : Int) < (n : Int) := by omega
      clear hsl
      go_wp2_with fail
      go_quiet (fail)
      go_wp2
      go_roundw
      case rel => exact ⟨j + 1, _, by go_num, by omega, rfl⟩
      case measure => simp [intOf]; omega
    · have h1 : ¬ (j : Int) < (n : Int) := by omega
      go_wp2
      go_ret
      exact ⟨rfl, q, rfl⟩
theorem RefTab.own {w : World} {y g x : Nat} {hs : List Hd} {ws : List Int} (h : RefTab w y g x hs ws) : w.ownsRow 0 140 8 (.slice (some ⟨g, 0, none⟩) hs.length hs.length) hs.length (slCells (slots hs ws)) := by
  have hx : (slCells (slots hs ws)).length = hs.length * 8 := by rw [slCells_length, slots_length hs ws h.wn]
  exact ⟨hx, .inr ⟨g, hs.length, (slCells (slots hs ws)).toArray, rfl, Nat.zero_le _, h.cells, Nat.le_refl _, by have := h.n8; unfold maxLen; omega, by simpa using hx, by rw [List.toList_toArray, ← hx, List.take_length]⟩⟩
end Go.Proofs.YtpjhljfcoejndaaGreat

