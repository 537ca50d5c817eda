/- The document's Mod, and its Sum at mod. The document's own machine: one step. -/
import Derived.Test.YtbpilhjomfkpaaaGreatDoorOwB
import Derived.Deep.RegionLaw
namespace Go.Proofs.YtbpilhjomfkpaaaGreatDoor
open Go.RowKit
set_option linter.unusedVariables false
set_option linter.unusedSimpArgs false
attribute [local go_sem ↓] Go.wp_at_zero Go.wp_at_succ

theorem modO_eq {a b : Int} (hb : 1 ≤ b) (hb2 : b ≤ 1000000) : modO a b = a % b := by
  unfold modO
  rw [if_neg (by omega)]
  have h1 := Int.tmod_lt_of_pos a (show (0 : Int) < b by omega)
  have h2 := Int.lt_tmod_of_pos a (show (0 : Int) < b by omega)
  have h3 := Int.emod_nonneg a (show b ≠ 0 by omega)
  have h4 := Int.emod_lt_of_pos a (show (0 : Int) < b by omega)
  by_cases ha : 0 ≤ a
  · have e := Int.tmod_eq_emod_of_nonneg (b := b) ha
    rw [if_neg (by omega), e]
  · have e := Int.tmod_eq_emod (a := a) (b := b)
    by_cases hd : b ∣ a
    · have e2 : a.tmod b = a % b := by rw [e, if_pos (.inr hd)]; simp
      rw [if_neg (by omega), e2]
    · have e2 : a.tmod b = a % b - b := by
        rw [e, if_neg (by simp only [not_or]; exact ⟨ha, hd⟩)]
        omega
      have h5 : a.tmod b < 0 := by omega
      rw [if_pos h5, e2]
      unfold wrap64
      omega
theorem Mod_any {a b : Int} (ha : -1000000 ≤ a) (ha2 : a ≤ 1000000) (hb : 1 ≤ b) (hb2 : b ≤ 1000000) (w : World) : Calls Tryz.prog 79 #[.int .i64 a, .int .i64 b] w fun e w' => e = .returned (.int .i64 (modO a b)) ∧ w' = w := by
  have h1 := Int.tmod_lt_of_pos a (show (0 : Int) < b by omega)
  have h2 := Int.lt_tmod_of_pos a (show (0 : Int) < b by omega)
  have t0 : decide (b < 1) = false := decide_eq_false (by omega)
  have hb0 : ¬ b = 0 := by omega
  have hbz : (b == 0) = false := by simp; omega
  have hwr : IntKind.i64.wrap (a.tmod b) = a.tmod b := by rw [IntKind.wrap_i64]; omega
  by_cases hn : a.tmod b < 0
  · have hm : modO a b = a.tmod b + b := by
      unfold modO
      rw [if_neg (by omega), if_pos hn]
      unfold wrap64
      omega
    rw [hm]
    have t1 : decide (a.tmod b < 0) = true := decide_eq_true hn
    clear hm hn
    go_enter Tryz.func79, Tryz.ntmps79
    go_wp2
    go_ret
    exact ⟨rfl, rfl⟩
  · have hm : modO a b = a.tmod b := by
      unfold modO
      rw [if_neg (by omega), if_neg hn]
    rw [hm]
    have t1 : decide (a.tmod b < 0) = false := decide_eq_false hn
    clear hm hn
    go_enter Tryz.func79, Tryz.ntmps79
    go_wp2
    go_ret
    exact ⟨rfl, rfl⟩
theorem Sum_10 {a b : Int} (ha : -1000000 ≤ a) (ha2 : a ≤ 1000000) (hb : 1 ≤ b) (hb2 : b ≤ 1000000) (w : World) : Calls Tryz.prog 58 #[.int .i64 10, .int .i64 a, .int .i64 b] w fun e w' => e = .returned (.int .i64 (sumO 10 a b)) ∧ w' = w := by
  have hm := Mod_any ha ha2 hb hb2 w
  have e : sumO 10 a b = modO a b := by simp [sumO]
  rw [e]
  go_enter Tryz.func58, Tryz.ntmps58
  go_wp2_with (go_at_call 79; refine hm.mono ?_; rintro e w' ⟨rfl, rfl⟩)
  go_ret
  exact ⟨rfl, rfl⟩
end Go.Proofs.YtbpilhjomfkpaaaGreatDoor

namespace Go.Proofs.YtbpilhjomfkpaaaGreatDoor
open Go.RowKit Go.Deep
set_option linter.unusedVariables false
set_option linter.unusedSimpArgs false
attribute [local go_sem ↓] Go.wp_at_zero Go.wp_at_succ

section
variable {b w : World} {X : Nat} {V : OwV} {o : Ow} {R : List It}
theorem OwAt.box (h : OwAt b X V o R w) (cs : Array Value) (t : TypeId) : OwAt b X V o (boxI w.heap.size cs t :: R) (w.alloc (.cells cs t)) := by
  refine ⟨?_, h.loc, h.sv⟩
  have s1 := h.st.box cs t
  refine s1.perm ?_
  exact (List.Perm.swap _ _ _).trans (List.Perm.cons _ (List.perm_middle (l₁ := owR V o) (l₂ := R) (a := boxI w.heap.size cs t)).symm)
theorem OwAt.popR {B : It} (h : OwAt b X V o (B :: R) w) : OwAt b X V o R w := by
  refine ⟨?_, h.loc, h.sv⟩
  have s1 := h.st.perm (List.Perm.cons _ (List.perm_middle (l₁ := owR V o) (l₂ := R) (a := B)))
  exact (s1.perm (List.Perm.swap _ _ _)).pop
theorem OwAt.rCell {k : Nat} {cs : Array Value} {t : TypeId} (h : OwAt b X V o (boxI k cs t :: R) w) (j : Nat) : w.cell? ⟨k, j, none⟩ = cs[j]? := h.st.cell 6 rfl j
theorem OwAt.rFrz {k : Nat} {cs : Array Value} {t : TypeId} (h : OwAt b X V o (boxI k cs t :: R) w) (j : Nat) : w.frozen? ⟨k, j, none⟩ = false := h.st.frozen 6 rfl j
theorem OwAt.rSet {k : Nat} {cs : Array Value} {t : TypeId} (h : OwAt b X V o (boxI k cs t :: R) w) (j : Nat) (u : Value) : OwAt b X V o (boxI k (cs.setIfInBounds j u) t :: R) (w.setCell ⟨k, j, none⟩ u) := ⟨h.st.write 6 rfl j u, h.loc, h.sv⟩
theorem owL_late (hl : o.loc.length = 8) (j : Nat) : (owL V o)[11 + j]? = ([V.t, V.h, .bool o.inside, .bool o.done, .int .i64 o.e, .int .i64 o.tried, V.r] ++ V.sv)[j]? := by
  unfold owL
  rw [List.getElem?_append_right (by simp; omega), List.getElem?_append_right (by rw [xC_length, hl]; simp; omega), xC_length, hl]
  congr 1
  simp
  omega
theorem OwAt.late (h : OwAt b X V o R w) (j : Nat) {v : Value} (hj : ([V.t, V.h, .bool o.inside, .bool o.done, .int .i64 o.e, .int .i64 o.tried, V.r] ++ V.sv)[j]? = some v) : w.cell? ⟨X, 11 + j, none⟩ = some v := h.at _ ((owL_late h.loc j).trans hj)
theorem OwAt.lcl (h : OwAt b X V o R w) (j : Nat) (hj : j < 8) : w.cell? ⟨X, 3 + j, none⟩ = some (.int .i64 (o.loc.getD j 0)) := by
  refine h.at _ ?_
  unfold owL
  rw [List.getElem?_append_right (by simp), List.getElem?_append_left (by rw [xC_length, h.loc]; simp; omega)]
  rw [show 3 + j - [V.c, .int .i64 o.place, V.s].length = j by simp]
  exact xC_at o.loc j (by rw [h.loc]; exact hj)
/-- A value is laid on the stack: what an append leaves, and the slice that is written. -/
theorem OwAt.pushS (h : OwAt b X V o R w) {z : Int} {g2 cap2 : Nat} {w1 : World} {ob : Obj} (p1 : w1.ownsRow 0 2 1 (.slice (some ⟨g2, 0, none⟩) (o.stack.length + 1) cap2) (o.stack.length + 1) (xC o.stack ++ [.int .i64 z])) (p2 : (w.alloc ob).grownBy w1 V.s.ownBlock) (p3 : V.s.ownBlock = some g2 ∨ g2 = w.heap.size + 1) :
    OwAt b X { V with s := .slice (some ⟨g2, 0, none⟩) (o.stack.length + 1) cap2 } { o with stack := o.stack ++ [z] } R (w1.setCell ⟨X, 2, none⟩ (.slice (some ⟨g2, 0, none⟩) (o.stack.length + 1) cap2)) := by
  have s1 := h.st.growAt 1 rfl p1 p2 p3
  have s2 := s1.write 0 rfl 2 (.slice (some ⟨g2, 0, none⟩) (o.stack.length + 1) cap2)
  refine ⟨?_, h.loc, h.sv⟩
  have e : ownI 2 1 (.slice (some ⟨g2, 0, none⟩) (o.stack.length + 1) cap2) (o.stack.length + 1) (xC o.stack ++ [.int .i64 z]) = ownI 2 1 (.slice (some ⟨g2, 0, none⟩) (o.stack.length + 1) cap2) (o.stack ++ [z]).length (xC (o.stack ++ [z])) := by
    simp [xC]
  rw [e] at s2
  exact s2
/-- The same behind a draw, with what the old slice's cell holds till then. -/
theorem OwAt.pushD (h : OwAt b X V o R w) {z : Int} {g2 cap2 : Nat} {w1 : World} {ob : Obj} (p1 : w1.ownsRow 0 2 1 (.slice (some ⟨g2, 0, none⟩) (o.stack.length + 1) cap2) (o.stack.length + 1) (xC o.stack ++ [.int .i64 z])) (p2 : ((w.alloc ob).drew).grownBy w1 V.s.ownBlock) (p3 : V.s.ownBlock = some g2 ∨ g2 = w.heap.size + 1) :
    OwAt b X { V with s := .slice (some ⟨g2, 0, none⟩) (o.stack.length + 1) cap2 } { o with stack := o.stack ++ [z] } R (w1.setCell ⟨X, 2, none⟩ (.slice (some ⟨g2, 0, none⟩) (o.stack.length + 1) cap2)) ∧ w1.cell? ⟨X, 2, none⟩ = some V.s ∧ w1.frozen? ⟨X, 2, none⟩ = false := by
  have s1 := h.st.growAtD 1 rfl p1 p2 p3
  have s2 := s1.write 0 rfl 2 (.slice (some ⟨g2, 0, none⟩) (o.stack.length + 1) cap2)
  refine ⟨⟨?_, h.loc, h.sv⟩, s1.cell 0 rfl 2, s1.frozen 0 rfl 2⟩
  have e : ownI 2 1 (.slice (some ⟨g2, 0, none⟩) (o.stack.length + 1) cap2) (o.stack.length + 1) (xC o.stack ++ [.int .i64 z]) = ownI 2 1 (.slice (some ⟨g2, 0, none⟩) (o.stack.length + 1) cap2) (o.stack ++ [z]).length (xC (o.stack ++ [z])) := by
    simp [xC]
  rw [e] at s2
  exact s2
theorem OwAt.setPlace (h : OwAt b X V o R w) (p : Int) : OwAt b X V { o with place := p } R (w.setCell ⟨X, 1, none⟩ (.int .i64 p)) := ⟨h.st.write 0 rfl 1 (.int .i64 p), h.loc, h.sv⟩
theorem OwAt.stkForm (h : OwAt b X V o R w) : ∃ sa sc, V.s = .slice sa o.stack.length sc ∧ o.stack.length ≤ maxLen := by
  obtain ⟨la, lc, e, _⟩ := own_xin h.stk
  refine ⟨la, lc, e, ?_⟩
  rcases h.stk.2 with ⟨_, hn⟩ | ⟨g, cap, cur, _, _, _, hc, hm, _⟩
  · omega
  · omega
theorem OwAt.setLoc (h : OwAt b X V o R w) (j : Nat) (hj : j < 8) (v : Int) : OwAt b X V { o with loc := o.loc.set j v } R (w.setCell ⟨X, 3 + j, none⟩ (.int .i64 v)) := by
  have s1 := h.st.write 0 rfl (3 + j) (.int .i64 v)
  refine ⟨?_, by show (o.loc.set j v).length = 8; rw [List.length_set]; exact h.loc, h.sv⟩
  have e : (owL V o).toArray.setIfInBounds (3 + j) (.int .i64 v) = (owL V { o with loc := o.loc.set j v }).toArray := by
    rw [List.setIfInBounds_toArray]
    congr 1
    unfold owL
    rw [List.set_append_right _ _ (by simp), List.set_append_left _ _ (by rw [xC_length, h.loc]; simp; omega)]
    rw [show 3 + j - [V.c, .int .i64 o.place, V.s].length = j by simp, xC_set]
  rw [e] at s1
  exact s1
/-- One of the later cells is written. -/
theorem owL_setLate (hl : o.loc.length = 8) (j : Nat) (v : Value) : (owL V o).set (11 + j) v = [V.c, .int .i64 o.place, V.s] ++ (xC o.loc ++ ([V.t, V.h, .bool o.inside, .bool o.done, .int .i64 o.e, .int .i64 o.tried, V.r] ++ V.sv).set j v) := by
  unfold owL
  rw [List.set_append_right _ _ (by simp; omega), List.set_append_right _ _ (by rw [xC_length, hl]; simp; omega), xC_length, hl]
  congr 3
  simp
  omega
/-- A value is told within an attempt. -/
theorem OwAt.holdD (h : OwAt b X V o R w) {z : Int} {g2 cap2 : Nat} {w1 : World} {ob : Obj} (p1 : w1.ownsRow 0 2 1 (.slice (some ⟨g2, 0, none⟩) (o.held.length + 1) cap2) (o.held.length + 1) (xC o.held ++ [.int .i64 z])) (p2 : ((w.alloc ob).drew).grownBy w1 V.h.ownBlock) (p3 : V.h.ownBlock = some g2 ∨ g2 = w.heap.size + 1) :
    OwAt b X { V with h := .slice (some ⟨g2, 0, none⟩) (o.held.length + 1) cap2 } { o with held := o.held ++ [z] } R (w1.setCell ⟨X, 12, none⟩ (.slice (some ⟨g2, 0, none⟩) (o.held.length + 1) cap2)) ∧ w1.cell? ⟨X, 12, none⟩ = some V.h ∧ w1.frozen? ⟨X, 12, none⟩ = false := by
  have s1 := h.st.growAtD 4 rfl p1 p2 p3
  have s2 := s1.write 0 rfl 12 (.slice (some ⟨g2, 0, none⟩) (o.held.length + 1) cap2)
  have e0 : (owL V o).toArray.setIfInBounds 12 (.slice (some ⟨g2, 0, none⟩) (o.held.length + 1) cap2) = (owL { V with h := .slice (some ⟨g2, 0, none⟩) (o.held.length + 1) cap2 } { o with held := o.held ++ [z] }).toArray := by
    rw [List.setIfInBounds_toArray]
    congr 1
    exact owL_setLate h.loc 1 _
  have e : ownI 2 1 (.slice (some ⟨g2, 0, none⟩) (o.held.length + 1) cap2) (o.held.length + 1) (xC o.held ++ [.int .i64 z]) = ownI 2 1 (.slice (some ⟨g2, 0, none⟩) (o.held.length + 1) cap2) (o.held ++ [z]).length (xC (o.held ++ [z])) := by
    simp [xC]
  refine ⟨⟨?_, h.loc, h.sv⟩, ?_, s1.frozen 0 rfl 12⟩
  · rw [e0, e] at s2
    exact s2
  · rw [s1.cell 0 rfl 12]
    have := (owL_late (V := V) h.loc 1)
    simpa using this
end
end Go.Proofs.YtbpilhjomfkpaaaGreatDoor
