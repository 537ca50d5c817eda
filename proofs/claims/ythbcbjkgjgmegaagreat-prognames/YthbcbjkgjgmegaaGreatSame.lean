/- The document's Same answers true of two lists of the same accesses. -/
import Derived.Test.YthbcbjkgjgmegaaGreatSmall
import Derived.BigQuiet
import Derived.Deep.DrawnRows
namespace Go.Proofs.YthbcbjkgjgmegaaGreat
open Go.RowKit
set_option linter.unusedVariables false
set_option linter.unusedSimpArgs false
attribute [local go_sem ↓] Go.wp_at_zero Go.wp_at_succ

theorem log_cells (l : List Acc) : ∀ j (hj : j < l.length), (logCells l)[j * 6]? = some (.int .i64 l[j].st) ∧ (logCells l)[j * 6 + 1]? = some (.int .i64 l[j].th) ∧ (logCells l)[j * 6 + 2]? = some (.int .i64 l[j].kind) ∧ (logCells l)[j * 6 + 3]? = some (.int .i64 l[j].at_) ∧ (logCells l)[j * 6 + 4]? = some (.int .i64 l[j].op) ∧ (logCells l)[j * 6 + 5]? = some (.bool l[j].ok) := by
  induction l with
  | nil => intro j hj; simp at hj
  | cons a l ih =>
    intro j hj
    cases j with
    | zero => simp [logCells, Acc.cells]
    | succ j =>
      have := ih j (by simpa using hj)
      have e : ∀ t, (logCells (a :: l))[(j + 1) * 6 + t]? = (logCells l)[j * 6 + t]? := fun t => by
        rw [show (j + 1) * 6 + t = 6 + (j * 6 + t) by omega]
        simp only [logCells]
        rw [List.getElem?_append_right (by simp [Acc.cells])]
        simp [Acc.cells]
      have e0 := e 0
      simp only [Nat.add_zero] at e0
      rw [e0, e 1, e 2, e 3, e 4, e 5]
      simpa using this
theorem own_shape {w : World} {b : Nat} {e : TypeId} {z : Nat} {v : Value} {n : Nat} {xs : List Value} (h : w.ownsRow b e z v n xs) : ∃ a cap, v = .slice a n cap := by
  rcases h.2 with ⟨hv, hn⟩ | ⟨g, cap, cur, hv, _⟩
  · exact ⟨none, 0, by rw [hv, hn]⟩
  · exact ⟨_, _, hv⟩

theorem Kept.drewN {F : Nat → Prop} {a w : World} (h : Kept F a w) (k : Nat) : Kept F a (w.drewN k) := ⟨h.os, h.tape, h.output, h.size, h.block⟩
end Go.Proofs.YthbcbjkgjgmegaaGreat
