/- Verify. -/
import Derived.Test.YtmoekoilcdkhfabGreatDoorVfE
namespace Go.Proofs.YtmoekoilcdkhfabGreatDoor
open Go.RowKit
set_option linter.unusedVariables false
set_option linter.unusedSimpArgs false
attribute [local go_sem ↓] Go.wp_at_zero Go.wp_at_succ

theorem spCells_at (l : List Spt) (j : Nat) (hj : j < l.length) : (spCells l)[j * 4]? = some (.int .i64 (l.getD j Spt.zero).p) ∧ (spCells l)[j * 4 + 1]? = some (.int .i64 (l.getD j Spt.zero).s.d) ∧ (spCells l)[j * 4 + 2]? = some (.bool (l.getD j Spt.zero).s.i) ∧ (spCells l)[j * 4 + 3]? = some (.int .i64 (l.getD j Spt.zero).s.b) := by
  induction l generalizing j with
  | nil => simp at hj
  | cons x l ih =>
    cases j with
    | zero => exact ⟨rfl, rfl, rfl, rfl⟩
    | succ j =>
      have h := ih j (by simpa using hj)
      have e1 : (j + 1) * 4 = j * 4 + 1 + 1 + 1 + 1 := by omega
      rw [e1]
      refine ⟨by simpa [spCells, Spt.cells] using h.1, by simpa [spCells, Spt.cells] using h.2.1, by simpa [spCells, Spt.cells] using h.2.2.1, by simpa [spCells, Spt.cells] using h.2.2.2⟩
theorem runV_step (L : List Ins) (k : Nat) (V : Vst) : runV L (k + 1) V = stepV L (runV L k V) := by
  rw [runV_add L k 1 V]
  rfl
end Go.Proofs.YtmoekoilcdkhfabGreatDoor
