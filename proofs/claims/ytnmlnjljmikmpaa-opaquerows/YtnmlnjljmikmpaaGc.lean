/- Package ghost: end. -/
import Derived.Test.YtnmlnjljmikmpaaGb

namespace Go.Proofs.Ytnmlnjljmikmpaa
open Go.RowKit Go.MapKept
open Go.Maps (Keyed)
set_option linter.unusedVariables false
set_option linter.unusedSimpArgs false
attribute [local go_sem ↓] Go.wp_at_zero Go.wp_at_succ

/-- A list of stories of the call's own. -/
abbrev sI (g cap : Nat) (L : List Sm) : It := ownI 44 10 (.slice (some ⟨g, 0, none⟩) L.length cap) L.length (fl sC L)
theorem sC_len (m : Sm) : (sC m).length = 10 := rfl
theorem st_cell {o w : World} {its : List It} (h : St o its w) (i : Nat) {g cap : Nat} {L : List Sm} (hi : its[i]? = some (sI g cap L)) {p : Nat} {m : Sm} (hm : L[p]? = some m) (c : Nat) (hc : c < 10) : w.cell? ⟨g, p * 10 + c, none⟩ = (sC m)[c]? ∧ w.frozen? ⟨g, p * 10 + c, none⟩ = false := by
  have hp := (List.getElem?_eq_some_iff.1 hm).1
  exact ⟨(h.ownCell i hi (p * 10 + c) (by omega)).trans (fl_at (k := 10) sC_len L p c m hc hm), h.ownFrozen i hi _⟩
theorem st_turn {o w : World} {its : List It} (h : St o its w) (i : Nat) {g cap : Nat} {L : List Sm} (hi : its[i]? = some (sI g cap L)) {p : Nat} {m : Sm} (hm : L[p]? = some m) (m' : Sm) (c : Nat) (hc : c < 10) (u : Value) (he : sC m' = (sC m).set c u) : St o (its.set i (sI g cap (L.set p m'))) (w.setCell ⟨g, p * 10 + c, none⟩ u) ∧ (L.set p m')[p]? = some m' ∧ (its.set i (sI g cap (L.set p m')))[i]? = some (sI g cap (L.set p m')) := by
  have hp := (List.getElem?_eq_some_iff.1 hm).1
  refine ⟨?_, by simp [hp], set_self hi⟩
  have := r_set (f := sC) (k := 10) sC_len h i hi rfl hm c hc u he
  simpa [sI] using this
end Go.Proofs.Ytnmlnjljmikmpaa
