/- The document's Reads, Writer, Point; samePairs. -/
import Derived.Test.YtnmlnjljmikmpaaGj
import Derived.Test.YtnmlnjljmikmpaaGk
namespace Go.Proofs.Ytnmlnjljmikmpaa
open Go.RowKit Go.Shelf
set_option linter.unusedVariables false
set_option linter.unusedSimpArgs false
attribute [local go_sem ↓] Go.wp_at_zero Go.wp_at_succ

theorem take_nextM {α : Type} {l : List α} {j : Nat} {x : α} (h : l[j]? = some x) : l.take (j + 1) = l.take j ++ [x] := by
  rw [List.take_add_one, h]; rfl
theorem rdM_next {ms : List Mv} {j : Nat} {x : Mv} (h : ms[j]? = some x) : rdM (ms.take (j + 1)) = rdM (ms.take j) ++ (if x.out = true then [(x.ce, x.x)] else []) := by
  rw [take_nextM h]
  unfold rdM
  rw [List.filter_append, List.map_append]
  by_cases e : x.out = true
  · simp [e]
  · simp [e]
end Go.Proofs.Ytnmlnjljmikmpaa
