/- Package ghost: Reads. -/
import Derived.Test.YtnmlnjljmikmpaaGh
import Derived.Test.YtnmlnjljmikmpaaRg
namespace Go.Proofs.Ytnmlnjljmikmpaa
open Go.RowKit Go.Shelf
set_option linter.unusedVariables false
set_option linter.unusedSimpArgs false
attribute [local go_sem ↓] Go.wp_at_zero Go.wp_at_succ
attribute [local go_sem] Oper.semAt_some

/-- A story, its moves in memory. -/
def SIn (w : World) (m : Sm) : Prop := RIn mC w m.la m.s.ms.length m.s.ms ∧ m.s.ms.length ≤ 2932031007317 ∧ ∀ x ∈ m.s.ms, -9223372036854775808 ≤ x.ce ∧ x.ce ≤ 9223372036854775807
def rdM (ms : List Mv) : List Pr := (ms.filter Mv.out).map fun m => (m.ce, m.x)
theorem buildP (W : World) (a b : Int) : (Instr.buildSlice 65 1 #[(0, .agg #[.int .i64 a, .int .i64 b])]).run Try.prog W = .ok (.slice (some ⟨W.heap.size, 0, none⟩) 1 1) (W.alloc (.cells #[.int .i64 a, .int .i64 b] 86)) := by kernel_rfl
end Go.Proofs.Ytnmlnjljmikmpaa
