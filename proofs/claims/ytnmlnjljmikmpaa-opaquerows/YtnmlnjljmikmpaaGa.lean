/- Package ghost: looksOut, writes, commits, aborts, mayBe, moveOf, newBook. -/
import Derived.Test.YtnmlnjljmikmpaaGm
import Derived.BigQuiet
import Derived.Deep.RegionHeld3
import Derived.WalkKit
import Derived.Deep.DrawnRows
import Derived.Deep.CutBlock
import Derived.Deep.RegionWith
import Derived.TacticsInMore
namespace Go.Proofs.Ytnmlnjljmikmpaa
open Go.RowKit
set_option linter.unusedVariables false
set_option linter.unusedSimpArgs false
attribute [local go_sem ↓] Go.wp_at_zero Go.wp_at_succ

/-- A move that reads what others left. -/
def Mv.out (m : Mv) : Bool := !m.wr && !m.ow
theorem looksOut_any (m : Mv) (w : World) : Calls Try.prog 58 #[mvV m] w fun e w' => e = .returned (.bool m.out) ∧ Kept (fun _ => False) w w' := by
  obtain ⟨a, b, c, d, e, f⟩ := m
  have HK := hid (kept_alloc w (.cells #[.int .i64 a, .bool b, .int .i64 c, .int .i64 d, .bool e, .int .i64 f] 46))
  unfold Mv.out mvV
  simp only
  cases b <;> cases e <;>
  · go_enter Try.func58, Try.ntmps58
    go_wp2
    go_ret
    exact ⟨rfl, HK.out⟩
theorem writes_any (m : Mv) (w : World) : Calls Try.prog 56 #[mvV m] w fun e w' => e = .returned (.bool m.wr) ∧ Kept (fun _ => False) w w' := by
  obtain ⟨a, b, c, d, e, f⟩ := m
  have HK := hid (kept_alloc w (.cells #[.int .i64 a, .bool b, .int .i64 c, .int .i64 d, .bool e, .int .i64 f] 46))
  unfold mvV
  simp only
  go_enter Try.func56, Try.ntmps56
  go_wp2
  go_ret
  exact ⟨rfl, HK.out⟩
theorem commits_any (m : Sm) (w : World) : Calls Try.prog 54 #[syV m] w fun e w' => e = .returned (.bool (m.s.ft == 1)) ∧ Kept (fun _ => False) w w' := by
  obtain ⟨⟨a, b, c, d, e, f, g, h, i, ms⟩, la, lc⟩ := m
  have HK := hid (kept_alloc w (.cells #[.int .i64 a, .int .i64 b, .int .i64 c, .int .i64 d, .int .i64 e, .int .i64 f, .int .i64 g, .int .i64 h, .int .i64 i, .slice la ms.length lc] 44))
  unfold syV
  simp only
  go_enter Try.func54, Try.ntmps54
  go_wp2
  go_ret
  exact ⟨rfl, HK.out⟩
end Go.Proofs.Ytnmlnjljmikmpaa
