/- Meters' small functions: a new one, Begin, Steps, Done, Most, Log; and the document's Begin. -/
import Derived.Test.YtgjmamgohidbiabGreatMeter
import Derived.Test.YtgjmamgohidbiabGreatGrow
import Derived.Laws.MakeOwn
import Derived.Laws.OwnMore
namespace Go.Proofs.YtgjmamgohidbiabGreat
open Go.RowKit
set_option linter.unusedVariables false
set_option linter.unusedSimpArgs false

theorem newMeter_st {o w : World} {its : List It} (h : St o its w) :
    Calls Tryz.prog 43 #[] w fun e w' => e = .returned (.pointer (some ⟨w.heap.size, 0, none⟩)) ∧ St o (meterI 146 (some w.heap.size) Mt.zero (.slice none 0 0) :: its) w' ∧ w'.heap.size = w.heap.size + 1 := by
  have hS : Hid (St o (meterI 146 (some w.heap.size) Mt.zero (.slice none 0 0) :: its) (w.alloc (.cells #[.int .i64 0, .int .i64 0, .int .i64 0, .int .i64 0, .slice none 0 0] 146))) :=
    h.push (meterI 146 (some w.heap.size) Mt.zero (.slice none 0 0)) (kept_alloc w _) ⟨heap_alloc_new w _, World.ownsRow_nil _ _ _ _, by simp [Value.ownBlock]⟩ (by simp [meterI, Value.ownBlock]) (by simp [meterI, Value.ownBlock])
  go_enter Tryz.func43, Tryz.ntmps43
  go_wp2
  go_ret
  exact ⟨rfl, hS.out, by simp⟩

end Go.Proofs.YtgjmamgohidbiabGreat
