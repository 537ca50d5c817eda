/- The number of a state, what is amiss, the state behind. -/
import Derived.Test.YtdfefjalamohjabGreatDoorVfM
import Derived.Test.YtdfefjalamohjabGreatDoorTb
namespace Go.Proofs.YtdfefjalamohjabGreatDoor
open Go.RowKit
set_option linter.unusedVariables false
set_option linter.unusedSimpArgs false

theorem hidV {p : Prop} (h : p) : Hid p := h
def Row.val (r : Row) : Value := .agg #[.string r.word, .int .i64 r.takes, .int .i64 r.pops, .int .i64 r.pushes, .int .i64 r.whr]
/-- Numbers of a row. -/
structure Row.ok (r : Row) : Prop where
  p0 : 0 ≤ r.pops
  p1 : r.pops ≤ 2
  q0 : 0 ≤ r.pushes
  q1 : r.pushes ≤ 2
theorem rowOk : ∀ n : Nat, n < 23 → (rowOf (n : Nat)).ok
  | 0, _ => ⟨by decide, by decide, by decide, by decide⟩
  | 1, _ => ⟨by decide, by decide, by decide, by decide⟩
  | 2, _ => ⟨by decide, by decide, by decide, by decide⟩
  | 3, _ => ⟨by decide, by decide, by decide, by decide⟩
  | 4, _ => ⟨by decide, by decide, by decide, by decide⟩
  | 5, _ => ⟨by decide, by decide, by decide, by decide⟩
  | 6, _ => ⟨by decide, by decide, by decide, by decide⟩
  | 7, _ => ⟨by decide, by decide, by decide, by decide⟩
  | 8, _ => ⟨by decide, by decide, by decide, by decide⟩
  | 9, _ => ⟨by decide, by decide, by decide, by decide⟩
  | 10, _ => ⟨by decide, by decide, by decide, by decide⟩
  | 11, _ => ⟨by decide, by decide, by decide, by decide⟩
  | 12, _ => ⟨by decide, by decide, by decide, by decide⟩
  | 13, _ => ⟨by decide, by decide, by decide, by decide⟩
  | 14, _ => ⟨by decide, by decide, by decide, by decide⟩
  | 15, _ => ⟨by decide, by decide, by decide, by decide⟩
  | 16, _ => ⟨by decide, by decide, by decide, by decide⟩
  | 17, _ => ⟨by decide, by decide, by decide, by decide⟩
  | 18, _ => ⟨by decide, by decide, by decide, by decide⟩
  | 19, _ => ⟨by decide, by decide, by decide, by decide⟩
  | 20, _ => ⟨by decide, by decide, by decide, by decide⟩
  | 21, _ => ⟨by decide, by decide, by decide, by decide⟩
  | 22, _ => ⟨by decide, by decide, by decide, by decide⟩
  | n + 23, h => absurd h (by omega)
end Go.Proofs.YtdfefjalamohjabGreatDoor
