/- Instructions as plain data: the table. No program is named here. -/
import Derived.Test.YtcchflfeomainaaGreatDoorKit
namespace Go.Proofs.YtcchflfeomainaaGreatDoor
open Go.RowKit
set_option linter.unusedVariables false
set_option linter.unusedSimpArgs false
structure Row where
  word : ByteArray
  takes : Int
  pops : Int
  pushes : Int
  whr : Int

def Row.cells (r : Row) : List Value := [.string r.word, .int .i64 r.takes, .int .i64 r.pops, .int .i64 r.pushes, .int .i64 r.whr]

def rowsL : List Row := [⟨⟨#[]⟩, 0, 0, 0, 0⟩, ⟨⟨#[112, 117, 115, 104]⟩, 1, 0, 1, 0⟩, ⟨⟨#[112, 111, 112]⟩, 0, 1, 0, 0⟩, ⟨⟨#[100, 117, 112]⟩, 0, 1, 2, 0⟩, ⟨⟨#[115, 119, 97, 112]⟩, 0, 2, 2, 0⟩, ⟨⟨#[103, 101, 116]⟩, 2, 0, 1, 0⟩, ⟨⟨#[115, 101, 116]⟩, 2, 1, 0, 0⟩, ⟨⟨#[97, 100, 100]⟩, 0, 2, 1, 0⟩, ⟨⟨#[115, 117, 98]⟩, 0, 2, 1, 0⟩, ⟨⟨#[109, 117, 108]⟩, 0, 2, 1, 0⟩, ⟨⟨#[109, 111, 100]⟩, 0, 2, 1, 0⟩, ⟨⟨#[108, 101, 115, 115]⟩, 0, 2, 1, 0⟩, ⟨⟨#[115, 97, 109, 101]⟩, 0, 2, 1, 0⟩, ⟨⟨#[110, 111, 116]⟩, 0, 1, 1, 0⟩, ⟨⟨#[106, 117, 109, 112]⟩, 3, 0, 0, 0⟩, ⟨⟨#[122, 101, 114, 111]⟩, 3, 1, 0, 0⟩, ⟨⟨#[98, 101, 103, 105, 110]⟩, 0, 0, 0, 1⟩, ⟨⟨#[108, 111, 97, 100]⟩, 0, 1, 1, 2⟩, ⟨⟨#[115, 116, 111, 114, 101]⟩, 0, 2, 0, 2⟩, ⟨⟨#[99, 111, 109, 109, 105, 116]⟩, 0, 0, 0, 2⟩, ⟨⟨#[97, 98, 111, 114, 116]⟩, 3, 0, 0, 2⟩, ⟨⟨#[116, 101, 108, 108]⟩, 0, 1, 0, 0⟩, ⟨⟨#[104, 97, 108, 116]⟩, 0, 0, 0, 1⟩]

def Row.none : Row := ⟨⟨#[]⟩, 0, 0, 0, 0⟩

/-- The row of an instruction. -/
def rowOf (op : Int) : Row := rowsL.getD op.toNat Row.none

def tabC : Array Value := #[.string ⟨#[]⟩, .int .i64 0, .int .i64 0, .int .i64 0, .int .i64 0, .string ⟨#[112, 117, 115, 104]⟩, .int .i64 1, .int .i64 0, .int .i64 1, .int .i64 0, .string ⟨#[112, 111, 112]⟩, .int .i64 0, .int .i64 1, .int .i64 0, .int .i64 0, .string ⟨#[100, 117, 112]⟩, .int .i64 0, .int .i64 1, .int .i64 2, .int .i64 0, .string ⟨#[115, 119, 97, 112]⟩, .int .i64 0, .int .i64 2, .int .i64 2, .int .i64 0, .string ⟨#[103, 101, 116]⟩, .int .i64 2, .int .i64 0, .int .i64 1, .int .i64 0, .string ⟨#[115, 101, 116]⟩, .int .i64 2, .int .i64 1, .int .i64 0, .int .i64 0, .string ⟨#[97, 100, 100]⟩, .int .i64 0, .int .i64 2, .int .i64 1, .int .i64 0, .string ⟨#[115, 117, 98]⟩, .int .i64 0, .int .i64 2, .int .i64 1, .int .i64 0, .string ⟨#[109, 117, 108]⟩, .int .i64 0, .int .i64 2, .int .i64 1, .int .i64 0, .string ⟨#[109, 111, 100]⟩, .int .i64 0, .int .i64 2, .int .i64 1, .int .i64 0, .string ⟨#[108, 101, 115, 115]⟩, .int .i64 0, .int .i64 2, .int .i64 1, .int .i64 0, .string ⟨#[115, 97, 109, 101]⟩, .int .i64 0, .int .i64 2, .int .i64 1, .int .i64 0, .string ⟨#[110, 111, 116]⟩, .int .i64 0, .int .i64 1, .int .i64 1, .int .i64 0, .string ⟨#[106, 117, 109, 112]⟩, .int .i64 3, .int .i64 0, .int .i64 0, .int .i64 0, .string ⟨#[122, 101, 114, 111]⟩, .int .i64 3, .int .i64 1, .int .i64 0, .int .i64 0, .string ⟨#[98, 101, 103, 105, 110]⟩, .int .i64 0, .int .i64 0, .int .i64 0, .int .i64 1, .string ⟨#[108, 111, 97, 100]⟩, .int .i64 0, .int .i64 1, .int .i64 1, .int .i64 2, .string ⟨#[115, 116, 111, 114, 101]⟩, .int .i64 0, .int .i64 2, .int .i64 0, .int .i64 2, .string ⟨#[99, 111, 109, 109, 105, 116]⟩, .int .i64 0, .int .i64 0, .int .i64 0, .int .i64 2, .string ⟨#[97, 98, 111, 114, 116]⟩, .int .i64 3, .int .i64 0, .int .i64 0, .int .i64 2, .string ⟨#[116, 101, 108, 108]⟩, .int .i64 0, .int .i64 1, .int .i64 0, .int .i64 0, .string ⟨#[104, 97, 108, 116]⟩, .int .i64 0, .int .i64 0, .int .i64 0, .int .i64 1]

theorem tab_word : ∀ n : Nat, n < 23 → tabC[n * 5 + 0]? = some (.string (rowOf (n : Nat)).word)
  | 0, _ => rfl
  | 1, _ => rfl
  | 2, _ => rfl
  | 3, _ => rfl
  | 4, _ => rfl
  | 5, _ => rfl
  | 6, _ => rfl
  | 7, _ => rfl
  | 8, _ => rfl
  | 9, _ => rfl
  | 10, _ => rfl
  | 11, _ => rfl
  | 12, _ => rfl
  | 13, _ => rfl
  | 14, _ => rfl
  | 15, _ => rfl
  | 16, _ => rfl
  | 17, _ => rfl
  | 18, _ => rfl
  | 19, _ => rfl
  | 20, _ => rfl
  | 21, _ => rfl
  | 22, _ => rfl
  | n + 23, h => absurd h (by omega)

theorem tab_takes : ∀ n : Nat, n < 23 → tabC[n * 5 + 1]? = some (.int .i64 (rowOf (n : Nat)).takes)
  | 0, _ => rfl
  | 1, _ => rfl
  | 2, _ => rfl
  | 3, _ => rfl
  | 4, _ => rfl
  | 5, _ => rfl
  | 6, _ => rfl
  | 7, _ => rfl
  | 8, _ => rfl
  | 9, _ => rfl
  | 10, _ => rfl
  | 11, _ => rfl
  | 12, _ => rfl
  | 13, _ => rfl
  | 14, _ => rfl
  | 15, _ => rfl
  | 16, _ => rfl
  | 17, _ => rfl
  | 18, _ => rfl
  | 19, _ => rfl
  | 20, _ => rfl
  | 21, _ => rfl
  | 22, _ => rfl
  | n + 23, h => absurd h (by omega)

theorem tab_pops : ∀ n : Nat, n < 23 → tabC[n * 5 + 2]? = some (.int .i64 (rowOf (n : Nat)).pops)
  | 0, _ => rfl
  | 1, _ => rfl
  | 2, _ => rfl
  | 3, _ => rfl
  | 4, _ => rfl
  | 5, _ => rfl
  | 6, _ => rfl
  | 7, _ => rfl
  | 8, _ => rfl
  | 9, _ => rfl
  | 10, _ => rfl
  | 11, _ => rfl
  | 12, _ => rfl
  | 13, _ => rfl
  | 14, _ => rfl
  | 15, _ => rfl
  | 16, _ => rfl
  | 17, _ => rfl
  | 18, _ => rfl
  | 19, _ => rfl
  | 20, _ => rfl
  | 21, _ => rfl
  | 22, _ => rfl
  | n + 23, h => absurd h (by omega)

theorem tab_pushes : ∀ n : Nat, n < 23 → tabC[n * 5 + 3]? = some (.int .i64 (rowOf (n : Nat)).pushes)
  | 0, _ => rfl
  | 1, _ => rfl
  | 2, _ => rfl
  | 3, _ => rfl
  | 4, _ => rfl
  | 5, _ => rfl
  | 6, _ => rfl
  | 7, _ => rfl
  | 8, _ => rfl
  | 9, _ => rfl
  | 10, _ => rfl
  | 11, _ => rfl
  | 12, _ => rfl
  | 13, _ => rfl
  | 14, _ => rfl
  | 15, _ => rfl
  | 16, _ => rfl
  | 17, _ => rfl
  | 18, _ => rfl
  | 19, _ => rfl
  | 20, _ => rfl
  | 21, _ => rfl
  | 22, _ => rfl
  | n + 23, h => absurd h (by omega)

theorem tab_whr : ∀ n : Nat, n < 23 → tabC[n * 5 + 4]? = some (.int .i64 (rowOf (n : Nat)).whr)
  | 0, _ => rfl
  | 1, _ => rfl
  | 2, _ => rfl
  | 3, _ => rfl
  | 4, _ => rfl
  | 5, _ => rfl
  | 6, _ => rfl
  | 7, _ => rfl
  | 8, _ => rfl
  | 9, _ => rfl
  | 10, _ => rfl
  | 11, _ => rfl
  | 12, _ => rfl
  | 13, _ => rfl
  | 14, _ => rfl
  | 15, _ => rfl
  | 16, _ => rfl
  | 17, _ => rfl
  | 18, _ => rfl
  | 19, _ => rfl
  | 20, _ => rfl
  | 21, _ => rfl
  | 22, _ => rfl
  | n + 23, h => absurd h (by omega)

end Go.Proofs.YtcchflfeomainaaGreatDoor
