/- The table of what instructions do. -/
import Derived.Test.YthbcbjkgjgmegaaGreatChecked
import Derived.Test.YthbcbjkgjgmegaaGreatSk
import Derived.Test.YthbcbjkgjgmegaaGreatCdM
import Derived.Laws.EntriesVeiled
namespace Go.Proofs.YthbcbjkgjgmegaaGreat
open Go.RowKit
set_option linter.unusedVariables false
set_option linter.unusedSimpArgs false
def ptabC : Array Value := #[.int .i64 0, .int .i64 0, .nilFunc, .int .i64 0, .int .i64 1, .func (.func 141) #[] #[], .int .i64 1, .int .i64 0, .func (.func 142) #[] #[], .int .i64 1, .int .i64 2, .func (.func 143) #[] #[], .int .i64 2, .int .i64 2, .func (.func 144) #[] #[], .int .i64 0, .int .i64 1, .func (.func 145) #[] #[], .int .i64 1, .int .i64 0, .func (.func 146) #[] #[], .int .i64 2, .int .i64 1, .func (.func 147) #[] #[], .int .i64 2, .int .i64 1, .func (.func 148) #[] #[], .int .i64 2, .int .i64 1, .func (.func 149) #[] #[], .int .i64 2, .int .i64 1, .func (.func 150) #[] #[], .int .i64 2, .int .i64 1, .func (.func 151) #[] #[], .int .i64 2, .int .i64 1, .func (.func 152) #[] #[], .int .i64 1, .int .i64 1, .func (.func 153) #[] #[], .int .i64 0, .int .i64 0, .func (.func 154) #[] #[], .int .i64 1, .int .i64 0, .func (.func 155) #[] #[], .int .i64 0, .int .i64 0, .func (.func 156) #[] #[], .int .i64 1, .int .i64 1, .func (.func 157) #[] #[], .int .i64 2, .int .i64 0, .func (.func 158) #[] #[], .int .i64 0, .int .i64 0, .func (.func 159) #[] #[], .int .i64 0, .int .i64 0, .func (.func 160) #[] #[], .int .i64 1, .int .i64 0, .func (.func 161) #[] #[], .int .i64 0, .int .i64 0, .func (.func 162) #[] #[]]
/-- The method of each instruction. -/
def methL : List Nat := [0, 141, 142, 143, 144, 145, 146, 147, 148, 149, 150, 151, 152, 153, 154, 155, 156, 157, 158, 159, 160, 161, 162]
def methOf (op : Int) : Nat := methL.getD op.toNat 0
def pPops (n : Nat) : Int := (rowOf (n : Nat)).pops
def pPush (n : Nat) : Int := (rowOf (n : Nat)).pushes
theorem ptab_at : ∀ n : Nat, 0 < n → n < 23 → ptabC[n * 3]? = some (.int .i64 (rowOf (n : Nat)).pops) ∧ ptabC[n * 3 + 1]? = some (.int .i64 (rowOf (n : Nat)).pushes) ∧ ptabC[n * 3 + 2]? = some (.func (.func (methOf (n : Nat))) #[] #[])
  | 0, h, _ => absurd h (by omega)
  | 1, _, _ => ⟨rfl, rfl, rfl⟩
  | 2, _, _ => ⟨rfl, rfl, rfl⟩
  | 3, _, _ => ⟨rfl, rfl, rfl⟩
  | 4, _, _ => ⟨rfl, rfl, rfl⟩
  | 5, _, _ => ⟨rfl, rfl, rfl⟩
  | 6, _, _ => ⟨rfl, rfl, rfl⟩
  | 7, _, _ => ⟨rfl, rfl, rfl⟩
  | 8, _, _ => ⟨rfl, rfl, rfl⟩
  | 9, _, _ => ⟨rfl, rfl, rfl⟩
  | 10, _, _ => ⟨rfl, rfl, rfl⟩
  | 11, _, _ => ⟨rfl, rfl, rfl⟩
  | 12, _, _ => ⟨rfl, rfl, rfl⟩
  | 13, _, _ => ⟨rfl, rfl, rfl⟩
  | 14, _, _ => ⟨rfl, rfl, rfl⟩
  | 15, _, _ => ⟨rfl, rfl, rfl⟩
  | 16, _, _ => ⟨rfl, rfl, rfl⟩
  | 17, _, _ => ⟨rfl, rfl, rfl⟩
  | 18, _, _ => ⟨rfl, rfl, rfl⟩
  | 19, _, _ => ⟨rfl, rfl, rfl⟩
  | 20, _, _ => ⟨rfl, rfl, rfl⟩
  | 21, _, _ => ⟨rfl, rfl, rfl⟩
  | 22, _, _ => ⟨rfl, rfl, rfl⟩
  | n + 23, _, h => absurd h (by omega)
set_option maxRecDepth 100000 in
set_option maxHeartbeats 2000000 in
theorem ptable_any (w : World) : Calls Tryz.prog 110 #[] w fun e w' => e = .returned (.slice (some ⟨w.heap.size, 0, none⟩) 23 23) ∧ w' = w.alloc (.cells ptabC 238) := by
  go_enter Tryz.func110, Tryz.ntmps110
  go_wp2
  go_ret
  exact ⟨rfl, rfl⟩
end Go.Proofs.YthbcbjkgjgmegaaGreat
