/- Take and Give of the code's gate, in one sentence each. -/
import Derived.Test.YtpojkkdmlpjfeaaGate
namespace Go.Proofs.Ytpojkkdmlpjfeaa
open Go.RowKit
set_option linter.unusedVariables false
set_option linter.unusedSimpArgs false
attribute [local go_sem ↓] Go.wp_at_zero Go.wp_at_succ

def takeX (x : Gt) (t : Int) : Gt := if gTh t && (x.o == 0) then ⟨x.n + 1, t⟩ else x
def takeS (s : Mt) (x : Gt) (t : Int) : Mt := if gTh t then s.note 2 0 3 (x.o == 0) else s
def takeR (x : Gt) (t : Int) : Int := if gTh t && (x.o == 0) then x.n + 1 else 0
def takeE (x : Gt) (t : Int) : Int := if gTh t then (if (x.o == 0) then 0 else 5) else 1
def giveX (x : Gt) (t : Int) : Gt := if gTh t && (x.o == t) then ⟨x.n + 1, 0⟩ else x
def giveS (s : Mt) (x : Gt) (t : Int) : Mt := if gTh t then s.note 2 0 3 (x.o == t) else s
def giveE (x : Gt) (t : Int) : Int := if gTh t then (if (x.o == t) then 0 else 4) else 1
theorem takeS_within {s : Mt} {n : Nat} (h : s.within n) (x : Gt) (t : Int) : (takeS s x t).within (n + 1) := by
  unfold takeS; split
  · exact h.note _ _ _ _
  · exact h.more (Nat.le_succ _)
theorem giveS_within {s : Mt} {n : Nat} (h : s.within n) (x : Gt) (t : Int) : (giveS s x t).within (n + 1) := by
  unfold giveS; split
  · exact h.note _ _ _ _
  · exact h.more (Nat.le_succ _)
theorem takeX_near (x : Gt) (t : Int) : x.n ≤ (takeX x t).n ∧ (takeX x t).n ≤ x.n + 1 := by
  unfold takeX; split
  · exact ⟨by show x.n ≤ x.n + 1; omega, Int.le_refl _⟩
  · exact ⟨Int.le_refl _, by omega⟩
theorem giveX_near (x : Gt) (t : Int) : x.n ≤ (giveX x t).n ∧ (giveX x t).n ≤ x.n + 1 := by
  unfold giveX; split
  · exact ⟨by show x.n ≤ x.n + 1; omega, Int.le_refl _⟩
  · exact ⟨Int.le_refl _, by omega⟩

theorem gtField_n (n o : Int) (w : World) : (Instr.field 37 (.agg #[.int .i64 n, .int .i64 o]) 0).run Try.prog w = .ok (.int .i64 n) w := by kernel_rfl

theorem gkeep_all {o w : World} {its : List It} {i b : Nat} {A B : It} (h : St o its w) (hi : its[i]? = some A) (hb : its[b]? = some B) : St o ((its.set i A).set b B) w := by
  rw [set_back hi, set_back hb]; exact h

end Go.Proofs.Ytpojkkdmlpjfeaa
