/- What a gate may be, and that Take and Give leave it so. -/
import Derived.Test.YtajfjkhbimehbaaGreatGateB
namespace Go.Proofs.YtajfjkhbimehbaaGreat
open Go.RowKit
set_option linter.unusedVariables false
set_option linter.unusedSimpArgs false

/-- Where the number is even nobody holds it; where it is odd a thread does. -/
def GOk (n o : Int) : Prop := (o = 0 ∧ n % 2 = 0) ∨ (1 ≤ o ∧ o ≤ 8 ∧ n % 2 = 1)
theorem GOk.even {n : Int} (h : GOk n 0) : (n % 2 == 1) = false := by
  rcases h with ⟨_, h⟩ | ⟨h1, h2, h⟩
  · rw [h]; rfl
  · omega
theorem GOk.odd {n o : Int} (h : GOk n o) (h1 : 1 ≤ o) : (n % 2 == 1) = true := by
  rcases h with ⟨rfl, h⟩ | ⟨h1, h2, h⟩
  · omega
  · rw [h]; rfl
theorem GOk.give {xn xo : Int} (e : GOk xn xo) (t : Int) : GOk (giveX ⟨xn, xo⟩ t).n (giveX ⟨xn, xo⟩ t).o := by
  unfold giveX
  cases ht : gTh t
  · simpa using e
  · cases ho : (xo == t)
    · simpa using e
    · simp only [Bool.and_self, if_true]
      simp only [beq_iff_eq] at ho
      simp only [gTh, Bool.and_eq_true, decide_eq_true_eq] at ht
      rcases e with e | e
      · omega
      · exact .inl ⟨rfl, by omega⟩
theorem GOk.take {xn xo : Int} (e : GOk xn xo) (t : Int) : GOk (takeX ⟨xn, xo⟩ t).n (takeX ⟨xn, xo⟩ t).o := by
  unfold takeX
  cases ht : gTh t
  · simpa using e
  · cases ho : (xo == 0)
    · simpa using e
    · simp only [Bool.and_self, if_true]
      simp only [beq_iff_eq] at ho
      simp only [gTh, Bool.and_eq_true, decide_eq_true_eq] at ht
      rcases e with e | e
      · exact .inr ⟨ht.1, ht.2, by omega⟩
      · omega
end Go.Proofs.YtajfjkhbimehbaaGreat
