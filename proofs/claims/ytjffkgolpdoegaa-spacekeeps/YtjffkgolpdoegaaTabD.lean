/- What the calls on heads do: Ready, Doom, Free; Word and Put. -/
import Derived.Test.YtjffkgolpdoegaaTabC
namespace Go.Proofs.Ytjffkgolpdoegaa
open Go.RowKit
set_option linter.unusedVariables false
set_option linter.unusedSimpArgs false
attribute [local go_sem ↓] Go.wp_at_zero Go.wp_at_succ

/-- What Word and Put answer, note and leave. -/
def wordE (n : Nat) (i j : Int) : Int := match wordAt n i j with | none => 2 | some _ => 0
def wordR (ws : List Int) (n : Nat) (i j : Int) : Int := match wordAt n i j with | none => 0 | some k => ws.getD k 0
def wordS (s : Mt) (n : Nat) (i j : Int) : Mt := match wordAt n i j with | none => s | some k => s.note 4 k 1 true
def putS (s : Mt) (n : Nat) (i j : Int) : Mt := match wordAt n i j with | none => s | some k => s.note 4 k 2 true
def putW (ws : List Int) (n : Nat) (i j x : Int) : List Int := match wordAt n i j with | none => ws | some k => ws.set k x
theorem wordS_within {s : Mt} {n : Nat} (h : s.within n) (m : Nat) (i j : Int) : (wordS s m i j).within (n + 1) := by
  unfold wordS
  split
  · exact h.more (Nat.le_succ _)
  · exact h.note _ _ _ _
theorem putS_within {s : Mt} {n : Nat} (h : s.within n) (m : Nat) (i j : Int) : (putS s m i j).within (n + 1) := by
  unfold putS
  split
  · exact h.more (Nat.le_succ _)
  · exact h.note _ _ _ _
theorem putW_len (ws : List Int) (n : Nat) (i j x : Int) : (putW ws n i j x).length = ws.length := by
  unfold putW
  split
  · rfl
  · simp
theorem word_cases (n : Nat) (i j : Int) : (∃ a b : Nat, i = a ∧ j = b ∧ a < n ∧ b < 2 ∧ hasWd n i j = true ∧ wordAt n i j = some (a * 2 + b)) ∨ (hasWd n i j = false ∧ wordAt n i j = none) := by
  by_cases h : 0 ≤ i ∧ i < n ∧ 0 ≤ j ∧ j < 2
  · left
    obtain ⟨h1, h2, h3, h4⟩ := h
    obtain ⟨a, rfl⟩ := Int.eq_ofNat_of_zero_le h1
    obtain ⟨b, rfl⟩ := Int.eq_ofNat_of_zero_le h3
    refine ⟨a, b, rfl, rfl, by omega, by omega, ?_, ?_⟩
    · simp only [hasWd, hasSlot, Bool.and_eq_true, decide_eq_true_eq]
      exact ⟨⟨⟨h1, h2⟩, h3⟩, h4⟩
    · unfold wordAt
      rw [if_pos ⟨h1, h2, h3, h4⟩]
      rfl
  · right
    refine ⟨?_, ?_⟩
    · cases hx : hasWd n i j
      · rfl
      · simp only [hasWd, hasSlot, Bool.and_eq_true, decide_eq_true_eq] at hx
        exact absurd ⟨hx.1.1.1, hx.1.1.2, hx.1.2, hx.2⟩ h
    · unfold wordAt
      rw [if_neg h]

end Go.Proofs.Ytjffkgolpdoegaa
