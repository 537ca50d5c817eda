/- Flags of four threads and eight slots, as one row in memory. -/
import Derived.Test.YtnchfomoaonbkabGreatTxY
import Derived.Test.YtnchfomoaonbkabGreatTxZ
namespace Go.Proofs.YtnchfomoaonbkabGreat
open Go.RowKit
set_option linter.unusedVariables false
set_option linter.unusedSimpArgs false
def fB (F : Nat → Nat → Bool) : Array Value := Array.ofFn (n := 32) fun i => .bool (F (i.val / 8) (i.val % 8))
def updF (F : Nat → Nat → Bool) (t n : Nat) (x : Bool) : Nat → Nat → Bool := fun t' n' => if t' = t ∧ n' = n then x else F t' n'
theorem fB_at (F : Nat → Nat → Bool) {t n : Nat} (ht : t < 4) (hn : n < 8) : (fB F)[t * 8 + n]? = some (.bool (F t n)) := by
  have h1 : (t * 8 + n) / 8 = t := by omega
  have h2 : (t * 8 + n) % 8 = n := by omega
  have h3 : t * 8 + n < 32 := by omega
  simp [fB, h1, h2, h3]
theorem fB_congr {F F' : Nat → Nat → Bool} (h : ∀ t, t < 4 → ∀ n, n < 8 → F t n = F' t n) : fB F = fB F' := by
  unfold fB
  congr 1
  funext i
  rw [h (i.val / 8) (by omega) (i.val % 8) (by omega)]
theorem fB_set (F : Nat → Nat → Bool) {t n : Nat} (ht : t < 4) (hn : n < 8) (x : Bool) : (fB F).setIfInBounds (t * 8 + n) (.bool x) = fB (updF F t n x) := by
  have hg : ∀ (G : Nat → Nat → Bool) i, i < 32 → (fB G)[i]? = some (.bool (G (i / 8) (i % 8))) := fun G i hi => by simp [fB, hi]
  have hs : ∀ G : Nat → Nat → Bool, (fB G).size = 32 := fun G => by simp [fB]
  apply Array.ext_getElem?
  intro i
  rw [Array.getElem?_setIfInBounds]
  by_cases hi : i < 32
  · rw [hg _ i hi, hg _ i hi]
    unfold updF
    by_cases e : t * 8 + n = i
    · rw [if_pos e, if_pos (by rw [hs]; omega), if_pos ⟨by omega, by omega⟩]
    · rw [if_neg e, if_neg (by intro q; omega)]
  · rw [if_neg (by omega), Array.getElem?_eq_none (by rw [hs]; omega), Array.getElem?_eq_none (by rw [hs]; omega)]
/-- Noted up to thread t, slot n. -/
def noteP (F : Nat → Nat → Bool) (hs : List Hd) (k : Nat) (idle : Bool) (t n : Nat) : Nat → Nat → Bool := fun t' n' => if t' < t ∨ (t' = t ∧ n' < n) then noteF F hs k idle t' n' else F t' n'
theorem noteP_zero (F : Nat → Nat → Bool) (hs : List Hd) (k : Nat) (idle : Bool) : noteP F hs k idle 0 0 = F := by
  funext t' n'
  unfold noteP
  rw [if_neg (by omega)]
theorem noteP_row (F : Nat → Nat → Bool) (hs : List Hd) (k : Nat) (idle : Bool) (t : Nat) : noteP F hs k idle t hs.length = noteP F hs k idle (t + 1) 0 := by
  funext t' n'
  unfold noteP
  by_cases h1 : t' < t
  · rw [if_pos (.inl h1), if_pos (.inl (by omega))]
  · by_cases h2 : t' = t
    · rw [if_pos (c := t' < t + 1 ∨ _) (.inl (by omega))]
      by_cases h3 : n' < hs.length
      · rw [if_pos (.inr ⟨h2, h3⟩)]
      · rw [if_neg (by omega)]
        unfold noteF
        rw [if_neg h3]
    · rw [if_neg (by omega), if_neg (by omega)]
theorem noteP_next (F : Nat → Nat → Bool) (hs : List Hd) (k : Nat) (idle : Bool) (t n : Nat) : updF (noteP F hs k idle t n) t n (noteF F hs k idle t n) = noteP F hs k idle t (n + 1) := by
  funext t' n'
  unfold updF noteP
  by_cases e : t' = t ∧ n' = n
  · rw [if_pos e, if_pos (.inr ⟨e.1, by omega⟩), e.1, e.2]
  · rw [if_neg e]
    by_cases h1 : t' < t ∨ (t' = t ∧ n' < n)
    · rw [if_pos h1, if_pos (by omega)]
    · rw [if_neg h1, if_neg (by omega)]
theorem noteP_at (F : Nat → Nat → Bool) (hs : List Hd) (k : Nat) (idle : Bool) (t n : Nat) : noteP F hs k idle t n t n = F t n := by
  unfold noteP
  rw [if_neg (by omega)]
theorem noteP_all (F : Nat → Nat → Bool) (hs : List Hd) (k : Nat) (idle : Bool) : fB (noteP F hs k idle 4 0) = fB (noteF F hs k idle) := by
  apply fB_congr
  intro t ht n hn
  unfold noteP
  rw [if_pos (.inl ht)]
theorem noteF_own {F : Nat → Nat → Bool} {hs : List Hd} {k : Nat} {idle : Bool} {t n : Nat} (hn : n < hs.length) (h : t = k ∧ idle = true) : noteF F hs k idle t n = ((hs.getD n Hd.zero).sa == 0) := by
  unfold noteF
  rw [if_pos hn, if_pos h]
  rfl
theorem noteF_oth {F : Nat → Nat → Bool} {hs : List Hd} {k : Nat} {idle : Bool} {t n : Nat} (hn : n < hs.length) (h : ¬ (t = k ∧ idle = true)) : noteF F hs k idle t n = (F t n && ((hs.getD n Hd.zero).sa == 0)) := by
  unfold noteF
  rw [if_pos hn, if_neg h]
  rfl
theorem fB_zero : fB (fun _ _ => false) = #[.bool false, .bool false, .bool false, .bool false, .bool false, .bool false, .bool false, .bool false, .bool false, .bool false, .bool false, .bool false, .bool false, .bool false, .bool false, .bool false, .bool false, .bool false, .bool false, .bool false, .bool false, .bool false, .bool false, .bool false, .bool false, .bool false, .bool false, .bool false, .bool false, .bool false, .bool false, .bool false] := by rfl
theorem eqLastS (a b d a' b' d' : Int) (w : World) : (binOp .eql 49 (.agg #[.int .i64 a, .int .i64 b, .int .i64 d]) (.agg #[.int .i64 a', .int .i64 b', .int .i64 d'])).run Tryz.prog w = .ok (.bool (a == a' && b == b' && d == d')) w := eqLastG a b d a' b' d' w
end Go.Proofs.YtnchfomoaonbkabGreat
