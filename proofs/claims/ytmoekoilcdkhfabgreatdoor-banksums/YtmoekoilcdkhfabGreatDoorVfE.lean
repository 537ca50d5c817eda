/- The least place; Verify. -/
import Derived.Test.YtmoekoilcdkhfabGreatDoorVfD
namespace Go.Proofs.YtmoekoilcdkhfabGreatDoor
open Go.RowKit
set_option linter.unusedVariables false
set_option linter.unusedSimpArgs false
attribute [local go_sem ↓] Go.wp_at_zero Go.wp_at_succ

theorem own_cutV {w : World} {B g n cap : Nat} {e : TypeId} {z : Nat} {xs : List Value} (h : w.ownsRow B e z (.slice (some ⟨g, 0, none⟩) n cap) n xs) {m : Nat} (hm : m ≤ n) : w.ownsRow B e z (.slice (some ⟨g, 0, none⟩) m cap) m (xs.take (m * z)) := by
  have hl := h.1
  have hmz : m * z ≤ n * z := Nat.mul_le_mul_right _ hm
  refine ⟨by simp; omega, ?_⟩
  rcases h.2 with ⟨h1, _⟩ | ⟨g', cap', cur, h1, hb, hg, hn, hc, hs, ht⟩
  · cases h1
  · simp only [Value.slice.injEq, Option.some.injEq, Addr.mk.injEq, and_true, true_and] at h1
    obtain ⟨rfl, rfl⟩ := h1
    refine .inr ⟨g, cap, cur, rfl, hb, hg, by omega, hc, hs, ?_⟩
    rw [← ht, List.take_take, Nat.min_eq_left hmz]
def isF : Value → Bool
  | .bool false => true
  | _ => false
/-- Steps that are left, as memory tells. -/
def wkMu (A : Wad) (w : World) : Nat :=
  2 * (match w.heap[A.gs]? with | some (.cells cs _ _) => cs.toList.countP isF | _ => 0) + (match w.cell? ⟨A.k, 3, none⟩ with | some (.slice _ n _) => n | _ => 0)
theorem countF (l : List Bool) : (l.map Value.bool).countP isF = l.count false := by
  induction l with
  | nil => rfl
  | cons x l ih => cases x <;> simp [isF, ih, List.countP_cons, List.count_cons]
section
variable {o w : World} {A : Wad} {L : List Ins} {vt : Value} {V : Vst}
theorem leastFrom_step {e p k : Nat} : leastFrom e V (k + 1) p = if V.wrong.getD p 0 ≠ 0 then (V.wrong.getD p 0, (p : Int)) else if p < e ∧ 1 < V.count.getD p 0 then (157, (p : Int)) else leastFrom e V k (p + 1) := rfl
end
end Go.Proofs.YtmoekoilcdkhfabGreatDoor
