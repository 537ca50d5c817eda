/- Own lists that are written and grown. -/
import Derived.Test.YtbpilhjomfkpaaaGreatDoorKit
namespace Go.Proofs.YtbpilhjomfkpaaaGreatDoor
open Go.RowKit
set_option linter.unusedVariables false
set_option linter.unusedSimpArgs false

theorem own_set {w : World} {b e z g n cap : Nat} {xs : List Value} (h : w.ownsRow b e z (.slice (some ⟨g, 0, none⟩) n cap) n xs) (j : Nat) (hj : j < n * z) (x : Value) : (w.setCell ⟨g, j, none⟩ x).ownsRow b e z (.slice (some ⟨g, 0, none⟩) n cap) n (xs.set j x) := by
  obtain ⟨h1, h2⟩ := h
  refine ⟨by simpa using h1, ?_⟩
  rcases h2 with ⟨hv, _⟩ | ⟨g', cap', cur, hv, hb, hg, hn, hc, hs, ht⟩
  · cases hv
  · simp only [Value.slice.injEq, Option.some.injEq, Addr.mk.injEq, true_and, and_true] at hv
    obtain ⟨rfl, rfl⟩ := hv
    refine .inr ⟨g, cap, cur.setIfInBounds j x, rfl, hb, heap_setCell_at hg x, hn, hc, by simpa using hs, ?_⟩
    rw [Array.toList_setIfInBounds, List.take_set, ht]
theorem St.ownSet {o w : World} {its : List It} (h : St o its w) (i : Nat) {e : TypeId} {z g n cap : Nat} {xs : List Value} (hi : its[i]? = some (ownI e z (.slice (some ⟨g, 0, none⟩) n cap) n xs)) (j : Nat) (hj : j < n * z) (x : Value) : St o (its.set i (ownI e z (.slice (some ⟨g, 0, none⟩) n cap) n (xs.set j x))) (w.setCell ⟨g, j, none⟩ x) :=
  h.set i hi ((Kept.refl _ w).setCell x (.inl (by simp [ownI, Value.ownBlock]))) (own_set (show w.ownsRow 0 e z (.slice (some ⟨g, 0, none⟩) n cap) n xs from h.get i hi) j hj x) (own_nodup (.slice (some ⟨g, 0, none⟩) n cap)) (fun b hb => .inl hb)
/-- An own list grown: what lay beside it stays. -/
theorem St.ownGrow {o w w' : World} {its : List It} (h : St o its w) (i : Nat) {e : TypeId} {z n n' : Nat} {v v' : Value} {xs xs' : List Value} (hi : its[i]? = some (ownI e z v n xs)) (p : w'.ownsRow 0 e z v' n' xs') (k : Kept (fun b => v.ownBlock = some b) w w') (hf : v'.ownBlock = v.ownBlock ∨ ∃ g, v'.ownBlock = some g ∧ w.heap.size ≤ g) : St o (its.set i (ownI e z v' n' xs')) w' := by
  refine h.set i hi (k.mono (fun b _ hb => by simp [ownI, hb])) p (own_nodup v') (fun b hb => ?_)
  simp only [ownI] at hb ⊢
  rcases hf with hf | ⟨g, hg, hlt⟩
  · rw [hf] at hb; exact .inl hb
  · rw [hg] at hb
    right
    simp at hb
    omega
theorem St.form {o w : World} {its : List It} (h : St o its w) (i : Nat) {e : TypeId} {z n : Nat} {v : Value} {xs : List Value} (hi : its[i]? = some (ownI e z v n xs)) (h0 : 0 < n) : ∃ g cap, v = .slice (some ⟨g, 0, none⟩) n cap := by
  have p : w.ownsRow 0 e z v n xs := h.get i hi
  obtain ⟨g, cap, e, _, _⟩ := p.form h0
  exact ⟨g, cap, e⟩
theorem St.ownCell {o w : World} {its : List It} (h : St o its w) (i : Nat) {e : TypeId} {z g n cap : Nat} {xs : List Value} (hi : its[i]? = some (ownI e z (.slice (some ⟨g, 0, none⟩) n cap) n xs)) (j : Nat) (hj : j < n * z) : w.cell? ⟨g, j, none⟩ = xs[j]? := by
  have p : w.ownsRow 0 e z (.slice (some ⟨g, 0, none⟩) n cap) n xs := h.get i hi
  exact p.cellAt j hj
theorem St.ownFrozen {o w : World} {its : List It} (h : St o its w) (i : Nat) {e : TypeId} {z g n cap : Nat} {xs : List Value} (hi : its[i]? = some (ownI e z (.slice (some ⟨g, 0, none⟩) n cap) n xs)) (j : Nat) : w.frozen? ⟨g, j, none⟩ = false := by
  have p : w.ownsRow 0 e z (.slice (some ⟨g, 0, none⟩) n cap) n xs := h.get i hi
  exact p.frozenAt j
theorem St.ownCap {o w : World} {its : List It} (h : St o its w) (i : Nat) {e : TypeId} {z g n cap : Nat} {xs : List Value} (hi : its[i]? = some (ownI e z (.slice (some ⟨g, 0, none⟩) n cap) n xs)) : xs.length = n * z := by
  have p : w.ownsRow 0 e z (.slice (some ⟨g, 0, none⟩) n cap) n xs := h.get i hi
  exact p.1
end Go.Proofs.YtbpilhjomfkpaaaGreatDoor
