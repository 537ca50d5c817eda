/- The document's search, as plain data: what stands of it. -/
import Derived.Test.YtcchflfeomainaaGreatDoorRc
namespace Go.Proofs.YtcchflfeomainaaGreatDoor
open Go.RowKit
set_option linter.unusedVariables false
set_option linter.unusedSimpArgs false

/-- What stands of the table of states. -/
structure BCore (L : List Ins) (B : Bst) : Prop where
  len : B.has.length = L.length * 33 * 34
  room : B.T.length + B.has.count false = L.length * 33 * 34
  nodup : B.T.Nodup
  seen : ∀ x, Fine L.length x → (B.has.getD x.key true = true ↔ x ∈ B.T)
  fine : ∀ x ∈ B.T, Fine L.length x
  rch : ∀ x ∈ B.T, Rch L x
theorem BCore.add {L : List Ins} {B : Bst} (h : BCore L B) {y : Spt} (hy : Fine L.length y) (hr : Rch L y) : BCore L (addB y B) ∧ y ∈ (addB y B).T ∧ ∃ r, (addB y B).T = B.T ++ r := by
  by_cases hm : y ∈ B.T
  · have hs := (h.seen y hy).2 hm
    have e : addB y B = B := by unfold addB; rw [if_pos hs]
    rw [e]
    exact ⟨h, hm, [], by simp⟩
  · have hs : ¬ B.has.getD y.key true = true := fun e => hm ((h.seen y hy).1 e)
    have e : addB y B = ⟨B.has.set y.key true, B.T ++ [y]⟩ := by unfold addB; rw [if_neg hs]
    have hk : y.key < B.has.length := by rw [h.len]; exact key_lt hy
    have hcs := count_set (l := B.has) (k := y.key) (Bool.eq_false_iff.2 hs)
    rw [e]
    refine ⟨⟨by simp [h.len], ?_, ?_, ?_, ?_, ?_⟩, by simp, [y], rfl⟩
    · have := h.room
      simp only [List.length_append, List.length_cons, List.length_nil]
      omega
    · rw [List.nodup_append]
      exact ⟨h.nodup, by simp, fun a ha b hb e => hm (by rw [← List.mem_singleton.1 hb, ← e]; exact ha)⟩
    · intro x hx
      simp only [getD_set, hk, and_true, List.mem_append, List.mem_singleton]
      by_cases e : y.key = x.key
      · rw [if_pos e]
        exact ⟨fun _ => .inr (key_inj hx hy e.symm), fun _ => rfl⟩
      · rw [if_neg e, h.seen x hx]
        exact ⟨.inl, fun hh => by rcases hh with hh | rfl; exact hh; exact absurd rfl e⟩
    · intro x hx
      rcases List.mem_append.1 hx with hx | hx
      · exact h.fine x hx
      · rw [List.mem_singleton.1 hx]; exact hy
    · intro x hx
      rcases List.mem_append.1 hx with hx | hx
      · exact h.rch x hx
      · rw [List.mem_singleton.1 hx]; exact hr
theorem BCore.adds {L : List Ins} : ∀ (ys : List Spt) {B : Bst}, BCore L B → (∀ y ∈ ys, Fine L.length y ∧ Rch L y) → BCore L (ys.foldl (fun B y => addB y B) B) ∧ (∀ y ∈ ys, y ∈ (ys.foldl (fun B y => addB y B) B).T) ∧ ∃ r, (ys.foldl (fun B y => addB y B) B).T = B.T ++ r
  | [], B, h, _ => ⟨h, fun y hy => (by cases hy), [], by simp⟩
  | y :: ys, B, h, hy => by
    obtain ⟨c1, a2, r1, e1⟩ := h.add (hy y (by simp)).1 (hy y (by simp)).2
    obtain ⟨c2, b2, r2, e2⟩ := BCore.adds ys c1 (fun z hz => hy z (List.mem_cons_of_mem _ hz))
    refine ⟨c2, fun z hz => ?_, r1 ++ r2, by rw [List.foldl_cons, e2, e1, List.append_assoc]⟩
    rcases List.mem_cons.1 hz with rfl | hz
    · rw [List.foldl_cons, e2]
      exact List.mem_append_left _ a2
    · exact b2 z hz
/-- What stands of the search when the first i have been looked at. -/
structure BInv (L : List Ins) (B : Bst) (i : Nat) (many : List Int) (dep txs : List Bool) : Prop where
  core : BCore L B
  le : i ≤ B.T.length
  zero : Spt.zero ∈ B.T
  done : ∀ x ∈ B.T.take i, ∀ y ∈ nextS L x, y ∈ B.T
  lens : many.length = L.length ∧ dep.length = L.length ∧ txs.length = L.length
  many : ∀ p, p < L.length → many.getD p 0 = (((B.T.take i).filter (fun x => x.p == p)).length : Nat)
  dep : ∀ p, p < L.length → dep.getD p false = (B.T.take i).any (fun x => x.p == p && amissS L x == 155)
  txs : ∀ p, p < L.length → txs.getD p false = (B.T.take i).any (fun x => x.p == p && amissS L x == 156)
/-- One more has been looked at. -/
theorem BInv.step {L : List Ins} (hL : Lok L) {B : Bst} {i : Nat} {many : List Int} {dep txs : List Bool} (h : BInv L B i many dep txs) (hi : i < B.T.length) {x : Spt} (hx : B.T.getD i Spt.zero = x) :
    BInv L ((nextS L x).foldl (fun B y => addB y B) B) (i + 1) (many.set x.p (many.getD x.p 0 + 1)) (dep.set x.p (dep.getD x.p false || amissS L x == 155)) (txs.set x.p (txs.getD x.p false || amissS L x == 156)) := by
  have hm : x ∈ B.T := by rw [← hx, List.getD_eq_getElem?_getD, List.getElem?_eq_getElem hi]; exact List.getElem_mem hi
  have hf := h.core.fine x hm
  obtain ⟨c, a, r, e⟩ := BCore.adds (nextS L x) h.core (fun y hy => ⟨next_fine hL hf hy, .step (h.core.rch x hm) hy⟩)
  have ht : ((nextS L x).foldl (fun B y => addB y B) B).T.take (i + 1) = B.T.take i ++ [x] := by
    rw [e, List.take_append_of_le_length (by omega), List.take_add_one, List.getElem?_eq_getElem hi]
    rw [List.getD_eq_getElem?_getD, List.getElem?_eq_getElem hi] at hx
    simp only [Option.getD_some] at hx
    rw [hx]
    rfl
  generalize (nextS L x).foldl (fun B y => addB y B) B = B' at *
  refine ⟨c, by rw [e, List.length_append]; omega, by rw [e]; exact List.mem_append_left _ h.zero, fun z hz y hy => ?_, ⟨by simp [h.lens.1], by simp [h.lens.2.1], by simp [h.lens.2.2]⟩, fun p hp => ?_, fun p hp => ?_, fun p hp => ?_⟩
  · rw [ht] at hz
    rcases List.mem_append.1 hz with hz | hz
    · rw [e]; exact List.mem_append_left _ (h.done z hz y hy)
    · rw [List.mem_singleton.1 hz] at hy
      exact a y hy
  · rw [ht, getD_set, List.filter_append, List.length_append]
    by_cases e : x.p = p
    · subst e
      rw [if_pos ⟨rfl, by rw [h.lens.1]; exact hp⟩, h.many _ hp]
      simp
    · rw [if_neg (fun hh => e hh.1), h.many p hp]
      simp [e]
  · rw [ht, getD_set, List.any_append]
    by_cases e : x.p = p
    · subst e
      rw [if_pos ⟨rfl, by rw [h.lens.2.1]; exact hp⟩, h.dep _ hp]
      simp
    · rw [if_neg (fun hh => e hh.1), h.dep p hp]
      simp [e]
  · rw [ht, getD_set, List.any_append]
    by_cases e : x.p = p
    · subst e
      rw [if_pos ⟨rfl, by rw [h.lens.2.2]; exact hp⟩, h.txs _ hp]
      simp
    · rw [if_neg (fun hh => e hh.1), h.txs p hp]
      simp [e]
theorem BInv.all {L : List Ins} {B : Bst} {many : List Int} {dep txs : List Bool} (h : BInv L B B.T.length many dep txs) (x : Spt) : x ∈ B.T ↔ Rch L x := by
  refine ⟨h.core.rch x, fun hr => ?_⟩
  induction hr with
  | zero => exact h.zero
  | step _ hy ih => exact h.done _ (by rw [List.take_length]; exact ih) _ hy
end Go.Proofs.YtcchflfeomainaaGreatDoor
