/- The document's Read: plain facts. -/
import Derived.Test.YtbpilhjomfkpaaaGreatDoorRdM
namespace Go.Proofs.YtbpilhjomfkpaaaGreatDoor
open Go.RowKit
set_option linter.unusedVariables false
set_option linter.unusedSimpArgs false

/-- A key that is there stands at a used place, and no other key does. -/
theorem used_has {c : List Int} : ∀ {i : Nat} {ls : List Pr}, usedM c i = some ls → ∀ x : Int, (∃ v, (x, v) ∈ ls) ↔ ∃ k, k < i ∧ stA c k = 1 ∧ keyA c k = x
  | 0, ls, h, x => by
    simp only [usedM, Option.some.injEq] at h
    subst h
    simp
  | i + 1, ls, h, x => by
    rw [usedM] at h
    split at h
    · cases h
    · rename_i ls0 h0
      have ih := used_has h0 x
      split at h
      · rename_i hst
        simp only [Option.some.injEq] at h
        subst h
        rw [ih]
        constructor
        · rintro ⟨k, hk, r⟩
          exact ⟨k, by omega, r⟩
        · rintro ⟨k, hk, h1, h2⟩
          refine ⟨k, ?_, h1, h2⟩
          by_cases e : k = i
          · subst e; omega
          · omega
      · split at h
        · rename_i hst
          split at h
          · cases h
          · simp only [Option.some.injEq] at h
            subst h
            constructor
            · rintro ⟨v, hv⟩
              rcases List.mem_cons.1 hv with e | hv
              · simp only [Prod.mk.injEq] at e
                exact ⟨i, by omega, hst, e.1.symm⟩
              · obtain ⟨k, hk, r⟩ := ih.1 ⟨v, hv⟩
                exact ⟨k, by omega, r⟩
            · rintro ⟨k, hk, h1, h2⟩
              by_cases e : k = i
              · subst e
                exact ⟨(k : Int), by rw [h2]; simp⟩
              · obtain ⟨v, hv⟩ := ih.2 ⟨k, by omega, h1, h2⟩
                exact ⟨v, List.mem_cons_of_mem _ hv⟩
        · cases h
/-- What was there among the first places is there among more of them. -/
theorem used_more {c : List Int} {i j : Nat} (h : i ≤ j) {ls : List Pr} (hi : usedM c i = some ls) : usedM c j = none ∨ ∃ ls2, usedM c j = some ls2 ∧ ∀ p ∈ ls, p ∈ ls2 := by
  induction j with
  | zero =>
    obtain rfl : i = 0 := by omega
    exact .inr ⟨ls, hi, fun p h => h⟩
  | succ j ih =>
    by_cases e : i = j + 1
    · subst e; exact .inr ⟨ls, hi, fun p h => h⟩
    · rcases ih (by omega) with hn | ⟨ls2, h2, hs⟩
      · exact .inl (usedM_none (by omega) hn)
      · rw [usedM, h2]
        simp only
        split
        · exact .inr ⟨ls2, rfl, hs⟩
        · split
          · cases atP ls2 (keyA c j) with
            | some v => exact .inl rfl
            | none => exact .inr ⟨_, rfl, fun p hp => List.mem_cons_of_mem _ (hs p hp)⟩
          · exact .inl rfl
theorem readS_none {c : List Int} {n : Nat} (h : usedM c n = none) : readS c n = none := by unfold readS; rw [h]
/-- One place that is not reached, and they are not of a dict. -/
theorem readS_far {c : List Int} {n i : Nat} (hi : i ≤ n) {ls : List Pr} (h : usedM c i = some ls) {p : Pr} (hp : p ∈ ls) (hr : reachM c n p.1 p.2.toNat = false) : readS c n = none := by
  rcases used_more hi h with hn | ⟨ls2, h2, hs⟩
  · exact readS_none hn
  · unfold readS
    rw [h2]
    simp only
    rw [if_neg]
    rintro ⟨_, hall⟩
    have := List.all_eq_true.1 hall p (hs p hp)
    rw [hr] at this
    cases this
/-- The entries of the first places, in order. -/
def outM (c : List Int) (ls : List Pr) : List Pr := sortP (ls.map fun p => (p.1, valA c p.2.toNat))
theorem out_put {c : List Int} {ls : List Pr} (hg : Good ls) {key : Int} {i : Nat} (hn : ∀ p ∈ ls, p.1 ≠ key) : outM c ((key, (i : Int)) :: ls) = lessP (outM c ls) key ++ [(key, valA c i)] ++ moreP (outM c ls) key := by
  have hr : Rises (outM c ls) := sortP_rises (List.pairwise_map.2 hg.1)
  have hk : ∀ p ∈ outM c ls, p.1 ≠ key := fun p hp => by
    obtain ⟨q, hq, e⟩ := List.mem_map.1 ((sortP_perm _).mem_iff.1 hp)
    rw [← e]
    exact hn q hq
  have e : outM c ((key, (i : Int)) :: ls) = insP (key, valA c i) (outM c ls) := rfl
  rw [e, ins_split hr hk]
  simp
end Go.Proofs.YtbpilhjomfkpaaaGreatDoor
