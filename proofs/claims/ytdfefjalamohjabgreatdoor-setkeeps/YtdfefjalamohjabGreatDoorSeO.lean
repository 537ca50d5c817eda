/- Reading a set out of cells, and the cells of an empty one, as plain data. No program is named here. -/
import Derived.Test.YtdfefjalamohjabGreatDoorSeN
namespace Go.Proofs.YtdfefjalamohjabGreatDoor
open Go.RowKit
set_option linter.unusedVariables false
set_option linter.unusedSimpArgs false

theorem goM_tr {L : List Int} {n : Nat} : ∀ {m : Nat} {f : Int} {vis v : List Int}, goM L n m f vis = some v → Vis n vis → ∃ xs, v = vis ++ xs ∧ Tr L n f xs 0 ∧ Vis n v
  | 0, f, vis, v, h, _ => by simp [goM] at h
  | m + 1, f, vis, v, h, hv => by
    rw [goM] at h
    split at h
    · rename_i h0
      cases h
      exact ⟨[], by simp, h0.symm, hv⟩
    · rename_i h0
      split at h
      · rename_i h1
        obtain ⟨xs, e, ht, hv'⟩ := goM_tr h (hv.snoc h1.1 h1.2)
        refine ⟨f :: xs, by rw [e]; simp, ⟨h0, rfl, ?_⟩, hv'⟩
        simpa [nxtM, h1.1] using ht
      · cases h
/-- The nodes of the list. -/
def nsM (L : List Int) (n : Nat) : List Int := (goM L n (n + 2) (L.getD 0 0) []).getD []
def keysM (L : List Int) (n : Nat) : List Int := (nsM L n).map (keyM L)
theorem ns_tr {L : List Int} {n : Nat} (h : onceM L n = true) : Tr L n (L.getD 0 0) (nsM L n) 0 ∧ (∀ k ∈ nsM L n, isN n k = true) ∧ (nsM L n).length ≤ n := by
  unfold onceM at h
  unfold nsM
  split at h
  · cases h
  · rename_i v1 e
    obtain ⟨xs, e1, ht, hv⟩ := goM_tr e (Vis.nil n)
    rw [e]
    simp only [List.nil_append] at e1
    subst e1
    exact ⟨ht, hv.2, hv.len⟩
def readM (L : List Int) (n : Nat) : Option (List Int) :=
  if onceM L n = true then if risesB (keysM L n) = true then if ((keysM L n).length : Int) = L.getD 2 0 then some (keysM L n) else none else none else none
/-- The cells of an empty set, when the links of the nodes below k are laid. -/
def stJ (k j : Nat) : Int := if j = 1 then 1 else if j % 2 = 0 ∧ 4 ≤ j ∧ j < 2 + 2 * k then ((j / 2 : Nat) : Int) else 0
def stM (n k : Nat) : List Int := (List.range (3 + 2 * n)).map (stJ k)
theorem stM_len (n k : Nat) : (stM n k).length = 3 + 2 * n := by simp [stM]
theorem stM_one (n : Nat) : (List.replicate (3 + 2 * n) (0 : Int)).set 1 1 = stM n 1 := by
  apply List.ext_getElem
  · simp [stM]
  · intro i h1 h2
    rw [List.getElem_set]
    simp only [stM, List.getElem_map, List.getElem_range, stJ, List.getElem_replicate]
    split
    · rename_i e; subst e; simp
    · rename_i e
      rw [if_neg (fun h => e h.symm), if_neg (by omega)]
theorem stM_set (n k : Nat) (h1 : 1 ≤ k) (hk : k < n) : (stM n k).set (2 + 2 * k) ((k : Int) + 1) = stM n (k + 1) := by
  apply List.ext_getElem
  · simp [stM]
  · intro i h2 h3
    rw [List.getElem_set]
    simp only [stM, List.getElem_map, List.getElem_range, stJ]
    split
    · rename_i e
      subst e
      rw [if_neg (by omega), if_pos (by omega)]
      omega
    · rename_i e
      split
      · rfl
      · by_cases hc : i % 2 = 0 ∧ 4 ≤ i ∧ i < 2 + 2 * k
        · rw [if_pos hc, if_pos (by omega)]
        · rw [if_neg hc, if_neg (by omega)]
end Go.Proofs.YtdfefjalamohjabGreatDoor
