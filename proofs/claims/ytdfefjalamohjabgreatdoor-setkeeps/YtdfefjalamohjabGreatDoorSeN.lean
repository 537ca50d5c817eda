/- Nodes that were met, as cells. No program is named here. -/
import Derived.Test.YtdfefjalamohjabGreatDoorSeM
namespace Go.Proofs.YtdfefjalamohjabGreatDoor
open Go.RowKit
set_option linter.unusedVariables false
set_option linter.unusedSimpArgs false

def beC (n : Nat) (vis : List Int) : Array Value := ((List.range (n + 1)).map fun (i : Nat) => Value.bool (decide ((i : Int) ∈ vis))).toArray
theorem beC_nil (n : Nat) : beC n [] = ((List.replicate (n + 1) false).map Value.bool).toArray := by
  unfold beC
  congr 1
  apply List.ext_getElem
  · simp
  · intro i h1 h2
    simp
theorem beC_at (n : Nat) (vis : List Int) {k : Nat} (hk : k ≤ n) : (beC n vis)[k]? = some (.bool (decide ((k : Int) ∈ vis))) := by
  simp [beC, List.getElem?_range (show k < n + 1 by omega)]
theorem beC_set (n : Nat) (vis : List Int) {k : Nat} (hk : k ≤ n) : (beC n vis).setIfInBounds k (.bool true) = beC n (vis ++ [(k : Int)]) := by
  apply Array.ext'
  rw [Array.toList_setIfInBounds]
  unfold beC
  simp only
  apply List.ext_getElem
  · simp
  · intro i h1 h2
    rw [List.getElem_set]
    split
    · rename_i e
      subst e
      simp
    · rename_i e
      have hne : ¬ (i : Int) = (k : Int) := by omega
      simp [hne]
theorem go_stray {L : List Int} {n : Nat} {f x : Int} {vis pre : List Int} (hT : Tr L n f pre x) (hx : x ≠ 0) (hv : Vis n (vis ++ pre)) (h : ¬ (isN n x = true ∧ x ∉ vis ++ pre)) : goM L n (n + 2) f vis = none := by
  have hlen := hv.len
  rw [List.length_append] at hlen
  obtain ⟨m, hm⟩ : ∃ m, n + 2 = (m + 1) + pre.length := ⟨n + 1 - pre.length, by omega⟩
  rw [hm, goM_steps hT hv, goM, if_neg hx, if_neg h]
theorem go_end {L : List Int} {n : Nat} {f : Int} {vis pre : List Int} (hT : Tr L n f pre 0) (hv : Vis n (vis ++ pre)) : goM L n (n + 2) f vis = some (vis ++ pre) := by
  have hlen := hv.len
  rw [List.length_append] at hlen
  obtain ⟨m, hm⟩ : ∃ m, n + 2 = (m + 1) + pre.length := ⟨n + 1 - pre.length, by omega⟩
  rw [hm, goM_steps hT hv, goM, if_pos rfl]
theorem Vis.nil (n : Nat) : Vis n [] := ⟨List.nodup_nil, fun k hk => (List.not_mem_nil hk).elim⟩
end Go.Proofs.YtdfefjalamohjabGreatDoor
