/- What deeds keep: plain facts. -/
import Derived.Test.YtbpilhjomfkpaabGreatDoorDiF
namespace Go.Proofs.YtbpilhjomfkpaabGreatDoor
open Go.RowKit
set_option linter.unusedVariables false
set_option linter.unusedSimpArgs false

theorem atP_turn (x v y : Int) : ∀ l : List Pr, atP (turnP l x v) y = if y = x then (atP l x).map (fun _ => v) else atP l y
  | [] => by simp [turnP, atP]
  | p :: l => by
    have ih := atP_turn x v y l
    have e : turnP (p :: l) x v = (if p.1 = x then (x, v) else p) :: turnP l x v := rfl
    rw [e]
    by_cases hp : p.1 = x
    · rw [if_pos hp]
      simp only [atP, hp, if_true]
      by_cases hy : y = x
      · simp [hy]
      · rw [if_neg (fun e => hy e.symm), if_neg hy, if_neg (fun e => hy e.symm), ih, if_neg hy]
    · rw [if_neg hp]
      simp only [atP, if_neg hp]
      by_cases hy : p.1 = y
      · rw [if_pos hy, if_neg (by omega), if_pos hy]
      · rw [if_neg hy, ih, if_neg hy]
theorem atP_lack (x y : Int) : ∀ l : List Pr, atP (lackP l x) y = if y = x then none else atP l y
  | [] => by simp [lackP, atP]
  | p :: l => by
    have ih := atP_lack x y l
    by_cases hp : p.1 = x
    · have e : lackP (p :: l) x = lackP l x := by simp [lackP, hp]
      rw [e, ih]
      by_cases hy : y = x
      · simp [hy]
      · simp only [if_neg hy, atP]
        rw [if_neg (by omega)]
    · have e : lackP (p :: l) x = p :: lackP l x := by simp [lackP, hp]
      rw [e]
      simp only [atP, ih]
      by_cases hy : p.1 = y
      · rw [if_pos hy, if_pos hy, if_neg (by omega)]
      · rw [if_neg hy, if_neg hy]
theorem atP_ins (x v y : Int) : ∀ l : List Pr, (∀ p ∈ l, p.1 ≠ x) → atP (insP (x, v) l) y = if y = x then some v else atP l y
  | [], _ => by
    simp only [insP, atP]
    by_cases hy : y = x
    · simp [hy]
    · rw [if_neg (fun e => hy e.symm), if_neg hy]
  | p :: l, h => by
    have hp := h p (by simp)
    have ih := atP_ins x v y l (fun q hq => h q (by simp [hq]))
    simp only [insP]
    split
    · simp only [atP]
      by_cases hy : y = x
      · simp [hy]
      · rw [if_neg (fun e => hy e.symm), if_neg hy]
    · simp only [atP, ih]
      by_cases hy : p.1 = y
      · rw [if_pos hy, if_pos hy, if_neg (by omega)]
      · rw [if_neg hy, if_neg hy]
/-- What DictGet tells. -/
def getT (l : List Pr) (y : Int) : List Int := match atP l y with | some v => [1, v] | none => [0]
theorem doS_get (l : List Pr) (n y : Int) : doS l n ⟨2, 0, 0, y, 0⟩ = (l, getT l y) := by
  unfold doS getT
  simp only [Int.reduceEq, if_false]
  cases atP l y <;> rfl
def kpD (puts : Bool) (x v : Int) : Dd := if puts then ⟨1, 0, 0, x, v⟩ else ⟨3, 0, 0, x, 0⟩
theorem kp_other {l : List Pr} {n x v y : Int} (puts : Bool) (hy : y ≠ x) : atP (doS l n (kpD puts x v)).1 y = atP l y := by
  unfold doS kpD
  cases puts with
  | true =>
    simp only [if_true, Int.reduceEq, if_false]
    cases h : atP l x with
    | some u => simp only []; rw [atP_turn, if_neg hy]
    | none =>
      simp only []
      split
      · rfl
      · rw [atP_ins _ _ _ _ (atP_none h), if_neg hy]
  | false =>
    simp only [Bool.false_eq_true, if_false, Int.reduceEq, if_true]
    cases h : atP l x with
    | some u => simp only []; rw [atP_lack, if_neg hy]
    | none => rfl
theorem kp_told {l : List Pr} {n x v : Int} (puts : Bool) : ∃ t, (doS l n (kpD puts x v)).2 = [t] ∧ getT (doS l n (kpD puts x v)).1 x = if puts = true ∧ t ≠ 2 then [1, v] else [0] := by
  unfold doS kpD getT
  cases puts with
  | true =>
    simp only [if_true, Int.reduceEq, if_false, true_and]
    cases h : atP l x with
    | some u =>
      refine ⟨0, rfl, ?_⟩
      simp only []
      rw [atP_turn, if_pos rfl, h]
      simp
    | none =>
      simp only []
      split
      · refine ⟨2, rfl, ?_⟩
        simp only []
        rw [h]
        simp
      · refine ⟨1, rfl, ?_⟩
        simp only []
        rw [atP_ins _ _ _ _ (atP_none h), if_pos rfl]
        simp
  | false =>
    simp only [Bool.false_eq_true, if_false, Int.reduceEq, if_true, false_and]
    cases h : atP l x with
    | some u =>
      refine ⟨1, rfl, ?_⟩
      simp only []
      rw [atP_lack, if_pos rfl]
    | none =>
      refine ⟨0, rfl, ?_⟩
      simp only []
      rw [h]
theorem kp_len {l : List Pr} {n x v : Int} (puts : Bool) (hl : (l.length : Int) ≤ n) : (((doS l n (kpD puts x v)).1.length : Nat) : Int) ≤ n := by
  have h1 : ∀ x v, (turnP l x v).length = l.length := fun x v => by simp [turnP]
  have h2 : ∀ x, (lackP l x).length ≤ l.length := fun x => List.length_filter_le _ _
  have h3 : ∀ p, (insP p l).length = l.length + 1 := fun p => by rw [(insP_perm p l).length_eq]; simp
  unfold doS kpD
  cases puts with
  | true =>
    simp only [if_true, Int.reduceEq, if_false]
    cases h : atP l x with
    | some u => simp only []; rw [h1]; exact hl
    | none =>
      simp only []
      split
      · exact hl
      · simp only []; rw [h3]; omega
  | false =>
    simp only [Bool.false_eq_true, if_false, Int.reduceEq, if_true]
    cases h : atP l x with
    | some u => simp only []; have := h2 x; omega
    | none => exact hl
theorem kp_keys {l : List Pr} {n x v : Int} (puts : Bool) (hk : ∀ p ∈ l, Rg p.1) (hx : Rg x) : ∀ p ∈ (doS l n (kpD puts x v)).1, Rg p.1 := by
  have h1 : ∀ v, ∀ p ∈ turnP l x v, Rg p.1 := fun v p hp => by
    obtain ⟨q, hq, e⟩ := List.mem_map.1 hp
    split at e
    · rw [← e]; exact hx
    · rw [← e]; exact hk q hq
  have h2 : ∀ p ∈ lackP l x, Rg p.1 := fun p hp => hk p (List.mem_filter.1 hp).1
  have h3 : ∀ v, ∀ p ∈ insP (x, v) l, Rg p.1 := fun v p hp => by
    rcases List.mem_cons.1 ((insP_perm (x, v) l).mem_iff.1 hp) with rfl | hp
    · exact hx
    · exact hk p hp
  unfold doS kpD
  cases puts with
  | true =>
    simp only [if_true, Int.reduceEq, if_false]
    cases h : atP l x with
    | some u => exact h1 v
    | none =>
      simp only []
      split
      · exact hk
      · exact h3 v
  | false =>
    simp only [Bool.false_eq_true, if_false, Int.reduceEq, if_true]
    cases h : atP l x with
    | some u => exact h2
    | none => exact hk
theorem kp_ok {l : List Pr} {n x v y z : Int} (puts : Bool) (h : okS l n ⟨2, 0, 0, y, 0⟩ = true) : okS (doS l n (kpD puts x v)).1 n ⟨2, 0, 0, z, 0⟩ = true := by
  unfold okS at h ⊢
  simp only [Bool.and_eq_true, decide_eq_true_eq] at h ⊢
  obtain ⟨h1, h2, h3, h4⟩ := h
  exact ⟨h1, kp_len puts h2, (rises_iff _).2 (doS_rises ((rises_iff _).1 h3) _ _), by simp [mayS]⟩
theorem kp_same (l : List Pr) (n x v y : Int) (puts : Bool) : okS l n (kpD puts x v) = okS l n ⟨2, 0, 0, y, 0⟩ := by
  unfold okS kpD
  cases puts <;> simp [mayS]
end Go.Proofs.YtbpilhjomfkpaabGreatDoor
