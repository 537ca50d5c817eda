/- What deeds keep: plain facts. -/
import Derived.Test.YtdfefjalamohjabGreatDoorSeG
import Derived.Test.YtdfefjalamohjabGreatDoorRdM
namespace Go.Proofs.YtdfefjalamohjabGreatDoor
open Go.RowKit
set_option linter.unusedVariables false
set_option linter.unusedSimpArgs false

theorem pairwise_rises {l : List Int} (h : l.Pairwise (· < ·)) : risesB l = true := by
  induction l with
  | nil => rfl
  | cons a l ih =>
    cases l with
    | nil => rfl
    | cons b l =>
      rw [List.pairwise_cons] at h
      simp only [risesB, Bool.and_eq_true, decide_eq_true_eq]
      exact ⟨h.1 b (by simp), ih h.2⟩
/-- What SetHas tells. -/
def hasS (l : List Int) (y : Int) : Int := if l.contains y = true then 1 else 0
theorem doS_has (l : List Int) (n y : Int) : doS l n ⟨3, 0, 0, y, 0⟩ = (l, [hasS l y]) := by
  unfold doS hasS
  simp only [Int.reduceEq, if_false, if_true]
  split <;> rfl
theorem doS_size (l : List Int) (n : Int) : doS l n ⟨5, 0, 0, 0, 0⟩ = (l, [(l.length : Int)]) := by
  unfold doS
  simp only [Int.reduceEq, if_false]
def kpD (puts : Bool) (x : Int) : Dd := if puts then ⟨1, 0, 0, x, 0⟩ else ⟨2, 0, 0, x, 0⟩
/-- What such a deed leaves: members, and that it rises. -/
theorem kp_mem {l : List Int} {n x : Int} (puts : Bool) (hr : risesB l = true) : risesB (doS l n (kpD puts x)).1 = true ∧ ∃ t, (doS l n (kpD puts x)).2 = [t] ∧
    (∀ y, y ≠ x → (y ∈ (doS l n (kpD puts x)).1 ↔ y ∈ l)) ∧ (x ∈ (doS l n (kpD puts x)).1 ↔ puts = true ∧ t ≠ 2) := by
  have hp := rises_pairwise hr
  have hless : ∀ y, y ∈ lessM l x ↔ y ∈ l ∧ y < x := fun y => by unfold lessM; rw [List.mem_filter, decide_eq_true_eq]
  have hmore : ∀ y, y ∈ moreM l x ↔ y ∈ l ∧ x < y := fun y => by unfold moreM; rw [List.mem_filter, decide_eq_true_eq]
  have pl : (lessM l x).Pairwise (· < ·) := hp.filter _
  have pm : (moreM l x).Pairwise (· < ·) := hp.filter _
  rw [← doR_doS hr]
  cases puts with
  | true =>
    show risesB (doR l n ⟨1, 0, 0, x, 0⟩).1 = true ∧ ∃ t, (doR l n ⟨1, 0, 0, x, 0⟩).2 = [t] ∧ (∀ y, y ≠ x → (y ∈ (doR l n ⟨1, 0, 0, x, 0⟩).1 ↔ y ∈ l)) ∧ (x ∈ (doR l n ⟨1, 0, 0, x, 0⟩).1 ↔ true = true ∧ t ≠ 2)
    by_cases hc : l.contains x = true
    · have hm : x ∈ l := by simpa using hc
      have e : doR l n ⟨1, 0, 0, x, 0⟩ = (l, [0]) := by unfold doR; rw [if_pos rfl, if_pos hc]
      rw [e]
      exact ⟨hr, 0, rfl, fun y _ => Iff.rfl, by simp [hm]⟩
    · have hm : x ∉ l := by simpa using hc
      have hc' : l.contains x = false := by simpa using hc
      by_cases hn : (l.length : Int) = n
      · have e : doR l n ⟨1, 0, 0, x, 0⟩ = (l, [2]) := by unfold doR; rw [if_pos rfl, if_neg hc, if_pos hn]
        rw [e]
        exact ⟨hr, 2, rfl, fun y _ => Iff.rfl, by simp [hm]⟩
      · have e : doR l n ⟨1, 0, 0, x, 0⟩ = (lessM l x ++ [x] ++ moreM l x, [1]) := by unfold doR; rw [if_pos rfl, if_neg hc, if_neg hn]
        rw [e]
        refine ⟨pairwise_rises ?_, 1, rfl, fun y hy => ?_, by simp⟩
        · rw [List.append_assoc, List.pairwise_append]
          refine ⟨pl, ?_, fun a ha b hb => ?_⟩
          · rw [List.singleton_append, List.pairwise_cons]
            exact ⟨fun b hb => ((hmore b).1 hb).2, pm⟩
          · have := ((hless a).1 ha).2
            rcases List.mem_append.1 hb with hb | hb
            · rw [List.mem_singleton] at hb; omega
            · have := ((hmore b).1 hb).2; omega
        · simp only [List.mem_append, hless, hmore, List.mem_singleton]
          constructor
          · rintro ((h | h) | h)
            · exact h.1
            · exact absurd h hy
            · exact h.1
          · intro h
            rcases Int.lt_or_gt_of_ne hy with h2 | h2
            · exact .inl (.inl ⟨h, h2⟩)
            · exact .inr ⟨h, h2⟩
  | false =>
    show risesB (doR l n ⟨2, 0, 0, x, 0⟩).1 = true ∧ ∃ t, (doR l n ⟨2, 0, 0, x, 0⟩).2 = [t] ∧ (∀ y, y ≠ x → (y ∈ (doR l n ⟨2, 0, 0, x, 0⟩).1 ↔ y ∈ l)) ∧ (x ∈ (doR l n ⟨2, 0, 0, x, 0⟩).1 ↔ false = true ∧ t ≠ 2)
    by_cases hc : l.contains x = true
    · have e : doR l n ⟨2, 0, 0, x, 0⟩ = (lessM l x ++ moreM l x, [1]) := by unfold doR; rw [if_neg (show ¬ (2 : Int) = 1 by decide), if_pos rfl, if_pos hc]
      rw [e]
      refine ⟨pairwise_rises ?_, 1, rfl, fun y hy => ?_, ?_⟩
      · rw [List.pairwise_append]
        refine ⟨pl, pm, fun a ha b hb => ?_⟩
        have := ((hless a).1 ha).2
        have := ((hmore b).1 hb).2
        omega
      · simp only [List.mem_append, hless, hmore]
        constructor
        · rintro (h | h)
          · exact h.1
          · exact h.1
        · intro h
          rcases Int.lt_or_gt_of_ne hy with h2 | h2
          · exact .inl ⟨h, h2⟩
          · exact .inr ⟨h, h2⟩
      · simp only [List.mem_append, hless, hmore]
        simp
    · have hm : x ∉ l := by simpa using hc
      have e : doR l n ⟨2, 0, 0, x, 0⟩ = (l, [0]) := by unfold doR; rw [if_neg (show ¬ (2 : Int) = 1 by decide), if_pos rfl, if_neg hc]
      rw [e]
      exact ⟨hr, 0, rfl, fun y _ => Iff.rfl, by simp [hm]⟩
theorem hasS_iff (l : List Int) (y : Int) : hasS l y = if y ∈ l then 1 else 0 := by
  unfold hasS
  by_cases h : y ∈ l
  · rw [if_pos h, if_pos (by simpa using h)]
  · rw [if_neg h, if_neg (by simpa using h)]
theorem kp_told {l : List Int} {n x : Int} (puts : Bool) (hr : risesB l = true) : ∃ t, (doS l n (kpD puts x)).2 = [t] ∧ hasS (doS l n (kpD puts x)).1 x = (if puts = true ∧ t ≠ 2 then 1 else 0) := by
  obtain ⟨_, t, e, _, h⟩ := kp_mem (n := n) (x := x) puts hr
  refine ⟨t, e, ?_⟩
  rw [hasS_iff]
  by_cases hx : x ∈ (doS l n (kpD puts x)).1
  · rw [if_pos hx, if_pos (h.1 hx)]
  · rw [if_neg hx, if_neg (fun hh => hx (h.2 hh))]
theorem kp_other {l : List Int} {n x y : Int} (puts : Bool) (hr : risesB l = true) (hy : y ≠ x) : hasS (doS l n (kpD puts x)).1 y = hasS l y := by
  obtain ⟨_, t, e, h, _⟩ := kp_mem (n := n) (x := x) puts hr
  rw [hasS_iff, hasS_iff]
  by_cases hx : y ∈ l
  · rw [if_pos hx, if_pos ((h y hy).2 hx)]
  · rw [if_neg hx, if_neg (fun hh => hx ((h y hy).1 hh))]
theorem kp_len {l : List Int} {n x : Int} (puts : Bool) (hl : (l.length : Int) ≤ n) : (((doS l n (kpD puts x)).1.length : Nat) : Int) ≤ n := by
  have hc := count_le l x
  unfold doS kpD
  cases puts with
  | true =>
    simp only [if_true]
    by_cases h : l.contains x = true
    · simp only [if_pos h]; exact hl
    · simp only [if_neg h]
      by_cases hn : (l.length : Int) = n
      · simp only [if_pos hn]; exact hl
      · simp only [if_neg hn, List.length_append, List.length_cons, List.length_take, List.length_drop]
        omega
  | false =>
    simp only [Bool.false_eq_true, if_false, Int.reduceEq, if_true]
    by_cases h : l.contains x = true
    · simp only [if_pos h, List.length_append, List.length_take, List.length_drop]; omega
    · simp only [if_neg h]; exact hl
theorem kp_ok {l : List Int} {n x y z : Int} (puts : Bool) (h : okS l n ⟨3, 0, 0, y, 0⟩ = true) : okS (doS l n (kpD puts x)).1 n ⟨3, 0, 0, z, 0⟩ = true := by
  unfold okS at h ⊢
  simp only [Bool.and_eq_true, decide_eq_true_eq] at h ⊢
  obtain ⟨h1, h2, h3, h4⟩ := h
  exact ⟨h1, kp_len puts h2, by simp [mayS], (kp_mem puts h4).1⟩
theorem kp_okz {l : List Int} {n x y : Int} (puts : Bool) (h : okS l n ⟨3, 0, 0, y, 0⟩ = true) : okS (doS l n (kpD puts x)).1 n ⟨5, 0, 0, 0, 0⟩ = true := by
  unfold okS at h ⊢
  simp only [Bool.and_eq_true, decide_eq_true_eq] at h ⊢
  obtain ⟨h1, h2, h3, h4⟩ := h
  exact ⟨h1, kp_len puts h2, by simp [mayS], (kp_mem puts h4).1⟩
theorem kp_same (l : List Int) (n x y : Int) (puts : Bool) : okS l n (kpD puts x) = okS l n ⟨3, 0, 0, y, 0⟩ := by
  unfold okS kpD
  cases puts <;> simp [mayS]
end Go.Proofs.YtdfefjalamohjabGreatDoor
