/- What stands below and above a key in a list that rises. No program is named here. -/
import Derived.Test.YtdfefjalamohjabGreatDoorSeD
namespace Go.Proofs.YtdfefjalamohjabGreatDoor
open Go.RowKit
set_option linter.unusedVariables false
set_option linter.unusedSimpArgs false

def lessM (l : List Int) (x : Int) : List Int := l.filter (fun z => decide (z < x))
def moreM (l : List Int) (x : Int) : List Int := l.filter (fun z => decide (x < z))
theorem none_less {l : List Int} {x : Int} (h : ∀ z ∈ l, x ≤ z) : lessM l x = [] ∧ atS l x = 0 := by
  constructor
  · unfold lessM
    rw [List.filter_eq_nil_iff]
    intro z hz
    have := h z hz
    simp; omega
  · unfold atS
    rw [List.countP_eq_zero]
    intro z hz
    have := h z hz
    simp; omega
theorem all_more {l : List Int} {x : Int} (h : ∀ z ∈ l, x < z) : moreM l x = l := by
  unfold moreM
  rw [List.filter_eq_self]
  intro z hz
  simpa using h z hz
theorem less_take {l : List Int} (h : l.Pairwise (· < ·)) (x : Int) : l.take (atS l x) = lessM l x := by
  induction l with
  | nil => rfl
  | cons a l ih =>
    rw [List.pairwise_cons] at h
    by_cases ha : a < x
    · have e1 : atS (a :: l) x = atS l x + 1 := by unfold atS; rw [List.countP_cons_of_pos (by simpa using ha)]
      have e2 : lessM (a :: l) x = a :: lessM l x := by unfold lessM; rw [List.filter_cons_of_pos (by simpa using ha)]
      rw [e1, e2, List.take_succ_cons, ih h.2]
    · have hall : ∀ z ∈ a :: l, x ≤ z := fun z hz => by
        rcases List.mem_cons.1 hz with rfl | hz
        · omega
        · have := h.1 z hz; omega
      rw [(none_less hall).1, (none_less hall).2]
      rfl
theorem more_drop {l : List Int} (h : l.Pairwise (· < ·)) (x : Int) : l.drop (atS l x + (if l.contains x = true then 1 else 0)) = moreM l x := by
  induction l with
  | nil => rfl
  | cons a l ih =>
    rw [List.pairwise_cons] at h
    by_cases ha : a < x
    · have e1 : atS (a :: l) x = atS l x + 1 := by unfold atS; rw [List.countP_cons_of_pos (by simpa using ha)]
      have e2 : moreM (a :: l) x = moreM l x := by unfold moreM; rw [List.filter_cons_of_neg (by simp; omega)]
      have e3 : (a :: l).contains x = l.contains x := by
        have : (x == a) = false := by simp; omega
        rw [List.contains_cons, this, Bool.false_or]
      rw [e1, e2, e3, Nat.add_right_comm, List.drop_succ_cons, ih h.2]
    · have hall : ∀ z ∈ a :: l, x ≤ z := fun z hz => by
        rcases List.mem_cons.1 hz with rfl | hz
        · omega
        · have := h.1 z hz; omega
      rw [(none_less hall).2]
      by_cases he : a = x
      · subst he
        have e3 : (a :: l).contains a = true := by simp
        have e2 : moreM (a :: l) a = moreM l a := by unfold moreM; rw [List.filter_cons_of_neg (by simp)]
        rw [e3, e2, all_more h.1]
        rfl
      · have hall2 : ∀ z ∈ a :: l, x < z := fun z hz => by
          rcases List.mem_cons.1 hz with rfl | hz
          · omega
          · have := h.1 z hz; omega
        have e3 : (a :: l).contains x = false := by
          rw [Bool.eq_false_iff]
          intro hc
          have hm : x ∈ a :: l := by simpa using hc
          have := hall2 x hm
          omega
        rw [e3, all_more hall2]
        rfl
/-- What the document's Do says, in its own words. -/
def doR (l : List Int) (n : Int) (d : Dd) : List Int × List Int :=
  if d.op = 1 then (if l.contains d.x = true then (l, [0]) else if (l.length : Int) = n then (l, [2]) else (lessM l d.x ++ [d.x] ++ moreM l d.x, [1]))
  else if d.op = 2 then (if l.contains d.x = true then (lessM l d.x ++ moreM l d.x, [1]) else (l, [0]))
  else if d.op = 3 then (if l.contains d.x = true then (l, [1]) else (l, [0]))
  else if d.op = 4 then (if l = [] then (l, [0]) else (l, [1, l.getD 0 0]))
  else (l, [(l.length : Int)])
theorem doR_doS {l : List Int} (h : risesB l = true) (n : Int) (d : Dd) : doR l n d = doS l n d := by
  have hp := rises_pairwise h
  have h1 := less_take hp d.x
  have h2 := more_drop hp d.x
  unfold doR doS
  by_cases hc : l.contains d.x = true
  · rw [if_pos hc] at h2
    rw [h1, h2]
    simp only [if_pos hc]
  · rw [if_neg hc, Nat.add_zero] at h2
    rw [h1, h2]
    simp only [if_neg hc]
    simp
theorem less_snoc (l : List Int) (x z : Int) : lessM (l ++ [z]) x = if z < x then lessM l x ++ [z] else lessM l x := by
  unfold lessM
  rw [List.filter_append]
  by_cases h : z < x
  · simp [h]
  · simp [h]
theorem more_snoc (l : List Int) (x z : Int) : moreM (l ++ [z]) x = if x < z then moreM l x ++ [z] else moreM l x := by
  unfold moreM
  rw [List.filter_append]
  by_cases h : x < z
  · simp [h]
  · simp [h]
theorem contains_snoc (l : List Int) (x z : Int) : (l ++ [z]).contains x = (l.contains x || decide (z = x)) := by
  have e : ([z] : List Int).contains x = decide (z = x) := by
    rw [Bool.eq_iff_iff]
    simp only [List.contains_iff_mem, List.mem_singleton, decide_eq_true_eq]
    exact ⟨fun h => h.symm, fun h => h.symm⟩
  rw [← e, Bool.eq_iff_iff]
  simp only [Bool.or_eq_true, List.contains_iff_mem, List.mem_append]
theorem less_le (l : List Int) (x : Int) : (lessM l x).length ≤ l.length := List.length_filter_le _ _
theorem more_le (l : List Int) (x : Int) : (moreM l x).length ≤ l.length := List.length_filter_le _ _
end Go.Proofs.YtdfefjalamohjabGreatDoor
