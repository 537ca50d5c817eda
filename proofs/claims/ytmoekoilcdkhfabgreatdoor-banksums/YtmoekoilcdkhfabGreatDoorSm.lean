/- Sums of balances, modulo 2^64. No program is named here. -/
import Derived.Test.YtmoekoilcdkhfabGreatDoorBkM
namespace Go.Proofs.YtmoekoilcdkhfabGreatDoor
open Go.RowKit
set_option linter.unusedVariables false
set_option linter.unusedSimpArgs false

theorem wrap_add (a b : Int) : wrap64 (wrap64 a + b) = wrap64 (a + b) := by unfold wrap64; omega
theorem wrap_wrap (a : Int) : wrap64 (wrap64 a) = wrap64 a := by unfold wrap64; omega
theorem sum_fold (l : List Int) : ∀ t : Int, wrap64 (l.foldl (fun t x => wrap64 (t + x)) t) = wrap64 (t + l.sum) := by
  induction l with
  | nil => intro t; simp
  | cons x l ih =>
    intro t
    simp only [List.foldl_cons, List.sum_cons]
    rw [ih, wrap_add]
    congr 1
    omega
theorem sumM_in (l : List Int) : wrap64 (sumM l) = sumM l := by
  unfold sumM
  rcases List.eq_nil_or_concat l with rfl | ⟨r, x, rfl⟩
  · show wrap64 0 = 0
    unfold wrap64
    rfl
  · rw [List.concat_eq_append, List.foldl_append]
    simp only [List.foldl_cons, List.foldl_nil]
    exact wrap_wrap _
theorem sumM_eq (l : List Int) : sumM l = wrap64 l.sum := by
  rw [← sumM_in]
  unfold sumM
  rw [sum_fold]
  congr 1
  omega
theorem sum_set (l : List Int) (k : Nat) (x : Int) (hk : k < l.length) : (l.set k x).sum = l.sum - l.getD k 0 + x := by
  induction l generalizing k with
  | nil => simp at hk
  | cons y l ih =>
    cases k with
    | zero => simp only [List.set_cons_zero, List.sum_cons, List.getD_cons_zero]; omega
    | succ k =>
      have := ih k (by simpa using hk)
      simp only [List.set_cons_succ, List.sum_cons, List.getD_cons_succ, this]
      omega
/-- Deeds but those that pay or take leave the sum. -/
theorem do_sum (l : List Int) (d : Dd) (h1 : d.op ≠ 1) (h2 : d.op ≠ 2) (ha : d.op = 3 → d.a.toNat < l.length) (hb : d.op = 3 → d.b.toNat < l.length) : sumM (doM l d).1 = sumM l := by
  unfold doM
  rw [if_neg h1, if_neg h2]
  split
  · rename_i h3
    have ha := ha h3
    have hb := hb h3
    split
    · rfl
    · simp only
      rw [sumM_eq, sumM_eq, sum_set _ _ _ (by rw [List.length_set]; exact hb), sum_set _ _ _ ha]
      generalize (l.set d.a.toNat (wrap64 (l.getD d.a.toNat 0 - d.x))).getD d.b.toNat 0 = q
      generalize l.getD d.a.toNat 0 = p
      generalize l.sum = s
      unfold wrap64
      omega
  · split <;> rfl
end Go.Proofs.YtmoekoilcdkhfabGreatDoor
