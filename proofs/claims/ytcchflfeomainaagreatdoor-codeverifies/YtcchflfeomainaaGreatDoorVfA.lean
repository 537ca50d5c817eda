/- The number of a state, what is amiss, the state behind. -/
import Derived.Test.YtcchflfeomainaaGreatDoorVfM
import Derived.Test.YtcchflfeomainaaGreatDoorTb
namespace Go.Proofs.YtcchflfeomainaaGreatDoor
open Go.RowKit
set_option linter.unusedVariables false
set_option linter.unusedSimpArgs false

theorem hidV {p : Prop} (h : p) : Hid p := h
def Row.val (r : Row) : Value := .agg #[.string r.word, .int .i64 r.takes, .int .i64 r.pops, .int .i64 r.pushes, .int .i64 r.whr]
/-- Numbers of a row. -/
structure Row.ok (r : Row) : Prop where
  p0 : 0 ≤ r.pops
  p1 : r.pops ≤ 2
  q0 : 0 ≤ r.pushes
  q1 : r.pushes ≤ 2
theorem rowOk : ∀ n : Nat, n < 23 → (rowOf (n : Nat)).ok
  | 0, _ => ⟨by decide, by decide, by decide, by decide⟩
  | 1, _ => ⟨by decide, by decide, by decide, by decide⟩
  | 2, _ => ⟨by decide, by decide, by decide, by decide⟩
  | 3, _ => ⟨by decide, by decide, by decide, by decide⟩
  | 4, _ => ⟨by decide, by decide, by decide, by decide⟩
  | 5, _ => ⟨by decide, by decide, by decide, by decide⟩
  | 6, _ => ⟨by decide, by decide, by decide, by decide⟩
  | 7, _ => ⟨by decide, by decide, by decide, by decide⟩
  | 8, _ => ⟨by decide, by decide, by decide, by decide⟩
  | 9, _ => ⟨by decide, by decide, by decide, by decide⟩
  | 10, _ => ⟨by decide, by decide, by decide, by decide⟩
  | 11, _ => ⟨by decide, by decide, by decide, by decide⟩
  | 12, _ => ⟨by decide, by decide, by decide, by decide⟩
  | 13, _ => ⟨by decide, by decide, by decide, by decide⟩
  | 14, _ => ⟨by decide, by decide, by decide, by decide⟩
  | 15, _ => ⟨by decide, by decide, by decide, by decide⟩
  | 16, _ => ⟨by decide, by decide, by decide, by decide⟩
  | 17, _ => ⟨by decide, by decide, by decide, by decide⟩
  | 18, _ => ⟨by decide, by decide, by decide, by decide⟩
  | 19, _ => ⟨by decide, by decide, by decide, by decide⟩
  | 20, _ => ⟨by decide, by decide, by decide, by decide⟩
  | 21, _ => ⟨by decide, by decide, by decide, by decide⟩
  | 22, _ => ⟨by decide, by decide, by decide, by decide⟩
  | n + 23, h => absurd h (by omega)
set_option maxRecDepth 100000 in
theorem number_st (s : Sst) (hs : s.ok) (w : World) : Calls Tryz.prog 48 #[s.val] w fun e w' => e = .returned (.int .i64 s.num) ∧ Kept (fun _ => False) w w' := by
  obtain ⟨d, i, b⟩ := s
  obtain ⟨h1, h2⟩ := hs
  simp only at h1 h2
  unfold Sst.val Sst.num
  have b1 : (0 : Int) ≤ (d : Int) := Int.natCast_nonneg _
  have b2 : (d : Int) ≤ 32 := by omega
  have b3 : (0 : Int) ≤ (b : Int) := Int.natCast_nonneg _
  have b4 : (b : Int) ≤ 32 := by omega
  have K := kept_alloc w (.cells #[.int .i64 d, .bool i, .int .i64 b] 63)
  cases i
  · go_enter Tryz.func48, Tryz.ntmps48
    go_wp2
    go_ret
    exact ⟨rfl, K⟩
  · go_enter Tryz.func48, Tryz.ntmps48
    go_wp2
    go_ret
    exact ⟨by simp, K⟩
set_option maxRecDepth 100000 in
set_option maxHeartbeats 1000000 in
theorem amiss_st (r : Row) (hr : r.ok) (s : Sst) (hs : s.ok) (w : World) : Calls Tryz.prog 49 #[r.val, s.val] w fun e w' => e = .returned (.int .i64 (amissM r s)) ∧ Kept (fun _ => False) w w' := by
  obtain ⟨wd, tk, po, pu, wh⟩ := r
  obtain ⟨d, i, b⟩ := s
  obtain ⟨p0, p1, q0, q1⟩ := hr
  obtain ⟨h1, h2⟩ := hs
  simp only at h1 h2 p0 p1 q0 q1
  have b1 : (0 : Int) ≤ (d : Int) := Int.natCast_nonneg _
  have b2 : (d : Int) ≤ 32 := by omega
  have K := (kept_alloc w (.cells #[.string wd, .int .i64 tk, .int .i64 po, .int .i64 pu, .int .i64 wh] 57)).alloc (.cells #[.int .i64 d, .bool i, .int .i64 b] 63)
  unfold Sst.val Row.val amissM
  simp only
  clear h1 h2
  generalize (d : Int) = D at *
  by_cases h1 : D < po
  · rw [if_pos (.inl h1)]
    have t1 := decide_eq_true h1
    go_enter Tryz.func49, Tryz.ntmps49
    go_wp2
    go_ret
    exact ⟨rfl, K⟩
  · have t1 := decide_eq_false h1
    by_cases h2 : 32 < D - po + pu
    · rw [if_pos (.inr h2)]
      have t2 := decide_eq_true h2
      go_enter Tryz.func49, Tryz.ntmps49
      go_wp2
      go_ret
      exact ⟨rfl, K⟩
    · rw [if_neg (by omega)]
      have t2 := decide_eq_false h2
      cases i
      · by_cases h3 : wh = 2
        · rw [if_pos (.inr ⟨rfl, h3⟩)]
          have t3 : (wh == 2) = true := by simp [h3]
          clear h3
          go_enter Tryz.func49, Tryz.ntmps49
          go_wp2
          go_ret
          exact ⟨rfl, K⟩
        · rw [if_neg (by simp [h3])]
          have t3 : (wh == 2) = false := by simp [h3]
          clear h3
          go_enter Tryz.func49, Tryz.ntmps49
          go_wp2
          go_ret
          exact ⟨rfl, K⟩
      · by_cases h3 : wh = 1
        · rw [if_pos (.inl ⟨rfl, h3⟩)]
          have t3 : (wh == 1) = true := by simp [h3]
          clear h3
          go_enter Tryz.func49, Tryz.ntmps49
          go_wp2
          go_ret
          exact ⟨rfl, K⟩
        · rw [if_neg (by simp [h3])]
          have t3 : (wh == 1) = false := by simp [h3]
          clear h3
          go_enter Tryz.func49, Tryz.ntmps49
          go_wp2
          go_ret
          exact ⟨rfl, K⟩
set_option maxRecDepth 100000 in
set_option maxHeartbeats 1000000 in
theorem behind_st (op : Int) (r : Row) (hr : r.ok) (s : Sst) (hs : s.ok) (ha : amissM r s = 0) (w : World) : Calls Tryz.prog 51 #[.int .i64 op, r.val, s.val] w fun e w' => e = .returned (behindM op r s).val ∧ Kept (fun _ => False) w w' := by
  obtain ⟨wd, tk, po, pu, wh⟩ := r
  obtain ⟨d, i, b⟩ := s
  obtain ⟨p0, p1, q0, q1⟩ := hr
  obtain ⟨h1, h2⟩ := hs
  have h3 : ¬ ((d : Int) < po ∨ 32 < (d : Int) - po + pu) := fun h4 => by unfold amissM at ha; rw [if_pos h4] at ha; cases ha
  simp only at h1 h2 p0 p1 q0 q1
  have b1 : (0 : Int) ≤ (d : Int) := Int.natCast_nonneg _
  have b2 : (d : Int) ≤ 32 := by omega
  have HN : Hid ((((d : Int) + (pu - po)).toNat : Int) = (d : Int) + (pu - po)) := by show _ = _; omega
  have K : ∀ c, Kept (fun _ => False) w (((w.alloc (.cells #[.string wd, .int .i64 tk, .int .i64 po, .int .i64 pu, .int .i64 wh] 57)).alloc (.cells #[.int .i64 ((d : Int) + (pu - po)), .bool i, .int .i64 b] 63)).alloc c) := fun c => ((kept_alloc w _).alloc _).alloc _
  unfold Sst.val Row.val behindM
  simp only
  by_cases e16 : op = 16
  · rw [if_pos e16]
    subst e16
    clear ha h1 h2 h3
    go_enter Tryz.func51, Tryz.ntmps51
    go_wp2
    refine bodyPost_ret (v := .agg #[.int .i64 ((d : Int) + (pu - po)), .bool true, .int .i64 ((d : Int) + (pu - po))]) (by simp [results, Tryz.results51, go_sem]) rfl ?_
    exact ⟨by rw [HN.out], K _⟩
  · rw [if_neg e16]
    have t16 : (op == 16) = false := by simp [e16]
    by_cases e19 : op = 19
    · rw [if_pos e19]
      subst e19
      clear ha h1 h2 h3 e16 t16
      go_enter Tryz.func51, Tryz.ntmps51
      go_wp2
      refine bodyPost_ret (v := .agg #[.int .i64 ((d : Int) + (pu - po)), .bool false, .int .i64 0]) (by simp [results, Tryz.results51, go_sem]) rfl ?_
      exact ⟨by rw [HN.out]; rfl, K _⟩
    · rw [if_neg e19]
      have t19 : (op == 19) = false := by simp [e19]
      by_cases e20 : op = 20
      · rw [if_pos e20]
        subst e20
        clear ha h1 h2 h3 e16 e19 t16 t19
        go_enter Tryz.func51, Tryz.ntmps51
        go_wp2
        refine bodyPost_ret (v := .agg #[.int .i64 b, .bool false, .int .i64 0]) (by simp [results, Tryz.results51, go_sem]) rfl ?_
        exact ⟨rfl, K _⟩
      · rw [if_neg e20]
        have t20 : (op == 20) = false := by simp [e20]
        clear ha h1 h2 h3 e16 e19 e20
        go_enter Tryz.func51, Tryz.ntmps51
        go_wp2
        refine bodyPost_ret (v := .agg #[.int .i64 ((d : Int) + (pu - po)), .bool i, .int .i64 b]) (by simp [results, Tryz.results51, go_sem]) rfl ?_
        exact ⟨by rw [HN.out], K _⟩
end Go.Proofs.YtcchflfeomainaaGreatDoor
