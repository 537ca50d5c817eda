/- The document's at, amiss and add. -/
import Derived.Test.YtcchflfeomainaaGreatDoorRv
import Derived.Test.YtcchflfeomainaaGreatDoorVfE
namespace Go.Proofs.YtcchflfeomainaaGreatDoor
open Go.RowKit
set_option linter.unusedVariables false
set_option linter.unusedSimpArgs false
attribute [local go_sem ↓] Go.wp_at_zero Go.wp_at_succ

/-- The document's number for inside and base. -/
def Sst.bas (s : Sst) : Nat := if s.i then s.b + 1 else 0
/-- The document's number of a spot. -/
def Spt.key (x : Spt) : Nat := (x.p * 33 + x.s.d) * 34 + x.s.bas
theorem bas_le {s : Sst} (h : s.ok) : s.bas ≤ 33 := by have := h.2; unfold Sst.bas; split <;> omega
theorem key_lt {n : Nat} {x : Spt} (h : Fine n x) : x.key < n * 33 * 34 := by
  have h1 := h.1
  have h2 := h.2.1.1
  have h3 := bas_le h.2.1
  unfold Spt.key
  omega
theorem key_parts {n : Nat} {x : Spt} (h : Fine n x) : x.key % 34 = x.s.bas ∧ x.key / 34 % 33 = x.s.d ∧ x.key / 34 / 33 = x.p := by
  have h2 := h.2.1.1
  have h3 := bas_le h.2.1
  unfold Spt.key
  omega
theorem key_inj {n : Nat} {x y : Spt} (hx : Fine n x) (hy : Fine n y) (h : x.key = y.key) : x = y := by
  obtain ⟨a1, a2, a3⟩ := key_parts hx
  obtain ⟨b1, b2, b3⟩ := key_parts hy
  rw [h] at a1 a2 a3
  obtain ⟨p, d, i, b⟩ := x
  obtain ⟨p', d', i', b'⟩ := y
  have hx2 := hx.2.2
  have hy2 := hy.2.2
  simp only at hx2 hy2
  have e1 : p = p' := by simp only at a3 b3; omega
  have e2 : d = d' := by simp only at a2 b2; omega
  have e3 : Sst.bas ⟨d, i, b⟩ = Sst.bas ⟨d', i', b'⟩ := by simp only at a1 b1; omega
  unfold Sst.bas at e3
  cases i <;> cases i' <;> simp only [if_true, Bool.false_eq_true, if_false] at e3
  · have := hx2 rfl; have := hy2 rfl; simp_all
  · omega
  · omega
  · have : b = b' := by omega
    simp_all
set_option maxRecDepth 100000 in
theorem rAt_any (p d b : Nat) (hp : p ≤ 401) (hd : d ≤ 32) (hb : b ≤ 33) (w : World) : Calls Tryz.prog 52 #[.int .i64 p, .int .i64 d, .int .i64 b] w fun e w' => e = .returned (.int .i64 (((p : Int) * 33 + d) * 34 + b)) ∧ w' = w := by
  have a1 : (0 : Int) ≤ (p : Int) := Int.natCast_nonneg _
  have a2 : (p : Int) ≤ 401 := by omega
  have a3 : (0 : Int) ≤ (d : Int) := Int.natCast_nonneg _
  have a4 : (d : Int) ≤ 32 := by omega
  have a5 : (0 : Int) ≤ (b : Int) := Int.natCast_nonneg _
  have a6 : (b : Int) ≤ 33 := by omega
  go_enter Tryz.func52, Tryz.ntmps52
  go_wp2
  go_ret
  exact ⟨rfl, rfl⟩
theorem amissM_bas (m : Nat) (hm : m < 23) (s : Sst) : amissM (rowOf (m : Nat)) s = if (s.d : Int) < (rowOf (m : Nat)).pops ∨ 32 < (s.d : Int) - (rowOf (m : Nat)).pops + (rowOf (m : Nat)).pushes then 155 else if (m = 16 ∨ m = 22) ∧ 0 < s.bas then 156 else if (m = 17 ∨ m = 18 ∨ m = 19 ∨ m = 20) ∧ s.bas = 0 then 156 else 0 := by
  have hw : (rowOf (m : Nat)).whr = if m = 16 ∨ m = 22 then 1 else if m = 17 ∨ m = 18 ∨ m = 19 ∨ m = 20 then 2 else 0 := by
    match m, hm with
    | 0, _ => decide
    | 1, _ => decide
    | 2, _ => decide
    | 3, _ => decide
    | 4, _ => decide
    | 5, _ => decide
    | 6, _ => decide
    | 7, _ => decide
    | 8, _ => decide
    | 9, _ => decide
    | 10, _ => decide
    | 11, _ => decide
    | 12, _ => decide
    | 13, _ => decide
    | 14, _ => decide
    | 15, _ => decide
    | 16, _ => decide
    | 17, _ => decide
    | 18, _ => decide
    | 19, _ => decide
    | 20, _ => decide
    | 21, _ => decide
    | 22, _ => decide
    | n + 23, h => exact absurd h (by omega)
  unfold amissM
  by_cases h1 : (s.d : Int) < (rowOf (m : Nat)).pops ∨ 32 < (s.d : Int) - (rowOf (m : Nat)).pops + (rowOf (m : Nat)).pushes
  · rw [if_pos h1, if_pos h1]
  · rw [if_neg h1, if_neg h1, hw]
    obtain ⟨d, i, b⟩ := s
    by_cases e1 : m = 16 ∨ m = 22
    · have e2 : ¬ (m = 17 ∨ m = 18 ∨ m = 19 ∨ m = 20) := by omega
      cases i <;> simp [Sst.bas, e1, e2]
    · by_cases e2 : m = 17 ∨ m = 18 ∨ m = 19 ∨ m = 20
      · cases i <;> simp [Sst.bas, e1, e2]
      · simp [e1, e2]
theorem pops_le (m : Nat) (hm : m < 23) : 0 ≤ (rowOf (m : Nat)).pops ∧ (rowOf (m : Nat)).pops ≤ 2 ∧ 0 ≤ (rowOf (m : Nat)).pushes ∧ (rowOf (m : Nat)).pushes ≤ 2 := by
  match m, hm with
  | 0, _ => decide
  | 1, _ => decide
  | 2, _ => decide
  | 3, _ => decide
  | 4, _ => decide
  | 5, _ => decide
  | 6, _ => decide
  | 7, _ => decide
  | 8, _ => decide
  | 9, _ => decide
  | 10, _ => decide
  | 11, _ => decide
  | 12, _ => decide
  | 13, _ => decide
  | 14, _ => decide
  | 15, _ => decide
  | 16, _ => decide
  | 17, _ => decide
  | 18, _ => decide
  | 19, _ => decide
  | 20, _ => decide
  | 21, _ => decide
  | 22, _ => decide
  | n + 23, h => exact absurd h (by omega)
set_option maxRecDepth 100000 in
set_option maxHeartbeats 1000000 in
theorem rAmiss_any (m : Nat) (hm : m < 23) (s : Sst) (hs : s.ok) (w : World) : Calls Tryz.prog 34 #[.int .i64 m, .int .i64 s.d, .int .i64 s.bas] w fun e w' => e = .returned (.int .i64 (amissM (rowOf (m : Nat)) s)) ∧ w' = w := by
  have hP := fun W => rPops_any m W hm
  have hQ := fun W => rPushes_any m W hm
  obtain ⟨p0, p1, q0, q1⟩ := pops_le m hm
  have hb := bas_le hs
  have hd := hs.1
  rw [amissM_bas m hm s]
  generalize (rowOf (m : Nat)).pops = P at *
  generalize (rowOf (m : Nat)).pushes = Q at *
  generalize s.bas = b at *
  generalize s.d = d at *
  have a1 : (0 : Int) ≤ (d : Int) := Int.natCast_nonneg _
  have a2 : (d : Int) ≤ 32 := by omega
  have a3 : (0 : Int) ≤ (b : Int) := Int.natCast_nonneg _
  have a4 : (b : Int) ≤ 33 := by omega
  clear hs hd hb
  by_cases h1 : (d : Int) < P
  · rw [if_pos (.inl h1)]
    go_enter Tryz.func34, Tryz.ntmps34
    go_wp2_with (first | (go_at_call 53; refine (hP _).mono ?_; rintro e w1 ⟨rfl, rfl⟩) | (go_at_call 54; refine (hQ _).mono ?_; rintro e w1 ⟨rfl, rfl⟩))
    go_ret
    exact ⟨rfl, rfl⟩
  · by_cases h2 : 32 < (d : Int) - P + Q
    · rw [if_pos (.inr h2)]
      go_enter Tryz.func34, Tryz.ntmps34
      go_wp2_with (first | (go_at_call 53; refine (hP _).mono ?_; rintro e w1 ⟨rfl, rfl⟩) | (go_at_call 54; refine (hQ _).mono ?_; rintro e w1 ⟨rfl, rfl⟩))
      go_ret
      exact ⟨rfl, rfl⟩
    · rw [if_neg (fun hh => by rcases hh with hh | hh; exact h1 hh; exact h2 hh)]
      have h3 : (d : Int) - P + Q ≤ 32 := by omega
      by_cases hb0 : b = 0
      · subst hb0
        by_cases e17 : m = 17 ∨ m = 18 ∨ m = 19 ∨ m = 20
        · rw [if_neg (fun hh => by omega), if_pos ⟨e17, rfl⟩]
          rcases e17 with rfl | rfl | rfl | rfl
          · go_enter Tryz.func34, Tryz.ntmps34
            go_wp2_with (first | (go_at_call 53; refine (hP _).mono ?_; rintro e w1 ⟨rfl, rfl⟩) | (go_at_call 54; refine (hQ _).mono ?_; rintro e w1 ⟨rfl, rfl⟩))
            go_ret
            exact ⟨rfl, rfl⟩
          · go_enter Tryz.func34, Tryz.ntmps34
            go_wp2_with (first | (go_at_call 53; refine (hP _).mono ?_; rintro e w1 ⟨rfl, rfl⟩) | (go_at_call 54; refine (hQ _).mono ?_; rintro e w1 ⟨rfl, rfl⟩))
            go_ret
            exact ⟨rfl, rfl⟩
          · go_enter Tryz.func34, Tryz.ntmps34
            go_wp2_with (first | (go_at_call 53; refine (hP _).mono ?_; rintro e w1 ⟨rfl, rfl⟩) | (go_at_call 54; refine (hQ _).mono ?_; rintro e w1 ⟨rfl, rfl⟩))
            go_ret
            exact ⟨rfl, rfl⟩
          · go_enter Tryz.func34, Tryz.ntmps34
            go_wp2_with (first | (go_at_call 53; refine (hP _).mono ?_; rintro e w1 ⟨rfl, rfl⟩) | (go_at_call 54; refine (hQ _).mono ?_; rintro e w1 ⟨rfl, rfl⟩))
            go_ret
            exact ⟨rfl, rfl⟩
        · rw [if_neg (fun hh => by omega), if_neg (fun hh => e17 hh.1)]
          have t17 : ((m : Int) == 17) = false := by simp; omega
          have t18 : ((m : Int) == 18) = false := by simp; omega
          have t19 : ((m : Int) == 19) = false := by simp; omega
          have t20 : ((m : Int) == 20) = false := by simp; omega
          by_cases e16 : m = 16
          · subst e16
            go_enter Tryz.func34, Tryz.ntmps34
            go_wp2_with (first | (go_at_call 53; refine (hP _).mono ?_; rintro e w1 ⟨rfl, rfl⟩) | (go_at_call 54; refine (hQ _).mono ?_; rintro e w1 ⟨rfl, rfl⟩))
            go_ret
            exact ⟨rfl, rfl⟩
          · have t16 : ((m : Int) == 16) = false := by simp; omega
            by_cases e22 : m = 22
            · subst e22
              go_enter Tryz.func34, Tryz.ntmps34
              go_wp2_with (first | (go_at_call 53; refine (hP _).mono ?_; rintro e w1 ⟨rfl, rfl⟩) | (go_at_call 54; refine (hQ _).mono ?_; rintro e w1 ⟨rfl, rfl⟩))
              go_ret
              exact ⟨rfl, rfl⟩
            · have t22 : ((m : Int) == 22) = false := by simp; omega
              clear e16 e22 e17
              go_enter Tryz.func34, Tryz.ntmps34
              go_wp2_with (first | (go_at_call 53; refine (hP _).mono ?_; rintro e w1 ⟨rfl, rfl⟩) | (go_at_call 54; refine (hQ _).mono ?_; rintro e w1 ⟨rfl, rfl⟩))
              go_ret
              exact ⟨rfl, rfl⟩
      · have b0 : (0 : Int) < (b : Int) := by omega
        have tb : ((b : Int) == 0) = false := by simp; omega
        by_cases e16 : m = 16 ∨ m = 22
        · rw [if_pos ⟨e16, by omega⟩]
          rcases e16 with rfl | rfl
          · go_enter Tryz.func34, Tryz.ntmps34
            go_wp2_with (first | (go_at_call 53; refine (hP _).mono ?_; rintro e w1 ⟨rfl, rfl⟩) | (go_at_call 54; refine (hQ _).mono ?_; rintro e w1 ⟨rfl, rfl⟩))
            go_ret
            exact ⟨rfl, rfl⟩
          · go_enter Tryz.func34, Tryz.ntmps34
            go_wp2_with (first | (go_at_call 53; refine (hP _).mono ?_; rintro e w1 ⟨rfl, rfl⟩) | (go_at_call 54; refine (hQ _).mono ?_; rintro e w1 ⟨rfl, rfl⟩))
            go_ret
            exact ⟨rfl, rfl⟩
        · rw [if_neg (fun hh => e16 hh.1), if_neg (fun hh => hb0 hh.2)]
          have t16 : ((m : Int) == 16) = false := by simp; omega
          have t22 : ((m : Int) == 22) = false := by simp; omega
          clear hb0
          by_cases e17 : m = 17 ∨ m = 18 ∨ m = 19 ∨ m = 20
          · rcases e17 with rfl | rfl | rfl | rfl
            · go_enter Tryz.func34, Tryz.ntmps34
              go_wp2_with (first | (go_at_call 53; refine (hP _).mono ?_; rintro e w1 ⟨rfl, rfl⟩) | (go_at_call 54; refine (hQ _).mono ?_; rintro e w1 ⟨rfl, rfl⟩))
              go_ret
              exact ⟨rfl, rfl⟩
            · go_enter Tryz.func34, Tryz.ntmps34
              go_wp2_with (first | (go_at_call 53; refine (hP _).mono ?_; rintro e w1 ⟨rfl, rfl⟩) | (go_at_call 54; refine (hQ _).mono ?_; rintro e w1 ⟨rfl, rfl⟩))
              go_ret
              exact ⟨rfl, rfl⟩
            · go_enter Tryz.func34, Tryz.ntmps34
              go_wp2_with (first | (go_at_call 53; refine (hP _).mono ?_; rintro e w1 ⟨rfl, rfl⟩) | (go_at_call 54; refine (hQ _).mono ?_; rintro e w1 ⟨rfl, rfl⟩))
              go_ret
              exact ⟨rfl, rfl⟩
            · go_enter Tryz.func34, Tryz.ntmps34
              go_wp2_with (first | (go_at_call 53; refine (hP _).mono ?_; rintro e w1 ⟨rfl, rfl⟩) | (go_at_call 54; refine (hQ _).mono ?_; rintro e w1 ⟨rfl, rfl⟩))
              go_ret
              exact ⟨rfl, rfl⟩
          · have t17 : ((m : Int) == 17) = false := by simp; omega
            have t18 : ((m : Int) == 18) = false := by simp; omega
            have t19 : ((m : Int) == 19) = false := by simp; omega
            have t20 : ((m : Int) == 20) = false := by simp; omega
            clear e16 e17
            go_enter Tryz.func34, Tryz.ntmps34
            go_wp2_with (first | (go_at_call 53; refine (hP _).mono ?_; rintro e w1 ⟨rfl, rfl⟩) | (go_at_call 54; refine (hQ _).mono ?_; rintro e w1 ⟨rfl, rfl⟩))
            go_ret
            exact ⟨rfl, rfl⟩
end Go.Proofs.YtcchflfeomainaaGreatDoor
