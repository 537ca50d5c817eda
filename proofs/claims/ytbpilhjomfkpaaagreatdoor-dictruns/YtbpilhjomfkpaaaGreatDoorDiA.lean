/- Package dict: where things stand in cells; Room, fits, Start, home, rise. -/
import Derived.Test.YtbpilhjomfkpaaaGreatDoorEs
namespace Go.Proofs.YtbpilhjomfkpaaaGreatDoor
open Go.RowKit
set_option linter.unusedVariables false
set_option linter.unusedSimpArgs false
attribute [local go_sem ↓] Go.wp_at_zero Go.wp_at_succ

theorem stateAt_any (j : Nat) (hj : j ≤ 1000000) (w : World) : Calls Tryz.prog 32 #[.int .i64 j] w fun e w' => e = .returned (.int .i64 ((1 + 3 * j : Nat) : Int)) ∧ w' = w := by
  go_enter Tryz.func32, Tryz.ntmps32
  go_wp2
  go_ret
  exact ⟨by simp, rfl⟩
theorem keyAt_any (j : Nat) (hj : j ≤ 1000000) (w : World) : Calls Tryz.prog 60 #[.int .i64 j] w fun e w' => e = .returned (.int .i64 ((2 + 3 * j : Nat) : Int)) ∧ w' = w := by
  have hs := stateAt_any j hj w
  have e1 : ((1 + 3 * j : Nat) : Int) + 1 = ((2 + 3 * j : Nat) : Int) := by omega
  have b1 : ((1 + 3 * j : Nat) : Int) ≤ 9000000 := by omega
  have b0 : (0 : Int) ≤ ((1 + 3 * j : Nat) : Int) := by omega
  generalize ((1 + 3 * j : Nat) : Int) = q at *
  rw [← e1]
  clear e1
  go_enter Tryz.func60, Tryz.ntmps60
  go_wp2_with (go_at_call 32; refine hs.mono ?_; rintro e w' ⟨rfl, rfl⟩)
  go_ret
  exact ⟨rfl, rfl⟩
theorem valueAt_any (j : Nat) (hj : j ≤ 1000000) (w : World) : Calls Tryz.prog 36 #[.int .i64 j] w fun e w' => e = .returned (.int .i64 ((3 + 3 * j : Nat) : Int)) ∧ w' = w := by
  have hs := stateAt_any j hj w
  have e1 : ((1 + 3 * j : Nat) : Int) + 2 = ((3 + 3 * j : Nat) : Int) := by omega
  have b1 : ((1 + 3 * j : Nat) : Int) ≤ 9000000 := by omega
  have b0 : (0 : Int) ≤ ((1 + 3 * j : Nat) : Int) := by omega
  generalize ((1 + 3 * j : Nat) : Int) = q at *
  rw [← e1]
  clear e1
  go_enter Tryz.func36, Tryz.ntmps36
  go_wp2_with (go_at_call 32; refine hs.mono ?_; rintro e w' ⟨rfl, rfl⟩)
  go_ret
  exact ⟨rfl, rfl⟩
theorem placesOf_any (la : Option Addr) (lc n : Nat) (hn : n ≤ 60) (w : World) : Calls Tryz.prog 59 #[.slice la (1 + 3 * n) lc] w fun e w' => e = .returned (.int .i64 (n : Int)) ∧ w' = w := by
  have e1 : ((1 + 3 * n : Nat) : Int).tdiv 3 = (n : Int) := by
    rw [Int.tdiv_eq_ediv_of_nonneg (by omega)]
    omega
  have b1 : ((1 + 3 * n : Nat) : Int) ≤ 9000000 := by omega
  have b0 : (0 : Int) ≤ ((1 + 3 * n : Nat) : Int) := by omega
  generalize 1 + 3 * n = q at *
  go_enter Tryz.func59, Tryz.ntmps59
  go_wp2
  go_ret
  exact ⟨rfl, rfl⟩
theorem Room_any (n : Int) (w : World) : Calls Tryz.prog 10 #[.int .i64 n] w fun e w' => e = .returned (.int .i64 (roomS n)) ∧ w' = w := by
  unfold roomS
  by_cases h1 : n < 1
  · rw [if_neg (by omega)]
    go_enter Tryz.func10, Tryz.ntmps10
    go_wp2
    go_ret
    exact ⟨rfl, rfl⟩
  · by_cases h2 : 60 < n
    · rw [if_neg (by omega)]
      go_enter Tryz.func10, Tryz.ntmps10
      go_wp2
      go_ret
      exact ⟨rfl, rfl⟩
    · rw [if_pos (by omega)]
      obtain ⟨k, rfl⟩ : ∃ k : Nat, n = (k : Int) := ⟨n.toNat, by omega⟩
      have hs := stateAt_any k (by omega) w
      have e1 : 1 + 3 * (k : Int) = ((1 + 3 * k : Nat) : Int) := by omega
      rw [e1]
      generalize ((1 + 3 * k : Nat) : Int) = q at *
      go_enter Tryz.func10, Tryz.ntmps10
      go_wp2_with (go_at_call 32; refine hs.mono ?_; rintro e w' ⟨rfl, rfl⟩)
      go_ret
      exact ⟨rfl, rfl⟩
def fitsS (base n cells : Int) : Bool := decide (0 < roomS n) && (decide (0 ≤ base) && decide (base ≤ cells - roomS n))
set_option maxHeartbeats 1000000 in
theorem fits_any (base n cells : Int) (w : World) (hc0 : 0 ≤ cells) (hc1 : cells ≤ 9223372036854775807) : Calls Tryz.prog 33 #[.int .i64 base, .int .i64 n, .int .i64 cells] w fun e w' => e = .returned (.bool (fitsS base n cells)) ∧ w' = w := by
  have hR := Room_any n w
  have HF : ∀ c : Bool, (decide (0 < roomS n) && (decide (0 ≤ base) && decide (base ≤ cells - roomS n))) = c → fitsS base n cells = c := fun c h => h
  have hr0 : 0 ≤ roomS n := (roomS_le n).2
  have hr1 : roomS n ≤ 181 := (roomS_le n).1
  generalize fitsS base n cells = F at *
  generalize roomS n = r at *
  by_cases h0 : 0 < r
  · by_cases h1 : 0 ≤ base
    · by_cases h2 : base ≤ cells - r
      · obtain rfl := HF true (by simp [h0, h1, h2])
        go_enter Tryz.func33, Tryz.ntmps33
        go_wp2_with (go_at_call 10; refine hR.mono ?_; rintro e w1 ⟨rfl, rfl⟩)
        go_ret
        exact ⟨rfl, rfl⟩
      · obtain rfl := HF false (by simp [h0, h1, h2])
        have hd : decide (base ≤ cells - r) = false := by simpa using h2
        go_enter Tryz.func33, Tryz.ntmps33
        go_wp2_with (go_at_call 10; refine hR.mono ?_; rintro e w1 ⟨rfl, rfl⟩)
        go_ret
        exact ⟨rfl, rfl⟩
    · obtain rfl := HF false (by simp [h0, h1])
      go_enter Tryz.func33, Tryz.ntmps33
      go_wp2_with (go_at_call 10; refine hR.mono ?_; rintro e w1 ⟨rfl, rfl⟩)
      go_ret
      exact ⟨rfl, rfl⟩
  · obtain rfl := HF false (by simp [h0])
    go_enter Tryz.func33, Tryz.ntmps33
    go_wp2_with (go_at_call 10; refine hR.mono ?_; rintro e w1 ⟨rfl, rfl⟩)
    go_ret
    exact ⟨rfl, rfl⟩
set_option maxHeartbeats 2000000 in
theorem Start_any (n : Int) (w : World) : Calls Tryz.prog 11 #[.int .i64 n] w fun e w' =>
    if 0 < roomS n then ∃ v, e = .returned (.tuple #[v, .int .i64 0]) ∧ St w [ownI 2 1 v (1 + 3 * n.toNat) (xC (List.replicate (1 + 3 * n.toNat) 0))] w' else e = .returned (.tuple #[.slice none 0 0, .int .i64 190]) ∧ w' = w := by
  have hR := Room_any n w
  by_cases h0 : 0 < roomS n
  · obtain ⟨h1, h2, h3⟩ := roomS_pos h0
    simp only [if_pos h0]
    rw [h3] at hR
    obtain ⟨k, rfl⟩ : ∃ k : Nat, n = (k : Int) := ⟨n.toNat, by omega⟩
    simp only [Int.toNat_natCast]
    have hm := makeX (1 + 3 * k) (1 + 3 * (k : Int)) (by push_cast; rfl) (by omega) w
    have s0 : St w (rowI w.heap.size (1 + 3 * k) (1 + 3 * k) (List.replicate (1 + 3 * k) 0) :: []) (w.alloc (.cells (xC (List.replicate (1 + 3 * k) 0)).toArray 2)) := by
      have := (St.nil w).new64 (List.replicate (1 + 3 * k) 0) (by rw [List.length_replicate]; unfold maxLen; omega)
      rw [List.length_replicate] at this
      exact this
    have t0 : ((1 + 3 * (k : Int)) == 0) = false := by simp; omega
    have hS := hid s0
    clear s0
    go_enter Tryz.func11, Tryz.ntmps11
    go_wp2_with (first | (go_at_call 10; refine hR.mono ?_; rintro e w1 ⟨rfl, rfl⟩) | simp only [hm])
    go_ret2
    exact ⟨_, rfl, hS.out⟩
  · simp only [if_neg h0]
    rw [roomS_zero h0] at hR
    clear h0
    go_enter Tryz.func11, Tryz.ntmps11
    go_wp2_with (go_at_call 10; refine hR.mono ?_; rintro e w1 ⟨rfl, rfl⟩)
    go_ret2
    exact ⟨rfl, rfl⟩
set_option maxHeartbeats 1000000 in
theorem home_any (x : Int) (n : Nat) (hn : 0 < n) (hn2 : n ≤ 60) (hx0 : -9223372036854775808 ≤ x) (hx1 : x ≤ 9223372036854775807) (w : World) : Calls Tryz.prog 68 #[.int .i64 x, .int .i64 n] w fun e w' => e = .returned (.int .i64 (homeM x n : Nat)) ∧ w' = w := by
  have hh := home_tmod x hn
  have b1 : x.tmod n < n := Int.tmod_lt_of_pos x (by omega)
  have b0 : -(n : Int) < x.tmod n := by
    have := Int.lt_tmod_of_pos x (show (0 : Int) < (n : Int) by omega)
    omega
  have t0 : ((n : Int) == 0) = false := by simp; omega
  have t1 : ¬ (n : Int) = 0 := by omega
  rw [hh]
  clear hh
  by_cases h : x.tmod n < 0
  · rw [if_pos h]
    generalize hq : x.tmod n = q at *
    have w1 : IntKind.i64.wrap q = q := by rw [IntKind.wrap_i64]; omega
    go_enter Tryz.func68, Tryz.ntmps68
    go_wp2_with (simp only [hq, w1])
    go_ret
    exact ⟨rfl, rfl⟩
  · rw [if_neg h]
    generalize hq : x.tmod n = q at *
    have w1 : IntKind.i64.wrap q = q := by rw [IntKind.wrap_i64]; omega
    go_enter Tryz.func68, Tryz.ntmps68
    go_wp2_with (simp only [hq, w1])
    go_ret
    exact ⟨rfl, rfl⟩
end Go.Proofs.YtbpilhjomfkpaaaGreatDoor
