/- Package deque: Room, fits, Start, Read. -/
import Derived.Test.YtahokdgodhhchaaGreatDoorDqM
import Derived.Test.YtahokdgodhhchaaGreatDoorXs
namespace Go.Proofs.YtahokdgodhhchaaGreatDoor
open Go.RowKit
set_option linter.unusedVariables false
set_option linter.unusedSimpArgs false
attribute [local go_sem ↓] Go.wp_at_zero Go.wp_at_succ

theorem place_any (p : Int) (h0 : 0 ≤ p) (h9 : p ≤ 1000) (w : World) : Calls Tryz.prog 31 #[.int .i64 p] w fun e w' => e = .returned (.int .i64 (2 + p)) ∧ w' = w := by
  go_enter Tryz.func31, Tryz.ntmps31
  go_wp2
  go_ret
  exact ⟨rfl, rfl⟩
theorem placeAt_any (p : Nat) (hp : p ≤ 1000) (w : World) : Calls Tryz.prog 31 #[.int .i64 p] w fun e w' => e = .returned (.int .i64 ((2 + p : Nat) : Int)) ∧ w' = w := by
  have he : ((2 + p : Nat) : Int) = 2 + (p : Int) := by push_cast; rfl
  rw [he]
  exact place_any p (by omega) (by omega) w
theorem Room_any (n : Int) (w : World) : Calls Tryz.prog 10 #[.int .i64 n] w fun e w' => e = .returned (.int .i64 (roomS n)) ∧ w' = w := by
  unfold roomS
  by_cases h1 : n < 1
  · rw [if_neg (by omega)]
    go_enter Tryz.func10, Tryz.ntmps10
    go_wp2
    go_ret
    exact ⟨rfl, rfl⟩
  · by_cases h2 : 100 < n
    · rw [if_neg (by omega)]
      go_enter Tryz.func10, Tryz.ntmps10
      go_wp2
      go_ret
      exact ⟨rfl, rfl⟩
    · rw [if_pos (by omega)]
      have hp := place_any n (by omega) (by omega) w
      go_enter Tryz.func10, Tryz.ntmps10
      go_wp2_with (go_at_call 31; refine hp.mono ?_; rintro e w1 ⟨rfl, rfl⟩)
      go_ret
      exact ⟨rfl, rfl⟩
set_option maxHeartbeats 1000000 in
theorem fits_any (base n cells : Int) (w : World) (hc0 : 0 ≤ cells) (hc1 : cells ≤ 9223372036854775807) : Calls Tryz.prog 32 #[.int .i64 base, .int .i64 n, .int .i64 cells] w fun e w' => e = .returned (.bool (fitsS base n cells)) ∧ w' = w := by
  have hR := Room_any n w
  have HF : ∀ c : Bool, (decide (0 < roomS n) && (decide (0 ≤ base) && decide (base ≤ cells - roomS n))) = c → fitsS base n cells = c := fun c h => h
  have hr0 : 0 ≤ roomS n := (roomS_le n).1
  have hr1 : roomS n ≤ 102 := (roomS_le n).2
  generalize fitsS base n cells = F at *
  generalize roomS n = r at *
  by_cases h0 : 0 < r
  · by_cases h1 : 0 ≤ base
    · by_cases h2 : base ≤ cells - r
      · obtain rfl := HF true (by simp [h0, h1, h2])
        go_enter Tryz.func32, Tryz.ntmps32
        go_wp2_with (go_at_call 10; refine hR.mono ?_; rintro e w1 ⟨rfl, rfl⟩)
        go_ret
        exact ⟨rfl, rfl⟩
      · obtain rfl := HF false (by simp [h0, h1, h2])
        have hd : decide (base ≤ cells - r) = false := by simpa using h2
        go_enter Tryz.func32, Tryz.ntmps32
        go_wp2_with (go_at_call 10; refine hR.mono ?_; rintro e w1 ⟨rfl, rfl⟩)
        go_ret
        exact ⟨rfl, rfl⟩
    · obtain rfl := HF false (by simp [h0, h1])
      go_enter Tryz.func32, Tryz.ntmps32
      go_wp2_with (go_at_call 10; refine hR.mono ?_; rintro e w1 ⟨rfl, rfl⟩)
      go_ret
      exact ⟨rfl, rfl⟩
  · obtain rfl := HF false (by simp [h0])
    go_enter Tryz.func32, Tryz.ntmps32
    go_wp2_with (go_at_call 10; refine hR.mono ?_; rintro e w1 ⟨rfl, rfl⟩)
    go_ret
    exact ⟨rfl, rfl⟩
set_option maxHeartbeats 2000000 in
theorem Start_any (n : Int) (w : World) : Calls Tryz.prog 11 #[.int .i64 n] w fun e w' =>
    if 0 < roomS n then ∃ v, e = .returned (.tuple #[v, .int .i64 0]) ∧ St w [ownI 2 1 v (2 + n.toNat) (xC (List.replicate (2 + n.toNat) 0))] w' else e = .returned (.tuple #[.slice none 0 0, .int .i64 200]) ∧ w' = w := by
  have hR := Room_any n w
  by_cases h0 : 0 < roomS n
  · obtain ⟨h1, h2, h3⟩ := roomS_pos h0
    simp only [if_pos h0]
    rw [h3] at hR
    obtain ⟨k, rfl⟩ : ∃ k : Nat, n = (k : Int) := ⟨n.toNat, by omega⟩
    simp only [Int.toNat_natCast]
    have hm := makeX (2 + k) (2 + (k : Int)) (by push_cast; rfl) (by omega) w
    have s0 : St w (rowI w.heap.size (2 + k) (2 + k) (List.replicate (2 + k) 0) :: []) (w.alloc (.cells (xC (List.replicate (2 + k) 0)).toArray 2)) := by
      have := (St.nil w).new64 (List.replicate (2 + k) 0) (by rw [List.length_replicate]; unfold maxLen; omega)
      rw [List.length_replicate] at this
      exact this
    have t0 : ((2 + (k : Int)) == 0) = false := by simp; omega
    have hS := hid s0
    clear s0
    go_enter Tryz.func11, Tryz.ntmps11
    go_wp2_with (first | (go_at_call 10; refine hR.mono ?_; rintro e w1 ⟨rfl, rfl⟩) | simp only [hm])
    go_ret2
    exact ⟨_, rfl, hS.out⟩
  · simp only [if_neg h0]
    rw [roomS_zero h0] at hR
    clear h0
    go_enter Tryz.func11, Tryz.ntmps11
    go_wp2_with (go_at_call 10; refine hR.mono ?_; rintro e w1 ⟨rfl, rfl⟩)
    go_ret2
    exact ⟨rfl, rfl⟩
set_option maxHeartbeats 2000000 in
theorem isRing_any {w : World} {g o m lc : Nat} {P : List Int} (hX : XIn w (some ⟨g, o, none⟩) m P) (h2 : 2 ≤ m) (n : Nat) : Calls Tryz.prog 33 #[.slice (some ⟨g, o, none⟩) m lc, .int .i64 n] w fun e w' => e = .returned (.bool (ringB P n)) ∧ Kept (fun _ => False) w w' := by
  have c0 : w.drew.cell? ⟨g, o, none⟩ = some (.int .i64 (P.getD 0 0)) := hX.cell (j := 0) (by omega)
  have c1 : w.drew.cell? ⟨g, o + 1, none⟩ = some (.int .i64 (P.getD 1 0)) := hX.cell (j := 1) (by omega)
  have HF : ∀ c : Bool, (decide (0 ≤ P.getD 0 0) && (decide (P.getD 0 0 < (n : Int)) && (decide (0 ≤ P.getD 1 0) && decide (P.getD 1 0 ≤ (n : Int))))) = c → ringB P n = c := fun c h => h
  have q0 : (0 : Int) < (m : Int) := by omega
  have q1 : (1 : Int) < (m : Int) := by omega
  have HK := hid (kept_drew w)
  generalize ringB P n = F at *
  generalize P.getD 0 0 = f at *
  generalize P.getD 1 0 = k at *
  clear hX h2
  by_cases h0 : 0 ≤ f
  · have t0 : decide (0 ≤ f) = true := by simpa using h0
    by_cases h1 : f < (n : Int)
    · have t1 : decide (f < (n : Int)) = true := by simpa using h1
      by_cases h2 : 0 ≤ k
      · have t2 : decide (0 ≤ k) = true := by simpa using h2
        cases t3 : decide (k ≤ (n : Int)) with
        | true =>
          obtain rfl := HF true (by rw [t0, t1, t2, t3]; rfl)
          clear h0 h1 h2 HF
          go_enter Tryz.func33, Tryz.ntmps33
          go_wp2
          go_region
          go_wp2
          go_ret
          exact ⟨rfl, HK.out⟩
        | false =>
          obtain rfl := HF false (by rw [t0, t1, t2, t3]; rfl)
          clear h0 h1 h2 HF
          go_enter Tryz.func33, Tryz.ntmps33
          go_wp2
          go_region
          go_wp2
          go_ret
          exact ⟨rfl, HK.out⟩
      · have t2 : decide (0 ≤ k) = false := by simpa using h2
        obtain rfl := HF false (by rw [t0, t1, t2]; rfl)
        clear h0 h1 h2 HF
        go_enter Tryz.func33, Tryz.ntmps33
        go_wp2
        go_region
        go_wp2
        go_ret
        exact ⟨rfl, HK.out⟩
    · have t1 : decide (f < (n : Int)) = false := by simpa using h1
      obtain rfl := HF false (by rw [t0, t1]; rfl)
      clear h0 h1 HF
      go_enter Tryz.func33, Tryz.ntmps33
      go_wp2
      go_region
      go_wp2
      go_ret
      exact ⟨rfl, HK.out⟩
  · have t0 : decide (0 ≤ f) = false := by simpa using h0
    obtain rfl := HF false (by rw [t0]; rfl)
    clear h0 HF
    go_enter Tryz.func33, Tryz.ntmps33
    go_wp2
    go_region
    go_wp2
    go_ret
    exact ⟨rfl, HK.out⟩
end Go.Proofs.YtahokdgodhhchaaGreatDoor
