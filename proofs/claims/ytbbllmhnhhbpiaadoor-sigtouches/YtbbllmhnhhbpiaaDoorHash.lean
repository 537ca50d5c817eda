/- Hash, of the program and of the reference. -/
import Derived.Test.YtbbllmhnhhbpiaaDoorWords
namespace Go.Proofs.YtbbllmhnhhbpiaaDoor
open Go.RowKit
set_option linter.unusedVariables false
set_option linter.unusedSimpArgs false

/-- One bit of a cell's hash. -/
def hv (c f n : Int) : Int := (c + 1) * f % 65536 * n / 65536
theorem hv_range (c f n : Int) (h0 : 1 ≤ n) : 0 ≤ hv c f n ∧ hv c f n < n := by
  unfold hv
  have m0 : 0 ≤ (c + 1) * f % 65536 := Int.emod_nonneg _ (by decide)
  have m1 : (c + 1) * f % 65536 < 65536 := Int.emod_lt_of_pos _ (by decide)
  generalize (c + 1) * f % 65536 = m at m0 m1
  have p0 : 0 ≤ m * n := Int.mul_nonneg m0 (by omega)
  have p1 : m * n < 65536 * n := Int.mul_lt_mul_of_pos_right m1 (by omega)
  generalize m * n = p at p0 p1
  omega

set_option maxHeartbeats 1000000 in
theorem spread_in (c f n : Int) (w : World) (c0 : 0 ≤ c) (c1 : c < 256) (f0 : 0 ≤ f) (f1 : f < 65536) (n0 : 1 ≤ n) (n1 : n ≤ 128) :
    Calls Tryd.prog 35 #[.int .i64 c, .int .i64 f, .int .i64 n] w fun e w' => e = .returned (.int .i64 (hv c f n)) ∧ w' = w := by
  have p0 : 0 ≤ (c + 1) * f := Int.mul_nonneg (by omega) f0
  have p1 : (c + 1) * f < 16842752 := by
    have : (c + 1) * f ≤ 256 * f := Int.mul_le_mul_of_nonneg_right (by omega) f0
    omega
  have m0 : 0 ≤ (c + 1) * f % 65536 := Int.emod_nonneg _ (by decide)
  have m1 : (c + 1) * f % 65536 < 65536 := Int.emod_lt_of_pos _ (by decide)
  have q0 : 0 ≤ (c + 1) * f % 65536 * n := Int.mul_nonneg m0 (by omega)
  have q1 : (c + 1) * f % 65536 * n < 8454144 := by
    have : (c + 1) * f % 65536 * n ≤ 65536 * n := Int.mul_le_mul_of_nonneg_right (by omega) (by omega)
    omega
  go_enter Tryd.func35, Tryd.ntmps35
  go_wp2
  go_ret
  exact ⟨rfl, rfl⟩

/-- What Hash answers. -/
def hash1 (c n : Int) : Int := if 1 ≤ n ∧ n ≤ 128 then if 0 ≤ c ∧ c < 256 then hv c 40503 n else 0 else 0
def hash2 (c n : Int) : Int := if 1 ≤ n ∧ n ≤ 128 then if 0 ≤ c ∧ c < 256 then hv c 30011 n else 0 else 0
def hashE (c n : Int) : Int := if 1 ≤ n ∧ n ≤ 128 then if 0 ≤ c ∧ c < 256 then 0 else 2 else 1

theorem width_no (n : Int) (w : World) (h : ¬ (1 ≤ n ∧ n ≤ 128)) : Calls Tryd.prog 34 #[.int .i64 n] w fun e w' => e = .returned (.bool false) ∧ w' = w := by
  by_cases h0 : 1 ≤ n
  · exact width_high n w h0 (by omega)
  · exact width_low n w (by omega)

set_option maxHeartbeats 1000000 in
theorem hash_any (c n : Int) (w : World) : Calls Tryd.prog 10 #[.int .i64 c, .int .i64 n] w fun e w' => e = .returned (.tuple #[.int .i64 (hash1 c n), .int .i64 (hash2 c n), .int .i64 (hashE c n)]) ∧ w' = w := by
  unfold hash1 hash2 hashE
  by_cases hn : 1 ≤ n ∧ n ≤ 128
  · simp only [if_pos hn]
    by_cases hc : 0 ≤ c ∧ c < 256
    · simp only [if_pos hc]
      have s1 := fun w => spread_in c 40503 n w hc.1 hc.2 (by decide) (by decide) hn.1 hn.2
      have s2 := fun w => spread_in c 30011 n w hc.1 hc.2 (by decide) (by decide) hn.1 hn.2
      have wy := fun w => width_yes n w hn.1 hn.2
      generalize hv c 40503 n = x1 at *
      generalize hv c 30011 n = x2 at *
      obtain ⟨c0, c1⟩ := hc
      have c2 : ¬ c < 0 := by omega
      have c3 : ¬ 256 ≤ c := by omega
      clear hn
      go_enter Tryd.func10, Tryd.ntmps10
      go_wp2_with fail
      refine (wy _).mono ?_
      rintro e w1 ⟨rfl, rfl⟩
      go_wp2_with fail
      refine (s1 _).mono ?_
      rintro e w2 ⟨rfl, rfl⟩
      go_wp2_with fail
      refine (s2 _).mono ?_
      rintro e w3 ⟨rfl, rfl⟩
      go_wp2
      exact bodyPost_ret (v := .tuple #[.int .i64 x1, .int .i64 x2, .int .i64 0]) (by simp [results, Tryd.results10, go_sem]) rfl ⟨rfl, rfl⟩
    · simp only [if_neg hc]
      have wy := fun w => width_yes n w hn.1 hn.2
      by_cases c2 : c < 0
      · clear hn hc
        go_enter Tryd.func10, Tryd.ntmps10
        go_wp2_with fail
        refine (wy _).mono ?_
        rintro e w1 ⟨rfl, rfl⟩
        go_wp2
        exact bodyPost_ret (v := .tuple #[.int .i64 0, .int .i64 0, .int .i64 2]) (by simp [results, Tryd.results10, go_sem]) rfl ⟨rfl, rfl⟩
      · have c3 : 256 ≤ c := by omega
        clear hn hc
        go_enter Tryd.func10, Tryd.ntmps10
        go_wp2_with fail
        refine (wy _).mono ?_
        rintro e w1 ⟨rfl, rfl⟩
        go_wp2
        exact bodyPost_ret (v := .tuple #[.int .i64 0, .int .i64 0, .int .i64 2]) (by simp [results, Tryd.results10, go_sem]) rfl ⟨rfl, rfl⟩
  · simp only [if_neg hn]
    have wn := fun w => width_no n w hn
    clear hn
    go_enter Tryd.func10, Tryd.ntmps10
    go_wp2_with fail
    refine (wn _).mono ?_
    rintro e w1 ⟨rfl, rfl⟩
    go_wp2
    exact bodyPost_ret (v := .tuple #[.int .i64 0, .int .i64 0, .int .i64 1]) (by simp [results, Tryd.results10, go_sem]) rfl ⟨rfl, rfl⟩

set_option maxHeartbeats 1000000 in
theorem refHash_any (c n : Int) (w : World) : Calls Tryd.prog 11 #[.int .i64 c, .int .i64 n] w fun e w' => e = .returned (.tuple #[.int .i64 (hash1 c n), .int .i64 (hash2 c n), .int .i64 (hashE c n)]) ∧ w' = w := by
  unfold hash1 hash2 hashE
  by_cases hn : 1 ≤ n ∧ n ≤ 128
  · simp only [if_pos hn]
    obtain ⟨n0, n1⟩ := hn
    have n2 : ¬ n < 1 := by omega
    have n3 : ¬ 128 < n := by omega
    by_cases hc : 0 ≤ c ∧ c < 256
    · simp only [if_pos hc]
      obtain ⟨c0, c1⟩ := hc
      have c2 : ¬ c < 0 := by omega
      have c3 : ¬ 255 < c := by omega
      unfold hv
      have m0 : 0 ≤ (c + 1) * 40503 % 65536 := Int.emod_nonneg _ (by decide)
      have m1 : (c + 1) * 40503 % 65536 < 65536 := Int.emod_lt_of_pos _ (by decide)
      have q0 : 0 ≤ (c + 1) * 40503 % 65536 * n := Int.mul_nonneg m0 (by omega)
      have q1 : (c + 1) * 40503 % 65536 * n < 8454144 := by
        have : (c + 1) * 40503 % 65536 * n ≤ 65536 * n := Int.mul_le_mul_of_nonneg_right (by omega) (by omega)
        omega
      have k0 : 0 ≤ (c + 1) * 30011 % 65536 := Int.emod_nonneg _ (by decide)
      have k1 : (c + 1) * 30011 % 65536 < 65536 := Int.emod_lt_of_pos _ (by decide)
      have l0 : 0 ≤ (c + 1) * 30011 % 65536 * n := Int.mul_nonneg k0 (by omega)
      have l1 : (c + 1) * 30011 % 65536 * n < 8454144 := by
        have : (c + 1) * 30011 % 65536 * n ≤ 65536 * n := Int.mul_le_mul_of_nonneg_right (by omega) (by omega)
        omega
      go_enter Tryd.func11, Tryd.ntmps11
      go_wp2
      exact bodyPost_ret (v := .tuple #[.int .i64 ((c + 1) * 40503 % 65536 * n / 65536), .int .i64 ((c + 1) * 30011 % 65536 * n / 65536), .int .i64 0]) (by simp [results, Tryd.results11, go_sem]) rfl ⟨rfl, rfl⟩
    · simp only [if_neg hc]
      by_cases c2 : c < 0
      · clear hc
        go_enter Tryd.func11, Tryd.ntmps11
        go_wp2
        exact bodyPost_ret (v := .tuple #[.int .i64 0, .int .i64 0, .int .i64 2]) (by simp [results, Tryd.results11, go_sem]) rfl ⟨rfl, rfl⟩
      · have c3 : 255 < c := by omega
        clear hc
        go_enter Tryd.func11, Tryd.ntmps11
        go_wp2
        exact bodyPost_ret (v := .tuple #[.int .i64 0, .int .i64 0, .int .i64 2]) (by simp [results, Tryd.results11, go_sem]) rfl ⟨rfl, rfl⟩
  · simp only [if_neg hn]
    by_cases n2 : n < 1
    · clear hn
      go_enter Tryd.func11, Tryd.ntmps11
      go_wp2
      exact bodyPost_ret (v := .tuple #[.int .i64 0, .int .i64 0, .int .i64 1]) (by simp [results, Tryd.results11, go_sem]) rfl ⟨rfl, rfl⟩
    · have n3 : 128 < n := by omega
      clear hn
      go_enter Tryd.func11, Tryd.ntmps11
      go_wp2
      exact bodyPost_ret (v := .tuple #[.int .i64 0, .int .i64 0, .int .i64 1]) (by simp [results, Tryd.results11, go_sem]) rfl ⟨rfl, rfl⟩
end Go.Proofs.YtbbllmhnhhbpiaaDoor
