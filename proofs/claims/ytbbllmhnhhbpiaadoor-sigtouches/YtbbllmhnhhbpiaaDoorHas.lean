/- Widths, and is a bit there: isWidth and the reference's Has. -/
import Derived.Test.YtbbllmhnhhbpiaaDoorRows
import Derived.Test.YtbbllmhnhhbpiaaDoorKit
import Derived.Test.YtbbllmhnhhbpiaaDoorSg
import Derived.Laws.Bits64b
import Derived.BigQuiet
import Derived.Deep.QuietTactic
namespace Go.Proofs.YtbbllmhnhhbpiaaDoor
open Go.RowKit
set_option linter.unusedVariables false
set_option linter.unusedSimpArgs false

def Sg.val (s : Sg) : Value := .agg #[.int .u64 s.lo, .int .u64 s.hi]

theorem width_yes (n : Int) (w : World) (h0 : 1 ≤ n) (h1 : n ≤ 128) : Calls Tryd.prog 34 #[.int .i64 n] w fun e w' => e = .returned (.bool true) ∧ w' = w := by
  go_enter Tryd.func34, Tryd.ntmps34
  go_wp2
  go_ret
  exact ⟨rfl, rfl⟩
theorem width_low (n : Int) (w : World) (h : n < 1) : Calls Tryd.prog 34 #[.int .i64 n] w fun e w' => e = .returned (.bool false) ∧ w' = w := by
  have h0 : ¬ 1 ≤ n := by omega
  go_enter Tryd.func34, Tryd.ntmps34
  go_wp2
  go_ret
  exact ⟨rfl, rfl⟩
theorem width_high (n : Int) (w : World) (h0 : 1 ≤ n) (h : 128 < n) : Calls Tryd.prog 34 #[.int .i64 n] w fun e w' => e = .returned (.bool false) ∧ w' = w := by
  have h1 : ¬ n ≤ 128 := by omega
  go_enter Tryd.func34, Tryd.ntmps34
  go_wp2
  go_ret
  exact ⟨rfl, rfl⟩

set_option maxHeartbeats 1000000 in
theorem has_in (s : Sg) (x : Int) (b q r : Nat) (hs : s.ok) (h0 : 0 ≤ x) (h1 : x ≤ 127) (hq : x / 64 = q) (hr : x % 64 = r) (hb : s.has b = (if q = 0 then s.lo else s.hi).testBit r) (hq2 : q = 0 ∨ q = 1) (w : World) : Calls Tryd.prog 38 #[s.val, .int .i64 x] w fun e w' => e = .returned (.bool (s.has b)) ∧ Kept (fun _ => False) w w' := by
  have hr64 : r < 64 := by omega
  rw [hb]
  obtain ⟨lo, hi⟩ := s
  unfold Sg.val
  have g0 : ¬ x < 0 := by omega
  have g1 : ¬ 127 < x := by omega
  have HR : Hid (r < 64) := hr64
  rcases hq2 with rfl | rfl
  · simp only [if_true, if_false, Nat.one_ne_zero]
    clear hb hr64
    replace hq : x / 64 = 0 := by omega
    have hlo : lo < 18446744073709551616 := hs.1
    have HL : Hid (lo < 18446744073709551616) := hlo
    clear hlo hs
    go_enter Tryd.func38, Tryd.ntmps38
    go_wp2_with fail
    have hk : Kept (fun _ => False) w (w.alloc (Obj.cells #[Value.int IntKind.u64 ↑lo, Value.int IntKind.u64 ↑hi] 31)) := (Kept.refl _ w).alloc _
    generalize w.alloc (Obj.cells #[Value.int IntKind.u64 ↑lo, Value.int IntKind.u64 ↑hi] 31) = W at *
    go_loopw [5, 6] (fun v i wr => ∃ j : Nat, j ≤ r ∧ i = .int .i64 j ∧ v = .int .u64 ((lo / 2 ^ j : Nat) : Int) ∧ wr = W) (fun _ i _ => r - (intOf i).toNat)
    case atStart => exact ⟨0, Nat.zero_le _, rfl, by simp, rfl⟩
    case round =>
      obtain ⟨j, hj, rfl, rfl, rfl⟩ := hrel
      have HP : Hid (((lo / 2 ^ j : Nat) : Int) / 2 = ((lo / 2 ^ (j + 1) : Nat) : Int)) := by
        show _ = _
        rw [Nat.pow_succ, ← Nat.div_div_eq_div_mul]
        omega
      have HT : Hid (lo.testBit j = (((lo / 2 ^ j : Nat) : Int) % 2 == 1)) := by
        show _ = _
        rw [Nat.testBit_eq_decide_div_mod_eq]
        rw [Bool.eq_iff_iff]
        simp only [decide_eq_true_eq, beq_iff_eq]
        omega
      have HU : Hid (lo / 2 ^ j < 18446744073709551616) := Nat.lt_of_le_of_lt (Nat.div_le_self _ _) HL.out
      generalize lo / 2 ^ j = u at *
      have u0 : (0 : Int) ≤ (u : Int) := Int.natCast_nonneg _
      have u1 : (u : Int) < 18446744073709551616 := by have := HU.out; omega
      by_cases hlt : j < r
      · have h2 : (j : Int) < (r : Int) := by omega
        have h3 : j < 64 := by have := HR.out; omega
        go_wp2_with fail
        go_roundw
        case rel => exact ⟨j + 1, hlt, by go_num, by rw [← HP.out], by first | rfl | trivial⟩
        case measure => simp [intOf]; omega
      · have h2 : ¬ (j : Int) < (r : Int) := by omega
        have h3 : j = r := by omega
        subst h3
        clear HP
        go_wp2
        go_ret
        exact ⟨by rw [HT.out]; rfl, hk⟩
  · simp only [if_true, if_false, Nat.one_ne_zero]
    clear hb hr64
    replace hq : x / 64 = 1 := by omega
    have hlo : hi < 18446744073709551616 := hs.2
    have HL : Hid (hi < 18446744073709551616) := hlo
    clear hlo hs
    go_enter Tryd.func38, Tryd.ntmps38
    go_wp2_with fail
    have hk : Kept (fun _ => False) w (w.alloc (Obj.cells #[Value.int IntKind.u64 ↑lo, Value.int IntKind.u64 ↑hi] 31)) := (Kept.refl _ w).alloc _
    generalize w.alloc (Obj.cells #[Value.int IntKind.u64 ↑lo, Value.int IntKind.u64 ↑hi] 31) = W at *
    go_loopw [5, 6] (fun v i wr => ∃ j : Nat, j ≤ r ∧ i = .int .i64 j ∧ v = .int .u64 ((hi / 2 ^ j : Nat) : Int) ∧ wr = W) (fun _ i _ => r - (intOf i).toNat)
    case atStart => exact ⟨0, Nat.zero_le _, rfl, by simp, rfl⟩
    case round =>
      obtain ⟨j, hj, rfl, rfl, rfl⟩ := hrel
      have HP : Hid (((hi / 2 ^ j : Nat) : Int) / 2 = ((hi / 2 ^ (j + 1) : Nat) : Int)) := by
        show _ = _
        rw [Nat.pow_succ, ← Nat.div_div_eq_div_mul]
        omega
      have HT : Hid (hi.testBit j = (((hi / 2 ^ j : Nat) : Int) % 2 == 1)) := by
        show _ = _
        rw [Nat.testBit_eq_decide_div_mod_eq]
        rw [Bool.eq_iff_iff]
        simp only [decide_eq_true_eq, beq_iff_eq]
        omega
      have HU : Hid (hi / 2 ^ j < 18446744073709551616) := Nat.lt_of_le_of_lt (Nat.div_le_self _ _) HL.out
      generalize hi / 2 ^ j = u at *
      have u0 : (0 : Int) ≤ (u : Int) := Int.natCast_nonneg _
      have u1 : (u : Int) < 18446744073709551616 := by have := HU.out; omega
      by_cases hlt : j < r
      · have h2 : (j : Int) < (r : Int) := by omega
        have h3 : j < 64 := by have := HR.out; omega
        go_wp2_with fail
        go_roundw
        case rel => exact ⟨j + 1, hlt, by go_num, by rw [← HP.out], by first | rfl | trivial⟩
        case measure => simp [intOf]; omega
      · have h2 : ¬ (j : Int) < (r : Int) := by omega
        have h3 : j = r := by omega
        subst h3
        clear HP
        go_wp2
        go_ret
        exact ⟨by rw [HT.out]; rfl, hk⟩

theorem has_any (s : Sg) (b : Nat) (hs : s.ok) (hb : b < 128) (w : World) : Calls Tryd.prog 38 #[s.val, .int .i64 b] w fun e w' => e = .returned (.bool (s.has b)) ∧ Kept (fun _ => False) w w' := by
  refine has_in s b b (b / 64) (b % 64) hs (by omega) (by omega) (by omega) (by omega) ?_ (by omega) w
  unfold Sg.has
  by_cases h : b < 64
  · have e0 : b / 64 = 0 := by omega
    have e1 : b % 64 = b := by omega
    rw [if_pos h, if_pos e0, e1]
  · have e0 : ¬ b / 64 = 0 := by omega
    have e1 : b % 64 = b - 64 := by omega
    rw [if_neg h, if_neg e0, e1]
end Go.Proofs.YtbbllmhnhhbpiaaDoor
