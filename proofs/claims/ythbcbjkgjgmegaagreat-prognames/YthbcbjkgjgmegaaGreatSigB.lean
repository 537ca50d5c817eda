/- Signatures: as pairs of numbers below 2^64; with, Join, Meet, Minus, Hash. Signatures: Meets, Within, Of, Touched. -/
import Derived.Test.YthbcbjkgjgmegaaGreatProg
import Derived.Test.YthbcbjkgjgmegaaGreatSmall
import Derived.Laws.Bits64b
import Derived.BigQuiet
import Derived.Deep.QuietTactic
import Derived.Laws.BitsAllLaws
import Derived.Deep.RegionHeld3
import Derived.Laws.AppendOwnNone
import Derived.Maps.AppendAt
namespace Go.Proofs.YthbcbjkgjgmegaaGreat
open Go.RowKit
set_option linter.unusedVariables false
set_option linter.unusedSimpArgs false

/-- Two words. -/
structure Sg where
  lo : Nat
  hi : Nat
def Sg.ok (s : Sg) : Prop := s.lo < 18446744073709551616 ∧ s.hi < 18446744073709551616
def Sg.has (s : Sg) (b : Nat) : Bool := if b < 64 then s.lo.testBit b else s.hi.testBit (b - 64)
def Sg.zero : Sg := ⟨0, 0⟩
def Sg.put (s : Sg) (b : Nat) : Sg := if b < 64 then ⟨s.lo ||| 2 ^ b, s.hi⟩ else ⟨s.lo, s.hi ||| 2 ^ (b - 64)⟩
def Sg.join (a b : Sg) : Sg := ⟨a.lo ||| b.lo, a.hi ||| b.hi⟩
def Sg.meet (a b : Sg) : Sg := ⟨a.lo &&& b.lo, a.hi &&& b.hi⟩
/-- The bits of x that y has not. -/
def less (x y : Nat) : Nat := x ^^^ (x &&& y)
def Sg.minus (a b : Sg) : Sg := ⟨less a.lo b.lo, less a.hi b.hi⟩

theorem testBit_less (x y i : Nat) : (less x y).testBit i = (x.testBit i && !y.testBit i) := by
  simp only [less, Nat.testBit_xor, Nat.testBit_and]
  cases x.testBit i <;> cases y.testBit i <;> rfl
theorem less_lt {x y : Nat} (h : x < 18446744073709551616) : less x y < 18446744073709551616 := by
  have h1 : x < 2 ^ 64 := h
  have h2 : x &&& y < 2 ^ 64 := Nat.lt_of_le_of_lt Nat.and_le_left h1
  exact (Nat.xor_lt_two_pow h1 h2 : _ < 2 ^ 64)
theorem or_lt {x y : Nat} (h : x < 18446744073709551616) (k : y < 18446744073709551616) : x ||| y < 18446744073709551616 := (Nat.or_lt_two_pow (n := 64) h k : _ < 2 ^ 64)
theorem and_lt {x y : Nat} (h : x < 18446744073709551616) : x &&& y < 18446744073709551616 := Nat.lt_of_le_of_lt Nat.and_le_left h
theorem pow_lt {k : Nat} (h : k < 64) : 2 ^ k < 18446744073709551616 := (Nat.pow_lt_pow_right (by decide) h : 2 ^ k < 2 ^ 64)

theorem Sg.ok_zero : Sg.zero.ok := ⟨by decide, by decide⟩
theorem Sg.ok_put {s : Sg} (h : s.ok) {b : Nat} (hb : b < 128) : (s.put b).ok := by
  unfold Sg.put
  split
  · exact ⟨or_lt h.1 (pow_lt (by omega)), h.2⟩
  · exact ⟨h.1, or_lt h.2 (pow_lt (by omega))⟩
theorem Sg.ok_join {s t : Sg} (h : s.ok) (k : t.ok) : (s.join t).ok := ⟨or_lt h.1 k.1, or_lt h.2 k.2⟩
theorem Sg.ok_meet {s t : Sg} (h : s.ok) : (s.meet t).ok := ⟨and_lt h.1, and_lt h.2⟩
theorem Sg.ok_minus {s t : Sg} (h : s.ok) : (s.minus t).ok := ⟨less_lt h.1, less_lt h.2⟩

theorem Sg.has_zero (i : Nat) : Sg.zero.has i = false := by simp [Sg.has, Sg.zero]
theorem Sg.has_put {s : Sg} {b : Nat} (hb : b < 128) (i : Nat) (hi : i < 128) : (s.put b).has i = (s.has i || decide (i = b)) := by
  unfold Sg.put Sg.has
  by_cases h1 : b < 64 <;> by_cases h2 : i < 64 <;> simp only [h1, h2, if_true, if_false, Nat.testBit_or, Nat.testBit_two_pow]
  · simp [eq_comm]
  · have : decide (i = b) = false := by simp; omega
    simp [this]
  · have : decide (i = b) = false := by simp; omega
    simp [this]
  · congr 1
    by_cases h : i = b
    · subst h; simp
    · simp [h]; omega
theorem Sg.has_join (s t : Sg) (i : Nat) : (s.join t).has i = (s.has i || t.has i) := by
  unfold Sg.has Sg.join; split <;> simp
theorem Sg.has_meet (s t : Sg) (i : Nat) : (s.meet t).has i = (s.has i && t.has i) := by
  unfold Sg.has Sg.meet; split <;> simp
theorem Sg.has_minus (s t : Sg) (i : Nat) : (s.minus t).has i = (s.has i && !t.has i) := by
  unfold Sg.has Sg.minus; split <;> simp [testBit_less]

theorem Sg.ext' {s t : Sg} (hs : s.ok) (ht : t.ok) (h : ∀ i, i < 128 → s.has i = t.has i) : s = t := by
  obtain ⟨s0, s1⟩ := s
  obtain ⟨t0, t1⟩ := t
  have e0 : s0 = t0 := by
    refine Nat.eq_of_testBit_eq fun i => ?_
    by_cases hi : i < 64
    · have := h i (by omega)
      simpa [Sg.has, hi] using this
    · have p : 18446744073709551616 ≤ 2 ^ i := (Nat.pow_le_pow_right (by decide) (by omega) : 2 ^ 64 ≤ 2 ^ i)
      rw [Nat.testBit_lt_two_pow (Nat.lt_of_lt_of_le hs.1 p), Nat.testBit_lt_two_pow (Nat.lt_of_lt_of_le ht.1 p)]
  have e1 : s1 = t1 := by
    refine Nat.eq_of_testBit_eq fun i => ?_
    by_cases hi : i < 64
    · have := h (i + 64) (by omega)
      have n1 : ¬ i + 64 < 64 := by omega
      simpa [Sg.has, n1] using this
    · have p : 18446744073709551616 ≤ 2 ^ i := (Nat.pow_le_pow_right (by decide) (by omega) : 2 ^ 64 ≤ 2 ^ i)
      rw [Nat.testBit_lt_two_pow (Nat.lt_of_lt_of_le hs.2 p), Nat.testBit_lt_two_pow (Nat.lt_of_lt_of_le ht.2 p)]
  rw [e0, e1]

def Sg.val (s : Sg) : Value := .agg #[.int .u64 s.lo, .int .u64 s.hi]

theorem width_yes (n : Int) (w : World) (h0 : 1 ≤ n) (h1 : n ≤ 128) : Calls Tryz.prog 271 #[.int .i64 n] w fun e w' => e = .returned (.bool true) ∧ w' = w := by
  go_enter Tryz.func271, Tryz.ntmps271
  go_wp2
  go_ret
  exact ⟨rfl, rfl⟩
theorem width_low (n : Int) (w : World) (h : n < 1) : Calls Tryz.prog 271 #[.int .i64 n] w fun e w' => e = .returned (.bool false) ∧ w' = w := by
  have h0 : ¬ 1 ≤ n := by omega
  go_enter Tryz.func271, Tryz.ntmps271
  go_wp2
  go_ret
  exact ⟨rfl, rfl⟩
theorem width_high (n : Int) (w : World) (h0 : 1 ≤ n) (h : 128 < n) : Calls Tryz.prog 271 #[.int .i64 n] w fun e w' => e = .returned (.bool false) ∧ w' = w := by
  have h1 : ¬ n ≤ 128 := by omega
  go_enter Tryz.func271, Tryz.ntmps271
  go_wp2
  go_ret
  exact ⟨rfl, rfl⟩

set_option maxHeartbeats 1000000 in
theorem has_in (s : Sg) (x : Int) (b q r : Nat) (hs : s.ok) (h0 : 0 ≤ x) (h1 : x ≤ 127) (hq : x / 64 = q) (hr : x % 64 = r) (hb : s.has b = (if q = 0 then s.lo else s.hi).testBit r) (hq2 : q = 0 ∨ q = 1) (w : World) : Calls Tryz.prog 282 #[s.val, .int .i64 x] w fun e w' => e = .returned (.bool (s.has b)) ∧ Kept (fun _ => False) w w' := by
  have hr64 : r < 64 := by omega
  rw [hb]
  obtain ⟨lo, hi⟩ := s
  unfold Sg.val
  have g0 : ¬ x < 0 := by omega
  have g1 : ¬ 127 < x := by omega
  have HR : Hid (r < 64) := hr64
  rcases hq2 with rfl | rfl
  · simp only [if_true, if_false, Nat.one_ne_zero]
    clear hb hr64
    replace hq : x / 64 = 0 := by omega
    have hlo : lo < 18446744073709551616 := hs.1
    have HL : Hid (lo < 18446744073709551616) := hlo
    clear hlo hs
    go_enter Tryz.func282, Tryz.ntmps282
    go_wp2_with fail
    have hk : Kept (fun _ => False) w (w.alloc (Obj.cells #[Value.int IntKind.u64 ↑lo, Value.int IntKind.u64 ↑hi] 130)) := (Kept.refl _ w).alloc _
    generalize w.alloc (Obj.cells #[Value.int IntKind.u64 ↑lo, Value.int IntKind.u64 ↑hi] 130) = W at *
    go_loopw [5, 6] (fun v i wr => ∃ j : Nat, j ≤ r ∧ i = .int .i64 j ∧ v = .int .u64 ((lo / 2 ^ j : Nat) : Int) ∧ wr = W) (fun _ i _ => r - (intOf i).toNat)
    case atStart => exact ⟨0, Nat.zero_le _, rfl, by simp, rfl⟩
    case round =>
      obtain ⟨j, hj, rfl, rfl, rfl⟩ := hrel
      have HP : Hid (((lo / 2 ^ j : Nat) : Int) / 2 = ((lo / 2 ^ (j + 1) : Nat) : Int)) := by
        show _ = _
        rw [Nat.pow_succ, ← Nat.div_div_eq_div_mul]
        omega
      have HT : Hid (lo.testBit j = (((lo / 2 ^ j : Nat) : Int) % 2 == 1)) := by
        show _ = _
        rw [Nat.testBit_eq_decide_div_mod_eq]
        rw [Bool.eq_iff_iff]
        simp only [decide_eq_true_eq, beq_iff_eq]
        omega
      have HU : Hid (lo / 2 ^ j < 18446744073709551616) := Nat.lt_of_le_of_lt (Nat.div_le_self _ _) HL.out
      generalize lo / 2 ^ j = u at *
      have u0 : (0 : Int) ≤ (u : Int) := Int.natCast_nonneg _
      have u1 : (u : Int) < 18446744073709551616 := by have := HU.out; omega
      by_cases hlt : j < r
      · have h2 : (j : Int) < (r : Int) := by omega
        have h3 : j < 64 := by have := HR.out; omega
        go_wp2_with fail
        go_roundw
        case rel => exact ⟨j + 1, hlt, by go_num, by rw [← HP.out], by first | rfl | trivial⟩
        case measure => simp [intOf]; omega
      · have h2 : ¬ (j : Int) < (r : Int) := by omega
        have h3 : j = r := by omega
        subst h3
        clear HP
        go_wp2
        go_ret
        exact ⟨by rw [HT.out]; rfl, hk⟩
  · simp only [if_true, if_false, Nat.one_ne_zero]
    clear hb hr64
    replace hq : x / 64 = 1 := by omega
    have hlo : hi < 18446744073709551616 := hs.2
    have HL : Hid (hi < 18446744073709551616) := hlo
    clear hlo hs
    go_enter Tryz.func282, Tryz.ntmps282
    go_wp2_with fail
    have hk : Kept (fun _ => False) w (w.alloc (Obj.cells #[Value.int IntKind.u64 ↑lo, Value.int IntKind.u64 ↑hi] 130)) := (Kept.refl _ w).alloc _
    generalize w.alloc (Obj.cells #[Value.int IntKind.u64 ↑lo, Value.int IntKind.u64 ↑hi] 130) = W at *
    go_loopw [5, 6] (fun v i wr => ∃ j : Nat, j ≤ r ∧ i = .int .i64 j ∧ v = .int .u64 ((hi / 2 ^ j : Nat) : Int) ∧ wr = W) (fun _ i _ => r - (intOf i).toNat)
    case atStart => exact ⟨0, Nat.zero_le _, rfl, by simp, rfl⟩
    case round =>
      obtain ⟨j, hj, rfl, rfl, rfl⟩ := hrel
      have HP : Hid (((hi / 2 ^ j : Nat) : Int) / 2 = ((hi / 2 ^ (j + 1) : Nat) : Int)) := by
        show _ = _
        rw [Nat.pow_succ, ← Nat.div_div_eq_div_mul]
        omega
      have HT : Hid (hi.testBit j = (((hi / 2 ^ j : Nat) : Int) % 2 == 1)) := by
        show _ = _
        rw [Nat.testBit_eq_decide_div_mod_eq]
        rw [Bool.eq_iff_iff]
        simp only [decide_eq_true_eq, beq_iff_eq]
        omega
      have HU : Hid (hi / 2 ^ j < 18446744073709551616) := Nat.lt_of_le_of_lt (Nat.div_le_self _ _) HL.out
      generalize hi / 2 ^ j = u at *
      have u0 : (0 : Int) ≤ (u : Int) := Int.natCast_nonneg _
      have u1 : (u : Int) < 18446744073709551616 := by have := HU.out; omega
      by_cases hlt : j < r
      · have h2 : (j : Int) < (r : Int) := by omega
        have h3 : j < 64 := by have := HR.out; omega
        go_wp2_with fail
        go_roundw
        case rel => exact ⟨j + 1, hlt, by go_num, by rw [← HP.out], by first | rfl | trivial⟩
        case measure => simp [intOf]; omega
      · have h2 : ¬ (j : Int) < (r : Int) := by omega
        have h3 : j = r := by omega
        subst h3
        clear HP
        go_wp2
        go_ret
        exact ⟨by rw [HT.out]; rfl, hk⟩

theorem has_any (s : Sg) (b : Nat) (hs : s.ok) (hb : b < 128) (w : World) : Calls Tryz.prog 282 #[s.val, .int .i64 b] w fun e w' => e = .returned (.bool (s.has b)) ∧ Kept (fun _ => False) w w' := by
  refine has_in s b b (b / 64) (b % 64) hs (by omega) (by omega) (by omega) (by omega) ?_ (by omega) w
  unfold Sg.has
  by_cases h : b < 64
  · have e0 : b / 64 = 0 := by omega
    have e1 : b % 64 = b := by omega
    rw [if_pos h, if_pos e0, e1]
  · have e0 : ¬ b / 64 = 0 := by omega
    have e1 : b % 64 = b - 64 := by omega
    rw [if_neg h, if_neg e0, e1]

theorem wrap_pow (r : Nat) (h : r < 64) : IntKind.u64.wrap (2 ^ r) = ((2 ^ r : Nat) : Int) := by
  have h2 := pow_lt h
  rw [IntKind.wrap_u64, show ((2 : Int) ^ r) = ((2 ^ r : Nat) : Int) by simp]
  generalize 2 ^ r = p at h2
  omega
theorem or_bit (x r : Nat) (hx : x < 18446744073709551616) (h : r < 64) : bits BinOp.or IntKind.u64 (x : Int) (IntKind.u64.wrap (2 ^ r)) = ((x ||| 2 ^ r : Nat) : Int) := by
  rw [wrap_pow r h]
  exact bits_or_u64_nat _ _ hx (pow_lt h)

set_option maxHeartbeats 1000000 in
theorem with_lo (s : Sg) (x : Int) (r : Nat) (hs : s.ok) (h0 : 0 ≤ x) (h1 : x ≤ 127) (hq : x / 64 = 0) (hr : x % 64 = r) (w : World) : Calls Tryz.prog 273 #[s.val, .int .i64 x] w fun e w' => e = .returned (Sg.val ⟨s.lo ||| 2 ^ r, s.hi⟩) ∧ Kept (fun _ => False) w w' := by
  have hr64 : r < 64 := by omega
  obtain ⟨lo, hi⟩ := s
  unfold Sg.val
  have g0 : ¬ x < 0 := by omega
  have g1 : ¬ 127 < x := by omega
  go_enter Tryz.func273, Tryz.ntmps273
  go_wp2_with fail
  go_region
  rw [or_bit lo r hs.1 hr64]
  go_wp2
  exact bodyPost_ret (v := .agg #[.int .u64 ((lo ||| 2 ^ r : Nat) : Int), .int .u64 hi]) (by simp [results, Tryz.results273, go_sem]) rfl ⟨rfl, (((Kept.refl _ w).alloc _).alloc _).drew⟩
set_option maxHeartbeats 1000000 in
theorem with_hi (s : Sg) (x : Int) (r : Nat) (hs : s.ok) (h0 : 0 ≤ x) (h1 : x ≤ 127) (hq : x / 64 = 1) (hr : x % 64 = r) (w : World) : Calls Tryz.prog 273 #[s.val, .int .i64 x] w fun e w' => e = .returned (Sg.val ⟨s.lo, s.hi ||| 2 ^ r⟩) ∧ Kept (fun _ => False) w w' := by
  have hr64 : r < 64 := by omega
  obtain ⟨lo, hi⟩ := s
  unfold Sg.val
  have g0 : ¬ x < 0 := by omega
  have g1 : ¬ 127 < x := by omega
  go_enter Tryz.func273, Tryz.ntmps273
  go_wp2_with fail
  go_region
  rw [or_bit hi r hs.2 hr64]
  go_wp2
  exact bodyPost_ret (v := .agg #[.int .u64 lo, .int .u64 ((hi ||| 2 ^ r : Nat) : Int)]) (by simp [results, Tryz.results273, go_sem]) rfl ⟨rfl, (((Kept.refl _ w).alloc _).alloc _).drew⟩

theorem with_any (s : Sg) (b : Nat) (hs : s.ok) (hb : b < 128) (w : World) : Calls Tryz.prog 273 #[s.val, .int .i64 b] w fun e w' => e = .returned (s.put b).val ∧ Kept (fun _ => False) w w' := by
  unfold Sg.put
  by_cases h : b < 64
  · rw [if_pos h]
    exact with_lo s b b hs (by omega) (by omega) (by omega) (by omega) w
  · rw [if_neg h]
    exact with_hi s b (b - 64) hs (by omega) (by omega) (by omega) (by omega) w

theorem add_bit (x r : Nat) (hx : x < 18446744073709551616) (hr : r < 64) (h : x.testBit r = false) : x + 2 ^ r = x ||| 2 ^ r ∧ x + 2 ^ r < 18446744073709551616 := by
  have hp := pow_lt hr
  have h1 : x + 2 ^ r < 2 ^ 65 := by generalize 2 ^ r = p at hp; omega
  have e : BitVec.ofNat 65 x + BitVec.ofNat 65 (2 ^ r) = BitVec.ofNat 65 x ||| BitVec.ofNat 65 (2 ^ r) := by
    apply BitVec.add_eq_or_of_and_eq_zero
    apply BitVec.eq_of_getLsbD_eq
    intro i hi
    simp only [BitVec.getLsbD_and, BitVec.getLsbD_ofNat, hi, decide_true, Bool.true_and, BitVec.getLsbD_zero, Nat.testBit_two_pow]
    by_cases hir : r = i
    · subst hir; simp [h]
    · simp [hir]
  have e2 := congrArg BitVec.toNat e
  rw [BitVec.toNat_add, BitVec.toNat_or, BitVec.toNat_ofNat, BitVec.toNat_ofNat, Nat.mod_eq_of_lt (show x < 2 ^ 65 by omega), Nat.mod_eq_of_lt (show 2 ^ r < 2 ^ 65 by generalize 2 ^ r = p at hp; omega), Nat.mod_eq_of_lt h1] at e2
  refine ⟨e2, ?_⟩
  rw [e2]
  exact or_lt hx hp

theorem Sg.put_of_has {s : Sg} (hs : s.ok) {b : Nat} (hb : b < 128) (h : s.has b = true) : s.put b = s := by
  refine Sg.ext' (Sg.ok_put hs hb) hs fun i hi => ?_
  rw [Sg.has_put hb i hi]
  by_cases e : i = b
  · subst e; simp [h]
  · simp [e]

/-- A signature in a block of its own. -/
def Box (w : World) (n : Nat) (s : Sg) : Prop := w.heap[n]? = some (.cells #[.int .u64 s.lo, .int .u64 s.hi] 130 (0, 0))
theorem Box.c0 {w : World} {n : Nat} {s : Sg} (h : Box w n s) : w.cell? ⟨n, 0, none⟩ = some (.int .u64 s.lo) := cell_of_heap h
theorem Box.c1 {w : World} {n : Nat} {s : Sg} (h : Box w n s) : w.cell? ⟨n, 1, none⟩ = some (.int .u64 s.hi) := cell_of_heap h
theorem Box.f0 {w : World} {n : Nat} {s : Sg} (h : Box w n s) : w.frozen? ⟨n, 0, none⟩ = false := frozen_of_heap h
theorem Box.f1 {w : World} {n : Nat} {s : Sg} (h : Box w n s) : w.frozen? ⟨n, 1, none⟩ = false := frozen_of_heap h
theorem Box.lt {w : World} {n : Nat} {s : Sg} (h : Box w n s) : n < w.heap.size := lt_of_heap h
theorem Box.kept {w w' : World} {n : Nat} {s : Sg} {F : Nat → Prop} (h : Box w n s) (k : Kept F w w') (hn : ¬ F n) : Box w' n s := (k.block n h.lt hn).trans h
theorem Box.alloc {w : World} {n : Nat} {s : Sg} (h : Box w n s) (o : Obj) : Box (w.alloc o) n s := (Below.heap_alloc w o n h.lt).trans h
theorem Box.drew {w : World} {n : Nat} {s : Sg} (h : Box w n s) : Box w.drew n s := h
theorem Box.set {w : World} {n : Nat} {s : Sg} (h : Box w n s) (t : Sg) : Box ((w.setCell ⟨n, 0, none⟩ (.int .u64 t.lo)).setCell ⟨n, 1, none⟩ (.int .u64 t.hi)) n t := by
  have h1 := heap_setCell_at (o := 0) h (.int .u64 t.lo)
  exact heap_setCell_at (o := 1) h1 (.int .u64 t.hi)
theorem Box.new (w : World) (lo hi : Nat) : Box (w.alloc (.cells #[.int .u64 lo, .int .u64 hi] 130)) w.heap.size ⟨lo, hi⟩ := heap_alloc_new w _
theorem Box.far {w : World} {n : Nat} {s : Sg} (h : Box w n s) {p : Addr} {u : Value} (hp : n ≠ p.block) : Box (w.setCell p u) n s := (heap_setCell_far hp).trans h

/-- Two boxes made: a copy of what came, and the place of what goes. -/
theorem two_new (w : World) (lo hi : Nat) {W : World} (hW : (w.alloc (.cells #[.int .u64 lo, .int .u64 hi] 130)).alloc (.cells #[.int .u64 0, .int .u64 0] 130) = W) : Box W w.heap.size ⟨lo, hi⟩ ∧ Box W (w.heap.size + 1) Sg.zero ∧ Kept (fun _ => False) w W := by
  subst hW
  refine ⟨(Box.new w lo hi).alloc _, ?_, ((Kept.refl _ w).alloc _).alloc _⟩
  have := Box.new (w.alloc (.cells #[.int .u64 lo, .int .u64 hi] 130)) 0 0
  simpa [Sg.zero] using this

set_option maxHeartbeats 1000000 in
theorem put_has (s : Sg) (b : Nat) (hs : s.ok) (hb : b < 128) (h : s.has b = true) (w : World) : Calls Tryz.prog 283 #[s.val, .int .i64 b] w fun e w' => e = .returned (s.put b).val ∧ Kept (fun _ => False) w w' := by
  rw [Sg.put_of_has hs hb h]
  have hH : ∀ w, Calls Tryz.prog 282 #[s.val, .int .i64 b] w fun e w' => e = .returned (.bool true) ∧ Kept (fun _ => False) w w' := fun w => h ▸ has_any s b hs hb w
  obtain ⟨lo, hi⟩ := s
  unfold Sg.val at *
  clear h hb hs
  go_enter Tryz.func283, Tryz.ntmps283
  go_wp2_with fail
  generalize hW : (w.alloc (.cells #[.int .u64 lo, .int .u64 hi] 130)).alloc (.cells #[.int .u64 0, .int .u64 0] 130) = W
  obtain ⟨b0, b1, k0⟩ := two_new w lo hi hW
  clear hW
  refine (hH _).mono ?_
  rintro e w1 ⟨rfl, hk⟩
  have B0 := b0.kept hk id
  have B1 := b1.kept hk id
  have K : Kept (fun _ => False) w w1 := k0.trans hk (fun _ _ f => f)
  have x0 := B0.c0; have x1 := B0.c1; have x2 := B1.c0; have x3 := B1.c1; have x4 := B1.f0; have x5 := B1.f1
  simp only [Sg.zero] at x0 x1 x2 x3
  generalize hm : w.heap.size = m at *
  clear b0 b1 k0 hk hH
  go_wp2
  have hB := B1.set ⟨lo, hi⟩
  have K2 := (K.setCell (p := ⟨m + 1, 0, none⟩) (.int .u64 lo) (.inr (by rw [hm]; simp))).setCell (p := ⟨m + 1, 1, none⟩) (.int .u64 hi) (.inr (by rw [hm]; simp))
  have y0 := hB.c0; have y1 := hB.c1
  simp only at y0 y1 hB
  generalize (w1.setCell ⟨m + 1, 0, none⟩ (.int .u64 lo)).setCell ⟨m + 1, 1, none⟩ (.int .u64 hi) = W2 at *
  exact bodyPost_ret (v := .agg #[.int .u64 lo, .int .u64 hi]) (by simp [results, Tryz.results283, go_sem, y0, y1]) rfl ⟨rfl, K2⟩

set_option maxHeartbeats 1000000 in
theorem put_lo (s : Sg) (x : Int) (r : Nat) (hs : s.ok) (h0 : 0 ≤ x) (h1 : x ≤ 127) (hq : x / 64 = 0) (hr : x % 64 = r) (hh : s.lo.testBit r = false) (w : World)
    (hH : ∀ w, Calls Tryz.prog 282 #[s.val, .int .i64 x] w fun e w' => e = .returned (.bool false) ∧ Kept (fun _ => False) w w') :
    Calls Tryz.prog 283 #[s.val, .int .i64 x] w fun e w' => e = .returned (Sg.val ⟨s.lo ||| 2 ^ r, s.hi⟩) ∧ Kept (fun _ => False) w w' := by
  have hr64 : r < 64 := by omega
  obtain ⟨lo, hi⟩ := s
  obtain ⟨ha, hl⟩ := add_bit lo r hs.1 hr64 hh
  generalize lo ||| 2 ^ r = T at *
  have HA : Hid ((lo : Int) + ((2 ^ r : Nat) : Int) = (T : Int)) := by
    show _ = _
    rw [← ha]; simp
  have HL : Hid (lo + 2 ^ r < 18446744073709551616) := hl
  have HR : Hid (r < 64) := hr64
  unfold Sg.val at *
  have g0 : ¬ x < 0 := by omega
  clear hs hh ha hl hr64
  go_enter Tryz.func283, Tryz.ntmps283
  go_wp2_with fail
  generalize hW : (w.alloc (.cells #[.int .u64 lo, .int .u64 hi] 130)).alloc (.cells #[.int .u64 0, .int .u64 0] 130) = W
  obtain ⟨b0, b1, k0⟩ := two_new w lo hi hW
  clear hW
  refine (hH _).mono ?_
  rintro e w1 ⟨rfl, hk⟩
  have B0 := b0.kept hk id
  have B1 := b1.kept hk id
  have K : Kept (fun _ => False) w w1 := k0.trans hk (fun _ _ f => f)
  have x0 := B0.c0; have x1 := B0.c1; have x2 := B1.c0; have x3 := B1.c1; have x4 := B1.f0; have x5 := B1.f1; have x6 := B0.f0; have x7 := B0.f1
  simp only [Sg.zero] at x0 x1 x2 x3
  generalize hm : w.heap.size = m at *
  have HM : Hid (w.heap.size = m) := hm
  clear b0 b1 k0 hk hH hm
  go_wp2_with fail
  go_loopw [5, 6] (fun v i wr => ∃ j : Nat, j ≤ r ∧ i = .int .i64 j ∧ v = .int .u64 ((2 ^ j : Nat) : Int) ∧ wr = w1) (fun _ i _ => r - (intOf i).toNat)
  case atStart => exact ⟨0, Nat.zero_le _, rfl, by simp, rfl⟩
  case round =>
    obtain ⟨j, hj, rfl, rfl, rfl⟩ := hrel
    by_cases hlt : j < r
    · have HP : Hid (((2 ^ j : Nat) : Int) * 2 = ((2 ^ (j + 1) : Nat) : Int)) := by
        show _ = _
        rw [Nat.pow_succ]; simp
      have hj63 : j < 63 := by have := HR.out; omega
      have HU : Hid (2 ^ j < 9223372036854775808) := (Nat.pow_lt_pow_right (by decide) hj63 : 2 ^ j < 2 ^ 63)
      generalize 2 ^ j = u at *
      have u0 : (0 : Int) ≤ (u : Int) := Int.natCast_nonneg _
      have u1 : (u : Int) < 9223372036854775808 := by have := HU.out; omega
      have h2 : (j : Int) < (r : Int) := by omega
      go_wp2_with fail
      go_roundw
      case rel => exact ⟨j + 1, hlt, by go_num, by rw [← HP.out], by first | rfl | trivial⟩
      case measure => simp [intOf]; omega
    · have h2 : ¬ (j : Int) < (r : Int) := by omega
      have h3 : j = r := by omega
      subst h3
      generalize 2 ^ j = u at *
      have u0 : (0 : Int) ≤ (lo : Int) + (u : Int) := by omega
      have u1 : (lo : Int) + (u : Int) < 18446744073709551616 := by have := HL.out; omega
      go_wp2_with fail
      rw [HA.out]
      have hm := HM.out
      have hB : Box (((wr.setCell ⟨m, 0, none⟩ (.int .u64 T)).setCell ⟨m + 1, 0, none⟩ (.int .u64 T)).setCell ⟨m + 1, 1, none⟩ (.int .u64 hi)) (m + 1) ⟨T, hi⟩ := (B1.far (by simp)).set ⟨T, hi⟩
      have K2 := ((K.setCell (p := ⟨m, 0, none⟩) (.int .u64 T) (.inr (by rw [hm]; simp))).setCell (p := ⟨m + 1, 0, none⟩) (.int .u64 T) (.inr (by rw [hm]; simp))).setCell (p := ⟨m + 1, 1, none⟩) (.int .u64 hi) (.inr (by rw [hm]; simp))
      have y0 := hB.c0; have y1 := hB.c1
      simp only at y0 y1 hB
      generalize ((wr.setCell ⟨m, 0, none⟩ (.int .u64 T)).setCell ⟨m + 1, 0, none⟩ (.int .u64 T)).setCell ⟨m + 1, 1, none⟩ (.int .u64 hi) = W2 at *
      exact bodyPost_ret (v := .agg #[.int .u64 T, .int .u64 hi]) (by simp [results, Tryz.results283, go_sem, y0, y1]) rfl ⟨rfl, K2⟩

set_option maxHeartbeats 1000000 in
theorem put_hi (s : Sg) (x : Int) (r : Nat) (hs : s.ok) (h0 : 0 ≤ x) (h1 : x ≤ 127) (hq : x / 64 = 1) (hr : x % 64 = r) (hh : s.hi.testBit r = false) (w : World)
    (hH : ∀ w, Calls Tryz.prog 282 #[s.val, .int .i64 x] w fun e w' => e = .returned (.bool false) ∧ Kept (fun _ => False) w w') :
    Calls Tryz.prog 283 #[s.val, .int .i64 x] w fun e w' => e = .returned (Sg.val ⟨s.lo, s.hi ||| 2 ^ r⟩) ∧ Kept (fun _ => False) w w' := by
  have hr64 : r < 64 := by omega
  obtain ⟨lo, hi⟩ := s
  obtain ⟨ha, hl⟩ := add_bit hi r hs.2 hr64 hh
  generalize hi ||| 2 ^ r = T at *
  have HA : Hid ((hi : Int) + ((2 ^ r : Nat) : Int) = (T : Int)) := by
    show _ = _
    rw [← ha]; simp
  have HL : Hid (hi + 2 ^ r < 18446744073709551616) := hl
  have HR : Hid (r < 64) := hr64
  unfold Sg.val at *
  have g0 : ¬ x < 0 := by omega
  clear hs hh ha hl hr64
  go_enter Tryz.func283, Tryz.ntmps283
  go_wp2_with fail
  generalize hW : (w.alloc (.cells #[.int .u64 lo, .int .u64 hi] 130)).alloc (.cells #[.int .u64 0, .int .u64 0] 130) = W
  obtain ⟨b0, b1, k0⟩ := two_new w lo hi hW
  clear hW
  refine (hH _).mono ?_
  rintro e w1 ⟨rfl, hk⟩
  have B0 := b0.kept hk id
  have B1 := b1.kept hk id
  have K : Kept (fun _ => False) w w1 := k0.trans hk (fun _ _ f => f)
  have x0 := B0.c0; have x1 := B0.c1; have x2 := B1.c0; have x3 := B1.c1; have x4 := B1.f0; have x5 := B1.f1; have x6 := B0.f0; have x7 := B0.f1
  simp only [Sg.zero] at x0 x1 x2 x3
  generalize hm : w.heap.size = m at *
  have HM : Hid (w.heap.size = m) := hm
  clear b0 b1 k0 hk hH hm
  go_wp2_with fail
  go_loopw [5, 6] (fun v i wr => ∃ j : Nat, j ≤ r ∧ i = .int .i64 j ∧ v = .int .u64 ((2 ^ j : Nat) : Int) ∧ wr = w1) (fun _ i _ => r - (intOf i).toNat)
  case atStart => exact ⟨0, Nat.zero_le _, rfl, by simp, rfl⟩
  case round =>
    obtain ⟨j, hj, rfl, rfl, rfl⟩ := hrel
    by_cases hlt : j < r
    · have HP : Hid (((2 ^ j : Nat) : Int) * 2 = ((2 ^ (j + 1) : Nat) : Int)) := by
        show _ = _
        rw [Nat.pow_succ]; simp
      have hj63 : j < 63 := by have := HR.out; omega
      have HU : Hid (2 ^ j < 9223372036854775808) := (Nat.pow_lt_pow_right (by decide) hj63 : 2 ^ j < 2 ^ 63)
      generalize 2 ^ j = u at *
      have u0 : (0 : Int) ≤ (u : Int) := Int.natCast_nonneg _
      have u1 : (u : Int) < 9223372036854775808 := by have := HU.out; omega
      have h2 : (j : Int) < (r : Int) := by omega
      go_wp2_with fail
      go_roundw
      case rel => exact ⟨j + 1, hlt, by go_num, by rw [← HP.out], by first | rfl | trivial⟩
      case measure => simp [intOf]; omega
    · have h2 : ¬ (j : Int) < (r : Int) := by omega
      have h3 : j = r := by omega
      subst h3
      generalize 2 ^ j = u at *
      have u0 : (0 : Int) ≤ (hi : Int) + (u : Int) := by omega
      have u1 : (hi : Int) + (u : Int) < 18446744073709551616 := by have := HL.out; omega
      go_wp2_with fail
      rw [HA.out]
      have hm := HM.out
      have hB : Box (((wr.setCell ⟨m, 1, none⟩ (.int .u64 T)).setCell ⟨m + 1, 0, none⟩ (.int .u64 lo)).setCell ⟨m + 1, 1, none⟩ (.int .u64 T)) (m + 1) ⟨lo, T⟩ := (B1.far (by simp)).set ⟨lo, T⟩
      have K2 := ((K.setCell (p := ⟨m, 1, none⟩) (.int .u64 T) (.inr (by rw [hm]; simp))).setCell (p := ⟨m + 1, 0, none⟩) (.int .u64 lo) (.inr (by rw [hm]; simp))).setCell (p := ⟨m + 1, 1, none⟩) (.int .u64 T) (.inr (by rw [hm]; simp))
      have y0 := hB.c0; have y1 := hB.c1
      simp only at y0 y1 hB
      generalize ((wr.setCell ⟨m, 1, none⟩ (.int .u64 T)).setCell ⟨m + 1, 0, none⟩ (.int .u64 lo)).setCell ⟨m + 1, 1, none⟩ (.int .u64 T) = W2 at *
      exact bodyPost_ret (v := .agg #[.int .u64 lo, .int .u64 T]) (by simp [results, Tryz.results283, go_sem, y0, y1]) rfl ⟨rfl, K2⟩

theorem put_any (s : Sg) (b : Nat) (hs : s.ok) (hb : b < 128) (w : World) : Calls Tryz.prog 283 #[s.val, .int .i64 b] w fun e w' => e = .returned (s.put b).val ∧ Kept (fun _ => False) w w' := by
  cases h : s.has b with
  | true => exact put_has s b hs hb h w
  | false =>
    have hH : ∀ w, Calls Tryz.prog 282 #[s.val, .int .i64 b] w fun e w' => e = .returned (.bool false) ∧ Kept (fun _ => False) w w' := fun w => h ▸ has_any s b hs hb w
    unfold Sg.put
    unfold Sg.has at h
    by_cases hl : b < 64
    · rw [if_pos hl] at h ⊢
      exact put_lo s b b hs (by omega) (by omega) (by omega) (by omega) h w hH
    · rw [if_neg hl] at h ⊢
      exact put_hi s b (b - 64) hs (by omega) (by omega) (by omega) (by omega) h w hH

theorem three_new (w : World) (a0 a1 b0 b1 : Nat) {W : World} (hW : ((w.alloc (.cells #[.int .u64 a0, .int .u64 a1] 130)).alloc (.cells #[.int .u64 b0, .int .u64 b1] 130)).alloc (.cells #[.int .u64 0, .int .u64 0] 130) = W) : Box W w.heap.size ⟨a0, a1⟩ ∧ Box W (w.heap.size + 1) ⟨b0, b1⟩ ∧ Box W (w.heap.size + 2) Sg.zero ∧ Kept (fun _ => False) w W := by
  subst hW
  refine ⟨((Box.new w a0 a1).alloc _).alloc _, ?_, ?_, (((Kept.refl _ w).alloc _).alloc _).alloc _⟩
  · have := (Box.new (w.alloc (.cells #[.int .u64 a0, .int .u64 a1] 130)) b0 b1).alloc (.cells #[.int .u64 0, .int .u64 0] 130)
    simpa using this
  · have := Box.new ((w.alloc (.cells #[.int .u64 a0, .int .u64 a1] 130)).alloc (.cells #[.int .u64 b0, .int .u64 b1] 130)) 0 0
    simpa [Sg.zero] using this

theorem idx0 (x y : Int) (w : World) : (Instr.index 130 (.agg #[.int .u64 x, .int .u64 y]) (.int .i64 0)).run Tryz.prog w = .ok (.int .u64 x) w := by kernel_rfl
theorem idx1 (x y : Int) (w : World) : (Instr.index 130 (.agg #[.int .u64 x, .int .u64 y]) (.int .i64 1)).run Tryz.prog w = .ok (.int .u64 y) w := by kernel_rfl

theorem bits_less (a b : Nat) (ha : a < 18446744073709551616) (hb : b < 18446744073709551616) : bits .andNot .u64 (a : Int) (b : Int) = ((less a b : Nat) : Int) := by
  rw [u64_andNot_nat a b ha hb]
  congr 1
  refine Nat.eq_of_testBit_eq fun i => ?_
  rw [testBit_less, Nat.testBit_and]
  by_cases hi : i < 64
  · have e : 18446744073709551615 - b = 2 ^ 64 - (b + 1) := by omega
    rw [e, Nat.testBit_two_pow_sub_succ hb]
    simp [hi]
  · have p : 18446744073709551616 ≤ 2 ^ i := (Nat.pow_le_pow_right (by decide) (by omega) : 2 ^ 64 ≤ 2 ^ i)
    rw [Nat.testBit_lt_two_pow (Nat.lt_of_lt_of_le ha p)]
    simp

set_option maxHeartbeats 1000000 in
theorem join_any (a b : Sg) (ha : a.ok) (hb : b.ok) (w : World) : Calls Tryz.prog 291 #[a.val, b.val] w fun e w' => e = .returned (a.join b).val ∧ Kept (fun _ => False) w w' := by
  obtain ⟨a0, a1⟩ := a
  obtain ⟨b0, b1⟩ := b
  have e0 : Hid (bits .or .u64 (a0 : Int) (b0 : Int) = ((a0 ||| b0 : Nat) : Int)) := bits_or_u64_nat _ _ ha.1 hb.1
  have e1 : Hid (bits .or .u64 (a1 : Int) (b1 : Int) = ((a1 ||| b1 : Nat) : Int)) := bits_or_u64_nat _ _ ha.2 hb.2
  unfold Sg.join Sg.val
  simp only
  generalize a0 ||| b0 = r0 at *
  generalize a1 ||| b1 = r1 at *
  clear ha hb
  go_enter Tryz.func291, Tryz.ntmps291
  go_wp2_with fail
  generalize hW : ((w.alloc (.cells #[.int .u64 a0, .int .u64 a1] 130)).alloc (.cells #[.int .u64 b0, .int .u64 b1] 130)).alloc (.cells #[.int .u64 0, .int .u64 0] 130) = W
  obtain ⟨A, B, C, K⟩ := three_new w a0 a1 b0 b1 hW
  clear hW
  have HM : ∃ m, Hid (w.heap.size = m) := ⟨_, rfl⟩
  obtain ⟨m, HM⟩ := HM
  rw [HM.out] at A B C ⊢
  go_loopw [8] (fun i wr => (i = .int .i64 0 ∧ wr = W) ∨ (i = .int .i64 1 ∧ wr = W.setCell ⟨m, 0, none⟩ (.int .u64 r0)) ∨ (i = .int .i64 2 ∧ wr = (W.setCell ⟨m, 0, none⟩ (.int .u64 r0)).setCell ⟨m, 1, none⟩ (.int .u64 r1))) (fun i _ => 2 - (intOf i).toNat)
  case atStart => exact .inl ⟨rfl, rfl⟩
  case round =>
    rcases hrel with ⟨rfl, rfl⟩ | ⟨rfl, rfl⟩ | ⟨rfl, rfl⟩
    · have x0 := A.c0; have x1 := A.f0
      simp only at x0
      have hi := idx0 (b0 : Int) (b1 : Int)
      go_wp2_with fail
      go_roundw
      case rel => exact .inr (.inl ⟨rfl, by rw [e0.out]⟩)
      case measure => simp [intOf]
    · have A1 : (W.setCell ⟨m, 0, none⟩ (.int .u64 r0)).heap[m]? = some (.cells #[.int .u64 r0, .int .u64 a1] 130 (0, 0)) := heap_setCell_at A _
      have x0 : (W.setCell ⟨m, 0, none⟩ (.int .u64 r0)).cell? ⟨m, 1, none⟩ = some (.int .u64 a1) := cell_of_heap A1
      have x1 : (W.setCell ⟨m, 0, none⟩ (.int .u64 r0)).frozen? ⟨m, 1, none⟩ = false := frozen_of_heap A1
      generalize W.setCell ⟨m, 0, none⟩ (.int .u64 r0) = W1 at *
      have hi := idx1 (b0 : Int) (b1 : Int)
      go_wp2_with fail
      go_roundw
      case rel => exact .inr (.inr ⟨rfl, by rw [e1.out]⟩)
      case measure => simp [intOf]
    · have A2 := A.set ⟨r0, r1⟩
      have hm := HM.out
      have K2 := (K.setCell (p := ⟨m, 0, none⟩) (.int .u64 r0) (.inr (by rw [hm]; simp))).setCell (p := ⟨m, 1, none⟩) (.int .u64 r1) (.inr (by rw [hm]; simp))
      have C2 : Box ((W.setCell ⟨m, 0, none⟩ (.int .u64 r0)).setCell ⟨m, 1, none⟩ (.int .u64 r1)) (m + 2) Sg.zero := (C.far (by simp)).far (by simp)
      simp only at A2
      generalize (W.setCell ⟨m, 0, none⟩ (.int .u64 r0)).setCell ⟨m, 1, none⟩ (.int .u64 r1) = W2 at *
      have x0 := A2.c0; have x1 := A2.c1; have x2 := C2.c0; have x3 := C2.c1; have x4 := C2.f0; have x5 := C2.f1
      simp only [Sg.zero] at x0 x1 x2 x3
      clear hm
      go_wp2_with fail
      have hB := C2.set ⟨r0, r1⟩
      have K3 := (K2.setCell (p := ⟨m + 2, 0, none⟩) (.int .u64 r0) (.inr (by rw [HM.out]; simp))).setCell (p := ⟨m + 2, 1, none⟩) (.int .u64 r1) (.inr (by rw [HM.out]; simp))
      have y0 := hB.c0; have y1 := hB.c1
      simp only at y0 y1 hB
      exact bodyPost_ret (v := .agg #[.int .u64 r0, .int .u64 r1]) (by simp [results, Tryz.results291, go_sem, y0, y1]) rfl ⟨rfl, K3⟩

set_option maxHeartbeats 1000000 in
theorem meet_any (a b : Sg) (ha : a.ok) (hb : b.ok) (w : World) : Calls Tryz.prog 420 #[a.val, b.val] w fun e w' => e = .returned (a.meet b).val ∧ Kept (fun _ => False) w w' := by
  obtain ⟨a0, a1⟩ := a
  obtain ⟨b0, b1⟩ := b
  have e0 : Hid (bits .and .u64 (a0 : Int) (b0 : Int) = ((a0 &&& b0 : Nat) : Int)) := bits_and_u64_nat _ _ ha.1 hb.1
  have e1 : Hid (bits .and .u64 (a1 : Int) (b1 : Int) = ((a1 &&& b1 : Nat) : Int)) := bits_and_u64_nat _ _ ha.2 hb.2
  unfold Sg.meet Sg.val
  simp only
  generalize a0 &&& b0 = r0 at *
  generalize a1 &&& b1 = r1 at *
  clear ha hb
  go_enter Tryz.func420, Tryz.ntmps420
  go_wp2_with fail
  generalize hW : ((w.alloc (.cells #[.int .u64 a0, .int .u64 a1] 130)).alloc (.cells #[.int .u64 b0, .int .u64 b1] 130)).alloc (.cells #[.int .u64 0, .int .u64 0] 130) = W
  obtain ⟨A, B, C, K⟩ := three_new w a0 a1 b0 b1 hW
  clear hW
  have HM : ∃ m, Hid (w.heap.size = m) := ⟨_, rfl⟩
  obtain ⟨m, HM⟩ := HM
  rw [HM.out] at A B C ⊢
  go_loopw [8] (fun i wr => (i = .int .i64 0 ∧ wr = W) ∨ (i = .int .i64 1 ∧ wr = W.setCell ⟨m, 0, none⟩ (.int .u64 r0)) ∨ (i = .int .i64 2 ∧ wr = (W.setCell ⟨m, 0, none⟩ (.int .u64 r0)).setCell ⟨m, 1, none⟩ (.int .u64 r1))) (fun i _ => 2 - (intOf i).toNat)
  case atStart => exact .inl ⟨rfl, rfl⟩
  case round =>
    rcases hrel with ⟨rfl, rfl⟩ | ⟨rfl, rfl⟩ | ⟨rfl, rfl⟩
    · have x0 := A.c0; have x1 := A.f0
      simp only at x0
      have hi := idx0 (b0 : Int) (b1 : Int)
      go_wp2_with fail
      go_roundw
      case rel => exact .inr (.inl ⟨rfl, by rw [e0.out]⟩)
      case measure => simp [intOf]
    · have A1 : (W.setCell ⟨m, 0, none⟩ (.int .u64 r0)).heap[m]? = some (.cells #[.int .u64 r0, .int .u64 a1] 130 (0, 0)) := heap_setCell_at A _
      have x0 : (W.setCell ⟨m, 0, none⟩ (.int .u64 r0)).cell? ⟨m, 1, none⟩ = some (.int .u64 a1) := cell_of_heap A1
      have x1 : (W.setCell ⟨m, 0, none⟩ (.int .u64 r0)).frozen? ⟨m, 1, none⟩ = false := frozen_of_heap A1
      generalize W.setCell ⟨m, 0, none⟩ (.int .u64 r0) = W1 at *
      have hi := idx1 (b0 : Int) (b1 : Int)
      go_wp2_with fail
      go_roundw
      case rel => exact .inr (.inr ⟨rfl, by rw [e1.out]⟩)
      case measure => simp [intOf]
    · have A2 := A.set ⟨r0, r1⟩
      have hm := HM.out
      have K2 := (K.setCell (p := ⟨m, 0, none⟩) (.int .u64 r0) (.inr (by rw [hm]; simp))).setCell (p := ⟨m, 1, none⟩) (.int .u64 r1) (.inr (by rw [hm]; simp))
      have C2 : Box ((W.setCell ⟨m, 0, none⟩ (.int .u64 r0)).setCell ⟨m, 1, none⟩ (.int .u64 r1)) (m + 2) Sg.zero := (C.far (by simp)).far (by simp)
      simp only at A2
      generalize (W.setCell ⟨m, 0, none⟩ (.int .u64 r0)).setCell ⟨m, 1, none⟩ (.int .u64 r1) = W2 at *
      have x0 := A2.c0; have x1 := A2.c1; have x2 := C2.c0; have x3 := C2.c1; have x4 := C2.f0; have x5 := C2.f1
      simp only [Sg.zero] at x0 x1 x2 x3
      clear hm
      go_wp2_with fail
      have hB := C2.set ⟨r0, r1⟩
      have K3 := (K2.setCell (p := ⟨m + 2, 0, none⟩) (.int .u64 r0) (.inr (by rw [HM.out]; simp))).setCell (p := ⟨m + 2, 1, none⟩) (.int .u64 r1) (.inr (by rw [HM.out]; simp))
      have y0 := hB.c0; have y1 := hB.c1
      simp only at y0 y1 hB
      exact bodyPost_ret (v := .agg #[.int .u64 r0, .int .u64 r1]) (by simp [results, Tryz.results420, go_sem, y0, y1]) rfl ⟨rfl, K3⟩

set_option maxHeartbeats 1000000 in
theorem minus_any (a b : Sg) (ha : a.ok) (hb : b.ok) (w : World) : Calls Tryz.prog 296 #[a.val, b.val] w fun e w' => e = .returned (a.minus b).val ∧ Kept (fun _ => False) w w' := by
  obtain ⟨a0, a1⟩ := a
  obtain ⟨b0, b1⟩ := b
  have e0 : Hid (bits .andNot .u64 (a0 : Int) (b0 : Int) = ((less a0 b0 : Nat) : Int)) := bits_less _ _ ha.1 hb.1
  have e1 : Hid (bits .andNot .u64 (a1 : Int) (b1 : Int) = ((less a1 b1 : Nat) : Int)) := bits_less _ _ ha.2 hb.2
  unfold Sg.minus Sg.val
  simp only
  generalize less a0 b0 = r0 at *
  generalize less a1 b1 = r1 at *
  clear ha hb
  go_enter Tryz.func296, Tryz.ntmps296
  go_wp2_with fail
  generalize hW : ((w.alloc (.cells #[.int .u64 a0, .int .u64 a1] 130)).alloc (.cells #[.int .u64 b0, .int .u64 b1] 130)).alloc (.cells #[.int .u64 0, .int .u64 0] 130) = W
  obtain ⟨A, B, C, K⟩ := three_new w a0 a1 b0 b1 hW
  clear hW
  have HM : ∃ m, Hid (w.heap.size = m) := ⟨_, rfl⟩
  obtain ⟨m, HM⟩ := HM
  rw [HM.out] at A B C ⊢
  go_loopw [8] (fun i wr => (i = .int .i64 0 ∧ wr = W) ∨ (i = .int .i64 1 ∧ wr = W.setCell ⟨m, 0, none⟩ (.int .u64 r0)) ∨ (i = .int .i64 2 ∧ wr = (W.setCell ⟨m, 0, none⟩ (.int .u64 r0)).setCell ⟨m, 1, none⟩ (.int .u64 r1))) (fun i _ => 2 - (intOf i).toNat)
  case atStart => exact .inl ⟨rfl, rfl⟩
  case round =>
    rcases hrel with ⟨rfl, rfl⟩ | ⟨rfl, rfl⟩ | ⟨rfl, rfl⟩
    · have x0 := A.c0; have x1 := A.f0
      simp only at x0
      have hi := idx0 (b0 : Int) (b1 : Int)
      go_wp2_with fail
      go_roundw
      case rel => exact .inr (.inl ⟨rfl, by rw [e0.out]⟩)
      case measure => simp [intOf]
    · have A1 : (W.setCell ⟨m, 0, none⟩ (.int .u64 r0)).heap[m]? = some (.cells #[.int .u64 r0, .int .u64 a1] 130 (0, 0)) := heap_setCell_at A _
      have x0 : (W.setCell ⟨m, 0, none⟩ (.int .u64 r0)).cell? ⟨m, 1, none⟩ = some (.int .u64 a1) := cell_of_heap A1
      have x1 : (W.setCell ⟨m, 0, none⟩ (.int .u64 r0)).frozen? ⟨m, 1, none⟩ = false := frozen_of_heap A1
      generalize W.setCell ⟨m, 0, none⟩ (.int .u64 r0) = W1 at *
      have hi := idx1 (b0 : Int) (b1 : Int)
      go_wp2_with fail
      go_roundw
      case rel => exact .inr (.inr ⟨rfl, by rw [e1.out]⟩)
      case measure => simp [intOf]
    · have A2 := A.set ⟨r0, r1⟩
      have hm := HM.out
      have K2 := (K.setCell (p := ⟨m, 0, none⟩) (.int .u64 r0) (.inr (by rw [hm]; simp))).setCell (p := ⟨m, 1, none⟩) (.int .u64 r1) (.inr (by rw [hm]; simp))
      have C2 : Box ((W.setCell ⟨m, 0, none⟩ (.int .u64 r0)).setCell ⟨m, 1, none⟩ (.int .u64 r1)) (m + 2) Sg.zero := (C.far (by simp)).far (by simp)
      simp only at A2
      generalize (W.setCell ⟨m, 0, none⟩ (.int .u64 r0)).setCell ⟨m, 1, none⟩ (.int .u64 r1) = W2 at *
      have x0 := A2.c0; have x1 := A2.c1; have x2 := C2.c0; have x3 := C2.c1; have x4 := C2.f0; have x5 := C2.f1
      simp only [Sg.zero] at x0 x1 x2 x3
      clear hm
      go_wp2_with fail
      have hB := C2.set ⟨r0, r1⟩
      have K3 := (K2.setCell (p := ⟨m + 2, 0, none⟩) (.int .u64 r0) (.inr (by rw [HM.out]; simp))).setCell (p := ⟨m + 2, 1, none⟩) (.int .u64 r1) (.inr (by rw [HM.out]; simp))
      have y0 := hB.c0; have y1 := hB.c1
      simp only at y0 y1 hB
      exact bodyPost_ret (v := .agg #[.int .u64 r0, .int .u64 r1]) (by simp [results, Tryz.results296, go_sem, y0, y1]) rfl ⟨rfl, K3⟩

/-- One bit of a cell's hash. -/
def hv (c f n : Int) : Int := (c + 1) * f % 65536 * n / 65536
theorem hv_range (c f n : Int) (h0 : 1 ≤ n) : 0 ≤ hv c f n ∧ hv c f n < n := by
  unfold hv
  have m0 : 0 ≤ (c + 1) * f % 65536 := Int.emod_nonneg _ (by decide)
  have m1 : (c + 1) * f % 65536 < 65536 := Int.emod_lt_of_pos _ (by decide)
  generalize (c + 1) * f % 65536 = m at m0 m1
  have p0 : 0 ≤ m * n := Int.mul_nonneg m0 (by omega)
  have p1 : m * n < 65536 * n := Int.mul_lt_mul_of_pos_right m1 (by omega)
  generalize m * n = p at p0 p1
  omega

set_option maxHeartbeats 1000000 in
theorem spread_in (c f n : Int) (w : World) (c0 : 0 ≤ c) (c1 : c < 256) (f0 : 0 ≤ f) (f1 : f < 65536) (n0 : 1 ≤ n) (n1 : n ≤ 128) :
    Calls Tryz.prog 289 #[.int .i64 c, .int .i64 f, .int .i64 n] w fun e w' => e = .returned (.int .i64 (hv c f n)) ∧ w' = w := by
  have p0 : 0 ≤ (c + 1) * f := Int.mul_nonneg (by omega) f0
  have p1 : (c + 1) * f < 16842752 := by
    have : (c + 1) * f ≤ 256 * f := Int.mul_le_mul_of_nonneg_right (by omega) f0
    omega
  have m0 : 0 ≤ (c + 1) * f % 65536 := Int.emod_nonneg _ (by decide)
  have m1 : (c + 1) * f % 65536 < 65536 := Int.emod_lt_of_pos _ (by decide)
  have q0 : 0 ≤ (c + 1) * f % 65536 * n := Int.mul_nonneg m0 (by omega)
  have q1 : (c + 1) * f % 65536 * n < 8454144 := by
    have : (c + 1) * f % 65536 * n ≤ 65536 * n := Int.mul_le_mul_of_nonneg_right (by omega) (by omega)
    omega
  go_enter Tryz.func289, Tryz.ntmps289
  go_wp2
  go_ret
  exact ⟨rfl, rfl⟩

/-- What Hash answers. -/
def hash1 (c n : Int) : Int := if 1 ≤ n ∧ n ≤ 128 then if 0 ≤ c ∧ c < 256 then hv c 40503 n else 0 else 0
def hash2 (c n : Int) : Int := if 1 ≤ n ∧ n ≤ 128 then if 0 ≤ c ∧ c < 256 then hv c 30011 n else 0 else 0
def hashE (c n : Int) : Int := if 1 ≤ n ∧ n ≤ 128 then if 0 ≤ c ∧ c < 256 then 0 else 2 else 1

theorem width_no (n : Int) (w : World) (h : ¬ (1 ≤ n ∧ n ≤ 128)) : Calls Tryz.prog 271 #[.int .i64 n] w fun e w' => e = .returned (.bool false) ∧ w' = w := by
  by_cases h0 : 1 ≤ n
  · exact width_high n w h0 (by omega)
  · exact width_low n w (by omega)

set_option maxHeartbeats 1000000 in
theorem hash_any (c n : Int) (w : World) : Calls Tryz.prog 272 #[.int .i64 c, .int .i64 n] w fun e w' => e = .returned (.tuple #[.int .i64 (hash1 c n), .int .i64 (hash2 c n), .int .i64 (hashE c n)]) ∧ w' = w := by
  unfold hash1 hash2 hashE
  by_cases hn : 1 ≤ n ∧ n ≤ 128
  · simp only [if_pos hn]
    by_cases hc : 0 ≤ c ∧ c < 256
    · simp only [if_pos hc]
      have s1 := fun w => spread_in c 40503 n w hc.1 hc.2 (by decide) (by decide) hn.1 hn.2
      have s2 := fun w => spread_in c 30011 n w hc.1 hc.2 (by decide) (by decide) hn.1 hn.2
      have wy := fun w => width_yes n w hn.1 hn.2
      generalize hv c 40503 n = x1 at *
      generalize hv c 30011 n = x2 at *
      obtain ⟨c0, c1⟩ := hc
      have c2 : ¬ c < 0 := by omega
      have c3 : ¬ 256 ≤ c := by omega
      clear hn
      go_enter Tryz.func272, Tryz.ntmps272
      go_wp2_with fail
      refine (wy _).mono ?_
      rintro e w1 ⟨rfl, rfl⟩
      go_wp2_with fail
      refine (s1 _).mono ?_
      rintro e w2 ⟨rfl, rfl⟩
      go_wp2_with fail
      refine (s2 _).mono ?_
      rintro e w3 ⟨rfl, rfl⟩
      go_wp2
      exact bodyPost_ret (v := .tuple #[.int .i64 x1, .int .i64 x2, .int .i64 0]) (by simp [results, Tryz.results272, go_sem]) rfl ⟨rfl, rfl⟩
    · simp only [if_neg hc]
      have wy := fun w => width_yes n w hn.1 hn.2
      by_cases c2 : c < 0
      · clear hn hc
        go_enter Tryz.func272, Tryz.ntmps272
        go_wp2_with fail
        refine (wy _).mono ?_
        rintro e w1 ⟨rfl, rfl⟩
        go_wp2
        exact bodyPost_ret (v := .tuple #[.int .i64 0, .int .i64 0, .int .i64 2]) (by simp [results, Tryz.results272, go_sem]) rfl ⟨rfl, rfl⟩
      · have c3 : 256 ≤ c := by omega
        clear hn hc
        go_enter Tryz.func272, Tryz.ntmps272
        go_wp2_with fail
        refine (wy _).mono ?_
        rintro e w1 ⟨rfl, rfl⟩
        go_wp2
        exact bodyPost_ret (v := .tuple #[.int .i64 0, .int .i64 0, .int .i64 2]) (by simp [results, Tryz.results272, go_sem]) rfl ⟨rfl, rfl⟩
  · simp only [if_neg hn]
    have wn := fun w => width_no n w hn
    clear hn
    go_enter Tryz.func272, Tryz.ntmps272
    go_wp2_with fail
    refine (wn _).mono ?_
    rintro e w1 ⟨rfl, rfl⟩
    go_wp2
    exact bodyPost_ret (v := .tuple #[.int .i64 0, .int .i64 0, .int .i64 1]) (by simp [results, Tryz.results272, go_sem]) rfl ⟨rfl, rfl⟩

set_option maxHeartbeats 1000000 in
theorem refHash_any (c n : Int) (w : World) : Calls Tryz.prog 287 #[.int .i64 c, .int .i64 n] w fun e w' => e = .returned (.tuple #[.int .i64 (hash1 c n), .int .i64 (hash2 c n), .int .i64 (hashE c n)]) ∧ w' = w := by
  unfold hash1 hash2 hashE
  by_cases hn : 1 ≤ n ∧ n ≤ 128
  · simp only [if_pos hn]
    obtain ⟨n0, n1⟩ := hn
    have n2 : ¬ n < 1 := by omega
    have n3 : ¬ 128 < n := by omega
    by_cases hc : 0 ≤ c ∧ c < 256
    · simp only [if_pos hc]
      obtain ⟨c0, c1⟩ := hc
      have c2 : ¬ c < 0 := by omega
      have c3 : ¬ 255 < c := by omega
      unfold hv
      have m0 : 0 ≤ (c + 1) * 40503 % 65536 := Int.emod_nonneg _ (by decide)
      have m1 : (c + 1) * 40503 % 65536 < 65536 := Int.emod_lt_of_pos _ (by decide)
      have q0 : 0 ≤ (c + 1) * 40503 % 65536 * n := Int.mul_nonneg m0 (by omega)
      have q1 : (c + 1) * 40503 % 65536 * n < 8454144 := by
        have : (c + 1) * 40503 % 65536 * n ≤ 65536 * n := Int.mul_le_mul_of_nonneg_right (by omega) (by omega)
        omega
      have k0 : 0 ≤ (c + 1) * 30011 % 65536 := Int.emod_nonneg _ (by decide)
      have k1 : (c + 1) * 30011 % 65536 < 65536 := Int.emod_lt_of_pos _ (by decide)
      have l0 : 0 ≤ (c + 1) * 30011 % 65536 * n := Int.mul_nonneg k0 (by omega)
      have l1 : (c + 1) * 30011 % 65536 * n < 8454144 := by
        have : (c + 1) * 30011 % 65536 * n ≤ 65536 * n := Int.mul_le_mul_of_nonneg_right (by omega) (by omega)
        omega
      go_enter Tryz.func287, Tryz.ntmps287
      go_wp2
      exact bodyPost_ret (v := .tuple #[.int .i64 ((c + 1) * 40503 % 65536 * n / 65536), .int .i64 ((c + 1) * 30011 % 65536 * n / 65536), .int .i64 0]) (by simp [results, Tryz.results287, go_sem]) rfl ⟨rfl, rfl⟩
    · simp only [if_neg hc]
      by_cases c2 : c < 0
      · clear hc
        go_enter Tryz.func287, Tryz.ntmps287
        go_wp2
        exact bodyPost_ret (v := .tuple #[.int .i64 0, .int .i64 0, .int .i64 2]) (by simp [results, Tryz.results287, go_sem]) rfl ⟨rfl, rfl⟩
      · have c3 : 255 < c := by omega
        clear hc
        go_enter Tryz.func287, Tryz.ntmps287
        go_wp2
        exact bodyPost_ret (v := .tuple #[.int .i64 0, .int .i64 0, .int .i64 2]) (by simp [results, Tryz.results287, go_sem]) rfl ⟨rfl, rfl⟩
  · simp only [if_neg hn]
    by_cases n2 : n < 1
    · clear hn
      go_enter Tryz.func287, Tryz.ntmps287
      go_wp2
      exact bodyPost_ret (v := .tuple #[.int .i64 0, .int .i64 0, .int .i64 1]) (by simp [results, Tryz.results287, go_sem]) rfl ⟨rfl, rfl⟩
    · have n3 : 128 < n := by omega
      clear hn
      go_enter Tryz.func287, Tryz.ntmps287
      go_wp2
      exact bodyPost_ret (v := .tuple #[.int .i64 0, .int .i64 0, .int .i64 1]) (by simp [results, Tryz.results287, go_sem]) rfl ⟨rfl, rfl⟩
end Go.Proofs.YthbcbjkgjgmegaaGreat

namespace Go.Proofs.YthbcbjkgjgmegaaGreat
open Go.RowKit
set_option linter.unusedVariables false
set_option linter.unusedSimpArgs false

theorem Tryz.infoS64 : (Tryz.prog.info? 128).map (fun i => (i.zero, i.size, i.bytes)) = some (some (.int .u64 0), 1, 8) := by kernel_rfl
theorem eqS (d : Nat) (a1 b1 a2 b2 : Int) (w : World) : (Op.equalIn (d + 2) 130 (.agg #[.int .u64 a1, .int .u64 b1]) (.agg #[.int .u64 a2, .int .u64 b2])).run Tryz.prog w = .ok ((a1 == a2) && (b1 == b2)) w := by
  obtain ⟨i0, hi0, hz0, hz1, hz2⟩ := info_parts Tryz.infoS64
  rw [run_equalIn_array (d := d + 1) w _ _ Tryz.underlying130 hi0, show Tryz.prog.cellsOf 128 = 1 from by kernel_rfl]
  show (Op.eqItems (d + 1) 128 1 _ _ [0, 1]).run Tryz.prog w = _
  have hp : ∀ (x y : Int) (w : World), (part 128 #[.int .u64 x, .int .u64 y] 0).run Tryz.prog w = .ok (.int .u64 x) w := fun x y w => run_part_plain (P := Tryz.prog) w (by kernel_rfl) rfl
  have hq : ∀ (x y : Int) (w : World), (part 128 #[.int .u64 x, .int .u64 y] 1).run Tryz.prog w = .ok (.int .u64 y) w := fun x y w => run_part_plain (P := Tryz.prog) w (by kernel_rfl) rfl
  have he : ∀ (x y : Int) (w : World), (Op.equalIn (d + 1) 128 (.int .u64 x) (.int .u64 y)).run Tryz.prog w = .ok (x == y) w := fun x y w => run_equalIn_int w d 128 .u64 .u64 x y Tryz.underlying128
  cases h1 : (a1 == a2) <;> cases h2 : (b1 == b2) <;> simp only [Op.eqItems, Sem.run_bind, Nat.zero_mul, Nat.one_mul, hp, hq, he, h1, h2, Result.andThen_ok, Bool.not_true, Bool.not_false, Bool.false_eq_true, if_true, if_false, Sem.run_pure, Bool.and_true, Bool.and_false, Bool.true_and, Bool.false_and]

/-- Two signatures in two blocks, and nothing else turned since w. -/
structure Duo (w : World) (m : Nat) (a b : Sg) (W : World) : Prop where
  A : Box W m a
  B : Box W (m + 1) b
  K : Kept (fun _ => False) w W
theorem Duo.kept {w : World} {m : Nat} {a b : Sg} {W W' : World} (h : Duo w m a b W) (k : Kept (fun _ => False) W W') : Duo w m a b W' := ⟨h.A.kept k id, h.B.kept k id, h.K.trans k (fun _ _ f => f)⟩
theorem Duo.drew {w : World} {m : Nat} {a b : Sg} {W : World} (h : Duo w m a b W) : Duo w m a b W.drew := ⟨h.A, h.B, h.K.drew⟩
theorem Duo.of_calls {f : FuncId} {args : Array Value} {x : Ending} {w : World} {m : Nat} {a b : Sg} (h : ∀ W, Calls Tryz.prog f args W fun e W' => e = x ∧ Kept (fun _ => False) W W') : ∀ W, Duo w m a b W → Calls Tryz.prog f args W fun e W' => e = x ∧ Duo w m a b W' :=
  fun W hD => (h W).mono fun e W' ⟨he, hk⟩ => ⟨he, hD.kept hk⟩

theorem hasTwo (w : World) (a0 a1 b0 b1 : Nat) {W : World} (hW : (w.alloc (.cells #[.int .u64 a0, .int .u64 a1] 130)).alloc (.cells #[.int .u64 b0, .int .u64 b1] 130) = W) : Box W w.heap.size ⟨a0, a1⟩ ∧ Box W (w.heap.size + 1) ⟨b0, b1⟩ ∧ Kept (fun _ => False) w W := by
  subst hW
  refine ⟨(Box.new w a0 a1).alloc _, ?_, ((Kept.refl _ w).alloc _).alloc _⟩
  have := Box.new (w.alloc (.cells #[.int .u64 a0, .int .u64 a1] 130)) b0 b1
  simpa using this

/-- Are two signatures one? -/
def Sg.same (s t : Sg) : Bool := ((s.lo : Int) == (t.lo : Int)) && ((s.hi : Int) == (t.hi : Int))

set_option maxHeartbeats 1000000 in
theorem sigMeets_any (a b : Sg) (ha : a.ok) (hb : b.ok) (w : World) : Calls Tryz.prog 418 #[a.val, b.val] w fun e w' => e = .returned (.bool (!((a.meet b).same Sg.zero))) ∧ Kept (fun _ => False) w w' := by
  have hM : ∀ w, Calls Tryz.prog 420 #[a.val, b.val] w fun e w' => e = .returned (a.meet b).val ∧ Kept (fun _ => False) w w' := fun w => meet_any a b ha hb w
  generalize a.meet b = r at *
  have hE := eqS
  unfold Sg.same
  obtain ⟨a0, a1⟩ := a
  obtain ⟨b0, b1⟩ := b
  obtain ⟨r0, r1⟩ := r
  unfold Sg.val at *
  simp only [Sg.zero] at *
  clear ha hb
  go_enter Tryz.func418, Tryz.ntmps418
  go_wp2_with fail
  generalize hW : (w.alloc (.cells #[.int .u64 a0, .int .u64 a1] 130)).alloc (.cells #[.int .u64 b0, .int .u64 b1] 130) = W
  obtain ⟨A, B, K⟩ := hasTwo w a0 a1 b0 b1 hW
  clear hW
  refine (hM _).mono ?_
  rintro e w1 ⟨rfl, hk⟩
  have K2 : Kept (fun _ => False) w w1 := K.trans hk (fun _ _ f => f)
  clear K hk A B hM
  go_wp2_with fail
  go_ret
  refine ⟨?_, K2⟩
  rw [Bool.not_and]
  rfl

/-- The signature of cells, put together one by one. -/
def ofGo (n : Int) : List Int → Sg → Sg × Int
  | [], s => (s, 0)
  | c :: l, s => if hashE c n = 0 then ofGo n l ((s.put (hash1 c n).toNat).put (hash2 c n).toNat) else (Sg.zero, hashE c n)
def ofR (cells : List Int) (n : Int) : Sg × Int := if 1 ≤ n ∧ n ≤ 128 then ofGo n cells Sg.zero else (Sg.zero, 1)

theorem hash_in {c n : Int} (h : hashE c n = 0) : ∃ h1 h2 : Nat, hash1 c n = h1 ∧ hash2 c n = h2 ∧ h1 < 128 ∧ h2 < 128 ∧ (hash1 c n).toNat = h1 ∧ (hash2 c n).toNat = h2 := by
  unfold hashE at h
  by_cases hn : 1 ≤ n ∧ n ≤ 128
  · by_cases hc : 0 ≤ c ∧ c < 256
    · have e1 : hash1 c n = hv c 40503 n := by unfold hash1; rw [if_pos hn, if_pos hc]
      have e2 : hash2 c n = hv c 30011 n := by unfold hash2; rw [if_pos hn, if_pos hc]
      have r1 := hv_range c 40503 n hn.1
      have r2 := hv_range c 30011 n hn.1
      rw [e1, e2]
      exact ⟨_, _, (Int.toNat_of_nonneg r1.1).symm, (Int.toNat_of_nonneg r2.1).symm, by omega, by omega, rfl, rfl⟩
    · rw [if_pos hn, if_neg hc] at h; simp at h
  · rw [if_neg hn] at h; simp at h

theorem drop_at (zs : List Int) (j : Nat) (h : j < zs.length) : zs.drop j = zs.getD j 0 :: zs.drop (j + 1) := by
  rw [List.drop_eq_getElem_cons h]
  simp [List.getD, h]

theorem pair_new (w : World) {W : World} (hW : (w.alloc (.cells #[.int .u64 0, .int .u64 0] 130)).alloc (.cells #[.int .u64 0, .int .u64 0] 130) = W) : Box W w.heap.size Sg.zero ∧ Box W (w.heap.size + 1) Sg.zero ∧ Kept (fun _ => False) w W := by
  have h := two_new w 0 0 hW
  exact h

set_option maxRecDepth 100000 in
set_option maxHeartbeats 1000000 in
theorem of_any (la : Option Addr) (n ca : Nat) (zs : List Int) (b : Int) (w : World) (hz : IntsIn w la n zs) (hn : n ≤ 35184372088832) :
    Calls Tryz.prog 248 #[.slice la n ca, .int .i64 b] w fun e w' => e = .returned (.tuple #[(ofR zs b).1.val, .int .i64 (ofR zs b).2]) ∧ Kept (fun _ => False) w w' := by
  unfold ofR
  by_cases hb : 1 ≤ b ∧ b ≤ 128
  · simp only [if_pos hb]
    have wy := fun w => width_yes b w hb.1 hb.2
    have HL : Hid (n = zs.length) := hz.1
    have HZ : Hid (IntsIn w la n zs) := hz
    clear hz
    obtain ⟨R, HR⟩ : ∃ R, Hid (ofGo b zs Sg.zero = R) := ⟨_, rfl⟩
    rw [HR.out]
    go_enter Tryz.func248, Tryz.ntmps248
    go_wp2_with fail
    refine (wy _).mono ?_
    rintro e w1 ⟨rfl, hw1⟩
    subst hw1
    go_wp2_with fail
    generalize hW : (w.alloc (.cells #[.int .u64 0, .int .u64 0] 130)).alloc (.cells #[.int .u64 0, .int .u64 0] 130) = W
    obtain ⟨A, B, K⟩ := pair_new w hW
    clear hW
    generalize hm : w.heap.size = m at *
    have HM : Hid (w.heap.size = m) := hm
    clear hm wy
    go_loopw [18] (fun i wr => ∃ (j : Nat) (s : Sg), i = .int .i64 j ∧ j ≤ n ∧ s.ok ∧ Box wr m Sg.zero ∧ Box wr (m + 1) s ∧ Kept (fun _ => False) w wr ∧ Hid (ofGo b (zs.drop j) s = R)) (fun i _ => n - (intOf i).toNat)
    case atStart => exact ⟨0, Sg.zero, rfl, Nat.zero_le _, Sg.ok_zero, A, B, K, HR⟩
    case round =>
      obtain ⟨j, s, rfl, hj, hs, hA, hB, hK, hR⟩ := hrel
      clear A B K
      by_cases hlt : j < n
      · obtain ⟨g, o, rfl, hga⟩ := HZ.out.2 (by omega)
        have c1 : wr.cell? ⟨g, o + j, none⟩ = some (.int .i64 (zs.getD j 0)) := hK.cell (hga j hlt) (fun f => f)
        have HD : Hid (ofGo b (zs.getD j 0 :: zs.drop (j + 1)) s = R) := by
          have := hR.out
          rwa [drop_at zs j (by have := HL.out; omega)] at this
        generalize zs.getD j 0 = z at c1 HD
        clear hga HZ
        have h0 : (0 : Int) ≤ (j : Int) := Int.natCast_nonneg _
        have h1 : (j : Int) < (n : Int) := by omega
        go_wp2_with fail
        refine (hash_any z b _).mono ?_
        rintro e w1 ⟨rfl, hw1⟩
        subst hw1
        by_cases hE : hashE z b = 0
        · obtain ⟨x1, x2, e1, e2, l1, l2, t1, t2⟩ := hash_in hE
          rw [e1, e2, hE]
          unfold ofGo at HD
          have HD2 : Hid (ofGo b (zs.drop (j + 1)) ((s.put x1).put x2) = R) := by
            have := HD.out
            rwa [if_pos hE, t1, t2] at this
          have w1' := fun w => with_any s x1 hs l1 w
          have w2' := fun w => with_any (s.put x1) x2 (Sg.ok_put hs l1) l2 w
          have ok2 := Sg.ok_put (Sg.ok_put hs l1) l2
          generalize (s.put x1).put x2 = s2 at *
          generalize s.put x1 = s1 at *
          have y0 := hB.c0; have y1 := hB.c1
          obtain ⟨s0, s1'⟩ := s
          obtain ⟨r0, r1⟩ := s2
          simp only [Sg.val] at w1' w2' y0 y1
          clear HD e1 e2 hE t1 t2
          go_wp2_with fail
          refine (w1' _).mono ?_
          rintro e w3 ⟨rfl, hk3⟩
          go_wp2_with fail
          refine (w2' _).mono ?_
          rintro e w4 ⟨rfl, hk4⟩
          have hA4 := (hA.kept hk3 id).kept hk4 id
          have hB4 := (hB.kept hk3 id).kept hk4 id
          have hK4 : Kept (fun _ => False) w w4 := (hK.trans hk3 (fun _ _ f => f)).trans hk4 (fun _ _ f => f)
          have z0 := hB4.c0; have z1 := hB4.c1; have z2 := hB4.f0; have z3 := hB4.f1
          simp only at z0 z1
          clear hk3 hk4 w1' w2' y0 y1
          go_wp2_with fail
          go_roundw
          case rel => exact ⟨j + 1, ⟨r0, r1⟩, by go_num, hlt, ok2, (hA4.far (by simp)).far (by simp), hB4.set ⟨r0, r1⟩, (hK4.setCell _ (.inr (by rw [HM.out]; simp))).setCell _ (.inr (by rw [HM.out]; simp)), HD2⟩
          case measure => simp [intOf]; omega
        · unfold ofGo at HD
          have HD2 : Hid ((Sg.zero, hashE z b) = R) := by
            have := HD.out
            rwa [if_neg hE] at this
          have hne : (hashE z b != 0) = true := by simpa using hE
          generalize hashE z b = ee at *
          generalize hash1 z b = x1 at *
          generalize hash2 z b = x2 at *
          have z0 := hA.c0; have z1 := hA.c1; have z2 := hA.f0; have z3 := hA.f1
          simp only [Sg.zero] at z0 z1
          clear HD hE
          go_wp2
          have hB2 : Box ((w1.setCell ⟨m, 0, none⟩ (.int .u64 0)).setCell ⟨m, 1, none⟩ (.int .u64 0)) m Sg.zero := hA.set Sg.zero
          have hK2 := (hK.setCell (p := ⟨m, 0, none⟩) (.int .u64 0) (.inr (by rw [HM.out]; simp))).setCell (p := ⟨m, 1, none⟩) (.int .u64 0) (.inr (by rw [HM.out]; simp))
          have y0 : ((w1.setCell ⟨m, 0, none⟩ (.int .u64 0)).setCell ⟨m, 1, none⟩ (.int .u64 0)).cell? ⟨m, 0, none⟩ = some (.int .u64 0) := hB2.c0
          have y1 : ((w1.setCell ⟨m, 0, none⟩ (.int .u64 0)).setCell ⟨m, 1, none⟩ (.int .u64 0)).cell? ⟨m, 1, none⟩ = some (.int .u64 0) := hB2.c1
          exact bodyPost_ret (v := .tuple #[.agg #[.int .u64 0, .int .u64 0], .int .i64 ee]) (by simp [results, Tryz.results248, go_sem, y0, y1]) rfl ⟨by rw [← HD2.out]; rfl, hK2⟩
      · have h1 : ¬ (j : Int) < (n : Int) := by omega
        have hR2 : Hid ((s, (0 : Int)) = R) := by
          have := hR.out
          rwa [List.drop_eq_nil_of_le (by have := HL.out; omega)] at this
        have z0 := hA.c0; have z1 := hA.c1; have z2 := hA.f0; have z3 := hA.f1
        have y0 := hB.c0; have y1 := hB.c1
        obtain ⟨s0, s1⟩ := s
        simp only [Sg.zero] at z0 z1 y0 y1
        go_wp2
        have hB2 := hA.set ⟨s0, s1⟩
        have hK2 := (hK.setCell (p := ⟨m, 0, none⟩) (.int .u64 (s0 : Int)) (.inr (by rw [HM.out]; simp))).setCell (p := ⟨m, 1, none⟩) (.int .u64 (s1 : Int)) (.inr (by rw [HM.out]; simp))
        have x0 := hB2.c0; have x1 := hB2.c1
        simp only at x0 x1 hB2 hK2
        exact bodyPost_ret (v := .tuple #[.agg #[.int .u64 s0, .int .u64 s1], .int .i64 0]) (by simp [results, Tryz.results248, go_sem, x0, x1]) rfl ⟨by rw [← hR2.out]; rfl, hK2⟩
  · simp only [if_neg hb]
    have wn := fun w => width_no b w hb
    clear hb hz
    go_enter Tryz.func248, Tryz.ntmps248
    go_wp2_with fail
    refine (wn _).mono ?_
    rintro e w1 ⟨rfl, hw1⟩
    subst hw1
    go_wp2
    exact bodyPost_ret (v := .tuple #[.agg #[.int .u64 0, .int .u64 0], .int .i64 1]) (by simp [results, Tryz.results248, go_sem]) rfl ⟨rfl, (Kept.refl _ w).alloc _⟩

theorem Tryz.infoInt : (Tryz.prog.info? 3).map (fun i => (i.zero, i.size, i.bytes)) = some (some (.int .i64 0), 1, 8) := by kernel_rfl
def cellsOf (l : List Nat) : List Value := l.map fun b : Nat => .int .i64 (b : Int)
theorem cellsOf_append (l k : List Nat) : cellsOf (l ++ k) = cellsOf l ++ cellsOf k := by simp [cellsOf]
theorem cellsOf_length (l : List Nat) : (cellsOf l).length = l.length := by simp [cellsOf]
theorem ownsRow_weaken {w : World} {b b' n : Nat} {v : Value} {e : TypeId} {size : Nat} {xs : List Value} (h : w.ownsRow b e size v n xs) (hb : b' ≤ b) : w.ownsRow b' e size v n xs := by
  refine ⟨h.1, ?_⟩
  rcases h.2 with hc | ⟨g, cap, cur, h1, hg, r⟩
  · exact .inl hc
  · exact .inr ⟨g, cap, cur, h1, Nat.le_trans hb hg, r⟩
theorem Box.grown {w w' : World} {n : Nat} {s : Sg} {row : Option Nat} (h : Box w n s) (k : w.grownBy w' row) (hn : row ≠ some n) : Box w' n s := (k.block n h.lt (fun e => hn e.symm)).trans h
theorem ownsRow_ne {w : World} {b n : Nat} {v : Value} {e : TypeId} {size : Nat} {xs : List Value} (h : w.ownsRow b e size v n xs) {k : Nat} (hk : k < b) : v.ownBlock ≠ some k := fun x => by
  have := (h.lt k x).1
  omega

/-- The words of a signature that hold bits, those below j. -/
def word (d : Sg) (i : Nat) : Nat := if i = 0 then d.lo else d.hi
def wordsBelow (d : Sg) (j : Nat) : List Nat := (List.range j).filter (fun i => word d i != 0)
def Sg.words (d : Sg) : List Nat := wordsBelow d 2
theorem wordsBelow_succ (d : Sg) (j : Nat) : wordsBelow d (j + 1) = wordsBelow d j ++ (if word d j != 0 then [j] else []) := by
  unfold wordsBelow
  rw [List.range_succ, List.filter_append]
  cases h : word d j != 0 <;> simp [h]
theorem wordsBelow_le (d : Sg) (j : Nat) : (wordsBelow d j).length ≤ j := by
  have := List.length_filter_le (fun i => word d i != 0) (List.range j)
  simpa [wordsBelow] using this
theorem word_idx (d : Sg) (j : Nat) (hj : j < 2) : ∀ w, (Instr.index 130 (.agg #[.int .u64 d.lo, .int .u64 d.hi]) (.int .i64 j)).run Tryz.prog w = .ok (.int .u64 (word d j : Nat)) w := by
  rcases (show j = 0 ∨ j = 1 by omega) with rfl | rfl
  · exact fun w => idx0 _ _ w
  · exact fun w => idx1 _ _ w
theorem Box.word {w : World} {n : Nat} {d : Sg} (h : Box w n d) {j : Nat} (hj : j < 2) : w.cell? ⟨n, j, none⟩ = some (.int .u64 (word d j : Nat)) := by
  rcases (show j = 0 ∨ j = 1 by omega) with rfl | rfl
  · exact h.c0
  · exact h.c1

set_option maxRecDepth 100000 in
set_option maxHeartbeats 1000000 in
theorem touched_any (a b : Sg) (ha : a.ok) (hb : b.ok) (w : World) : Calls Tryz.prog 290 #[a.val, b.val] w fun e w' => ∃ v, e = .returned v ∧ w'.ownsRow w.heap.size 3 1 v (b.minus a).words.length (cellsOf (b.minus a).words) ∧ Kept (fun _ => False) w w' := by
  obtain ⟨i0, hi0, hz0, hz1, hz2⟩ := info_parts Tryz.infoInt
  have hM := minus_any b a hb ha
  generalize b.minus a = d at *
  have HS : Hid (∀ j, wordsBelow d (j + 1) = wordsBelow d j ++ (if word d j != 0 then [j] else [])) := wordsBelow_succ d
  have HLE : Hid (∀ j, (wordsBelow d j).length ≤ j) := wordsBelow_le d
  have HE : Hid (wordsBelow d 2 = d.words) := rfl
  have H0 : Hid (wordsBelow d 0 = []) := rfl
  have HI := word_idx d
  generalize d.words = R at *
  generalize wordsBelow d = L at *
  generalize word d = X at *
  obtain ⟨a0, a1⟩ := a
  obtain ⟨b0, b1⟩ := b
  obtain ⟨d0, d1⟩ := d
  simp only [Sg.val] at hM HI ⊢
  have HI2 : Hid (∀ (j : Nat), j < 2 → ∀ w, (Instr.index 130 (.agg #[.int .u64 d0, .int .u64 d1]) (.int .i64 j)).run Tryz.prog w = .ok (.int .u64 (X j : Nat)) w) := HI
  clear ha hb HI
  go_enter Tryz.func290, Tryz.ntmps290
  go_wp2_with fail
  generalize hW : (w.alloc (.cells #[.int .u64 a0, .int .u64 a1] 130)).alloc (.cells #[.int .u64 b0, .int .u64 b1] 130) = W
  obtain ⟨A, B, K⟩ := hasTwo w a0 a1 b0 b1 hW
  clear hW A B
  refine (hM _).mono ?_
  rintro e w1 ⟨rfl, k1⟩
  have K1 : Kept (fun _ => False) w w1 := K.trans k1 (fun _ _ f => f)
  clear K k1 hM
  go_wp2_with fail
  generalize hm : w.heap.size = m at *
  have HM : Hid (w.heap.size = m) := hm
  clear hm
  go_loopw [5, 11] (fun v i wr => ∃ j : Nat, i = .int .i64 j ∧ j ≤ 2 ∧ wr.ownsRow m 3 1 v (L j).length (cellsOf (L j)) ∧ Kept (fun _ => False) w wr) (fun _ i _ => 2 - (intOf i).toNat)
  case atStart => exact ⟨0, rfl, Nat.zero_le _, by rw [H0.out]; exact World.ownsRow_nil _ _ _ _, K1⟩
  case round =>
    obtain ⟨j, rfl, hj, ho, hK⟩ := hrel
    clear K1
    by_cases hlt : j < 2
    · have h1 : (j : Int) < 2 := by omega
      have h0 : (0 : Int) ≤ (j : Int) := by omega
      have hS := HS.out j
      have hI := HI2.out j hlt
      cases hf : X j != 0 with
      | false =>
        rw [hf] at hS
        have HS2 : Hid (L (j + 1) = L j) := by show _ = _; simpa using hS
        have hx : (((X j : Nat) : Int) != 0) = false := by simpa using hf
        clear hS hf
        generalize X j = x at *
        go_wp2_with fail
        go_roundw
        case rel => exact ⟨j + 1, by go_num, hlt, by rw [HS2.out]; exact ho, hK⟩
        case measure => simp [intOf]; omega
      | true =>
        rw [hf] at hS
        have HS2 : Hid (L (j + 1) = L j ++ [j]) := by show _ = _; simpa using hS
        have hN : (L j).length ≤ 1 := by have := HLE.out j; omega
        have hx : (((X j : Nat) : Int) != 0) = true := by simpa using hf
        clear hS hf
        have hmw : Hid (m ≤ wr.heap.size) := by
          have := hK.size
          rw [HM.out] at this
          exact this
        generalize X j = x at *
        generalize hNN : (L j).length = NN at *
        have HNN : Hid ((L j).length = NN) := hNN
        generalize hLL : L j = LL at *
        clear hNN hLL
        go_wp2_with (at_builtin; refine wpList_append_lies _ rfl (.tmp 17) (.tmp 19) 45 rfl m 3 i0 _ 1 8 Tryz.underlying45 hi0 hz0 hz1 hz2 rfl (by omega) _ NN (cellsOf LL) rfl (ho.alloc _) ⟨wr.heap.size, 0, none⟩ 1 1 [.int .i64 (j : Int)] rfl (by simp) (World.news_of_block (cs := #[.int .i64 (j : Int)]) (t := 3) (fr := (0, 0)) (heap_alloc_new wr _)) (by simp [Value.oneCell']) (by omega) (by unfold maxLen; omega) (by omega) (by simp; have := hmw.out; omega) (wr.heap.size + 1) (by simp) ?_; intro g cap w5 hown5 hgrow hat hlt5)
        go_roundw
        case rel =>
          refine ⟨j + 1, by go_num, hlt, ?_, (hK.alloc _).grown hgrow (fun k e => .inr ?_)⟩
          · rw [HS2.out, cellsOf_append, List.length_append, HNN.out]
            exact hown5
          · have := (ho.lt k e).1
            rw [HM.out]
            exact this
        case measure => simp [intOf]; omega
    · have hj8 : j = 2 := by omega
      subst hj8
      go_wp2
      go_ret
      exact ⟨_, rfl, by rw [HM.out, ← HE.out]; exact ho, hK⟩

end Go.Proofs.YthbcbjkgjgmegaaGreat
