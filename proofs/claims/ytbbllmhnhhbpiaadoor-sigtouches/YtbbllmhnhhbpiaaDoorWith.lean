/- A bit put into a signature: with, and the reference With. A signature in a block of its own. -/
import Derived.Test.YtbbllmhnhhbpiaaDoorHas
import Derived.Laws.BitsAllLaws
namespace Go.Proofs.YtbbllmhnhhbpiaaDoor
open Go.RowKit
set_option linter.unusedVariables false
set_option linter.unusedSimpArgs false

theorem wrap_pow (r : Nat) (h : r < 64) : IntKind.u64.wrap (2 ^ r) = ((2 ^ r : Nat) : Int) := by
  have h2 := pow_lt h
  rw [IntKind.wrap_u64, show ((2 : Int) ^ r) = ((2 ^ r : Nat) : Int) by simp]
  generalize 2 ^ r = p at h2
  omega
theorem or_bit (x r : Nat) (hx : x < 18446744073709551616) (h : r < 64) : bits BinOp.or IntKind.u64 (x : Int) (IntKind.u64.wrap (2 ^ r)) = ((x ||| 2 ^ r : Nat) : Int) := by
  rw [wrap_pow r h]
  exact bits_or_u64_nat _ _ hx (pow_lt h)

set_option maxHeartbeats 1000000 in
theorem with_lo (s : Sg) (x : Int) (r : Nat) (hs : s.ok) (h0 : 0 ≤ x) (h1 : x ≤ 127) (hq : x / 64 = 0) (hr : x % 64 = r) (w : World) : Calls Tryd.prog 36 #[s.val, .int .i64 x] w fun e w' => e = .returned (Sg.val ⟨s.lo ||| 2 ^ r, s.hi⟩) ∧ Kept (fun _ => False) w w' := by
  have hr64 : r < 64 := by omega
  obtain ⟨lo, hi⟩ := s
  unfold Sg.val
  have g0 : ¬ x < 0 := by omega
  have g1 : ¬ 127 < x := by omega
  go_enter Tryd.func36, Tryd.ntmps36
  go_wp2_with fail
  go_region
  rw [or_bit lo r hs.1 hr64]
  go_wp2
  exact bodyPost_ret (v := .agg #[.int .u64 ((lo ||| 2 ^ r : Nat) : Int), .int .u64 hi]) (by simp [results, Tryd.results36, go_sem]) rfl ⟨rfl, (((Kept.refl _ w).alloc _).alloc _).drew⟩
set_option maxHeartbeats 1000000 in
theorem with_hi (s : Sg) (x : Int) (r : Nat) (hs : s.ok) (h0 : 0 ≤ x) (h1 : x ≤ 127) (hq : x / 64 = 1) (hr : x % 64 = r) (w : World) : Calls Tryd.prog 36 #[s.val, .int .i64 x] w fun e w' => e = .returned (Sg.val ⟨s.lo, s.hi ||| 2 ^ r⟩) ∧ Kept (fun _ => False) w w' := by
  have hr64 : r < 64 := by omega
  obtain ⟨lo, hi⟩ := s
  unfold Sg.val
  have g0 : ¬ x < 0 := by omega
  have g1 : ¬ 127 < x := by omega
  go_enter Tryd.func36, Tryd.ntmps36
  go_wp2_with fail
  go_region
  rw [or_bit hi r hs.2 hr64]
  go_wp2
  exact bodyPost_ret (v := .agg #[.int .u64 lo, .int .u64 ((hi ||| 2 ^ r : Nat) : Int)]) (by simp [results, Tryd.results36, go_sem]) rfl ⟨rfl, (((Kept.refl _ w).alloc _).alloc _).drew⟩

theorem with_any (s : Sg) (b : Nat) (hs : s.ok) (hb : b < 128) (w : World) : Calls Tryd.prog 36 #[s.val, .int .i64 b] w fun e w' => e = .returned (s.put b).val ∧ Kept (fun _ => False) w w' := by
  unfold Sg.put
  by_cases h : b < 64
  · rw [if_pos h]
    exact with_lo s b b hs (by omega) (by omega) (by omega) (by omega) w
  · rw [if_neg h]
    exact with_hi s b (b - 64) hs (by omega) (by omega) (by omega) (by omega) w

theorem add_bit (x r : Nat) (hx : x < 18446744073709551616) (hr : r < 64) (h : x.testBit r = false) : x + 2 ^ r = x ||| 2 ^ r ∧ x + 2 ^ r < 18446744073709551616 := by
  have hp := pow_lt hr
  have h1 : x + 2 ^ r < 2 ^ 65 := by generalize 2 ^ r = p at hp; omega
  have e : BitVec.ofNat 65 x + BitVec.ofNat 65 (2 ^ r) = BitVec.ofNat 65 x ||| BitVec.ofNat 65 (2 ^ r) := by
    apply BitVec.add_eq_or_of_and_eq_zero
    apply BitVec.eq_of_getLsbD_eq
    intro i hi
    simp only [BitVec.getLsbD_and, BitVec.getLsbD_ofNat, hi, decide_true, Bool.true_and, BitVec.getLsbD_zero, Nat.testBit_two_pow]
    by_cases hir : r = i
    · subst hir; simp [h]
    · simp [hir]
  have e2 := congrArg BitVec.toNat e
  rw [BitVec.toNat_add, BitVec.toNat_or, BitVec.toNat_ofNat, BitVec.toNat_ofNat, Nat.mod_eq_of_lt (show x < 2 ^ 65 by omega), Nat.mod_eq_of_lt (show 2 ^ r < 2 ^ 65 by generalize 2 ^ r = p at hp; omega), Nat.mod_eq_of_lt h1] at e2
  refine ⟨e2, ?_⟩
  rw [e2]
  exact or_lt hx hp

theorem Sg.put_of_has {s : Sg} (hs : s.ok) {b : Nat} (hb : b < 128) (h : s.has b = true) : s.put b = s := by
  refine Sg.ext' (Sg.ok_put hs hb) hs fun i hi => ?_
  rw [Sg.has_put hb i hi]
  by_cases e : i = b
  · subst e; simp [h]
  · simp [e]

/-- A signature in a block of its own. -/
def Box (w : World) (n : Nat) (s : Sg) : Prop := w.heap[n]? = some (.cells #[.int .u64 s.lo, .int .u64 s.hi] 31 (0, 0))
theorem Box.c0 {w : World} {n : Nat} {s : Sg} (h : Box w n s) : w.cell? ⟨n, 0, none⟩ = some (.int .u64 s.lo) := cell_of_heap h
theorem Box.c1 {w : World} {n : Nat} {s : Sg} (h : Box w n s) : w.cell? ⟨n, 1, none⟩ = some (.int .u64 s.hi) := cell_of_heap h
theorem Box.f0 {w : World} {n : Nat} {s : Sg} (h : Box w n s) : w.frozen? ⟨n, 0, none⟩ = false := frozen_of_heap h
theorem Box.f1 {w : World} {n : Nat} {s : Sg} (h : Box w n s) : w.frozen? ⟨n, 1, none⟩ = false := frozen_of_heap h
theorem Box.lt {w : World} {n : Nat} {s : Sg} (h : Box w n s) : n < w.heap.size := lt_of_heap h
theorem Box.kept {w w' : World} {n : Nat} {s : Sg} {F : Nat → Prop} (h : Box w n s) (k : Kept F w w') (hn : ¬ F n) : Box w' n s := (k.block n h.lt hn).trans h
theorem Box.alloc {w : World} {n : Nat} {s : Sg} (h : Box w n s) (o : Obj) : Box (w.alloc o) n s := (Below.heap_alloc w o n h.lt).trans h
theorem Box.drew {w : World} {n : Nat} {s : Sg} (h : Box w n s) : Box w.drew n s := h
theorem Box.set {w : World} {n : Nat} {s : Sg} (h : Box w n s) (t : Sg) : Box ((w.setCell ⟨n, 0, none⟩ (.int .u64 t.lo)).setCell ⟨n, 1, none⟩ (.int .u64 t.hi)) n t := by
  have h1 := heap_setCell_at (o := 0) h (.int .u64 t.lo)
  exact heap_setCell_at (o := 1) h1 (.int .u64 t.hi)
theorem Box.new (w : World) (lo hi : Nat) : Box (w.alloc (.cells #[.int .u64 lo, .int .u64 hi] 31)) w.heap.size ⟨lo, hi⟩ := heap_alloc_new w _
theorem Box.far {w : World} {n : Nat} {s : Sg} (h : Box w n s) {p : Addr} {u : Value} (hp : n ≠ p.block) : Box (w.setCell p u) n s := (heap_setCell_far hp).trans h

/-- Two boxes made: a copy of what came, and the place of what goes. -/
theorem two_new (w : World) (lo hi : Nat) {W : World} (hW : (w.alloc (.cells #[.int .u64 lo, .int .u64 hi] 31)).alloc (.cells #[.int .u64 0, .int .u64 0] 31) = W) : Box W w.heap.size ⟨lo, hi⟩ ∧ Box W (w.heap.size + 1) Sg.zero ∧ Kept (fun _ => False) w W := by
  subst hW
  refine ⟨(Box.new w lo hi).alloc _, ?_, ((Kept.refl _ w).alloc _).alloc _⟩
  have := Box.new (w.alloc (.cells #[.int .u64 lo, .int .u64 hi] 31)) 0 0
  simpa [Sg.zero] using this

set_option maxHeartbeats 1000000 in
theorem put_has (s : Sg) (b : Nat) (hs : s.ok) (hb : b < 128) (h : s.has b = true) (w : World) : Calls Tryd.prog 37 #[s.val, .int .i64 b] w fun e w' => e = .returned (s.put b).val ∧ Kept (fun _ => False) w w' := by
  rw [Sg.put_of_has hs hb h]
  have hH : ∀ w, Calls Tryd.prog 38 #[s.val, .int .i64 b] w fun e w' => e = .returned (.bool true) ∧ Kept (fun _ => False) w w' := fun w => h ▸ has_any s b hs hb w
  obtain ⟨lo, hi⟩ := s
  unfold Sg.val at *
  clear h hb hs
  go_enter Tryd.func37, Tryd.ntmps37
  go_wp2_with fail
  generalize hW : (w.alloc (.cells #[.int .u64 lo, .int .u64 hi] 31)).alloc (.cells #[.int .u64 0, .int .u64 0] 31) = W
  obtain ⟨b0, b1, k0⟩ := two_new w lo hi hW
  clear hW
  refine (hH _).mono ?_
  rintro e w1 ⟨rfl, hk⟩
  have B0 := b0.kept hk id
  have B1 := b1.kept hk id
  have K : Kept (fun _ => False) w w1 := k0.trans hk (fun _ _ f => f)
  have x0 := B0.c0; have x1 := B0.c1; have x2 := B1.c0; have x3 := B1.c1; have x4 := B1.f0; have x5 := B1.f1
  simp only [Sg.zero] at x0 x1 x2 x3
  generalize hm : w.heap.size = m at *
  clear b0 b1 k0 hk hH
  go_wp2
  have hB := B1.set ⟨lo, hi⟩
  have K2 := (K.setCell (p := ⟨m + 1, 0, none⟩) (.int .u64 lo) (.inr (by rw [hm]; simp))).setCell (p := ⟨m + 1, 1, none⟩) (.int .u64 hi) (.inr (by rw [hm]; simp))
  have y0 := hB.c0; have y1 := hB.c1
  simp only at y0 y1 hB
  generalize (w1.setCell ⟨m + 1, 0, none⟩ (.int .u64 lo)).setCell ⟨m + 1, 1, none⟩ (.int .u64 hi) = W2 at *
  exact bodyPost_ret (v := .agg #[.int .u64 lo, .int .u64 hi]) (by simp [results, Tryd.results37, go_sem, y0, y1]) rfl ⟨rfl, K2⟩

set_option maxHeartbeats 1000000 in
theorem put_lo (s : Sg) (x : Int) (r : Nat) (hs : s.ok) (h0 : 0 ≤ x) (h1 : x ≤ 127) (hq : x / 64 = 0) (hr : x % 64 = r) (hh : s.lo.testBit r = false) (w : World)
    (hH : ∀ w, Calls Tryd.prog 38 #[s.val, .int .i64 x] w fun e w' => e = .returned (.bool false) ∧ Kept (fun _ => False) w w') :
    Calls Tryd.prog 37 #[s.val, .int .i64 x] w fun e w' => e = .returned (Sg.val ⟨s.lo ||| 2 ^ r, s.hi⟩) ∧ Kept (fun _ => False) w w' := by
  have hr64 : r < 64 := by omega
  obtain ⟨lo, hi⟩ := s
  obtain ⟨ha, hl⟩ := add_bit lo r hs.1 hr64 hh
  generalize lo ||| 2 ^ r = T at *
  have HA : Hid ((lo : Int) + ((2 ^ r : Nat) : Int) = (T : Int)) := by
    show _ = _
    rw [← ha]; simp
  have HL : Hid (lo + 2 ^ r < 18446744073709551616) := hl
  have HR : Hid (r < 64) := hr64
  unfold Sg.val at *
  have g0 : ¬ x < 0 := by omega
  clear hs hh ha hl hr64
  go_enter Tryd.func37, Tryd.ntmps37
  go_wp2_with fail
  generalize hW : (w.alloc (.cells #[.int .u64 lo, .int .u64 hi] 31)).alloc (.cells #[.int .u64 0, .int .u64 0] 31) = W
  obtain ⟨b0, b1, k0⟩ := two_new w lo hi hW
  clear hW
  refine (hH _).mono ?_
  rintro e w1 ⟨rfl, hk⟩
  have B0 := b0.kept hk id
  have B1 := b1.kept hk id
  have K : Kept (fun _ => False) w w1 := k0.trans hk (fun _ _ f => f)
  have x0 := B0.c0; have x1 := B0.c1; have x2 := B1.c0; have x3 := B1.c1; have x4 := B1.f0; have x5 := B1.f1; have x6 := B0.f0; have x7 := B0.f1
  simp only [Sg.zero] at x0 x1 x2 x3
  generalize hm : w.heap.size = m at *
  have HM : Hid (w.heap.size = m) := hm
  clear b0 b1 k0 hk hH hm
  go_wp2_with fail
  go_loopw [5, 6] (fun v i wr => ∃ j : Nat, j ≤ r ∧ i = .int .i64 j ∧ v = .int .u64 ((2 ^ j : Nat) : Int) ∧ wr = w1) (fun _ i _ => r - (intOf i).toNat)
  case atStart => exact ⟨0, Nat.zero_le _, rfl, by simp, rfl⟩
  case round =>
    obtain ⟨j, hj, rfl, rfl, rfl⟩ := hrel
    by_cases hlt : j < r
    · have HP : Hid (((2 ^ j : Nat) : Int) * 2 = ((2 ^ (j + 1) : Nat) : Int)) := by
        show _ = _
        rw [Nat.pow_succ]; simp
      have hj63 : j < 63 := by have := HR.out; omega
      have HU : Hid (2 ^ j < 9223372036854775808) := (Nat.pow_lt_pow_right (by decide) hj63 : 2 ^ j < 2 ^ 63)
      generalize 2 ^ j = u at *
      have u0 : (0 : Int) ≤ (u : Int) := Int.natCast_nonneg _
      have u1 : (u : Int) < 9223372036854775808 := by have := HU.out; omega
      have h2 : (j : Int) < (r : Int) := by omega
      go_wp2_with fail
      go_roundw
      case rel => exact ⟨j + 1, hlt, by go_num, by rw [← HP.out], by first | rfl | trivial⟩
      case measure => simp [intOf]; omega
    · have h2 : ¬ (j : Int) < (r : Int) := by omega
      have h3 : j = r := by omega
      subst h3
      generalize 2 ^ j = u at *
      have u0 : (0 : Int) ≤ (lo : Int) + (u : Int) := by omega
      have u1 : (lo : Int) + (u : Int) < 18446744073709551616 := by have := HL.out; omega
      go_wp2_with fail
      rw [HA.out]
      have hm := HM.out
      have hB : Box (((wr.setCell ⟨m, 0, none⟩ (.int .u64 T)).setCell ⟨m + 1, 0, none⟩ (.int .u64 T)).setCell ⟨m + 1, 1, none⟩ (.int .u64 hi)) (m + 1) ⟨T, hi⟩ := (B1.far (by simp)).set ⟨T, hi⟩
      have K2 := ((K.setCell (p := ⟨m, 0, none⟩) (.int .u64 T) (.inr (by rw [hm]; simp))).setCell (p := ⟨m + 1, 0, none⟩) (.int .u64 T) (.inr (by rw [hm]; simp))).setCell (p := ⟨m + 1, 1, none⟩) (.int .u64 hi) (.inr (by rw [hm]; simp))
      have y0 := hB.c0; have y1 := hB.c1
      simp only at y0 y1 hB
      generalize ((wr.setCell ⟨m, 0, none⟩ (.int .u64 T)).setCell ⟨m + 1, 0, none⟩ (.int .u64 T)).setCell ⟨m + 1, 1, none⟩ (.int .u64 hi) = W2 at *
      exact bodyPost_ret (v := .agg #[.int .u64 T, .int .u64 hi]) (by simp [results, Tryd.results37, go_sem, y0, y1]) rfl ⟨rfl, K2⟩

set_option maxHeartbeats 1000000 in
theorem put_hi (s : Sg) (x : Int) (r : Nat) (hs : s.ok) (h0 : 0 ≤ x) (h1 : x ≤ 127) (hq : x / 64 = 1) (hr : x % 64 = r) (hh : s.hi.testBit r = false) (w : World)
    (hH : ∀ w, Calls Tryd.prog 38 #[s.val, .int .i64 x] w fun e w' => e = .returned (.bool false) ∧ Kept (fun _ => False) w w') :
    Calls Tryd.prog 37 #[s.val, .int .i64 x] w fun e w' => e = .returned (Sg.val ⟨s.lo, s.hi ||| 2 ^ r⟩) ∧ Kept (fun _ => False) w w' := by
  have hr64 : r < 64 := by omega
  obtain ⟨lo, hi⟩ := s
  obtain ⟨ha, hl⟩ := add_bit hi r hs.2 hr64 hh
  generalize hi ||| 2 ^ r = T at *
  have HA : Hid ((hi : Int) + ((2 ^ r : Nat) : Int) = (T : Int)) := by
    show _ = _
    rw [← ha]; simp
  have HL : Hid (hi + 2 ^ r < 18446744073709551616) := hl
  have HR : Hid (r < 64) := hr64
  unfold Sg.val at *
  have g0 : ¬ x < 0 := by omega
  clear hs hh ha hl hr64
  go_enter Tryd.func37, Tryd.ntmps37
  go_wp2_with fail
  generalize hW : (w.alloc (.cells #[.int .u64 lo, .int .u64 hi] 31)).alloc (.cells #[.int .u64 0, .int .u64 0] 31) = W
  obtain ⟨b0, b1, k0⟩ := two_new w lo hi hW
  clear hW
  refine (hH _).mono ?_
  rintro e w1 ⟨rfl, hk⟩
  have B0 := b0.kept hk id
  have B1 := b1.kept hk id
  have K : Kept (fun _ => False) w w1 := k0.trans hk (fun _ _ f => f)
  have x0 := B0.c0; have x1 := B0.c1; have x2 := B1.c0; have x3 := B1.c1; have x4 := B1.f0; have x5 := B1.f1; have x6 := B0.f0; have x7 := B0.f1
  simp only [Sg.zero] at x0 x1 x2 x3
  generalize hm : w.heap.size = m at *
  have HM : Hid (w.heap.size = m) := hm
  clear b0 b1 k0 hk hH hm
  go_wp2_with fail
  go_loopw [5, 6] (fun v i wr => ∃ j : Nat, j ≤ r ∧ i = .int .i64 j ∧ v = .int .u64 ((2 ^ j : Nat) : Int) ∧ wr = w1) (fun _ i _ => r - (intOf i).toNat)
  case atStart => exact ⟨0, Nat.zero_le _, rfl, by simp, rfl⟩
  case round =>
    obtain ⟨j, hj, rfl, rfl, rfl⟩ := hrel
    by_cases hlt : j < r
    · have HP : Hid (((2 ^ j : Nat) : Int) * 2 = ((2 ^ (j + 1) : Nat) : Int)) := by
        show _ = _
        rw [Nat.pow_succ]; simp
      have hj63 : j < 63 := by have := HR.out; omega
      have HU : Hid (2 ^ j < 9223372036854775808) := (Nat.pow_lt_pow_right (by decide) hj63 : 2 ^ j < 2 ^ 63)
      generalize 2 ^ j = u at *
      have u0 : (0 : Int) ≤ (u : Int) := Int.natCast_nonneg _
      have u1 : (u : Int) < 9223372036854775808 := by have := HU.out; omega
      have h2 : (j : Int) < (r : Int) := by omega
      go_wp2_with fail
      go_roundw
      case rel => exact ⟨j + 1, hlt, by go_num, by rw [← HP.out], by first | rfl | trivial⟩
      case measure => simp [intOf]; omega
    · have h2 : ¬ (j : Int) < (r : Int) := by omega
      have h3 : j = r := by omega
      subst h3
      generalize 2 ^ j = u at *
      have u0 : (0 : Int) ≤ (hi : Int) + (u : Int) := by omega
      have u1 : (hi : Int) + (u : Int) < 18446744073709551616 := by have := HL.out; omega
      go_wp2_with fail
      rw [HA.out]
      have hm := HM.out
      have hB : Box (((wr.setCell ⟨m, 1, none⟩ (.int .u64 T)).setCell ⟨m + 1, 0, none⟩ (.int .u64 lo)).setCell ⟨m + 1, 1, none⟩ (.int .u64 T)) (m + 1) ⟨lo, T⟩ := (B1.far (by simp)).set ⟨lo, T⟩
      have K2 := ((K.setCell (p := ⟨m, 1, none⟩) (.int .u64 T) (.inr (by rw [hm]; simp))).setCell (p := ⟨m + 1, 0, none⟩) (.int .u64 lo) (.inr (by rw [hm]; simp))).setCell (p := ⟨m + 1, 1, none⟩) (.int .u64 T) (.inr (by rw [hm]; simp))
      have y0 := hB.c0; have y1 := hB.c1
      simp only at y0 y1 hB
      generalize ((wr.setCell ⟨m, 1, none⟩ (.int .u64 T)).setCell ⟨m + 1, 0, none⟩ (.int .u64 lo)).setCell ⟨m + 1, 1, none⟩ (.int .u64 T) = W2 at *
      exact bodyPost_ret (v := .agg #[.int .u64 lo, .int .u64 T]) (by simp [results, Tryd.results37, go_sem, y0, y1]) rfl ⟨rfl, K2⟩

theorem put_any (s : Sg) (b : Nat) (hs : s.ok) (hb : b < 128) (w : World) : Calls Tryd.prog 37 #[s.val, .int .i64 b] w fun e w' => e = .returned (s.put b).val ∧ Kept (fun _ => False) w w' := by
  cases h : s.has b with
  | true => exact put_has s b hs hb h w
  | false =>
    have hH : ∀ w, Calls Tryd.prog 38 #[s.val, .int .i64 b] w fun e w' => e = .returned (.bool false) ∧ Kept (fun _ => False) w w' := fun w => h ▸ has_any s b hs hb w
    unfold Sg.put
    unfold Sg.has at h
    by_cases hl : b < 64
    · rw [if_pos hl] at h ⊢
      exact put_lo s b b hs (by omega) (by omega) (by omega) (by omega) h w hH
    · rw [if_neg hl] at h ⊢
      exact put_hi s b (b - 64) hs (by omega) (by omega) (by omega) (by omega) h w hH
end Go.Proofs.YtbbllmhnhhbpiaaDoor
