/- Join, Meet, Minus of two signatures. -/
import Derived.Test.YtbbllmhnhhbpiaaDoorWith
namespace Go.Proofs.YtbbllmhnhhbpiaaDoor
open Go.RowKit
set_option linter.unusedVariables false
set_option linter.unusedSimpArgs false

theorem three_new (w : World) (a0 a1 b0 b1 : Nat) {W : World} (hW : ((w.alloc (.cells #[.int .u64 a0, .int .u64 a1] 31)).alloc (.cells #[.int .u64 b0, .int .u64 b1] 31)).alloc (.cells #[.int .u64 0, .int .u64 0] 31) = W) : Box W w.heap.size ⟨a0, a1⟩ ∧ Box W (w.heap.size + 1) ⟨b0, b1⟩ ∧ Box W (w.heap.size + 2) Sg.zero ∧ Kept (fun _ => False) w W := by
  subst hW
  refine ⟨((Box.new w a0 a1).alloc _).alloc _, ?_, ?_, (((Kept.refl _ w).alloc _).alloc _).alloc _⟩
  · have := (Box.new (w.alloc (.cells #[.int .u64 a0, .int .u64 a1] 31)) b0 b1).alloc (.cells #[.int .u64 0, .int .u64 0] 31)
    simpa using this
  · have := Box.new ((w.alloc (.cells #[.int .u64 a0, .int .u64 a1] 31)).alloc (.cells #[.int .u64 b0, .int .u64 b1] 31)) 0 0
    simpa [Sg.zero] using this

theorem idx0 (x y : Int) (w : World) : (Instr.index 31 (.agg #[.int .u64 x, .int .u64 y]) (.int .i64 0)).run Tryd.prog w = .ok (.int .u64 x) w := by kernel_rfl
theorem idx1 (x y : Int) (w : World) : (Instr.index 31 (.agg #[.int .u64 x, .int .u64 y]) (.int .i64 1)).run Tryd.prog w = .ok (.int .u64 y) w := by kernel_rfl

theorem bits_less (a b : Nat) (ha : a < 18446744073709551616) (hb : b < 18446744073709551616) : bits .andNot .u64 (a : Int) (b : Int) = ((less a b : Nat) : Int) := by
  rw [u64_andNot_nat a b ha hb]
  congr 1
  refine Nat.eq_of_testBit_eq fun i => ?_
  rw [testBit_less, Nat.testBit_and]
  by_cases hi : i < 64
  · have e : 18446744073709551615 - b = 2 ^ 64 - (b + 1) := by omega
    rw [e, Nat.testBit_two_pow_sub_succ hb]
    simp [hi]
  · have p : 18446744073709551616 ≤ 2 ^ i := (Nat.pow_le_pow_right (by decide) (by omega) : 2 ^ 64 ≤ 2 ^ i)
    rw [Nat.testBit_lt_two_pow (Nat.lt_of_lt_of_le ha p)]
    simp

set_option maxHeartbeats 1000000 in
theorem join_any (a b : Sg) (ha : a.ok) (hb : b.ok) (w : World) : Calls Tryd.prog 18 #[a.val, b.val] w fun e w' => e = .returned (a.join b).val ∧ Kept (fun _ => False) w w' := by
  obtain ⟨a0, a1⟩ := a
  obtain ⟨b0, b1⟩ := b
  have e0 : Hid (bits .or .u64 (a0 : Int) (b0 : Int) = ((a0 ||| b0 : Nat) : Int)) := bits_or_u64_nat _ _ ha.1 hb.1
  have e1 : Hid (bits .or .u64 (a1 : Int) (b1 : Int) = ((a1 ||| b1 : Nat) : Int)) := bits_or_u64_nat _ _ ha.2 hb.2
  unfold Sg.join Sg.val
  simp only
  generalize a0 ||| b0 = r0 at *
  generalize a1 ||| b1 = r1 at *
  clear ha hb
  go_enter Tryd.func18, Tryd.ntmps18
  go_wp2_with fail
  generalize hW : ((w.alloc (.cells #[.int .u64 a0, .int .u64 a1] 31)).alloc (.cells #[.int .u64 b0, .int .u64 b1] 31)).alloc (.cells #[.int .u64 0, .int .u64 0] 31) = W
  obtain ⟨A, B, C, K⟩ := three_new w a0 a1 b0 b1 hW
  clear hW
  have HM : ∃ m, Hid (w.heap.size = m) := ⟨_, rfl⟩
  obtain ⟨m, HM⟩ := HM
  rw [HM.out] at A B C ⊢
  go_loopw [8] (fun i wr => (i = .int .i64 0 ∧ wr = W) ∨ (i = .int .i64 1 ∧ wr = W.setCell ⟨m, 0, none⟩ (.int .u64 r0)) ∨ (i = .int .i64 2 ∧ wr = (W.setCell ⟨m, 0, none⟩ (.int .u64 r0)).setCell ⟨m, 1, none⟩ (.int .u64 r1))) (fun i _ => 2 - (intOf i).toNat)
  case atStart => exact .inl ⟨rfl, rfl⟩
  case round =>
    rcases hrel with ⟨rfl, rfl⟩ | ⟨rfl, rfl⟩ | ⟨rfl, rfl⟩
    · have x0 := A.c0; have x1 := A.f0
      simp only at x0
      have hi := idx0 (b0 : Int) (b1 : Int)
      go_wp2_with fail
      go_roundw
      case rel => exact .inr (.inl ⟨rfl, by rw [e0.out]⟩)
      case measure => simp [intOf]
    · have A1 : (W.setCell ⟨m, 0, none⟩ (.int .u64 r0)).heap[m]? = some (.cells #[.int .u64 r0, .int .u64 a1] 31 (0, 0)) := heap_setCell_at A _
      have x0 : (W.setCell ⟨m, 0, none⟩ (.int .u64 r0)).cell? ⟨m, 1, none⟩ = some (.int .u64 a1) := cell_of_heap A1
      have x1 : (W.setCell ⟨m, 0, none⟩ (.int .u64 r0)).frozen? ⟨m, 1, none⟩ = false := frozen_of_heap A1
      generalize W.setCell ⟨m, 0, none⟩ (.int .u64 r0) = W1 at *
      have hi := idx1 (b0 : Int) (b1 : Int)
      go_wp2_with fail
      go_roundw
      case rel => exact .inr (.inr ⟨rfl, by rw [e1.out]⟩)
      case measure => simp [intOf]
    · have A2 := A.set ⟨r0, r1⟩
      have hm := HM.out
      have K2 := (K.setCell (p := ⟨m, 0, none⟩) (.int .u64 r0) (.inr (by rw [hm]; simp))).setCell (p := ⟨m, 1, none⟩) (.int .u64 r1) (.inr (by rw [hm]; simp))
      have C2 : Box ((W.setCell ⟨m, 0, none⟩ (.int .u64 r0)).setCell ⟨m, 1, none⟩ (.int .u64 r1)) (m + 2) Sg.zero := (C.far (by simp)).far (by simp)
      simp only at A2
      generalize (W.setCell ⟨m, 0, none⟩ (.int .u64 r0)).setCell ⟨m, 1, none⟩ (.int .u64 r1) = W2 at *
      have x0 := A2.c0; have x1 := A2.c1; have x2 := C2.c0; have x3 := C2.c1; have x4 := C2.f0; have x5 := C2.f1
      simp only [Sg.zero] at x0 x1 x2 x3
      clear hm
      go_wp2_with fail
      have hB := C2.set ⟨r0, r1⟩
      have K3 := (K2.setCell (p := ⟨m + 2, 0, none⟩) (.int .u64 r0) (.inr (by rw [HM.out]; simp))).setCell (p := ⟨m + 2, 1, none⟩) (.int .u64 r1) (.inr (by rw [HM.out]; simp))
      have y0 := hB.c0; have y1 := hB.c1
      simp only at y0 y1 hB
      exact bodyPost_ret (v := .agg #[.int .u64 r0, .int .u64 r1]) (by simp [results, Tryd.results18, go_sem, y0, y1]) rfl ⟨rfl, K3⟩

set_option maxHeartbeats 1000000 in
theorem meet_any (a b : Sg) (ha : a.ok) (hb : b.ok) (w : World) : Calls Tryd.prog 20 #[a.val, b.val] w fun e w' => e = .returned (a.meet b).val ∧ Kept (fun _ => False) w w' := by
  obtain ⟨a0, a1⟩ := a
  obtain ⟨b0, b1⟩ := b
  have e0 : Hid (bits .and .u64 (a0 : Int) (b0 : Int) = ((a0 &&& b0 : Nat) : Int)) := bits_and_u64_nat _ _ ha.1 hb.1
  have e1 : Hid (bits .and .u64 (a1 : Int) (b1 : Int) = ((a1 &&& b1 : Nat) : Int)) := bits_and_u64_nat _ _ ha.2 hb.2
  unfold Sg.meet Sg.val
  simp only
  generalize a0 &&& b0 = r0 at *
  generalize a1 &&& b1 = r1 at *
  clear ha hb
  go_enter Tryd.func20, Tryd.ntmps20
  go_wp2_with fail
  generalize hW : ((w.alloc (.cells #[.int .u64 a0, .int .u64 a1] 31)).alloc (.cells #[.int .u64 b0, .int .u64 b1] 31)).alloc (.cells #[.int .u64 0, .int .u64 0] 31) = W
  obtain ⟨A, B, C, K⟩ := three_new w a0 a1 b0 b1 hW
  clear hW
  have HM : ∃ m, Hid (w.heap.size = m) := ⟨_, rfl⟩
  obtain ⟨m, HM⟩ := HM
  rw [HM.out] at A B C ⊢
  go_loopw [8] (fun i wr => (i = .int .i64 0 ∧ wr = W) ∨ (i = .int .i64 1 ∧ wr = W.setCell ⟨m, 0, none⟩ (.int .u64 r0)) ∨ (i = .int .i64 2 ∧ wr = (W.setCell ⟨m, 0, none⟩ (.int .u64 r0)).setCell ⟨m, 1, none⟩ (.int .u64 r1))) (fun i _ => 2 - (intOf i).toNat)
  case atStart => exact .inl ⟨rfl, rfl⟩
  case round =>
    rcases hrel with ⟨rfl, rfl⟩ | ⟨rfl, rfl⟩ | ⟨rfl, rfl⟩
    · have x0 := A.c0; have x1 := A.f0
      simp only at x0
      have hi := idx0 (b0 : Int) (b1 : Int)
      go_wp2_with fail
      go_roundw
      case rel => exact .inr (.inl ⟨rfl, by rw [e0.out]⟩)
      case measure => simp [intOf]
    · have A1 : (W.setCell ⟨m, 0, none⟩ (.int .u64 r0)).heap[m]? = some (.cells #[.int .u64 r0, .int .u64 a1] 31 (0, 0)) := heap_setCell_at A _
      have x0 : (W.setCell ⟨m, 0, none⟩ (.int .u64 r0)).cell? ⟨m, 1, none⟩ = some (.int .u64 a1) := cell_of_heap A1
      have x1 : (W.setCell ⟨m, 0, none⟩ (.int .u64 r0)).frozen? ⟨m, 1, none⟩ = false := frozen_of_heap A1
      generalize W.setCell ⟨m, 0, none⟩ (.int .u64 r0) = W1 at *
      have hi := idx1 (b0 : Int) (b1 : Int)
      go_wp2_with fail
      go_roundw
      case rel => exact .inr (.inr ⟨rfl, by rw [e1.out]⟩)
      case measure => simp [intOf]
    · have A2 := A.set ⟨r0, r1⟩
      have hm := HM.out
      have K2 := (K.setCell (p := ⟨m, 0, none⟩) (.int .u64 r0) (.inr (by rw [hm]; simp))).setCell (p := ⟨m, 1, none⟩) (.int .u64 r1) (.inr (by rw [hm]; simp))
      have C2 : Box ((W.setCell ⟨m, 0, none⟩ (.int .u64 r0)).setCell ⟨m, 1, none⟩ (.int .u64 r1)) (m + 2) Sg.zero := (C.far (by simp)).far (by simp)
      simp only at A2
      generalize (W.setCell ⟨m, 0, none⟩ (.int .u64 r0)).setCell ⟨m, 1, none⟩ (.int .u64 r1) = W2 at *
      have x0 := A2.c0; have x1 := A2.c1; have x2 := C2.c0; have x3 := C2.c1; have x4 := C2.f0; have x5 := C2.f1
      simp only [Sg.zero] at x0 x1 x2 x3
      clear hm
      go_wp2_with fail
      have hB := C2.set ⟨r0, r1⟩
      have K3 := (K2.setCell (p := ⟨m + 2, 0, none⟩) (.int .u64 r0) (.inr (by rw [HM.out]; simp))).setCell (p := ⟨m + 2, 1, none⟩) (.int .u64 r1) (.inr (by rw [HM.out]; simp))
      have y0 := hB.c0; have y1 := hB.c1
      simp only at y0 y1 hB
      exact bodyPost_ret (v := .agg #[.int .u64 r0, .int .u64 r1]) (by simp [results, Tryd.results20, go_sem, y0, y1]) rfl ⟨rfl, K3⟩

set_option maxHeartbeats 1000000 in
theorem minus_any (a b : Sg) (ha : a.ok) (hb : b.ok) (w : World) : Calls Tryd.prog 22 #[a.val, b.val] w fun e w' => e = .returned (a.minus b).val ∧ Kept (fun _ => False) w w' := by
  obtain ⟨a0, a1⟩ := a
  obtain ⟨b0, b1⟩ := b
  have e0 : Hid (bits .andNot .u64 (a0 : Int) (b0 : Int) = ((less a0 b0 : Nat) : Int)) := bits_less _ _ ha.1 hb.1
  have e1 : Hid (bits .andNot .u64 (a1 : Int) (b1 : Int) = ((less a1 b1 : Nat) : Int)) := bits_less _ _ ha.2 hb.2
  unfold Sg.minus Sg.val
  simp only
  generalize less a0 b0 = r0 at *
  generalize less a1 b1 = r1 at *
  clear ha hb
  go_enter Tryd.func22, Tryd.ntmps22
  go_wp2_with fail
  generalize hW : ((w.alloc (.cells #[.int .u64 a0, .int .u64 a1] 31)).alloc (.cells #[.int .u64 b0, .int .u64 b1] 31)).alloc (.cells #[.int .u64 0, .int .u64 0] 31) = W
  obtain ⟨A, B, C, K⟩ := three_new w a0 a1 b0 b1 hW
  clear hW
  have HM : ∃ m, Hid (w.heap.size = m) := ⟨_, rfl⟩
  obtain ⟨m, HM⟩ := HM
  rw [HM.out] at A B C ⊢
  go_loopw [8] (fun i wr => (i = .int .i64 0 ∧ wr = W) ∨ (i = .int .i64 1 ∧ wr = W.setCell ⟨m, 0, none⟩ (.int .u64 r0)) ∨ (i = .int .i64 2 ∧ wr = (W.setCell ⟨m, 0, none⟩ (.int .u64 r0)).setCell ⟨m, 1, none⟩ (.int .u64 r1))) (fun i _ => 2 - (intOf i).toNat)
  case atStart => exact .inl ⟨rfl, rfl⟩
  case round =>
    rcases hrel with ⟨rfl, rfl⟩ | ⟨rfl, rfl⟩ | ⟨rfl, rfl⟩
    · have x0 := A.c0; have x1 := A.f0
      simp only at x0
      have hi := idx0 (b0 : Int) (b1 : Int)
      go_wp2_with fail
      go_roundw
      case rel => exact .inr (.inl ⟨rfl, by rw [e0.out]⟩)
      case measure => simp [intOf]
    · have A1 : (W.setCell ⟨m, 0, none⟩ (.int .u64 r0)).heap[m]? = some (.cells #[.int .u64 r0, .int .u64 a1] 31 (0, 0)) := heap_setCell_at A _
      have x0 : (W.setCell ⟨m, 0, none⟩ (.int .u64 r0)).cell? ⟨m, 1, none⟩ = some (.int .u64 a1) := cell_of_heap A1
      have x1 : (W.setCell ⟨m, 0, none⟩ (.int .u64 r0)).frozen? ⟨m, 1, none⟩ = false := frozen_of_heap A1
      generalize W.setCell ⟨m, 0, none⟩ (.int .u64 r0) = W1 at *
      have hi := idx1 (b0 : Int) (b1 : Int)
      go_wp2_with fail
      go_roundw
      case rel => exact .inr (.inr ⟨rfl, by rw [e1.out]⟩)
      case measure => simp [intOf]
    · have A2 := A.set ⟨r0, r1⟩
      have hm := HM.out
      have K2 := (K.setCell (p := ⟨m, 0, none⟩) (.int .u64 r0) (.inr (by rw [hm]; simp))).setCell (p := ⟨m, 1, none⟩) (.int .u64 r1) (.inr (by rw [hm]; simp))
      have C2 : Box ((W.setCell ⟨m, 0, none⟩ (.int .u64 r0)).setCell ⟨m, 1, none⟩ (.int .u64 r1)) (m + 2) Sg.zero := (C.far (by simp)).far (by simp)
      simp only at A2
      generalize (W.setCell ⟨m, 0, none⟩ (.int .u64 r0)).setCell ⟨m, 1, none⟩ (.int .u64 r1) = W2 at *
      have x0 := A2.c0; have x1 := A2.c1; have x2 := C2.c0; have x3 := C2.c1; have x4 := C2.f0; have x5 := C2.f1
      simp only [Sg.zero] at x0 x1 x2 x3
      clear hm
      go_wp2_with fail
      have hB := C2.set ⟨r0, r1⟩
      have K3 := (K2.setCell (p := ⟨m + 2, 0, none⟩) (.int .u64 r0) (.inr (by rw [HM.out]; simp))).setCell (p := ⟨m + 2, 1, none⟩) (.int .u64 r1) (.inr (by rw [HM.out]; simp))
      have y0 := hB.c0; have y1 := hB.c1
      simp only at y0 y1 hB
      exact bodyPost_ret (v := .agg #[.int .u64 r0, .int .u64 r1]) (by simp [results, Tryd.results22, go_sem, y0, y1]) rfl ⟨rfl, K3⟩
end Go.Proofs.YtbbllmhnhhbpiaaDoor
