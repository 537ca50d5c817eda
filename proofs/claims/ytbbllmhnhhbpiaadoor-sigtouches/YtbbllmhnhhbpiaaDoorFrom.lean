/- The signature of bits: From, of the program and of the reference. -/
import Derived.Test.YtbbllmhnhhbpiaaDoorRefOf
namespace Go.Proofs.YtbbllmhnhhbpiaaDoor
open Go.RowKit
set_option linter.unusedVariables false
set_option linter.unusedSimpArgs false

/-- The signature of bits, put together one by one. -/
def fromGo : List Int → Sg → Sg × Int
  | [], s => (s, 0)
  | b :: l, s => if 0 ≤ b ∧ b < 128 then fromGo l (s.put b.toNat) else (Sg.zero, 2)

set_option maxRecDepth 100000 in
set_option maxHeartbeats 1000000 in
theorem from_any (la : Option Addr) (n ca : Nat) (zs : List Int) (w : World) (hz : IntsIn w la n zs) (hn : n ≤ 35184372088832) :
    Calls Tryd.prog 15 #[.slice la n ca] w fun e w' => e = .returned (.tuple #[(fromGo zs Sg.zero).1.val, .int .i64 (fromGo zs Sg.zero).2]) ∧ Kept (fun _ => False) w w' := by
  have HL : Hid (n = zs.length) := hz.1
  have HZ : Hid (IntsIn w la n zs) := hz
  clear hz
  obtain ⟨R, HR⟩ : ∃ R, Hid (fromGo zs Sg.zero = R) := ⟨_, rfl⟩
  rw [HR.out]
  go_enter Tryd.func15, Tryd.ntmps15
  go_wp2_with fail
  generalize hW : (w.alloc (.cells #[.int .u64 0, .int .u64 0] 31)).alloc (.cells #[.int .u64 0, .int .u64 0] 31) = W
  obtain ⟨A, B, K⟩ := pair_new w hW
  clear hW
  generalize hm : w.heap.size = m at *
  have HM : Hid (w.heap.size = m) := hm
  clear hm
  go_loopw [9] (fun i wr => ∃ (j : Nat) (s : Sg), i = .int .i64 j ∧ j ≤ n ∧ s.ok ∧ Box wr m Sg.zero ∧ Box wr (m + 1) s ∧ Kept (fun _ => False) w wr ∧ Hid (fromGo (zs.drop j) s = R)) (fun i _ => n - (intOf i).toNat)
  case atStart => exact ⟨0, Sg.zero, rfl, Nat.zero_le _, Sg.ok_zero, A, B, K, HR⟩
  case round =>
    obtain ⟨j, s, rfl, hj, hs, hA, hB, hK, hR⟩ := hrel
    clear A B K
    by_cases hlt : j < n
    · obtain ⟨g, o, rfl, hga⟩ := HZ.out.2 (by omega)
      have c1 : wr.cell? ⟨g, o + j, none⟩ = some (.int .i64 (zs.getD j 0)) := hK.cell (hga j hlt) (fun f => f)
      have HD : Hid (fromGo (zs.getD j 0 :: zs.drop (j + 1)) s = R) := by
        have := hR.out
        rwa [drop_at zs j (by have := HL.out; omega)] at this
      generalize zs.getD j 0 = z at c1 HD
      clear hga HZ
      have h0 : (0 : Int) ≤ (j : Int) := Int.natCast_nonneg _
      have h1 : (j : Int) < (n : Int) := by omega
      unfold fromGo at HD
      by_cases hE : 0 ≤ z ∧ z < 128
      · have HD2 : Hid (fromGo (zs.drop (j + 1)) (s.put z.toNat) = R) := by
          have := HD.out
          rwa [if_pos hE] at this
        obtain ⟨x, rfl⟩ : ∃ x : Nat, z = x := ⟨z.toNat, by omega⟩
        rw [Int.toNat_natCast] at HD2
        have lx : x < 128 := by omega
        have w1' := fun w => with_any s x hs lx w
        have ok2 := Sg.ok_put hs lx
        generalize s.put x = s2 at *
        have y0 := hB.c0; have y1 := hB.c1
        obtain ⟨s0, s1'⟩ := s
        obtain ⟨r0, r1⟩ := s2
        simp only [Sg.val] at w1' y0 y1
        have g0 : ¬ (x : Int) < 0 := by omega
        have g1 : ¬ (128 : Int) ≤ (x : Int) := by omega
        clear HD hE
        go_wp2_with fail
        refine (w1' _).mono ?_
        rintro e w4 ⟨rfl, hk4⟩
        have hA4 := hA.kept hk4 id
        have hB4 := hB.kept hk4 id
        have hK4 : Kept (fun _ => False) w w4 := hK.trans hk4 (fun _ _ f => f)
        have z0 := hB4.c0; have z1 := hB4.c1; have z2 := hB4.f0; have z3 := hB4.f1
        simp only at z0 z1
        clear hk4 w1' y0 y1
        go_wp2_with fail
        go_roundw
        case rel => exact ⟨j + 1, ⟨r0, r1⟩, by go_num, hlt, ok2, (hA4.far (by simp)).far (by simp), hB4.set ⟨r0, r1⟩, (hK4.setCell _ (.inr (by rw [HM.out]; simp))).setCell _ (.inr (by rw [HM.out]; simp)), HD2⟩
        case measure => simp [intOf]; omega
      · have HD2 : Hid ((Sg.zero, 2) = R) := by
          have := HD.out
          rwa [if_neg hE] at this
        have z0 := hA.c0; have z1 := hA.c1; have z2 := hA.f0; have z3 := hA.f1
        simp only [Sg.zero] at z0 z1
        clear HD
        by_cases g0 : z < 0
        · clear hE
          go_wp2
          have hB2 : Box ((wr.setCell ⟨m, 0, none⟩ (.int .u64 0)).setCell ⟨m, 1, none⟩ (.int .u64 0)) m Sg.zero := hA.set Sg.zero
          have hK2 := (hK.setCell (p := ⟨m, 0, none⟩) (.int .u64 0) (.inr (by rw [HM.out]; simp))).setCell (p := ⟨m, 1, none⟩) (.int .u64 0) (.inr (by rw [HM.out]; simp))
          have y0 : ((wr.setCell ⟨m, 0, none⟩ (.int .u64 0)).setCell ⟨m, 1, none⟩ (.int .u64 0)).cell? ⟨m, 0, none⟩ = some (.int .u64 0) := hB2.c0
          have y1 : ((wr.setCell ⟨m, 0, none⟩ (.int .u64 0)).setCell ⟨m, 1, none⟩ (.int .u64 0)).cell? ⟨m, 1, none⟩ = some (.int .u64 0) := hB2.c1
          exact bodyPost_ret (v := .tuple #[.agg #[.int .u64 0, .int .u64 0], .int .i64 2]) (by simp [results, Tryd.results15, go_sem, y0, y1]) rfl ⟨by rw [← HD2.out]; rfl, hK2⟩
        · have g1 : 128 ≤ z := by omega
          clear hE
          go_wp2
          have hB2 : Box ((wr.setCell ⟨m, 0, none⟩ (.int .u64 0)).setCell ⟨m, 1, none⟩ (.int .u64 0)) m Sg.zero := hA.set Sg.zero
          have hK2 := (hK.setCell (p := ⟨m, 0, none⟩) (.int .u64 0) (.inr (by rw [HM.out]; simp))).setCell (p := ⟨m, 1, none⟩) (.int .u64 0) (.inr (by rw [HM.out]; simp))
          have y0 : ((wr.setCell ⟨m, 0, none⟩ (.int .u64 0)).setCell ⟨m, 1, none⟩ (.int .u64 0)).cell? ⟨m, 0, none⟩ = some (.int .u64 0) := hB2.c0
          have y1 : ((wr.setCell ⟨m, 0, none⟩ (.int .u64 0)).setCell ⟨m, 1, none⟩ (.int .u64 0)).cell? ⟨m, 1, none⟩ = some (.int .u64 0) := hB2.c1
          exact bodyPost_ret (v := .tuple #[.agg #[.int .u64 0, .int .u64 0], .int .i64 2]) (by simp [results, Tryd.results15, go_sem, y0, y1]) rfl ⟨by rw [← HD2.out]; rfl, hK2⟩
    · have h1 : ¬ (j : Int) < (n : Int) := by omega
      have hR2 : Hid ((s, (0 : Int)) = R) := by
        have := hR.out
        rwa [List.drop_eq_nil_of_le (by have := HL.out; omega)] at this
      have z0 := hA.c0; have z1 := hA.c1; have z2 := hA.f0; have z3 := hA.f1
      have y0 := hB.c0; have y1 := hB.c1
      obtain ⟨s0, s1⟩ := s
      simp only [Sg.zero] at z0 z1 y0 y1
      go_wp2
      have hB2 := hA.set ⟨s0, s1⟩
      have hK2 := (hK.setCell (p := ⟨m, 0, none⟩) (.int .u64 (s0 : Int)) (.inr (by rw [HM.out]; simp))).setCell (p := ⟨m, 1, none⟩) (.int .u64 (s1 : Int)) (.inr (by rw [HM.out]; simp))
      have x0 := hB2.c0; have x1 := hB2.c1
      simp only at x0 x1 hB2 hK2
      exact bodyPost_ret (v := .tuple #[.agg #[.int .u64 s0, .int .u64 s1], .int .i64 0]) (by simp [results, Tryd.results15, go_sem, x0, x1]) rfl ⟨by rw [← hR2.out]; rfl, hK2⟩

set_option maxRecDepth 100000 in
set_option maxHeartbeats 1000000 in
theorem refFrom_any (la : Option Addr) (n ca : Nat) (zs : List Int) (w : World) (hz : IntsIn w la n zs) (hn : n ≤ 35184372088832) :
    Calls Tryd.prog 16 #[.slice la n ca] w fun e w' => e = .returned (.tuple #[(fromGo zs Sg.zero).1.val, .int .i64 (fromGo zs Sg.zero).2]) ∧ Kept (fun _ => False) w w' := by
  have HL : Hid (n = zs.length) := hz.1
  have HZ : Hid (IntsIn w la n zs) := hz
  clear hz
  obtain ⟨R, HR⟩ : ∃ R, Hid (fromGo zs Sg.zero = R) := ⟨_, rfl⟩
  rw [HR.out]
  go_enter Tryd.func16, Tryd.ntmps16
  go_wp2_with fail
  generalize hW : (w.alloc (.cells #[.int .u64 0, .int .u64 0] 31)).alloc (.cells #[.int .u64 0, .int .u64 0] 31) = W
  obtain ⟨A, B, K⟩ := pair_new w hW
  clear hW
  generalize hm : w.heap.size = m at *
  have HM : Hid (w.heap.size = m) := hm
  clear hm
  go_loopw [5] (fun i wr => ∃ (j : Nat) (s : Sg), i = .int .i64 j ∧ j ≤ n ∧ s.ok ∧ Box wr m Sg.zero ∧ Box wr (m + 1) s ∧ Kept (fun _ => False) w wr ∧ Hid (fromGo (zs.drop j) s = R)) (fun i _ => n - (intOf i).toNat)
  case atStart => exact ⟨0, Sg.zero, rfl, Nat.zero_le _, Sg.ok_zero, A, B, K, HR⟩
  case round =>
    obtain ⟨j, s, rfl, hj, hs, hA, hB, hK, hR⟩ := hrel
    clear A B K
    by_cases hlt : j < n
    · obtain ⟨g, o, rfl, hga⟩ := HZ.out.2 (by omega)
      have c1 : wr.cell? ⟨g, o + j, none⟩ = some (.int .i64 (zs.getD j 0)) := hK.cell (hga j hlt) (fun f => f)
      have HD : Hid (fromGo (zs.getD j 0 :: zs.drop (j + 1)) s = R) := by
        have := hR.out
        rwa [drop_at zs j (by have := HL.out; omega)] at this
      generalize zs.getD j 0 = z at c1 HD
      clear hga HZ
      have h0 : (0 : Int) ≤ (j : Int) := Int.natCast_nonneg _
      have h1 : (j : Int) < (n : Int) := by omega
      unfold fromGo at HD
      by_cases hE : 0 ≤ z ∧ z < 128
      · have HD2 : Hid (fromGo (zs.drop (j + 1)) (s.put z.toNat) = R) := by
          have := HD.out
          rwa [if_pos hE] at this
        obtain ⟨x, rfl⟩ : ∃ x : Nat, z = x := ⟨z.toNat, by omega⟩
        rw [Int.toNat_natCast] at HD2
        have lx : x < 128 := by omega
        have w1' := fun w => put_any s x hs lx w
        have ok2 := Sg.ok_put hs lx
        generalize s.put x = s2 at *
        have y0 := hB.c0; have y1 := hB.c1
        obtain ⟨s0, s1'⟩ := s
        obtain ⟨r0, r1⟩ := s2
        simp only [Sg.val] at w1' y0 y1
        have g0 : ¬ (x : Int) < 0 := by omega
        have g1 : ¬ (127 : Int) < (x : Int) := by omega
        clear HD hE
        go_wp2_with fail
        go_region_with (go_at_call 37; refine (w1' _).mono ?_; rintro e w4 ⟨rfl, hk4⟩; have hA4 := Box.kept (w := wr.drew) hA hk4 id; have hB4 := Box.kept (w := wr.drew) hB hk4 id; have hK4 : Kept (fun _ => False) w w4 := (hK.drew).trans hk4 (fun _ _ f => f); have z0 := hB4.c0; have z1 := hB4.c1; have z2 := hB4.f0; have z3 := hB4.f1; simp only at z0 z1)
        all_goals
          go_wp2_with fail
          go_roundw
          case rel => exact ⟨j + 1, ⟨r0, r1⟩, by go_num, hlt, ok2, (hA4.far (by simp)).far (by simp), hB4.set ⟨r0, r1⟩, (hK4.setCell _ (.inr (by rw [HM.out]; simp))).setCell _ (.inr (by rw [HM.out]; simp)), HD2⟩
          case measure => simp [intOf]; omega
      · have HD2 : Hid ((Sg.zero, 2) = R) := by
          have := HD.out
          rwa [if_neg hE] at this
        have z0 := hA.c0; have z1 := hA.c1; have z2 := hA.f0; have z3 := hA.f1
        simp only [Sg.zero] at z0 z1
        clear HD
        by_cases g0 : z < 0
        · clear hE
          go_wp2
          have hB2 : Box ((wr.setCell ⟨m, 0, none⟩ (.int .u64 0)).setCell ⟨m, 1, none⟩ (.int .u64 0)) m Sg.zero := hA.set Sg.zero
          have hK2 := (hK.setCell (p := ⟨m, 0, none⟩) (.int .u64 0) (.inr (by rw [HM.out]; simp))).setCell (p := ⟨m, 1, none⟩) (.int .u64 0) (.inr (by rw [HM.out]; simp))
          have y0 : ((wr.setCell ⟨m, 0, none⟩ (.int .u64 0)).setCell ⟨m, 1, none⟩ (.int .u64 0)).cell? ⟨m, 0, none⟩ = some (.int .u64 0) := hB2.c0
          have y1 : ((wr.setCell ⟨m, 0, none⟩ (.int .u64 0)).setCell ⟨m, 1, none⟩ (.int .u64 0)).cell? ⟨m, 1, none⟩ = some (.int .u64 0) := hB2.c1
          exact bodyPost_ret (v := .tuple #[.agg #[.int .u64 0, .int .u64 0], .int .i64 2]) (by simp [results, Tryd.results16, go_sem, y0, y1]) rfl ⟨by rw [← HD2.out]; rfl, hK2⟩
        · have g1 : 127 < z := by omega
          clear hE
          go_wp2
          have hB2 : Box ((wr.setCell ⟨m, 0, none⟩ (.int .u64 0)).setCell ⟨m, 1, none⟩ (.int .u64 0)) m Sg.zero := hA.set Sg.zero
          have hK2 := (hK.setCell (p := ⟨m, 0, none⟩) (.int .u64 0) (.inr (by rw [HM.out]; simp))).setCell (p := ⟨m, 1, none⟩) (.int .u64 0) (.inr (by rw [HM.out]; simp))
          have y0 : ((wr.setCell ⟨m, 0, none⟩ (.int .u64 0)).setCell ⟨m, 1, none⟩ (.int .u64 0)).cell? ⟨m, 0, none⟩ = some (.int .u64 0) := hB2.c0
          have y1 : ((wr.setCell ⟨m, 0, none⟩ (.int .u64 0)).setCell ⟨m, 1, none⟩ (.int .u64 0)).cell? ⟨m, 1, none⟩ = some (.int .u64 0) := hB2.c1
          exact bodyPost_ret (v := .tuple #[.agg #[.int .u64 0, .int .u64 0], .int .i64 2]) (by simp [results, Tryd.results16, go_sem, y0, y1]) rfl ⟨by rw [← HD2.out]; rfl, hK2⟩
    · have h1 : ¬ (j : Int) < (n : Int) := by omega
      have hR2 : Hid ((s, (0 : Int)) = R) := by
        have := hR.out
        rwa [List.drop_eq_nil_of_le (by have := HL.out; omega)] at this
      have z0 := hA.c0; have z1 := hA.c1; have z2 := hA.f0; have z3 := hA.f1
      have y0 := hB.c0; have y1 := hB.c1
      obtain ⟨s0, s1⟩ := s
      simp only [Sg.zero] at z0 z1 y0 y1
      go_wp2
      have hB2 := hA.set ⟨s0, s1⟩
      have hK2 := (hK.setCell (p := ⟨m, 0, none⟩) (.int .u64 (s0 : Int)) (.inr (by rw [HM.out]; simp))).setCell (p := ⟨m, 1, none⟩) (.int .u64 (s1 : Int)) (.inr (by rw [HM.out]; simp))
      have x0 := hB2.c0; have x1 := hB2.c1
      simp only at x0 x1 hB2 hK2
      exact bodyPost_ret (v := .tuple #[.agg #[.int .u64 s0, .int .u64 s1], .int .i64 0]) (by simp [results, Tryd.results16, go_sem, x0, x1]) rfl ⟨by rw [← hR2.out]; rfl, hK2⟩
end Go.Proofs.YtbbllmhnhhbpiaaDoor
