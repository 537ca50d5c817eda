/- The signature of cells: Of of the reference. -/
import Derived.Test.YtbbllmhnhhbpiaaDoorOf
namespace Go.Proofs.YtbbllmhnhhbpiaaDoor
open Go.RowKit
set_option linter.unusedVariables false
set_option linter.unusedSimpArgs false

set_option maxRecDepth 100000 in
set_option maxHeartbeats 1000000 in
theorem refOf_any (la : Option Addr) (n ca : Nat) (zs : List Int) (b : Int) (w : World) (hz : IntsIn w la n zs) (hn : n ≤ 35184372088832) :
    Calls Tryd.prog 14 #[.slice la n ca, .int .i64 b] w fun e w' => e = .returned (.tuple #[(ofR zs b).1.val, .int .i64 (ofR zs b).2]) ∧ Kept (fun _ => False) w w' := by
  unfold ofR
  by_cases hb : 1 ≤ b ∧ b ≤ 128
  · simp only [if_pos hb]
    have n2 : ¬ b < 1 := by omega
    have n3 : ¬ 128 < b := by omega
    have HL : Hid (n = zs.length) := hz.1
    have HZ : Hid (IntsIn w la n zs) := hz
    clear hz
    obtain ⟨R, HR⟩ : ∃ R, Hid (ofGo b zs Sg.zero = R) := ⟨_, rfl⟩
    rw [HR.out]
    go_enter Tryd.func14, Tryd.ntmps14
    go_wp2_with fail
    generalize hW : (w.alloc (.cells #[.int .u64 0, .int .u64 0] 31)).alloc (.cells #[.int .u64 0, .int .u64 0] 31) = W
    obtain ⟨A, B, K⟩ := pair_new w hW
    clear hW
    generalize hm : w.heap.size = m at *
    have HM : Hid (w.heap.size = m) := hm
    clear hm
    go_loopw [7] (fun i wr => ∃ (j : Nat) (s : Sg), i = .int .i64 j ∧ j ≤ n ∧ s.ok ∧ Box wr m Sg.zero ∧ Box wr (m + 1) s ∧ Kept (fun _ => False) w wr ∧ Hid (ofGo b (zs.drop j) s = R)) (fun i _ => n - (intOf i).toNat)
    case atStart => exact ⟨0, Sg.zero, rfl, Nat.zero_le _, Sg.ok_zero, A, B, K, HR⟩
    case round =>
      obtain ⟨j, s, rfl, hj, hs, hA, hB, hK, hR⟩ := hrel
      clear A B K
      by_cases hlt : j < n
      · obtain ⟨g, o, rfl, hga⟩ := HZ.out.2 (by omega)
        have c1 : wr.cell? ⟨g, o + j, none⟩ = some (.int .i64 (zs.getD j 0)) := hK.cell (hga j hlt) (fun f => f)
        have HD : Hid (ofGo b (zs.getD j 0 :: zs.drop (j + 1)) s = R) := by
          have := hR.out
          rwa [drop_at zs j (by have := HL.out; omega)] at this
        generalize zs.getD j 0 = z at c1 HD
        clear hga HZ
        have h0 : (0 : Int) ≤ (j : Int) := Int.natCast_nonneg _
        have h1 : (j : Int) < (n : Int) := by omega
        go_wp2_with fail
        refine (refHash_any z b _).mono ?_
        rintro e w1 ⟨rfl, hw1⟩
        subst hw1
        by_cases hE : hashE z b = 0
        · obtain ⟨x1, x2, e1, e2, l1, l2, t1, t2⟩ := hash_in hE
          rw [e1, e2, hE]
          unfold ofGo at HD
          have HD2 : Hid (ofGo b (zs.drop (j + 1)) ((s.put x1).put x2) = R) := by
            have := HD.out
            rwa [if_pos hE, t1, t2] at this
          have w1' := fun w => put_any s x1 hs l1 w
          have w2' := fun w => put_any (s.put x1) x2 (Sg.ok_put hs l1) l2 w
          have ok2 := Sg.ok_put (Sg.ok_put hs l1) l2
          generalize (s.put x1).put x2 = s2 at *
          generalize s.put x1 = s1 at *
          have y0 := hB.c0; have y1 := hB.c1
          obtain ⟨s0, s1'⟩ := s
          obtain ⟨p0, p1⟩ := s1
          obtain ⟨r0, r1⟩ := s2
          simp only [Sg.val] at w1' w2' y0 y1
          clear HD e1 e2 hE t1 t2
          go_wp2_with fail
          refine (w1' _).mono ?_
          rintro e w3 ⟨rfl, hk3⟩
          have hA3 := hA.kept hk3 id
          have hB3 := hB.kept hk3 id
          have hK3 : Kept (fun _ => False) w w3 := hK.trans hk3 (fun _ _ f => f)
          have z0 := hB3.c0; have z1 := hB3.c1; have z2 := hB3.f0; have z3 := hB3.f1
          simp only at z0 z1
          clear hk3 w1' y0 y1
          go_wp2_with fail
          have hB5 := hB3.set ⟨p0, p1⟩
          have hA5 : Box ((w3.setCell ⟨m + 1, 0, none⟩ (.int .u64 p0)).setCell ⟨m + 1, 1, none⟩ (.int .u64 p1)) m Sg.zero := (hA3.far (by simp)).far (by simp)
          have hK5 := (hK3.setCell (p := ⟨m + 1, 0, none⟩) (.int .u64 p0) (.inr (by rw [HM.out]; simp))).setCell (p := ⟨m + 1, 1, none⟩) (.int .u64 p1) (.inr (by rw [HM.out]; simp))
          simp only at hB5
          clear z0 z1 z2 z3 hA3 hB3 hK3
          generalize (w3.setCell ⟨m + 1, 0, none⟩ (.int .u64 p0)).setCell ⟨m + 1, 1, none⟩ (.int .u64 p1) = w5 at *
          refine (w2' _).mono ?_
          rintro e w4 ⟨rfl, hk4⟩
          have hA4 := hA5.kept hk4 id
          have hB4 := hB5.kept hk4 id
          have hK4 : Kept (fun _ => False) w w4 := hK5.trans hk4 (fun _ _ f => f)
          have z0 := hB4.c0; have z1 := hB4.c1; have z2 := hB4.f0; have z3 := hB4.f1
          simp only at z0 z1
          clear hk4 w2'
          go_wp2_with fail
          go_roundw
          case rel => exact ⟨j + 1, ⟨r0, r1⟩, by go_num, hlt, ok2, (hA4.far (by simp)).far (by simp), hB4.set ⟨r0, r1⟩, (hK4.setCell _ (.inr (by rw [HM.out]; simp))).setCell _ (.inr (by rw [HM.out]; simp)), HD2⟩
          case measure => simp [intOf]; omega
        · unfold ofGo at HD
          have HD2 : Hid ((Sg.zero, hashE z b) = R) := by
            have := HD.out
            rwa [if_neg hE] at this
          have hne : (hashE z b != 0) = true := by simpa using hE
          generalize hashE z b = ee at *
          generalize hash1 z b = x1 at *
          generalize hash2 z b = x2 at *
          have z0 := hA.c0; have z1 := hA.c1; have z2 := hA.f0; have z3 := hA.f1
          simp only [Sg.zero] at z0 z1
          clear HD hE
          go_wp2
          have hB2 : Box ((w1.setCell ⟨m, 0, none⟩ (.int .u64 0)).setCell ⟨m, 1, none⟩ (.int .u64 0)) m Sg.zero := hA.set Sg.zero
          have hK2 := (hK.setCell (p := ⟨m, 0, none⟩) (.int .u64 0) (.inr (by rw [HM.out]; simp))).setCell (p := ⟨m, 1, none⟩) (.int .u64 0) (.inr (by rw [HM.out]; simp))
          have y0 : ((w1.setCell ⟨m, 0, none⟩ (.int .u64 0)).setCell ⟨m, 1, none⟩ (.int .u64 0)).cell? ⟨m, 0, none⟩ = some (.int .u64 0) := hB2.c0
          have y1 : ((w1.setCell ⟨m, 0, none⟩ (.int .u64 0)).setCell ⟨m, 1, none⟩ (.int .u64 0)).cell? ⟨m, 1, none⟩ = some (.int .u64 0) := hB2.c1
          exact bodyPost_ret (v := .tuple #[.agg #[.int .u64 0, .int .u64 0], .int .i64 ee]) (by simp [results, Tryd.results14, go_sem, y0, y1]) rfl ⟨by rw [← HD2.out]; rfl, hK2⟩
      · have h1 : ¬ (j : Int) < (n : Int) := by omega
        have hR2 : Hid ((s, (0 : Int)) = R) := by
          have := hR.out
          rwa [List.drop_eq_nil_of_le (by have := HL.out; omega)] at this
        have z0 := hA.c0; have z1 := hA.c1; have z2 := hA.f0; have z3 := hA.f1
        have y0 := hB.c0; have y1 := hB.c1
        obtain ⟨s0, s1⟩ := s
        simp only [Sg.zero] at z0 z1 y0 y1
        go_wp2
        have hB2 := hA.set ⟨s0, s1⟩
        have hK2 := (hK.setCell (p := ⟨m, 0, none⟩) (.int .u64 (s0 : Int)) (.inr (by rw [HM.out]; simp))).setCell (p := ⟨m, 1, none⟩) (.int .u64 (s1 : Int)) (.inr (by rw [HM.out]; simp))
        have x0 := hB2.c0; have x1 := hB2.c1
        simp only at x0 x1 hB2 hK2
        exact bodyPost_ret (v := .tuple #[.agg #[.int .u64 s0, .int .u64 s1], .int .i64 0]) (by simp [results, Tryd.results14, go_sem, x0, x1]) rfl ⟨by rw [← hR2.out]; rfl, hK2⟩
  · simp only [if_neg hb]
    by_cases n2 : b < 1
    · clear hb hz
      go_enter Tryd.func14, Tryd.ntmps14
      go_wp2
      exact bodyPost_ret (v := .tuple #[.agg #[.int .u64 0, .int .u64 0], .int .i64 1]) (by simp [results, Tryd.results14, go_sem]) rfl ⟨rfl, (Kept.refl _ w).alloc _⟩
    · have n3 : 128 < b := by omega
      clear hb hz
      go_enter Tryd.func14, Tryd.ntmps14
      go_wp2
      exact bodyPost_ret (v := .tuple #[.agg #[.int .u64 0, .int .u64 0], .int .i64 1]) (by simp [results, Tryd.results14, go_sem]) rfl ⟨rfl, (Kept.refl _ w).alloc _⟩
end Go.Proofs.YtbbllmhnhhbpiaaDoor
