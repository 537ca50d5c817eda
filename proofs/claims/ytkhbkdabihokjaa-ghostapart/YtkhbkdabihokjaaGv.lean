/- The law's own: within, where one story is another one as far as it had come. -/
import Derived.Test.YtkhbkdabihokjaaGp
import Derived.Test.YtkhbkdabihokjaaGs
namespace Go.Proofs.Ytkhbkdabihokjaa
open Go.RowKit Go.Shelf
set_option linter.unusedVariables false
set_option linter.unusedSimpArgs false
attribute [local go_sem ↓] Go.wp_at_zero Go.wp_at_succ

set_option maxRecDepth 100000 in
set_option maxHeartbeats 4000000 in
theorem within_core {w : World} (z0 z1 z2 z3 z4 z5 z6 z7 z8 y3 y4 y5 y6 y8 : Int) (ms ms' : List Mv) (n m : Nat) (la lb : Option Addr) (lc ld : Nat) (hn : n = ms.length) (hm : m = ms'.length) (hpre : ∀ (j : Nat) x, ms[j]? = some x → ms'[j]? = some x) (hnm : n ≤ m) (ha : RIn mC w la n ms) (hb : RIn mC w lb m ms') (hm1 : (m : Int) ≤ 2932031007317)
    (hend : (z4 = 0 ∧ z3 = 0 ∧ z8 = 0 ∧ z5 = 0 ∧ z6 = 0) ∨ (z4 ≠ 0 ∧ y3 = z3 ∧ y4 = z4 ∧ y5 = z5 ∧ y6 = z6 ∧ y8 = z8 ∧ n = m)) :
    Calls Try.prog 26 #[.agg #[.int .i64 z0, .int .i64 z1, .int .i64 z2, .int .i64 z3, .int .i64 z4, .int .i64 z5, .int .i64 z6, .int .i64 z7, .int .i64 z8, .slice la n lc], .agg #[.int .i64 z0, .int .i64 z1, .int .i64 z2, .int .i64 y3, .int .i64 y4, .int .i64 y5, .int .i64 y6, .int .i64 z7, .int .i64 y8, .slice lb m ld]] w fun e w' => e = .returned (.bool true) ∧ Kept (fun _ => False) w w' := by
  have s1 := ((St.nil w).box #[.int .i64 z0, .int .i64 z1, .int .i64 z2, .int .i64 z3, .int .i64 z4, .int .i64 z5, .int .i64 z6, .int .i64 z7, .int .i64 z8, .slice la n lc] 36).box #[.int .i64 z0, .int .i64 z1, .int .i64 z2, .int .i64 y3, .int .i64 y4, .int .i64 y5, .int .i64 y6, .int .i64 z7, .int .i64 y8, .slice lb m ld] 36
  simp only [alloc_size] at s1
  generalize hw1 : (w.alloc (.cells #[.int .i64 z0, .int .i64 z1, .int .i64 z2, .int .i64 z3, .int .i64 z4, .int .i64 z5, .int .i64 z6, .int .i64 z7, .int .i64 z8, .slice la n lc] 36)).alloc (.cells #[.int .i64 z0, .int .i64 z1, .int .i64 z2, .int .i64 y3, .int .i64 y4, .int .i64 y5, .int .i64 y6, .int .i64 z7, .int .i64 y8, .slice lb m ld] 36) = w1 at *
  generalize hE : w.heap.size = E at *
  have a0 := s1.cell 1 rfl 0
  have a1 := s1.cell 1 rfl 1
  have a2 := s1.cell 1 rfl 2
  have a3 := s1.cell 1 rfl 3
  have a4 := s1.cell 1 rfl 4
  have a5 := s1.cell 1 rfl 5
  have a6 := s1.cell 1 rfl 6
  have a7 := s1.cell 1 rfl 7
  have a8 := s1.cell 1 rfl 8
  have a9 := s1.cell 1 rfl 9
  have b0 := s1.cell 0 rfl 0
  have b1 := s1.cell 0 rfl 1
  have b2 := s1.cell 0 rfl 2
  have b3 := s1.cell 0 rfl 3
  have b4 := s1.cell 0 rfl 4
  have b5 := s1.cell 0 rfl 5
  have b6 := s1.cell 0 rfl 6
  have b7 := s1.cell 0 rfl 7
  have b8 := s1.cell 0 rfl 8
  have b9 := s1.cell 0 rfl 9
  have HS := hid s1
  have HA := hid ha
  have HB := hid hb
  have HKS := hid s1.same
  have HP := hid hpre
  have HN := hid hn
  have hnm1 : (n : Int) ≤ (m : Int) := by omega
  have hnm2 : decide ((m : Int) < (n : Int)) = false := by simp; omega
  have HNE := hid (fun (m : Mv) (W : World) => neMv m.st m.wr m.ce m.x m.ow m.ga W)
  have HEND := hid hend
  clear s1 ha hb hn hm hpre hend hnm
  go_enter Try.func26, Try.ntmps26
  go_wp2_with (simp only [hw1, hE])
  clear a0 a1 a2 a3 a4 a5 a6 a7 a8 a9 b0 b1 b2 b3 b4 b5 b6 b7 b8 b9
  go_loopw [5] (fun i wr => ∃ (j : Nat), i = .int .i64 j ∧ j ≤ n ∧ Kept (fun _ => False) w1 wr) (fun i _ => n - (intOf i).toNat)
  case atStart => exact ⟨0, rfl, Nat.zero_le _, Kept.refl _ _⟩
  case round =>
    obtain ⟨j, rfl, hj, hk⟩ := hrel
    by_cases hlt : j < n
    · have hlt' : (j : Int) < (n : Int) := by omega
      have hlt2 : (j : Int) < (m : Int) := by omega
      have hj0 : (0 : Int) ≤ (j : Int) := by omega
      have a9 := (HS.out.calm hk).cell 1 rfl 9
      have hr := HA.out.kept (HKS.out.trans hk.drew (fun _ _ f => f))
      have hr2 := HB.out.kept (HKS.out.trans hk.drew (fun _ _ f => f))
      obtain ⟨g, off, rfl⟩ := hr.addr (by omega)
      obtain ⟨g2, off2, rfl⟩ := hr2.addr (by omega)
      obtain ⟨x, hx⟩ : ∃ x, ms[j]? = some x := ⟨_, List.getElem?_eq_getElem (by have := HN.out; omega)⟩
      have hx2 := HP.out j x hx
      have q := fun i u hu => hr.at (k := 6) (fun _ => rfl) hx i u hu
      have q0 := q 0 _ rfl
      have q1 := q 1 _ rfl
      have q2 := q 2 _ rfl
      have q3 := q 3 _ rfl
      have q4 := q 4 _ rfl
      have q5 := q 5 _ rfl
      rw [Nat.add_zero] at q0
      have r := fun i u hu => hr2.at (k := 6) (fun _ => rfl) hx2 i u hu
      have r0 := r 0 _ rfl
      have r1 := r 1 _ rfl
      have r2 := r 2 _ rfl
      have r3 := r 3 _ rfl
      have r4 := r 4 _ rfl
      have r5 := r 5 _ rfl
      rw [Nat.add_zero] at r0
      have d9 := (HS.out.calm hk.drew).cell 1 rfl 9
      have e9 := (HS.out.calm hk.drew).cell 0 rfl 9
      have hne := HNE.out x wr.drew
      have HJ : Hid (j + 1 ≤ n ∧ n - (j + 1) < n - j) := hid ⟨by omega, by omega⟩
      have HK := hid hk.drew
      clear q r hr hr2 hx hx2 hk HA HB HS HKS HNE hlt hj
      go_upto_region 6 with fail
      go_region
      go_wp2
      go_roundw
      case rel => exact ⟨j + 1, by simp, HJ.out.1, HK.out⟩
      case measure => have := HJ.out.2; simp [intOf]; omega
    · have hlt' : ¬ (j : Int) < (n : Int) := by omega
      have HR := hid (HKS.out.trans hk (fun _ _ f => f))
      have HC := hid (HS.out.calm hk)
      clear HA HB HS HKS HNE HP hk hnm2
      rcases HEND.out with ⟨rfl, rfl, rfl, rfl, rfl⟩ | ⟨h4, rfl, rfl, rfl, rfl, rfl, rfl⟩
      · clear HEND
        have a0 := HC.out.cell 1 rfl 0
        have a1 := HC.out.cell 1 rfl 1
        have a2 := HC.out.cell 1 rfl 2
        have a3 := HC.out.cell 1 rfl 3
        have a4 := HC.out.cell 1 rfl 4
        have a5 := HC.out.cell 1 rfl 5
        have a6 := HC.out.cell 1 rfl 6
        have a7 := HC.out.cell 1 rfl 7
        have a8 := HC.out.cell 1 rfl 8
        have a9 := HC.out.cell 1 rfl 9
        have b0 := HC.out.cell 0 rfl 0
        have b1 := HC.out.cell 0 rfl 1
        have b2 := HC.out.cell 0 rfl 2
        have b3 := HC.out.cell 0 rfl 3
        have b4 := HC.out.cell 0 rfl 4
        have b5 := HC.out.cell 0 rfl 5
        have b6 := HC.out.cell 0 rfl 6
        have b7 := HC.out.cell 0 rfl 7
        have b8 := HC.out.cell 0 rfl 8
        have b9 := HC.out.cell 0 rfl 9
        clear HC
        go_wp2
        go_ret
        exact ⟨rfl, HR.out⟩
      · have t4 : (y4 == 0) = false := by simpa using h4
        clear HEND h4
        have a0 := HC.out.cell 1 rfl 0
        have a1 := HC.out.cell 1 rfl 1
        have a2 := HC.out.cell 1 rfl 2
        have a3 := HC.out.cell 1 rfl 3
        have a4 := HC.out.cell 1 rfl 4
        have a5 := HC.out.cell 1 rfl 5
        have a6 := HC.out.cell 1 rfl 6
        have a7 := HC.out.cell 1 rfl 7
        have a8 := HC.out.cell 1 rfl 8
        have a9 := HC.out.cell 1 rfl 9
        have b0 := HC.out.cell 0 rfl 0
        have b1 := HC.out.cell 0 rfl 1
        have b2 := HC.out.cell 0 rfl 2
        have b3 := HC.out.cell 0 rfl 3
        have b4 := HC.out.cell 0 rfl 4
        have b5 := HC.out.cell 0 rfl 5
        have b6 := HC.out.cell 0 rfl 6
        have b7 := HC.out.cell 0 rfl 7
        have b8 := HC.out.cell 0 rfl 8
        have b9 := HC.out.cell 0 rfl 9
        clear HC
        go_wp2
        go_ret
        exact ⟨rfl, HR.out⟩
theorem within_yes {w : World} (a b : Sm) (h : Wi a.s b.s) (ha : RIn mC w a.la a.s.ms.length a.s.ms) (hb : RIn mC w b.la b.s.ms.length b.s.ms) (hm : b.s.ms.length ≤ 2932031007317) :
    Calls Try.prog 26 #[syV a, syV b] w fun e w' => e = .returned (.bool true) ∧ Kept (fun _ => False) w w' := by
  obtain ⟨⟨z0, z1, z2, z3, z4, z5, z6, z7, z8, ms⟩, la, lc⟩ := a
  obtain ⟨⟨x0, x1, x2, y3, y4, y5, y6, x7, y8, ms'⟩, lb, ld⟩ := b
  obtain ⟨h1, h2, h3, h4, ⟨r, hr⟩, h5, h6⟩ := h
  simp only at h1 h2 h3 h4 hr h5 h6 ha hb hm
  subst h1 h2 h3 h4
  refine within_core z0 z1 z2 z3 z4 z5 z6 z7 z8 y3 y4 y5 y6 y8 ms ms' ms.length ms'.length la lb lc ld rfl rfl (fun j x hx => ?_) ?_ ha hb (by omega) ?_
  · rw [hr, List.getElem?_append_left (List.getElem?_eq_some_iff.1 hx).1]; exact hx
  · rw [hr, List.length_append]; omega
  · by_cases e : z4 = 0
    · obtain ⟨e1, e2, e3, e4⟩ := h5 e
      exact .inl ⟨e, e1, e2, e3, e4⟩
    · have := h6 e
      simp only [Sy.mk.injEq, true_and] at this
      obtain ⟨e1, e2, e3, e4, e5, e6⟩ := this
      exact .inr ⟨e, e1, e2, e3, e4, e5, by rw [e6]⟩
end Go.Proofs.Ytkhbkdabihokjaa
