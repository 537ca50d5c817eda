/- The law's own: Same of stories that are the same; run. -/
import Derived.Test.YtkhbkdabihokjaaGo
namespace Go.Proofs.Ytkhbkdabihokjaa
open Go.RowKit Go.Shelf
set_option linter.unusedVariables false
set_option linter.unusedSimpArgs false
attribute [local go_sem ↓] Go.wp_at_zero Go.wp_at_succ

set_option maxRecDepth 100000 in
theorem neMv (a : Int) (b : Bool) (c : Int) (d : Int) (e : Bool) (f : Int) (w : World) : (binOp .neq 38 (.agg #[.int .i64 a, .bool b, .int .i64 c, .int .i64 d, .bool e, .int .i64 f]) (.agg #[.int .i64 a, .bool b, .int .i64 c, .int .i64 d, .bool e, .int .i64 f])).run Try.prog w = .ok (.bool false) w := by
  rw [run_neq_struct, run_equalIn_struct w 9999 38 _ _ (by kernel_rfl) (by kernel_rfl)]
  have hi0 : ∀ (x : Int) (w : World), (Op.equalIn 9999 3 (.int .i64 x) (.int .i64 x)).run Try.prog w = .ok (x == x) w := fun x w => run_equalIn_int w 9998 3 .i64 .i64 x x Try.underlying3
  have hi1 : ∀ (x : Bool) (w : World), (Op.equalIn 9999 4 (.bool x) (.bool x)).run Try.prog w = .ok (x == x) w := fun x w => run_equalIn_bool' w 9998 4 x x Try.underlying4
  have hi2 : ∀ (x : Int) (w : World), (Op.equalIn 9999 2 (.int .i64 x) (.int .i64 x)).run Try.prog w = .ok (x == x) w := fun x w => run_equalIn_int w 9998 2 .i64 .i64 x x Try.underlying2
  have p0 : ∀ w, (part 3 #[.int .i64 a, .bool b, .int .i64 c, .int .i64 d, .bool e, .int .i64 f] 0).run Try.prog w = .ok (.int .i64 a) w := fun w => run_part_plain (P := Try.prog) w (by kernel_rfl) rfl
  have p1 : ∀ w, (part 4 #[.int .i64 a, .bool b, .int .i64 c, .int .i64 d, .bool e, .int .i64 f] 1).run Try.prog w = .ok (.bool b) w := fun w => run_part_plain (P := Try.prog) w (by kernel_rfl) rfl
  have p2 : ∀ w, (part 3 #[.int .i64 a, .bool b, .int .i64 c, .int .i64 d, .bool e, .int .i64 f] 2).run Try.prog w = .ok (.int .i64 c) w := fun w => run_part_plain (P := Try.prog) w (by kernel_rfl) rfl
  have p3 : ∀ w, (part 2 #[.int .i64 a, .bool b, .int .i64 c, .int .i64 d, .bool e, .int .i64 f] 3).run Try.prog w = .ok (.int .i64 d) w := fun w => run_part_plain (P := Try.prog) w (by kernel_rfl) rfl
  have p4 : ∀ w, (part 4 #[.int .i64 a, .bool b, .int .i64 c, .int .i64 d, .bool e, .int .i64 f] 4).run Try.prog w = .ok (.bool e) w := fun w => run_part_plain (P := Try.prog) w (by kernel_rfl) rfl
  have p5 : ∀ w, (part 3 #[.int .i64 a, .bool b, .int .i64 c, .int .i64 d, .bool e, .int .i64 f] 5).run Try.prog w = .ok (.int .i64 f) w := fun w => run_part_plain (P := Try.prog) w (by kernel_rfl) rfl
  simp [Program.fieldsOf, Try.underlying38, Op.eqFields, Sem.run_bind, p0, p1, p2, p3, p4, p5, hi0, hi1, hi2]
/-- The chapter's example. -/
def exE : List Ev := [⟨1, 1, 1, 1, 0, 0, false, 2, 0, 0⟩, ⟨2, 2, 1, 1, 3, 7, false, 4, 0, 0⟩, ⟨3, 3, 1, 1, 3, 8, false, 0, 0, 0⟩, ⟨2, 4, 1, 1, 3, 8, true, 9, 0, 0⟩, ⟨4, 5, 1, 1, 0, 0, false, 5, 0, 0⟩]
def exS : Sy := ⟨1, 1, 1, 5, 1, 0, 0, 2, 5, [⟨2, false, 3, 7, false, 4⟩, ⟨3, true, 3, 8, false, 0⟩, ⟨4, false, 3, 8, true, 0⟩]⟩
theorem ex_built : outS exE = [exS] ∧ outP exE = 0 ∧ outE exE = 0 := by
  refine ⟨?_, ?_, ?_⟩ <;> rfl
theorem ex_slots : outP [⟨1, 1, 1, 1, 0, 0, false, 0, 0, 0⟩, ⟨6, 2, 1, 1, 0, 0, false, 0, 0, 0⟩] = 1 ∧ outE [⟨1, 1, 1, 1, 0, 0, false, 0, 0, 0⟩, ⟨6, 2, 1, 1, 0, 0, false, 0, 0, 0⟩] = 210 := by
  refine ⟨?_, ?_⟩ <;> rfl
theorem ex_told : rdM exS.ms = [(3, 7)] ∧ wrM exS.ms = [(3, 8)] ∧ pointM exS = (5, 5) := by
  refine ⟨?_, ?_, ?_⟩ <;> rfl
theorem run5 (W : World) : (Instr.buildSlice 23 5 #[(0, evV ⟨1, 1, 1, 1, 0, 0, false, 2, 0, 0⟩), (1, evV ⟨2, 2, 1, 1, 3, 7, false, 4, 0, 0⟩), (2, evV ⟨3, 3, 1, 1, 3, 8, false, 0, 0, 0⟩), (3, evV ⟨2, 4, 1, 1, 3, 8, true, 9, 0, 0⟩), (4, evV ⟨4, 5, 1, 1, 0, 0, false, 5, 0, 0⟩)]).run Try.prog W = .ok (.slice (some ⟨W.heap.size, 0, none⟩) 5 5) (W.alloc (.cells (fl eC exE).toArray 26)) := by kernel_rfl
set_option maxRecDepth 100000 in
set_option maxHeartbeats 4000000 in
theorem run_any (w : World) : Calls Try.prog 27 #[] w fun e w' => ∃ la, e = .returned (.slice la 5 5) ∧ St w [lstR eC 26 10 (.slice la 5 5) exE] w' := by
  have HS := hid (r_new (f := eC) (k := 10) (fun _ => rfl) 26 (St.nil w) exE (by unfold maxLen; decide))
  go_enter Try.func27, Try.ntmps27
  go_wp2
  go_ret
  exact ⟨_, rfl, HS.out⟩
set_option maxRecDepth 100000 in
set_option maxHeartbeats 4000000 in
theorem same_eq {w : World} (s : Sy) (la lb : Option Addr) (lc ld : Nat) (ha : RIn mC w la s.ms.length s.ms) (hb : RIn mC w lb s.ms.length s.ms) (hn : s.ms.length ≤ 2932031007317) :
    Calls Try.prog 28 #[syV ⟨s, la, lc⟩, syV ⟨s, lb, ld⟩] w fun e w' => e = .returned (.bool true) ∧ Kept (fun _ => False) w w' := by
  obtain ⟨z0, z1, z2, z3, z4, z5, z6, z7, z8, ms⟩ := s
  simp only at ha hb hn
  have s1 := ((St.nil w).box #[.int .i64 z0, .int .i64 z1, .int .i64 z2, .int .i64 z3, .int .i64 z4, .int .i64 z5, .int .i64 z6, .int .i64 z7, .int .i64 z8, .slice la ms.length lc] 36).box #[.int .i64 z0, .int .i64 z1, .int .i64 z2, .int .i64 z3, .int .i64 z4, .int .i64 z5, .int .i64 z6, .int .i64 z7, .int .i64 z8, .slice lb ms.length ld] 36
  simp only [alloc_size] at s1
  unfold syV
  simp only
  generalize hw1 : (w.alloc (.cells #[.int .i64 z0, .int .i64 z1, .int .i64 z2, .int .i64 z3, .int .i64 z4, .int .i64 z5, .int .i64 z6, .int .i64 z7, .int .i64 z8, .slice la ms.length lc] 36)).alloc (.cells #[.int .i64 z0, .int .i64 z1, .int .i64 z2, .int .i64 z3, .int .i64 z4, .int .i64 z5, .int .i64 z6, .int .i64 z7, .int .i64 z8, .slice lb ms.length ld] 36) = w1 at *
  generalize hE : w.heap.size = E at *
  have a0 := s1.cell 1 rfl 0
  have a1 := s1.cell 1 rfl 1
  have a2 := s1.cell 1 rfl 2
  have a3 := s1.cell 1 rfl 3
  have a4 := s1.cell 1 rfl 4
  have a5 := s1.cell 1 rfl 5
  have a6 := s1.cell 1 rfl 6
  have a7 := s1.cell 1 rfl 7
  have a8 := s1.cell 1 rfl 8
  have a9 := s1.cell 1 rfl 9
  have b0 := s1.cell 0 rfl 0
  have b1 := s1.cell 0 rfl 1
  have b2 := s1.cell 0 rfl 2
  have b3 := s1.cell 0 rfl 3
  have b4 := s1.cell 0 rfl 4
  have b5 := s1.cell 0 rfl 5
  have b6 := s1.cell 0 rfl 6
  have b7 := s1.cell 0 rfl 7
  have b8 := s1.cell 0 rfl 8
  have b9 := s1.cell 0 rfl 9
  have HS := hid s1
  have HA := hid ha
  have HB := hid hb
  have HKS := hid s1.same
  have hn1 : (ms.length : Int) ≤ 2932031007317 := by omega
  have HNE := hid (fun (m : Mv) (W : World) => neMv m.st m.wr m.ce m.x m.ow m.ga W)
  clear s1 ha hb hn
  go_enter Try.func28, Try.ntmps28
  go_wp2_with (simp only [hw1, hE])
  clear a0 a1 a2 a3 a4 a5 a6 a7 a8 a9 b0 b1 b2 b3 b4 b5 b6 b7 b8 b9
  go_loopw [5] (fun i wr => ∃ (j : Nat), i = .int .i64 j ∧ j ≤ ms.length ∧ Kept (fun _ => False) w1 wr) (fun i _ => ms.length - (intOf i).toNat)
  case atStart => exact ⟨0, rfl, Nat.zero_le _, Kept.refl _ _⟩
  case round =>
    obtain ⟨j, rfl, hj, hk⟩ := hrel
    have a9 := (HS.out.calm hk).cell 1 rfl 9
    by_cases hlt : j < ms.length
    · have hlt' : (j : Int) < (ms.length : Int) := by omega
      have hj0 : (0 : Int) ≤ (j : Int) := by omega
      have hr := HA.out.kept (HKS.out.trans hk.drew (fun _ _ f => f))
      have hr2 := HB.out.kept (HKS.out.trans hk.drew (fun _ _ f => f))
      obtain ⟨g, off, rfl⟩ := hr.addr (by omega)
      obtain ⟨g2, off2, rfl⟩ := hr2.addr (by omega)
      obtain ⟨x, hx⟩ : ∃ x, ms[j]? = some x := ⟨_, List.getElem?_eq_getElem hlt⟩
      have q := fun i u hu => hr.at (k := 6) (fun _ => rfl) hx i u hu
      have q0 := q 0 _ rfl
      have q1 := q 1 _ rfl
      have q2 := q 2 _ rfl
      have q3 := q 3 _ rfl
      have q4 := q 4 _ rfl
      have q5 := q 5 _ rfl
      rw [Nat.add_zero] at q0
      have r := fun i u hu => hr2.at (k := 6) (fun _ => rfl) hx i u hu
      have r0 := r 0 _ rfl
      have r1 := r 1 _ rfl
      have r2 := r 2 _ rfl
      have r3 := r 3 _ rfl
      have r4 := r 4 _ rfl
      have r5 := r 5 _ rfl
      rw [Nat.add_zero] at r0
      have d9 := (HS.out.calm hk.drew).cell 1 rfl 9
      have e9 := (HS.out.calm hk.drew).cell 0 rfl 9
      have hne := HNE.out x wr.drew
      have HJ : Hid (j + 1 ≤ ms.length ∧ ms.length - (j + 1) < ms.length - j) := hid ⟨by omega, by omega⟩
      have HK := hid hk.drew
      clear q r hr hr2 hx hk HA HB HS HKS HNE hlt hj
      generalize ms.length = n at *
      go_upto_region 6 with fail
      go_region
      go_wp2
      go_roundw
      case rel => exact ⟨j + 1, by simp, HJ.out.1, HK.out⟩
      case measure => have := HJ.out.2; simp [intOf]; omega
    · have hlt' : ¬ (j : Int) < (ms.length : Int) := by omega
      have HR := hid (HKS.out.trans hk (fun _ _ f => f))
      clear HA HB HS HKS HNE hk
      go_wp2
      go_ret
      exact ⟨rfl, HR.out⟩
end Go.Proofs.Ytkhbkdabihokjaa
