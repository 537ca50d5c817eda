/- samePairs; the law GhostTells, walked. -/
import Derived.Test.YtkhbkdabihokjaaHc
import Derived.Test.YtkhbkdabihokjaaGz
import Derived.Test.YtkhbkdabihokjaaGq
namespace Go.Proofs.Ytkhbkdabihokjaa
open Go.RowKit Go.Shelf
set_option linter.unusedVariables false
set_option linter.unusedSimpArgs false
attribute [local go_sem ↓] Go.wp_at_zero Go.wp_at_succ

theorem point_any {w : World} (m : Sm) (hm : SIn w m) : Calls Try.prog 16 #[syV m] w fun e w' => e = .returned (.tuple #[.int .i64 (pointM m.s).1, .int .i64 (pointM m.s).2]) ∧ Kept (fun _ => False) w w' := by
  by_cases h : m.s.ft = 1 ∧ m.s.ms.any Mv.puts = true
  · exact point_yes m hm h
  · exact point_no m hm h
set_option maxRecDepth 100000 in
theorem nePr (a b : Int) (w : World) : (binOp .neq 57 (.agg #[.int .i64 a, .int .i64 b]) (.agg #[.int .i64 a, .int .i64 b])).run Try.prog w = .ok (.bool false) w := by
  rw [run_neq_struct, run_equalIn_struct w 9999 57 _ _ (by kernel_rfl) (by kernel_rfl)]
  have hi0 : ∀ (x : Int) (w : World), (Op.equalIn 9999 3 (.int .i64 x) (.int .i64 x)).run Try.prog w = .ok (x == x) w := fun x w => run_equalIn_int w 9998 3 .i64 .i64 x x Try.underlying3
  have hi2 : ∀ (x : Int) (w : World), (Op.equalIn 9999 2 (.int .i64 x) (.int .i64 x)).run Try.prog w = .ok (x == x) w := fun x w => run_equalIn_int w 9998 2 .i64 .i64 x x Try.underlying2
  have p0 : ∀ w, (part 3 #[.int .i64 a, .int .i64 b] 0).run Try.prog w = .ok (.int .i64 a) w := fun w => run_part_plain (P := Try.prog) w (by kernel_rfl) rfl
  have p1 : ∀ w, (part 2 #[.int .i64 a, .int .i64 b] 1).run Try.prog w = .ok (.int .i64 b) w := fun w => run_part_plain (P := Try.prog) w (by kernel_rfl) rfl
  simp [Program.fieldsOf, Try.underlying57, Op.eqFields, Sem.run_bind, p0, p1, hi0, hi2]
set_option maxRecDepth 100000 in
set_option maxHeartbeats 4000000 in
theorem samePairs_eq {w : World} {la lb : Option Addr} {n lc ld : Nat} {ps : List Pr} (ha : RIn pC w la n ps) (hb : RIn pC w lb n ps) (hn : (n : Int) ≤ 2932031007317) :
    Calls Try.prog 18 #[.slice la n lc, .slice lb n ld] w fun e w' => e = .returned (.bool true) ∧ Kept (fun _ => False) w w' := by
  have HA := hid ha
  have HB := hid hb
  have HN := hid ha.1
  have HNE := hid (fun (p : Pr) (W : World) => nePr p.1 p.2 W)
  clear ha hb
  go_enter Try.func18, Try.ntmps18
  go_upto_region 4 with fail
  go_loopw [5] (fun i wr => ∃ (j : Nat), i = .int .i64 j ∧ j ≤ n ∧ Kept (fun _ => False) w wr) (fun i _ => n - (intOf i).toNat)
  case atStart => exact ⟨0, rfl, Nat.zero_le _, Kept.refl _ _⟩
  case round =>
    obtain ⟨j, rfl, hj, hk⟩ := hrel
    by_cases hlt : j < n
    · have hlt' : (j : Int) < (n : Int) := by omega
      have hj0 : (0 : Int) ≤ (j : Int) := by omega
      have hr := HA.out.kept hk.drew
      have hr2 := HB.out.kept hk.drew
      obtain ⟨g, off, rfl⟩ := hr.addr (by omega)
      obtain ⟨g2, off2, rfl⟩ := hr2.addr (by omega)
      obtain ⟨⟨pc, px⟩, hx⟩ : ∃ x, ps[j]? = some x := ⟨_, List.getElem?_eq_getElem (by have := HN.out; omega)⟩
      have q0 := hr.at (k := 2) (fun _ => rfl) hx 0 _ rfl
      have q1 := hr.at (k := 2) (fun _ => rfl) hx 1 _ rfl
      have r0 := hr2.at (k := 2) (fun _ => rfl) hx 0 _ rfl
      have r1 := hr2.at (k := 2) (fun _ => rfl) hx 1 _ rfl
      rw [Nat.add_zero] at q0 r0
      have hne := HNE.out (pc, px) wr.drew
      simp only at q0 q1 r0 r1 hne
      have HJ : Hid (j + 1 ≤ n ∧ n - (j + 1) < n - j) := hid ⟨by omega, by omega⟩
      have HK := hid hk.drew
      clear hr hr2 hx hk HA HB HNE hlt hj
      go_upto_region 6 with fail
      go_region
      go_wp2
      go_roundw
      case rel => exact ⟨j + 1, by simp, HJ.out.1, HK.out⟩
      case measure => have := HJ.out.2; simp [intOf]; omega
    · have hlt' : ¬ (j : Int) < (n : Int) := by omega
      have HR := hid hk
      clear HA HB HNE hk
      go_wp2
      go_ret
      exact ⟨rfl, HR.out⟩
set_option maxRecDepth 100000 in
set_option maxHeartbeats 4000000 in
theorem tells_walk {w : World} (m : Sm) (hm : SIn w m) : Calls Try.prog 5 #[syV m] w fun e w' => e = .returned (.bool true) ∧ Kept (fun _ => False) w w' := by
  have HM := hid (fun (W : World) (k : Kept (fun _ => False) w W) => (⟨hm.1.kept k, hm.2⟩ : SIn W m))
  have HRE := hid (fun (W : World) (k : Kept (fun _ => False) w W) => reads_any m (HM.out W k))
  have HRR := hid (fun (W : World) (k : Kept (fun _ => False) w W) => rReads_any m (HM.out W k))
  have HWE := hid (fun (W : World) (k : Kept (fun _ => False) w W) => writes_all m (HM.out W k))
  have HWR := hid (fun (W : World) (k : Kept (fun _ => False) w W) => rWrites_any m (HM.out W k))
  have HPE := hid (fun (W : World) (k : Kept (fun _ => False) w W) => point_any m (HM.out W k))
  have HPR := hid (fun (W : World) (k : Kept (fun _ => False) w W) => rPoint_any m (HM.out W k))
  have HL1 : Hid (((rdM m.s.ms).length : Int) ≤ 2932031007317) := hid (by
    have h1 := List.length_filter_le Mv.out m.s.ms
    have := hm.2.1
    unfold rdM
    rw [List.length_map]
    omega)
  have HL2 : Hid (((wrM m.s.ms).length : Int) ≤ 2932031007317) := hid (by
    have h1 := wrM_len m.s.ms
    have := hm.2.1
    omega)
  clear HM hm
  generalize rdM m.s.ms = rd at *
  generalize wrM m.s.ms = wd at *
  generalize (pointM m.s).1 = y1 at *
  generalize (pointM m.s).2 = y2 at *
  obtain ⟨⟨z0, z1, z2, z3, z4, z5, z6, z7, z8, ms⟩, la, lc⟩ := m
  have a1 := (St.nil w).box #[.int .i64 z0, .int .i64 z1, .int .i64 z2, .int .i64 z3, .int .i64 z4, .int .i64 z5, .int .i64 z6, .int .i64 z7, .int .i64 z8, .slice la ms.length lc] 36
  unfold syV at *
  simp only at *
  generalize hw1 : w.alloc (.cells #[.int .i64 z0, .int .i64 z1, .int .i64 z2, .int .i64 z3, .int .i64 z4, .int .i64 z5, .int .i64 z6, .int .i64 z7, .int .i64 z8, .slice la ms.length lc] 36) = w1 at *
  generalize hE : w.heap.size = E at *
  have CE : Hid (∀ W, Kept (fun _ => False) w1 W → W.cell? ⟨E, 0, none⟩ = some (.int .i64 z0) ∧ W.cell? ⟨E, 1, none⟩ = some (.int .i64 z1) ∧ W.cell? ⟨E, 2, none⟩ = some (.int .i64 z2) ∧ W.cell? ⟨E, 3, none⟩ = some (.int .i64 z3) ∧ W.cell? ⟨E, 4, none⟩ = some (.int .i64 z4) ∧ W.cell? ⟨E, 5, none⟩ = some (.int .i64 z5) ∧ W.cell? ⟨E, 6, none⟩ = some (.int .i64 z6) ∧ W.cell? ⟨E, 7, none⟩ = some (.int .i64 z7) ∧ W.cell? ⟨E, 8, none⟩ = some (.int .i64 z8) ∧ W.cell? ⟨E, 9, none⟩ = some (.slice la ms.length lc)) := hid (fun W hW => by
    have hs := a1.calm hW
    exact ⟨hs.cell 0 rfl 0, hs.cell 0 rfl 1, hs.cell 0 rfl 2, hs.cell 0 rfl 3, hs.cell 0 rfl 4, hs.cell 0 rfl 5, hs.cell 0 rfl 6, hs.cell 0 rfl 7, hs.cell 0 rfl 8, hs.cell 0 rfl 9⟩)
  have HK1 := hid a1.same
  have hU := awake_any w1
  clear a1
  go_enter Try.func5, Try.ntmps5
  go_upto_region 2 with (first | simp only [hw1, hE] | (go_at_call 9; refine hU.mono ?_; rintro e w2 ⟨rfl, k2⟩))
  have HK2 := hid k2
  clear k2 hU hw1 hE
  obtain ⟨c0, c1, c2, c3, c4, c5, c6, c7, c8, c9⟩ := CE.out _ HK2.out
  have hC := HRE.out _ (HK1.out.trans HK2.out (fun _ _ f => f))
  go_upto_region 3 with (first | (go_at_call 14; refine hC.mono ?_; rintro e w3 ⟨v3, rfl, s3⟩; obtain ⟨a3, d3, rfl, r3, -, -⟩ := r_rin s3 0 rfl (fun _ => rfl)))
  have HR3 := hid r3
  have HK3 := hid (HK2.out.trans s3.same (fun _ _ f => f))
  clear hC r3 s3 HK2 HRE
  clear c0 c1 c2 c3 c4 c5 c6 c7 c8 c9
  obtain ⟨c0, c1, c2, c3, c4, c5, c6, c7, c8, c9⟩ := CE.out _ HK3.out
  have hC := HWE.out _ (HK1.out.trans HK3.out (fun _ _ f => f))
  go_upto_region 4 with (first | (go_at_call 15; refine hC.mono ?_; rintro e w4 ⟨v4, rfl, s4⟩; obtain ⟨a4, d4, rfl, r4, -, -⟩ := r_rin s4 0 rfl (fun _ => rfl)))
  have HR4 := hid r4
  have HR3b := hid (HR3.out.kept s4.same)
  have HK4 := hid (HK3.out.trans s4.same (fun _ _ f => f))
  clear hC r4 s4 HK3 HR3 HWE
  clear c0 c1 c2 c3 c4 c5 c6 c7 c8 c9
  obtain ⟨c0, c1, c2, c3, c4, c5, c6, c7, c8, c9⟩ := CE.out _ HK4.out
  have hC := HPE.out _ (HK1.out.trans HK4.out (fun _ _ f => f))
  go_upto_region 5 with (first | (go_at_call 16; refine hC.mono ?_; rintro e w5 ⟨rfl, k5⟩))
  have HR5 := hid (HR3b.out.kept k5)
  have HW5 := hid (HR4.out.kept k5)
  have HK5 := hid (HK4.out.trans k5 (fun _ _ f => f))
  clear hC k5 HK4 HR3b HR4 HPE
  clear c0 c1 c2 c3 c4 c5 c6 c7 c8 c9
  obtain ⟨c0, c1, c2, c3, c4, c5, c6, c7, c8, c9⟩ := CE.out _ HK5.out
  have hC := HPR.out _ (HK1.out.trans HK5.out (fun _ _ f => f))
  go_upto_region 6 with (first | (go_at_call 17; refine hC.mono ?_; rintro e w6 ⟨rfl, k6⟩))
  have HR6 := hid (HR5.out.kept k6)
  have HW6 := hid (HW5.out.kept k6)
  have HK6 := hid (HK5.out.trans k6 (fun _ _ f => f))
  clear hC k6 HK5 HR5 HW5 HPR
  clear c0 c1 c2 c3 c4 c5 c6 c7 c8 c9
  obtain ⟨c0, c1, c2, c3, c4, c5, c6, c7, c8, c9⟩ := CE.out _ HK6.out
  have hC := HRR.out _ (HK1.out.trans HK6.out (fun _ _ f => f))
  go_upto_region 7 with (first | (go_at_call 19; refine hC.mono ?_; rintro e w7 ⟨v7, rfl, s7⟩; obtain ⟨a7, d7, rfl, r7, -, -⟩ := r_rin s7 0 rfl (fun _ => rfl); have HW7 := hid (HW6.out.kept s7.same); have HK7 := hid (HK6.out.trans s7.same (fun _ _ f => f)); have hS := samePairs_eq (lc := d3) (ld := d7) (HR6.out.kept s7.same) r7 HL1.out; clear s7 r7) | (go_at_call 18; refine hS.mono ?_; rintro e w8 ⟨rfl, k8⟩))
  have HW8 := hid (HW7.out.kept k8)
  have HK8 := hid (HK7.out.trans k8 (fun _ _ f => f))
  clear hC hS k8 HK6 HK7 HW6 HW7 HR6 HRR HL1
  clear c0 c1 c2 c3 c4 c5 c6 c7 c8 c9
  obtain ⟨c0, c1, c2, c3, c4, c5, c6, c7, c8, c9⟩ := CE.out _ HK8.out
  have hC := HWR.out _ (HK1.out.trans HK8.out (fun _ _ f => f))
  go_upto_region 8 with (first | (go_at_call 20; refine hC.mono ?_; rintro e w9 ⟨v9, rfl, s9⟩; obtain ⟨a9, d9, rfl, r9, -, -⟩ := r_rin s9 0 rfl (fun _ => rfl); have HK9 := hid (HK8.out.trans s9.same (fun _ _ f => f)); have hS := samePairs_eq (lc := d4) (ld := d9) (HW8.out.kept s9.same) r9 HL2.out; clear s9 r9) | (go_at_call 18; refine hS.mono ?_; rintro e wa ⟨rfl, ka⟩))
  have HKa := hid ((HK1.out.trans HK9.out (fun _ _ f => f)).trans ka (fun _ _ f => f))
  clear hC hS ka HK8 HK9 HW8 HWR HL2
  clear c0 c1 c2 c3 c4 c5 c6 c7 c8 c9
  go_wp2
  go_ret
  exact ⟨rfl, HKa.out⟩
end Go.Proofs.Ytkhbkdabihokjaa
