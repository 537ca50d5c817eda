/- CodeNested, walked. -/
import Derived.Test.YtcchflfeomainabGreatDoorJn
namespace Go.Proofs.YtcchflfeomainabGreatDoor
open Go.RowKit
set_option linter.unusedVariables false
set_option linter.unusedSimpArgs false
attribute [local go_sem ↓] Go.wp_at_zero Go.wp_at_succ

theorem shift_zero (x : Ins) : shiftI 0 x = x := by
  unfold shiftI
  split
  · cases x; simp
  · rfl
theorem shift_op (k : Nat) (x : Ins) : (shiftI k x).op = x.op := by
  unfold shiftI
  split <;> rfl
theorem shift_shift (j k : Nat) (x : Ins) : shiftI j (shiftI k x) = shiftI (j + k) x := by
  by_cases h : (rowOf x.op).takes = 3
  · have e1 : shiftI k x = ⟨x.op, x.a + k⟩ := by unfold shiftI; rw [if_pos h]
    have e2 : shiftI (j + k) x = ⟨x.op, x.a + ((j + k : Nat) : Int)⟩ := by unfold shiftI; rw [if_pos h]
    rw [e1, e2]
    unfold shiftI
    rw [if_pos h]
    show Ins.mk _ _ = Ins.mk _ _
    congr 1
    simp only
    omega
  · have e1 : shiftI k x = x := by unfold shiftI; rw [if_neg h]
    have e2 : shiftI (j + k) x = x := by unfold shiftI; rw [if_neg h]
    rw [e1, e2]
    unfold shiftI
    rw [if_neg h]
theorem map_zero (l : List Ins) : l.map (shiftI 0) = l := by
  conv => rhs; rw [← List.map_id l]
  exact List.map_congr_left (fun x _ => shift_zero x)
theorem join1 (p : Prt) : joinP [p] = p.l := by simp [joinP, onto, map_zero]
theorem join2 (p q : Prt) : joinP [p, q] = p.l ++ q.l.map (shiftI p.l.length) := by simp [joinP, onto, map_zero]
theorem join3 (p q r : Prt) : joinP [p, q, r] = p.l ++ q.l.map (shiftI p.l.length) ++ r.l.map (shiftI (p.l.length + q.l.length)) := by simp [joinP, onto, map_zero]
theorem joinE_zero {ps : List Prt} : joinE ps = 0 ↔ chk ps = 0 ∧ tot ps ≠ 0 ∧ tot ps ≤ 400 := by
  unfold joinE
  by_cases h : chk ps = 0
  · rw [if_pos h]
    by_cases h2 : tot ps = 0 ∨ 400 < tot ps
    · rw [if_pos h2]
      constructor
      · intro e; cases e
      · rintro ⟨_, a, b⟩; omega
    · rw [if_neg h2]
      constructor
      · intro _; exact ⟨h, by omega, by omega⟩
      · intro _; rfl
  · rw [if_neg h]
    exact ⟨fun e => absurd e h, fun e => absurd e.1 h⟩
theorem chk_cons {p : Prt} {r : List Prt} : chk (p :: r) = 0 ↔ (checkM p.l).1 = 0 ∧ chk r = 0 := by
  show (if (checkM p.l).1 = 0 then chk r else (checkM p.l).1) = 0 ↔ _
  split
  · exact ⟨fun h => ⟨by assumption, h⟩, fun h => h.2⟩
  · exact ⟨fun h => absurd h (by assumption), fun h => absurd h.1 (by assumption)⟩
theorem may_more {t a e e' : Int} (h : mayB t a e = true) (he : e ≤ e') : mayB t a e' = true := by
  by_cases h3 : t = 3
  · subst h3
    have := may_place h
    simp [mayB]
    omega
  · have e3 : (t == 3) = false := by simpa using h3
    unfold mayB at h ⊢
    rw [e3] at h ⊢
    exact h
theorem wrong_of {x : Ins} {e : Int} (h1 : knownB x.op = true) (h2 : mayB (rowOf x.op).takes x.a e = true) : wrongAt x e = 0 := by
  unfold wrongAt
  rw [h1, h2]; rfl
theorem check_joined {A B : List Ins} (hA : (checkM A).1 = 0) (hB : (checkM B).1 = 0) (hn : A.length + B.length ≤ 400) : (checkM (A ++ B.map (shiftI A.length))).1 = 0 := by
  obtain ⟨a1, a2, a3⟩ := checkM_all hA
  obtain ⟨b1, b2, b3⟩ := checkM_all hB
  have hl : (A ++ B.map (shiftI A.length)).length = A.length + B.length := by simp
  rw [check_of_all (by omega) (by omega) (fun x hx => ?_)]
  rw [hl]
  rcases List.mem_append.1 hx with hx | hx
  · obtain ⟨k1, k2⟩ := wrongAt_zero (a3 x hx)
    exact wrong_of k1 (may_more k2 (by omega))
  · obtain ⟨y, hy, rfl⟩ := List.mem_map.1 hx
    obtain ⟨k1, k2⟩ := wrongAt_zero (b3 y hy)
    refine wrong_of (by rw [shift_op]; exact k1) ?_
    rw [shift_op]
    by_cases h : (rowOf y.op).takes = 3
    · have e1 : shiftI A.length y = ⟨y.op, y.a + A.length⟩ := by unfold shiftI; rw [if_pos h]
      rw [e1]
      rw [h] at k2 ⊢
      have := may_place k2
      simp [mayB]
      omega
    · have e1 : shiftI A.length y = y := by unfold shiftI; rw [if_neg h]
      rw [e1]
      exact may_more k2 (by omega)
theorem nested {p q r : Prt} (h1 : joinE [p, q] = 0) (h2 : joinE [q, r] = 0) (h3 : joinE [p, q, r] = 0) (x y : Prt) (hx : x.l = joinR [p, q]) (hy : y.l = joinR [q, r]) :
    (joinE [x, r] = 0 ∧ joinR [x, r] = joinR [p, q, r]) ∧ (joinE [p, y] = 0 ∧ joinR [p, y] = joinR [p, q, r]) ∧ (joinR [p, q, r]).length ≤ 400 := by
  have g1 : joinR [p, q] = joinP [p, q] := by unfold joinR; rw [if_pos h1]
  have g2 : joinR [q, r] = joinP [q, r] := by unfold joinR; rw [if_pos h2]
  have g3 : joinR [p, q, r] = joinP [p, q, r] := by unfold joinR; rw [if_pos h3]
  rw [g1, join2] at hx
  rw [g2, join2] at hy
  obtain ⟨c3, t3, u3⟩ := joinE_zero.1 h3
  obtain ⟨cp, c3⟩ := chk_cons.1 c3
  obtain ⟨cq, c3⟩ := chk_cons.1 c3
  obtain ⟨cr, _⟩ := chk_cons.1 c3
  simp only [tot] at t3 u3
  have lx : x.l.length = p.l.length + q.l.length := by rw [hx]; simp
  have ly : y.l.length = q.l.length + r.l.length := by rw [hy]; simp
  have ckx : (checkM x.l).1 = 0 := by rw [hx]; exact check_joined cp cq (by omega)
  have cky : (checkM y.l).1 = 0 := by rw [hy]; exact check_joined cq cr (by omega)
  have e1 : joinE [x, r] = 0 := joinE_zero.2 ⟨chk_cons.2 ⟨ckx, chk_cons.2 ⟨cr, rfl⟩⟩, by simp only [tot]; omega, by simp only [tot]; omega⟩
  have e2 : joinE [p, y] = 0 := joinE_zero.2 ⟨chk_cons.2 ⟨cp, chk_cons.2 ⟨cky, rfl⟩⟩, by simp only [tot]; omega, by simp only [tot]; omega⟩
  refine ⟨⟨e1, ?_⟩, ⟨e2, ?_⟩, ?_⟩
  · rw [g3, join3]
    unfold joinR
    rw [if_pos e1, join2, lx, hx]
  · rw [g3, join3]
    unfold joinR
    rw [if_pos e2, join2, hy, List.map_append, List.map_map, List.append_assoc]
    congr 2
    exact List.map_congr_left (fun z _ => shift_shift _ _ z)
  · rw [g3, joinP_len]
    simp only [tot]
    omega
theorem joinE_one (p : Prt) : joinE [p] = (checkM p.l).1 := by
  by_cases h : (checkM p.l).1 = 0
  · obtain ⟨h1, h2, _⟩ := checkM_all h
    rw [h]
    exact joinE_zero.2 ⟨chk_cons.2 ⟨h, rfl⟩, by simp only [tot]; omega, by simp only [tot]; omega⟩
  · unfold joinE
    have e : chk [p] = (checkM p.l).1 := by unfold chk; rw [if_neg h]
    rw [e, if_neg h]
theorem joinR_one {p : Prt} (h : (checkM p.l).1 = 0) : joinR [p] = p.l := by
  unfold joinR
  rw [if_pos (by rw [joinE_one]; exact h), join1]
theorem joinR_len (ps : List Prt) : (joinR ps).length ≤ 400 := by
  unfold joinR
  split
  · rw [joinP_len]; exact (joinE_zero.1 (by assumption)).2.2
  · simp
theorem laid1 (W : World) (a0 : Option Addr) (n0 c0 : Nat) : (Instr.buildSlice 22 1 #[(0, .slice a0 n0 c0)]).run Tryz.prog W = .ok (.slice (some ⟨W.heap.size, 0, none⟩) 1 1) (W.alloc (.cells #[.slice a0 n0 c0] 24)) := by kernel_rfl
theorem laid2 (W : World) (a0 a1 : Option Addr) (n0 c0 n1 c1 : Nat) : (Instr.buildSlice 22 2 #[(0, .slice a0 n0 c0), (1, .slice a1 n1 c1)]).run Tryz.prog W = .ok (.slice (some ⟨W.heap.size, 0, none⟩) 2 2) (W.alloc (.cells #[.slice a0 n0 c0, .slice a1 n1 c1] 24)) := by kernel_rfl
theorem laid3 (W : World) (a0 a1 a2 : Option Addr) (n0 c0 n1 c1 n2 c2 : Nat) : (Instr.buildSlice 22 3 #[(0, .slice a0 n0 c0), (1, .slice a1 n1 c1), (2, .slice a2 n2 c2)]).run Tryz.prog W = .ok (.slice (some ⟨W.heap.size, 0, none⟩) 3 3) (W.alloc (.cells #[.slice a0 n0 c0, .slice a1 n1 c1, .slice a2 n2 c2] 24)) := by kernel_rfl
theorem J1_any (p : Prt) (W : World) (hp : IIn W p.la p.l.length p.l) :
    Calls Tryz.prog 8 #[.slice (some ⟨W.heap.size, 0, none⟩) 1 1] (W.alloc (.cells #[.slice p.la p.l.length p.c] 24)) fun e w' => ∃ v, e = .returned (.tuple #[v, .int .i64 (joinE [p])]) ∧ GaveL w' v (joinR [p]) ∧ Kept (fun _ => False) W w' := by
  have k := kept_alloc W (.cells #[.slice p.la p.l.length p.c] 24)
  have hb := heap_alloc_new W (.cells #[.slice p.la p.l.length p.c] 24)
  refine (Join_any _ 1 1 [p] _ ⟨rfl, fun j hj => ⟨_, _, rfl, ?_⟩⟩ (by omega)).mono ?_
  · match j, hj with
    | 0, _ => exact ⟨cell_of_heap hb, hp.kept k⟩
  · rintro e w' ⟨v, h1, h2, h3⟩
    exact ⟨v, h1, h2, k.trans h3 (fun _ _ f => f)⟩
theorem J2_any (p q : Prt) (W : World) (hp : IIn W p.la p.l.length p.l) (hq : IIn W q.la q.l.length q.l) :
    Calls Tryz.prog 8 #[.slice (some ⟨W.heap.size, 0, none⟩) 2 2] (W.alloc (.cells #[.slice p.la p.l.length p.c, .slice q.la q.l.length q.c] 24)) fun e w' => ∃ v, e = .returned (.tuple #[v, .int .i64 (joinE [p, q])]) ∧ GaveL w' v (joinR [p, q]) ∧ Kept (fun _ => False) W w' := by
  have k := kept_alloc W (.cells #[.slice p.la p.l.length p.c, .slice q.la q.l.length q.c] 24)
  have hb := heap_alloc_new W (.cells #[.slice p.la p.l.length p.c, .slice q.la q.l.length q.c] 24)
  refine (Join_any _ 2 2 [p, q] _ ⟨rfl, fun j hj => ⟨_, _, rfl, ?_⟩⟩ (by omega)).mono ?_
  · match j, hj with
    | 0, _ => exact ⟨cell_of_heap hb, hp.kept k⟩
    | 1, _ => exact ⟨cell_of_heap hb, hq.kept k⟩
  · rintro e w' ⟨v, h1, h2, h3⟩
    exact ⟨v, h1, h2, k.trans h3 (fun _ _ f => f)⟩
theorem J3_any (p q r : Prt) (W : World) (hp : IIn W p.la p.l.length p.l) (hq : IIn W q.la q.l.length q.l) (hr : IIn W r.la r.l.length r.l) :
    Calls Tryz.prog 8 #[.slice (some ⟨W.heap.size, 0, none⟩) 3 3] (W.alloc (.cells #[.slice p.la p.l.length p.c, .slice q.la q.l.length q.c, .slice r.la r.l.length r.c] 24)) fun e w' => ∃ v, e = .returned (.tuple #[v, .int .i64 (joinE [p, q, r])]) ∧ GaveL w' v (joinR [p, q, r]) ∧ Kept (fun _ => False) W w' := by
  have k := kept_alloc W (.cells #[.slice p.la p.l.length p.c, .slice q.la q.l.length q.c, .slice r.la r.l.length r.c] 24)
  have hb := heap_alloc_new W (.cells #[.slice p.la p.l.length p.c, .slice q.la q.l.length q.c, .slice r.la r.l.length r.c] 24)
  refine (Join_any _ 3 3 [p, q, r] _ ⟨rfl, fun j hj => ⟨_, _, rfl, ?_⟩⟩ (by omega)).mono ?_
  · match j, hj with
    | 0, _ => exact ⟨cell_of_heap hb, hp.kept k⟩
    | 1, _ => exact ⟨cell_of_heap hb, hq.kept k⟩
    | 2, _ => exact ⟨cell_of_heap hb, hr.kept k⟩
  · rintro e w' ⟨v, h1, h2, h3⟩
    exact ⟨v, h1, h2, k.trans h3 (fun _ _ f => f)⟩
set_option maxRecDepth 100000 in
set_option maxHeartbeats 4000000 in
theorem nested_walk (a0 : Option Addr) (n0 c0 : Nat) (lA : List Ins) (a1 : Option Addr) (n1 c1 : Nat) (lB : List Ins) (a2 : Option Addr) (n2 c2 : Nat) (lC : List Ins) (w : World) (hE : Env w) (hA : Came w a0 n0 c0 lA) (hB : Came w a1 n1 c1 lB) (hC : Came w a2 n2 c2 lC) :
    Calls Tryz.prog 4 #[.slice a0 n0 c0, .slice a1 n1 c1, .slice a2 n2 c2] w fun e w' => e = .returned (.bool true) ∧ Kept (fun _ => False) w w' := by
  obtain rfl : n0 = lA.length := hA.1.1
  obtain rfl : n1 = lB.length := hB.1.1
  obtain rfl : n2 = lC.length := hC.1.1
  have hU := awake_any w hE
  have HCa : Hid (∀ W, Kept (fun _ => False) w W → Came W a0 lA.length c0 lA) := fun W k => hA.kept k
  have HCb : Hid (∀ W, Kept (fun _ => False) w W → Came W a1 lB.length c1 lB) := fun W k => hB.kept k
  have HCc : Hid (∀ W, Kept (fun _ => False) w W → Came W a2 lC.length c2 lC) := fun W k => hC.kept k
  have HJ1 : Hid (joinE [Prt.mk a0 c0 lA] = (checkM lA).1) := joinE_one _
  have HJA : Hid ((checkM lA).1 = 0 → joinR [Prt.mk a0 c0 lA] = lA) := fun h => joinR_one (p := Prt.mk a0 c0 lA) h
  have HJL : Hid ((joinR [Prt.mk a0 c0 lA]).length ≤ 400) := joinR_len _
  have HNe : Hid (joinE [Prt.mk a0 c0 lA, Prt.mk a1 c1 lB] = 0 → joinE [Prt.mk a1 c1 lB, Prt.mk a2 c2 lC] = 0 → joinE [Prt.mk a0 c0 lA, Prt.mk a1 c1 lB, Prt.mk a2 c2 lC] = 0 → ∀ (x y : Prt), x.l = joinR [Prt.mk a0 c0 lA, Prt.mk a1 c1 lB] → y.l = joinR [Prt.mk a1 c1 lB, Prt.mk a2 c2 lC] → (joinE [x, Prt.mk a2 c2 lC] = 0 ∧ joinR [x, Prt.mk a2 c2 lC] = joinR [Prt.mk a0 c0 lA, Prt.mk a1 c1 lB, Prt.mk a2 c2 lC]) ∧ (joinE [Prt.mk a0 c0 lA, y] = 0 ∧ joinR [Prt.mk a0 c0 lA, y] = joinR [Prt.mk a0 c0 lA, Prt.mk a1 c1 lB, Prt.mk a2 c2 lC]) ∧ (joinR [Prt.mk a0 c0 lA, Prt.mk a1 c1 lB, Prt.mk a2 c2 lC]).length ≤ 400) := fun h1 h2 h3 x y => nested h1 h2 h3 x y
  clear hE hA hB hC
  go_enter Tryz.func4, Tryz.ntmps4
  go_wp2_with fail
  refine hU.mono ?_
  clear hU
  rintro e w1 ⟨rfl, k1⟩
  have HK1 := hid k1
  have q1 := J2_any (Prt.mk a0 c0 lA) (Prt.mk a1 c1 lB) w1 (HCa.out _ k1).1 (HCb.out _ k1).1
  have hb1 := laid2 w1 a0 a1 lA.length c0 lB.length c1
  go_wp2_with (simp only [hb1])
  refine q1.mono ?_
  clear q1 hb1 k1
  rintro e w2 ⟨v2, rfl, ⟨ra2, rc2, rfl, i2⟩, k2⟩
  have HI2 := hid i2
  have HK2 := hid (HK1.out.trans k2 (fun _ _ f => f))
  have q2 := J2_any (Prt.mk a1 c1 lB) (Prt.mk a2 c2 lC) w2 (HCb.out _ HK2.out).1 (HCc.out _ HK2.out).1
  have hb2 := laid2 w2 a1 a2 lB.length c1 lC.length c2
  go_wp2_with (simp only [hb2])
  refine q2.mono ?_
  clear q2 hb2 k2 i2
  rintro e w3 ⟨v3, rfl, ⟨ra3, rc3, rfl, i3⟩, k3⟩
  have HI3 := hid i3
  have HL3 := hid k3
  have HK3 := hid (HK2.out.trans k3 (fun _ _ f => f))
  have q3 := J3_any (Prt.mk a0 c0 lA) (Prt.mk a1 c1 lB) (Prt.mk a2 c2 lC) w3 (HCa.out _ HK3.out).1 (HCb.out _ HK3.out).1 (HCc.out _ HK3.out).1
  have hb3 := laid3 w3 a0 a1 a2 lA.length c0 lB.length c1 lC.length c2
  go_wp2_with (simp only [hb3])
  refine q3.mono ?_
  clear q3 hb3 k3 i3
  rintro e w4 ⟨v4, rfl, ⟨ra4, rc4, rfl, i4⟩, k4⟩
  have HI4 := hid i4
  have HL4 := hid k4
  have HK4 := hid (HK3.out.trans k4 (fun _ _ f => f))
  clear k4 i4
  generalize joinE [Prt.mk a0 c0 lA, Prt.mk a1 c1 lB] = E1 at *
  generalize joinE [Prt.mk a1 c1 lB, Prt.mk a2 c2 lC] = E2 at *
  generalize joinE [Prt.mk a0 c0 lA, Prt.mk a1 c1 lB, Prt.mk a2 c2 lC] = E3 at *
  generalize joinR [Prt.mk a0 c0 lA, Prt.mk a1 c1 lB] = R1 at *
  generalize joinR [Prt.mk a1 c1 lB, Prt.mk a2 c2 lC] = R2 at *
  generalize joinR [Prt.mk a0 c0 lA, Prt.mk a1 c1 lB, Prt.mk a2 c2 lC] = R3 at *
  by_cases z1 : E1 = 0
  · by_cases z2 : E2 = 0
    · by_cases z3 : E3 = 0
      · subst z1 z2 z3
        obtain ⟨⟨n1, n2⟩, ⟨n3, n4⟩, n5⟩ := HNe.out rfl rfl rfl (Prt.mk ra2 rc2 R1) (Prt.mk ra3 rc3 R2) rfl rfl
        have q5 := J2_any (Prt.mk ra2 rc2 R1) (Prt.mk a2 c2 lC) w4 ((HI2.out.kept HL3.out).kept HL4.out) (HCc.out _ HK4.out).1
        have hb5 := laid2 w4 ra2 a2 R1.length rc2 lC.length c2
        rw [n1, n2] at q5
        go_wp2_with (simp only [hb5])
        refine q5.mono ?_
        clear q5 hb5
        rintro e w5 ⟨v5, rfl, ⟨ra5, rc5, rfl, i5⟩, k5⟩
        have HI5 := hid i5
        have HL5 := hid k5
        have HK5 := hid (HK4.out.trans k5 (fun _ _ f => f))
        have q6 := J2_any (Prt.mk a0 c0 lA) (Prt.mk ra3 rc3 R2) w5 (HCa.out _ HK5.out).1 ((HI3.out.kept HL4.out).kept k5)
        have hb6 := laid2 w5 a0 ra3 lA.length c0 R2.length rc3
        rw [n3, n4] at q6
        clear k5 i5
        go_wp2_with (simp only [hb6])
        refine q6.mono ?_
        clear q6 hb6
        rintro e w6 ⟨v6, rfl, ⟨ra6, rc6, rfl, i6⟩, k6⟩
        have q7 := same_any ra5 ra4 R3.length R3.length rc5 rc4 R3 R3 w6 (HI5.out.kept k6) ((HI4.out.kept HL5.out).kept k6) (by omega)
        have q8 := fun W k => same_any ra6 ra4 R3.length R3.length rc6 rc4 R3 R3 W (i6.kept (w' := W) k) (((HI4.out.kept HL5.out).kept k6).kept k) (by omega)
        rw [decide_eq_true rfl] at q7 q8
        have HK6 := hid (HK5.out.trans k6 (fun _ _ f => f))
        clear k6 i6 HI5 HL5 HI4 HI3 HI2 HL3 HL4 HNe n1 n2 n3 n4
        go_wp2_with fail
        refine q7.mono ?_
        clear q7
        rintro e w7 ⟨rfl, k7⟩
        go_wp2_with fail
        refine (q8 _ k7).mono ?_
        clear q8
        rintro e w8 ⟨rfl, k8⟩
        have HKx := hid ((HK6.out.trans k7 (fun _ _ f => f)).trans k8 (fun _ _ f => f))
        clear k7 k8 HK6 HK5 HK4 HK3 HK2 HK1 HCb HCc
        have cT := HCa.out _ HKx.out
        have qT := J1_any (Prt.mk a0 c0 lA) w8 cT.1
        have hbT := laid1 w8 a0 lA.length c0
        rw [HJ1.out] at qT
        go_wp2_with (simp only [hbT])
        refine qT.mono ?_
        clear qT hbT
        rintro e w9 ⟨v9, rfl, ⟨ra9, rc9, rfl, i9⟩, k9⟩
        have c9 := cT.kept k9
        have qC := Check_any a0 lA.length c0 lA w9 c9.1
        have hsb : Hid ((checkM lA).1 = 0 → decide (joinR [Prt.mk a0 c0 lA] = lA) = true) := fun h => decide_eq_true (HJA.out h)
        have hlA := HJL.out
        generalize (checkM lA).1 = ce at *
        generalize (checkM lA).2 = cp at *
        have tt : (ce != ce) = false := by simp
        go_wp2_with fail
        refine qC.mono ?_
        clear qC
        rintro e w10 ⟨rfl, k10⟩
        have c10 := c9.kept k10
        have qS := same_any ra9 a0 (joinR [Prt.mk a0 c0 lA]).length lA.length rc9 c0 (joinR [Prt.mk a0 c0 lA]) lA w10 (i9.kept k10) c10.1 (by omega)
        generalize joinR [Prt.mk a0 c0 lA] = rA at *
        generalize decide (rA = lA) = sb at *
        have HKy := hid ((HKx.out.trans k9 (fun _ _ f => f)).trans k10 (fun _ _ f => f))
        clear cT c9 c10 i9 k9 k10 HKx HJA HJ1 HJL HCa
        go_wp2_with fail
        refine qS.mono ?_
        clear qS
        rintro e w11 ⟨rfl, k11⟩
        have HKz := hid (HKy.out.trans k11 (fun _ _ f => f))
        clear HKy k11
        by_cases hce : ce = 0
        · have hs1 : sb = true := hsb.out hce
          subst hs1
          clear hsb hce
          go_wp2
          go_ret
          exact ⟨rfl, HKz.out⟩
        · have tk : (ce != 0) = true := by simpa using hce
          clear hsb hce
          cases sb
          · go_wp2
            go_ret
            exact ⟨rfl, HKz.out⟩
          · go_wp2
            go_ret
            exact ⟨rfl, HKz.out⟩
      · have t3 : (E3 == 0) = false := by simpa using z3
        have HKx := HK4
        subst z1 z2
        clear z3 HI2 HI3 HI4 HL3 HL4 HK1 HK2 HK3 HK4 HCb HCc HNe
        have cT := HCa.out _ HKx.out
        have qT := J1_any (Prt.mk a0 c0 lA) w4 cT.1
        have hbT := laid1 w4 a0 lA.length c0
        rw [HJ1.out] at qT
        go_wp2_with (simp only [hbT])
        refine qT.mono ?_
        clear qT hbT
        rintro e w9 ⟨v9, rfl, ⟨ra9, rc9, rfl, i9⟩, k9⟩
        have c9 := cT.kept k9
        have qC := Check_any a0 lA.length c0 lA w9 c9.1
        have hsb : Hid ((checkM lA).1 = 0 → decide (joinR [Prt.mk a0 c0 lA] = lA) = true) := fun h => decide_eq_true (HJA.out h)
        have hlA := HJL.out
        generalize (checkM lA).1 = ce at *
        generalize (checkM lA).2 = cp at *
        have tt : (ce != ce) = false := by simp
        go_wp2_with fail
        refine qC.mono ?_
        clear qC
        rintro e w10 ⟨rfl, k10⟩
        have c10 := c9.kept k10
        have qS := same_any ra9 a0 (joinR [Prt.mk a0 c0 lA]).length lA.length rc9 c0 (joinR [Prt.mk a0 c0 lA]) lA w10 (i9.kept k10) c10.1 (by omega)
        generalize joinR [Prt.mk a0 c0 lA] = rA at *
        generalize decide (rA = lA) = sb at *
        have HKy := hid ((HKx.out.trans k9 (fun _ _ f => f)).trans k10 (fun _ _ f => f))
        clear cT c9 c10 i9 k9 k10 HKx HJA HJ1 HJL HCa
        go_wp2_with fail
        refine qS.mono ?_
        clear qS
        rintro e w11 ⟨rfl, k11⟩
        have HKz := hid (HKy.out.trans k11 (fun _ _ f => f))
        clear HKy k11
        by_cases hce : ce = 0
        · have hs1 : sb = true := hsb.out hce
          subst hs1
          clear hsb hce
          go_wp2
          go_ret
          exact ⟨rfl, HKz.out⟩
        · have tk : (ce != 0) = true := by simpa using hce
          clear hsb hce
          cases sb
          · go_wp2
            go_ret
            exact ⟨rfl, HKz.out⟩
          · go_wp2
            go_ret
            exact ⟨rfl, HKz.out⟩
    · have t2 : (E2 == 0) = false := by simpa using z2
      have HKx := HK4
      subst z1
      clear z2 HI2 HI3 HI4 HL3 HL4 HK1 HK2 HK3 HK4 HCb HCc HNe
      have cT := HCa.out _ HKx.out
      have qT := J1_any (Prt.mk a0 c0 lA) w4 cT.1
      have hbT := laid1 w4 a0 lA.length c0
      rw [HJ1.out] at qT
      go_wp2_with (simp only [hbT])
      refine qT.mono ?_
      clear qT hbT
      rintro e w9 ⟨v9, rfl, ⟨ra9, rc9, rfl, i9⟩, k9⟩
      have c9 := cT.kept k9
      have qC := Check_any a0 lA.length c0 lA w9 c9.1
      have hsb : Hid ((checkM lA).1 = 0 → decide (joinR [Prt.mk a0 c0 lA] = lA) = true) := fun h => decide_eq_true (HJA.out h)
      have hlA := HJL.out
      generalize (checkM lA).1 = ce at *
      generalize (checkM lA).2 = cp at *
      have tt : (ce != ce) = false := by simp
      go_wp2_with fail
      refine qC.mono ?_
      clear qC
      rintro e w10 ⟨rfl, k10⟩
      have c10 := c9.kept k10
      have qS := same_any ra9 a0 (joinR [Prt.mk a0 c0 lA]).length lA.length rc9 c0 (joinR [Prt.mk a0 c0 lA]) lA w10 (i9.kept k10) c10.1 (by omega)
      generalize joinR [Prt.mk a0 c0 lA] = rA at *
      generalize decide (rA = lA) = sb at *
      have HKy := hid ((HKx.out.trans k9 (fun _ _ f => f)).trans k10 (fun _ _ f => f))
      clear cT c9 c10 i9 k9 k10 HKx HJA HJ1 HJL HCa
      go_wp2_with fail
      refine qS.mono ?_
      clear qS
      rintro e w11 ⟨rfl, k11⟩
      have HKz := hid (HKy.out.trans k11 (fun _ _ f => f))
      clear HKy k11
      by_cases hce : ce = 0
      · have hs1 : sb = true := hsb.out hce
        subst hs1
        clear hsb hce
        go_wp2
        go_ret
        exact ⟨rfl, HKz.out⟩
      · have tk : (ce != 0) = true := by simpa using hce
        clear hsb hce
        cases sb
        · go_wp2
          go_ret
          exact ⟨rfl, HKz.out⟩
        · go_wp2
          go_ret
          exact ⟨rfl, HKz.out⟩
  · have t1 : (E1 == 0) = false := by simpa using z1
    have HKx := HK4
    clear z1 HI2 HI3 HI4 HL3 HL4 HK1 HK2 HK3 HK4 HCb HCc HNe
    have cT := HCa.out _ HKx.out
    have qT := J1_any (Prt.mk a0 c0 lA) w4 cT.1
    have hbT := laid1 w4 a0 lA.length c0
    rw [HJ1.out] at qT
    go_wp2_with (simp only [hbT])
    refine qT.mono ?_
    clear qT hbT
    rintro e w9 ⟨v9, rfl, ⟨ra9, rc9, rfl, i9⟩, k9⟩
    have c9 := cT.kept k9
    have qC := Check_any a0 lA.length c0 lA w9 c9.1
    have hsb : Hid ((checkM lA).1 = 0 → decide (joinR [Prt.mk a0 c0 lA] = lA) = true) := fun h => decide_eq_true (HJA.out h)
    have hlA := HJL.out
    generalize (checkM lA).1 = ce at *
    generalize (checkM lA).2 = cp at *
    have tt : (ce != ce) = false := by simp
    go_wp2_with fail
    refine qC.mono ?_
    clear qC
    rintro e w10 ⟨rfl, k10⟩
    have c10 := c9.kept k10
    have qS := same_any ra9 a0 (joinR [Prt.mk a0 c0 lA]).length lA.length rc9 c0 (joinR [Prt.mk a0 c0 lA]) lA w10 (i9.kept k10) c10.1 (by omega)
    generalize joinR [Prt.mk a0 c0 lA] = rA at *
    generalize decide (rA = lA) = sb at *
    have HKy := hid ((HKx.out.trans k9 (fun _ _ f => f)).trans k10 (fun _ _ f => f))
    clear cT c9 c10 i9 k9 k10 HKx HJA HJ1 HJL HCa
    go_wp2_with fail
    refine qS.mono ?_
    clear qS
    rintro e w11 ⟨rfl, k11⟩
    have HKz := hid (HKy.out.trans k11 (fun _ _ f => f))
    clear HKy k11
    by_cases hce : ce = 0
    · have hs1 : sb = true := hsb.out hce
      subst hs1
      clear hsb hce
      go_wp2
      go_ret
      exact ⟨rfl, HKz.out⟩
    · have tk : (ce != 0) = true := by simpa using hce
      clear hsb hce
      cases sb
      · go_wp2
        go_ret
        exact ⟨rfl, HKz.out⟩
      · go_wp2
        go_ret
        exact ⟨rfl, HKz.out⟩
end Go.Proofs.YtcchflfeomainabGreatDoor
