/- The instruction at its place, further on: refusals, and the program's end. -/
import Derived.Test.YthbcbjkgjgmegaaGreatPgI
namespace Go.Proofs.YthbcbjkgjgmegaaGreat
open Go.RowKit
set_option linter.unusedVariables false
set_option linter.unusedSimpArgs false
attribute [local go_sem ↓] Go.wp_at_zero Go.wp_at_succ
section
variable {o w : World} {its R : List It} {A : Ad} {c : Cfg} {z : SSt} {v u : Value} {Q : PA} {x : Pg} {X : Nat}
set_option maxRecDepth 100000 in
set_option maxHeartbeats 4000000 in
theorem PH.instruct_deep_end (h : PH o c A X R z x w) {k : Nat} (co : x.core k) (hp : ¬ x.fm.pl < x.li.length) (hdeep : (x.fm.st.length : Int) < (rowOf x.ins.op).pops ∨ 32 < (x.fm.st.length : Int) - (rowOf x.ins.op).pops + (rowOf x.ins.op).pushes) : Calls Tryz.prog 68 #[.pointer (some ⟨X, 0, none⟩)] w fun r w' => r = boom 160 ∧ PH o c A X R z x w' := by
  have hsl := co.sl
  obtain ⟨hkn, _⟩ := co.ins
  obtain ⟨n, hn, n0, n23⟩ := known_nat hkn
  rw [hn] at hdeep
  unfold boom
  have hins : x.ins = ⟨22, 0⟩ := by unfold Pg.ins; rw [if_neg hp]
  have hlt : ¬ x.fm.pl < x.li.length := hp
  obtain ⟨ia, hia⟩ : ∃ ia, ia = x.ins.a := ⟨_, rfl⟩
  have HI : Hid (x.ins.op = n ∧ ia = x.ins.a ∧ x.ins = ⟨22, 0⟩) := ⟨hn, hia, hins⟩
  clear hn hia hins hkn
  have s0 := h.box #[.int .i64 22, .int .i64 0] 79
  clear h
  go_enter Tryz.func68, Tryz.ntmps68
  go_upto_region 2 with fail
  generalize w.alloc (.cells #[.int .i64 22, .int .i64 0] 79) = W0 at *
  generalize w.heap.size = I at *
  have c25 : ∃ la lc, W0.cell? ⟨X, 25, none⟩ = some (.slice la x.li.length lc) := by
    have hl := (checkM_all co.ck).2.1
    obtain ⟨g, cap, q, _⟩ := s0.list hl
    exact ⟨_, _, q⟩
  obtain ⟨la, lc, c25⟩ := c25
  have c0 := s0.place
  go_quiet (fail)
  go_upto_region 4 with fail
  have s1 := s0.calm ((Kept.refl _ W0).drewN nq)
  clear c25 c0 s0
  generalize W0.drewN nq = W2 at *
  have s2 : PH o c A X (boxI I #[.int .i64 n, .int .i64 ia] 79 :: R) z x W2 := by
    have e1 : (n : Int) = 22 := by have := HI.out.1; rw [HI.out.2.2] at this; exact this.symm
    have e2 : ia = 0 := by rw [HI.out.2.1, HI.out.2.2]
    rw [e1, e2]
    exact s1
  clear s1
  obtain ⟨t0, t1, t2⟩ := ptab_at n n0 n23
  obtain ⟨r0, r1, r2, r3⟩ := row_small n n0 n23
  have hFs := meth_cases n n0 n23
  generalize (rowOf (n : Nat)).pops = P at *
  generalize (rowOf (n : Nat)).pushes = U at *
  generalize methOf (n : Nat) = F at *
  have k0 : ∀ W : World, (W.alloc (.cells ptabC 238)).cell? ⟨W.heap.size, n * 3, none⟩ = some (.int .i64 P) := fun W => (cell_of_heap (heap_alloc_new W _)).trans t0
  have k1 : ∀ W : World, (W.alloc (.cells ptabC 238)).cell? ⟨W.heap.size, n * 3 + 1, none⟩ = some (.int .i64 U) := fun W => (cell_of_heap (heap_alloc_new W _)).trans t1
  have k2 : ∀ W : World, (W.alloc (.cells ptabC 238)).cell? ⟨W.heap.size, n * 3 + 2, none⟩ = some (.func (.func F) #[] #[]) := fun W => (cell_of_heap (heap_alloc_new W _)).trans t2
  have i0 : W2.cell? ⟨I, 0, none⟩ = some (.int .i64 n) := s2.cell 0 rfl 0
  have hIs : I < W2.heap.size := lt_of_heap (s2.get 0 rfl)
  have m0 : (0 : Int) ≤ n := Int.natCast_nonneg _
  have m23 : (n : Int) < 23 := by omega
  have HA1 := hid ((s2.calm (kept_alloc W2 (.cells ptabC 238))).box #[.int .i64 P, .int .i64 U, .func (.func F) #[] #[]] 238).drew
  rw [alloc_size] at HA1
  have HA2 := hid ((s2.box #[.int .i64 P, .int .i64 U, .func (.func F) #[] #[]] 238).calm (kept_alloc _ (.cells ptabC 238))).drew
  go_cut [4] from 6 (fun b wx => ∃ B, b = .pointer (some ⟨B, 0, none⟩) ∧ Hid (PH o c A X (boxI B #[.int .i64 P, .int .i64 U, .func (.func F) #[] #[]] 238 :: boxI I #[.int .i64 n, .int .i64 ia] 79 :: R) z x wx))
  case first =>
    go_region_with (first | (go_at_call 110; refine (ptable_any _).mono ?_; rintro r w3 ⟨rfl, rfl⟩))
    all_goals
      go_wp2_with fail
      go_meet
      first | exact ⟨_, rfl, HA1⟩ | exact ⟨_, rfl, HA2⟩
  case rest =>
    obtain ⟨B, rfl, HB⟩ := hcut
    have s3 := HB.out
    clear HB s2 k0 k1 k2 i0 hIs t0 t1 t2 HA1 HA2
    obtain ⟨S, cS, _⟩ := s3.len
    have hL : ∀ k, Calls Tryz.prog 111 #[.pointer (some ⟨S, 0, none⟩)] (wc.drewN k) fun e w' => e = .returned (.int .i64 x.fm.st.length) ∧ w' = wc.drewN k := fun k => by
      obtain ⟨S', cS', q⟩ := (s3.calm ((Kept.refl _ wc).drewN k)).len
      have e : (some (Value.pointer (some ⟨S', 0, none⟩))) = some (Value.pointer (some ⟨S, 0, none⟩)) := cS'.symm.trans cS
      simp only [Option.some.injEq, Value.pointer.injEq, Addr.mk.injEq, and_true] at e
      rw [← e]
      exact q
    have p0 : wc.cell? ⟨B, 0, none⟩ = some (.int .i64 P) := s3.cell 0 rfl 0
    have p1 : wc.cell? ⟨B, 1, none⟩ = some (.int .i64 U) := s3.cell 0 rfl 1
    have p2 : wc.cell? ⟨B, 2, none⟩ = some (.func (.func F) #[] #[]) := s3.cell 0 rfl 2
    have p3 : wc.cell? ⟨I, 1, none⟩ = some (.int .i64 ia) := s3.cell 1 rfl 1
    have H3 := hid s3
    clear s3
    generalize hD : x.fm.st.length = D at *
    clear hD
    have hwr : IntKind.i64.wrap ((D : Int) - P) = D - P := by rw [wrap_small (by omega) (by omega)]
    have hwr2 : IntKind.i64.wrap ((D : Int) - P + U) = D - P + U := by rw [wrap_small (by omega) (by omega)]
    go_upto_region 5 with fail
    go_quiet (first | (go_at_call 111; exact Calls.quiet_of_same (hL _)))
    by_cases hlo : (D : Int) - P < 0
    · have hq := pRefuse 160 (wc.drewN nq)
      unfold boom at hq
      go_wp2_with fail
      refine hq.mono ?_
      rintro r w9 ⟨rfl, rfl⟩
      clear hq
      have H9 := hid (H3.out.calm ((Kept.refl _ wc).drewN nq))
      go_wp2
      exact ⟨rfl, rfl, H9.out.popR.popR⟩
    · have hhi : 32 < (D : Int) - P + U := by omega
      have hq := pRefuse 160 (wc.drewN nq)
      unfold boom at hq
      go_wp2_with fail
      refine hq.mono ?_
      rintro r w9 ⟨rfl, rfl⟩
      clear hq
      have H9 := hid (H3.out.calm ((Kept.refl _ wc).drewN nq))
      go_wp2
      exact ⟨rfl, rfl, H9.out.popR.popR⟩
set_option maxRecDepth 100000 in
set_option maxHeartbeats 4000000 in
theorem PH.instruct_pan_at (h : PH o c A X R z x w) {k : Nat} (co : x.core k) (hp : x.fm.pl < x.li.length) (hup : 16 ≤ x.ins.op) (hd1 : (rowOf x.ins.op).pops ≤ (x.fm.st.length : Int)) (hd2 : (x.fm.st.length : Int) - (rowOf x.ins.op).pops + (rowOf x.ins.op).pushes ≤ 32) {av : Int} {z' : SSt} {x' : Pg} (hM : ∀ W R', PH o c A X R' z x W → Calls Tryz.prog (methOf x.ins.op) #[.pointer (some ⟨X, 0, none⟩), .int .i64 x.ins.a] W fun r w' => r = boom av ∧ PH o c A X R' z' x' w') : Calls Tryz.prog 68 #[.pointer (some ⟨X, 0, none⟩)] w fun r w' => r = boom av ∧ PH o c A X R z' x' w' := by
  have hsl := co.sl
  obtain ⟨hkn, _⟩ := co.ins
  obtain ⟨n, hn, n0, n23⟩ := known_nat hkn
  rw [hn] at hd1 hd2 hM hup
  unfold boom at hM ⊢
  obtain ⟨j, hj⟩ : ∃ j : Nat, x.fm.pl = j := ⟨x.fm.pl.toNat, by have := co.p0; omega⟩
  have hins : x.ins = x.li.getD j Ins.zero := by unfold Pg.ins; rw [if_pos hp, hj]; rfl
  rw [hj] at hp
  have hlt : (j : Int) < x.li.length := hp
  have b0 : (0 : Int) ≤ j := Int.natCast_nonneg _
  obtain ⟨ia, hia⟩ : ∃ ia, ia = x.ins.a := ⟨_, rfl⟩
  rw [← hia] at hM
  have HI : Hid (x.ins.op = n ∧ ia = x.ins.a ∧ x.ins = x.li.getD j Ins.zero) := ⟨hn, hia, hins⟩
  clear hn hia hins hkn
  have s0 := h.box #[.int .i64 22, .int .i64 0] 79
  clear h
  go_enter Tryz.func68, Tryz.ntmps68
  go_upto_region 2 with fail
  generalize w.alloc (.cells #[.int .i64 22, .int .i64 0] 79) = W0 at *
  generalize w.heap.size = I at *
  obtain ⟨g, cap, c25, c0, hcells⟩ := s0.list (by omega)
  rw [hj] at c0
  clear hcells
  go_quiet (fail)
  go_upto_region 3 with fail
  have s1 := s0.calm ((Kept.refl _ W0).drewN nq)
  clear c25 c0 s0
  generalize W0.drewN nq = W1 at *
  obtain ⟨g, cap, c25, c0, hcells⟩ := s1.drew.list (by omega)
  rw [hj] at c0
  have d0 := (hcells j (by omega)).1
  have d1 := (hcells j (by omega)).2
  rw [← HI.out.2.2] at d0 d1
  rw [HI.out.1] at d0
  rw [← HI.out.2.1] at d1
  have i0 : W1.cell? ⟨I, 0, none⟩ = some (.int .i64 22) := s1.cell 0 rfl 0
  have i1 : W1.cell? ⟨I, 1, none⟩ = some (.int .i64 0) := s1.cell 0 rfl 1
  have f0 : W1.frozen? ⟨I, 0, none⟩ = false := frozen_of_heap (s1.get 0 rfl)
  have f1 : W1.frozen? ⟨I, 1, none⟩ = false := frozen_of_heap (s1.get 0 rfl)
  have s2 : PH o c A X (boxI I #[.int .i64 n, .int .i64 ia] 79 :: R) z x ((W1.setCell ⟨I, 0, none⟩ (.int .i64 n)).setCell ⟨I, 1, none⟩ (.int .i64 ia)).drew := (s1.setR (fun its q => (q.write 0 rfl 0 (.int .i64 n)).write 0 rfl 1 (.int .i64 ia))).drew
  have H2 := hid s2
  clear s1 s2 hcells
  go_region
  all_goals
    go_upto_region 4 with fail
    have s2 := H2.out
    clear H2 c25 c0 d0 d1 i0 i1 f0 f1
    generalize ((W1.setCell ⟨I, 0, none⟩ (.int .i64 n)).setCell ⟨I, 1, none⟩ (.int .i64 ia)).drew = W2 at *
    obtain ⟨t0, t1, t2⟩ := ptab_at n n0 n23
    obtain ⟨r0, r1, r2, r3⟩ := row_small n n0 n23
    have hFs := meth_upper n (by omega) n23
    generalize (rowOf (n : Nat)).pops = P at *
    generalize (rowOf (n : Nat)).pushes = U at *
    generalize methOf (n : Nat) = F at *
    have k0 : ∀ W : World, (W.alloc (.cells ptabC 238)).cell? ⟨W.heap.size, n * 3, none⟩ = some (.int .i64 P) := fun W => (cell_of_heap (heap_alloc_new W _)).trans t0
    have k1 : ∀ W : World, (W.alloc (.cells ptabC 238)).cell? ⟨W.heap.size, n * 3 + 1, none⟩ = some (.int .i64 U) := fun W => (cell_of_heap (heap_alloc_new W _)).trans t1
    have k2 : ∀ W : World, (W.alloc (.cells ptabC 238)).cell? ⟨W.heap.size, n * 3 + 2, none⟩ = some (.func (.func F) #[] #[]) := fun W => (cell_of_heap (heap_alloc_new W _)).trans t2
    have i0 : W2.cell? ⟨I, 0, none⟩ = some (.int .i64 n) := s2.cell 0 rfl 0
    have hIs : I < W2.heap.size := lt_of_heap (s2.get 0 rfl)
    have m0 : (0 : Int) ≤ n := Int.natCast_nonneg _
    have m23 : (n : Int) < 23 := by omega
    have HA1 := hid ((s2.calm (kept_alloc W2 (.cells ptabC 238))).box #[.int .i64 P, .int .i64 U, .func (.func F) #[] #[]] 238).drew
    rw [alloc_size] at HA1
    have HA2 := hid ((s2.box #[.int .i64 P, .int .i64 U, .func (.func F) #[] #[]] 238).calm (kept_alloc _ (.cells ptabC 238))).drew
    go_cut [4] from 6 (fun b wx => ∃ B, b = .pointer (some ⟨B, 0, none⟩) ∧ Hid (PH o c A X (boxI B #[.int .i64 P, .int .i64 U, .func (.func F) #[] #[]] 238 :: boxI I #[.int .i64 n, .int .i64 ia] 79 :: R) z x wx))
    case first =>
      go_region_with (first | (go_at_call 110; refine (ptable_any _).mono ?_; rintro r w3 ⟨rfl, rfl⟩))
      all_goals
        go_wp2_with fail
        go_meet
        first | exact ⟨_, rfl, HA1⟩ | exact ⟨_, rfl, HA2⟩
    case rest =>
      obtain ⟨B, rfl, HB⟩ := hcut
      have s3 := HB.out
      clear HB s2 k0 k1 k2 i0 hIs t0 t1 t2 HA1 HA2
      obtain ⟨S, cS, _⟩ := s3.len
      have hL : ∀ k, Calls Tryz.prog 111 #[.pointer (some ⟨S, 0, none⟩)] (wc.drewN k) fun e w' => e = .returned (.int .i64 x.fm.st.length) ∧ w' = wc.drewN k := fun k => by
        obtain ⟨S', cS', q⟩ := (s3.calm ((Kept.refl _ wc).drewN k)).len
        have e : (some (Value.pointer (some ⟨S', 0, none⟩))) = some (Value.pointer (some ⟨S, 0, none⟩)) := cS'.symm.trans cS
        simp only [Option.some.injEq, Value.pointer.injEq, Addr.mk.injEq, and_true] at e
        rw [← e]
        exact q
      have p0 : wc.cell? ⟨B, 0, none⟩ = some (.int .i64 P) := s3.cell 0 rfl 0
      have p1 : wc.cell? ⟨B, 1, none⟩ = some (.int .i64 U) := s3.cell 0 rfl 1
      have p2 : wc.cell? ⟨B, 2, none⟩ = some (.func (.func F) #[] #[]) := s3.cell 0 rfl 2
      have p3 : wc.cell? ⟨I, 1, none⟩ = some (.int .i64 ia) := s3.cell 1 rfl 1
      have H3 := hid s3
      clear s3
      generalize hD : x.fm.st.length = D at *
      clear hD
      have hwr : IntKind.i64.wrap ((D : Int) - P) = D - P := by rw [wrap_small (by omega) (by omega)]
      have hwr2 : IntKind.i64.wrap ((D : Int) - P + U) = D - P + U := by rw [wrap_small (by omega) (by omega)]
      go_upto_region 5 with fail
      go_quiet (first | (go_at_call 111; exact Calls.quiet_of_same (hL _)))
      have hlo : ¬ (D : Int) - P < 0 := by omega
      have hhi : ¬ 32 < (D : Int) - P + U := by omega
      have hq := hM _ _ (H3.out.calm ((Kept.refl _ wc).drewN nq))
      clear hM H3 hL
      rcases hFs with rfl | rfl | rfl | rfl | rfl | rfl | rfl
      all_goals
        go_wp2_with fail
        refine hq.mono ?_
        rintro r w9 ⟨rfl, s9⟩
        have H9 := hid s9
        clear hq s9
        go_wp2
        exact ⟨rfl, rfl, H9.out.popR.popR⟩
set_option maxRecDepth 100000 in
set_option maxHeartbeats 4000000 in
theorem PH.instruct_ret_end (h : PH o c A X R z x w) {k : Nat} (co : x.core k) (hp : ¬ x.fm.pl < x.li.length) (hd1 : (rowOf x.ins.op).pops ≤ (x.fm.st.length : Int)) (hd2 : (x.fm.st.length : Int) - (rowOf x.ins.op).pops + (rowOf x.ins.op).pushes ≤ 32) {av : Int} {z' : SSt} {x' : Pg} (hM : ∀ W R', PH o c A X R' z x W → Calls Tryz.prog (methOf x.ins.op) #[.pointer (some ⟨X, 0, none⟩), .int .i64 x.ins.a] W fun r w' => r = .returned (.int .i64 av) ∧ PH o c A X R' z' x' w') : Calls Tryz.prog 68 #[.pointer (some ⟨X, 0, none⟩)] w fun r w' => r = .returned (.int .i64 av) ∧ PH o c A X R z' x' w' := by
  have hsl := co.sl
  obtain ⟨hkn, _⟩ := co.ins
  obtain ⟨n, hn, n0, n23⟩ := known_nat hkn
  rw [hn] at hd1 hd2 hM
  have hins : x.ins = ⟨22, 0⟩ := by unfold Pg.ins; rw [if_neg hp]
  have hlt : ¬ x.fm.pl < x.li.length := hp
  obtain ⟨ia, hia⟩ : ∃ ia, ia = x.ins.a := ⟨_, rfl⟩
  rw [← hia] at hM
  have HI : Hid (x.ins.op = n ∧ ia = x.ins.a ∧ x.ins = ⟨22, 0⟩) := ⟨hn, hia, hins⟩
  clear hn hia hins hkn
  have s0 := h.box #[.int .i64 22, .int .i64 0] 79
  clear h
  go_enter Tryz.func68, Tryz.ntmps68
  go_upto_region 2 with fail
  generalize w.alloc (.cells #[.int .i64 22, .int .i64 0] 79) = W0 at *
  generalize w.heap.size = I at *
  have c25 : ∃ la lc, W0.cell? ⟨X, 25, none⟩ = some (.slice la x.li.length lc) := by
    have hl := (checkM_all co.ck).2.1
    obtain ⟨g, cap, q, _⟩ := s0.list hl
    exact ⟨_, _, q⟩
  obtain ⟨la, lc, c25⟩ := c25
  have c0 := s0.place
  go_quiet (fail)
  go_upto_region 4 with fail
  have s1 := s0.calm ((Kept.refl _ W0).drewN nq)
  clear c25 c0 s0
  generalize W0.drewN nq = W2 at *
  have s2 : PH o c A X (boxI I #[.int .i64 n, .int .i64 ia] 79 :: R) z x W2 := by
    have e1 : (n : Int) = 22 := by have := HI.out.1; rw [HI.out.2.2] at this; exact this.symm
    have e2 : ia = 0 := by rw [HI.out.2.1, HI.out.2.2]
    rw [e1, e2]
    exact s1
  clear s1
  obtain ⟨t0, t1, t2⟩ := ptab_at n n0 n23
  obtain ⟨r0, r1, r2, r3⟩ := row_small n n0 n23
  have hFs : methOf (n : Nat) = 162 := by
    have e1 : (n : Int) = 22 := by have := HI.out.1; rw [HI.out.2.2] at this; exact this.symm
    rw [e1]; rfl
  generalize (rowOf (n : Nat)).pops = P at *
  generalize (rowOf (n : Nat)).pushes = U at *
  generalize methOf (n : Nat) = F at *
  have HFs := hid hFs
  clear hFs
  have k0 : ∀ W : World, (W.alloc (.cells ptabC 238)).cell? ⟨W.heap.size, n * 3, none⟩ = some (.int .i64 P) := fun W => (cell_of_heap (heap_alloc_new W _)).trans t0
  have k1 : ∀ W : World, (W.alloc (.cells ptabC 238)).cell? ⟨W.heap.size, n * 3 + 1, none⟩ = some (.int .i64 U) := fun W => (cell_of_heap (heap_alloc_new W _)).trans t1
  have k2 : ∀ W : World, (W.alloc (.cells ptabC 238)).cell? ⟨W.heap.size, n * 3 + 2, none⟩ = some (.func (.func F) #[] #[]) := fun W => (cell_of_heap (heap_alloc_new W _)).trans t2
  have i0 : W2.cell? ⟨I, 0, none⟩ = some (.int .i64 n) := s2.cell 0 rfl 0
  have hIs : I < W2.heap.size := lt_of_heap (s2.get 0 rfl)
  have m0 : (0 : Int) ≤ n := Int.natCast_nonneg _
  have m23 : (n : Int) < 23 := by omega
  have HA1 := hid ((s2.calm (kept_alloc W2 (.cells ptabC 238))).box #[.int .i64 P, .int .i64 U, .func (.func F) #[] #[]] 238).drew
  rw [alloc_size] at HA1
  have HA2 := hid ((s2.box #[.int .i64 P, .int .i64 U, .func (.func F) #[] #[]] 238).calm (kept_alloc _ (.cells ptabC 238))).drew
  go_cut [4] from 6 (fun b wx => ∃ B, b = .pointer (some ⟨B, 0, none⟩) ∧ Hid (PH o c A X (boxI B #[.int .i64 P, .int .i64 U, .func (.func F) #[] #[]] 238 :: boxI I #[.int .i64 n, .int .i64 ia] 79 :: R) z x wx))
  case first =>
    go_region_with (first | (go_at_call 110; refine (ptable_any _).mono ?_; rintro r w3 ⟨rfl, rfl⟩))
    all_goals
      go_wp2_with fail
      go_meet
      first | exact ⟨_, rfl, HA1⟩ | exact ⟨_, rfl, HA2⟩
  case rest =>
    obtain ⟨B, rfl, HB⟩ := hcut
    have s3 := HB.out
    clear HB s2 k0 k1 k2 i0 hIs t0 t1 t2 HA1 HA2
    obtain ⟨S, cS, _⟩ := s3.len
    have hL : ∀ k, Calls Tryz.prog 111 #[.pointer (some ⟨S, 0, none⟩)] (wc.drewN k) fun e w' => e = .returned (.int .i64 x.fm.st.length) ∧ w' = wc.drewN k := fun k => by
      obtain ⟨S', cS', q⟩ := (s3.calm ((Kept.refl _ wc).drewN k)).len
      have e : (some (Value.pointer (some ⟨S', 0, none⟩))) = some (Value.pointer (some ⟨S, 0, none⟩)) := cS'.symm.trans cS
      simp only [Option.some.injEq, Value.pointer.injEq, Addr.mk.injEq, and_true] at e
      rw [← e]
      exact q
    have p0 : wc.cell? ⟨B, 0, none⟩ = some (.int .i64 P) := s3.cell 0 rfl 0
    have p1 : wc.cell? ⟨B, 1, none⟩ = some (.int .i64 U) := s3.cell 0 rfl 1
    have p2 : wc.cell? ⟨B, 2, none⟩ = some (.func (.func F) #[] #[]) := s3.cell 0 rfl 2
    have p3 : wc.cell? ⟨I, 1, none⟩ = some (.int .i64 ia) := s3.cell 1 rfl 1
    have H3 := hid s3
    clear s3
    generalize hD : x.fm.st.length = D at *
    clear hD
    have hwr : IntKind.i64.wrap ((D : Int) - P) = D - P := by rw [wrap_small (by omega) (by omega)]
    have hwr2 : IntKind.i64.wrap ((D : Int) - P + U) = D - P + U := by rw [wrap_small (by omega) (by omega)]
    go_upto_region 5 with fail
    go_quiet (first | (go_at_call 111; exact Calls.quiet_of_same (hL _)))
    have hlo : ¬ (D : Int) - P < 0 := by omega
    have hhi : ¬ 32 < (D : Int) - P + U := by omega
    have hq := hM _ _ (H3.out.calm ((Kept.refl _ wc).drewN nq))
    clear hM H3 hL
    have hFs := HFs.out
    subst hFs
    all_goals
      go_wp2_with fail
      refine hq.mono ?_
      rintro r w9 ⟨rfl, s9⟩
      have H9 := hid s9
      clear hq s9
      go_wp2
      go_ret
      exact ⟨rfl, H9.out.popR.popR⟩
set_option maxRecDepth 100000 in
set_option maxHeartbeats 4000000 in
theorem PH.instruct_pan_end (h : PH o c A X R z x w) {k : Nat} (co : x.core k) (hp : ¬ x.fm.pl < x.li.length) (hd1 : (rowOf x.ins.op).pops ≤ (x.fm.st.length : Int)) (hd2 : (x.fm.st.length : Int) - (rowOf x.ins.op).pops + (rowOf x.ins.op).pushes ≤ 32) {av : Int} {z' : SSt} {x' : Pg} (hM : ∀ W R', PH o c A X R' z x W → Calls Tryz.prog (methOf x.ins.op) #[.pointer (some ⟨X, 0, none⟩), .int .i64 x.ins.a] W fun r w' => r = boom av ∧ PH o c A X R' z' x' w') : Calls Tryz.prog 68 #[.pointer (some ⟨X, 0, none⟩)] w fun r w' => r = boom av ∧ PH o c A X R z' x' w' := by
  have hsl := co.sl
  obtain ⟨hkn, _⟩ := co.ins
  obtain ⟨n, hn, n0, n23⟩ := known_nat hkn
  rw [hn] at hd1 hd2 hM
  unfold boom at hM ⊢
  have hins : x.ins = ⟨22, 0⟩ := by unfold Pg.ins; rw [if_neg hp]
  have hlt : ¬ x.fm.pl < x.li.length := hp
  obtain ⟨ia, hia⟩ : ∃ ia, ia = x.ins.a := ⟨_, rfl⟩
  rw [← hia] at hM
  have HI : Hid (x.ins.op = n ∧ ia = x.ins.a ∧ x.ins = ⟨22, 0⟩) := ⟨hn, hia, hins⟩
  clear hn hia hins hkn
  have s0 := h.box #[.int .i64 22, .int .i64 0] 79
  clear h
  go_enter Tryz.func68, Tryz.ntmps68
  go_upto_region 2 with fail
  generalize w.alloc (.cells #[.int .i64 22, .int .i64 0] 79) = W0 at *
  generalize w.heap.size = I at *
  have c25 : ∃ la lc, W0.cell? ⟨X, 25, none⟩ = some (.slice la x.li.length lc) := by
    have hl := (checkM_all co.ck).2.1
    obtain ⟨g, cap, q, _⟩ := s0.list hl
    exact ⟨_, _, q⟩
  obtain ⟨la, lc, c25⟩ := c25
  have c0 := s0.place
  go_quiet (fail)
  go_upto_region 4 with fail
  have s1 := s0.calm ((Kept.refl _ W0).drewN nq)
  clear c25 c0 s0
  generalize W0.drewN nq = W2 at *
  have s2 : PH o c A X (boxI I #[.int .i64 n, .int .i64 ia] 79 :: R) z x W2 := by
    have e1 : (n : Int) = 22 := by have := HI.out.1; rw [HI.out.2.2] at this; exact this.symm
    have e2 : ia = 0 := by rw [HI.out.2.1, HI.out.2.2]
    rw [e1, e2]
    exact s1
  clear s1
  obtain ⟨t0, t1, t2⟩ := ptab_at n n0 n23
  obtain ⟨r0, r1, r2, r3⟩ := row_small n n0 n23
  have hFs : methOf (n : Nat) = 162 := by
    have e1 : (n : Int) = 22 := by have := HI.out.1; rw [HI.out.2.2] at this; exact this.symm
    rw [e1]; rfl
  generalize (rowOf (n : Nat)).pops = P at *
  generalize (rowOf (n : Nat)).pushes = U at *
  generalize methOf (n : Nat) = F at *
  have HFs := hid hFs
  clear hFs
  have k0 : ∀ W : World, (W.alloc (.cells ptabC 238)).cell? ⟨W.heap.size, n * 3, none⟩ = some (.int .i64 P) := fun W => (cell_of_heap (heap_alloc_new W _)).trans t0
  have k1 : ∀ W : World, (W.alloc (.cells ptabC 238)).cell? ⟨W.heap.size, n * 3 + 1, none⟩ = some (.int .i64 U) := fun W => (cell_of_heap (heap_alloc_new W _)).trans t1
  have k2 : ∀ W : World, (W.alloc (.cells ptabC 238)).cell? ⟨W.heap.size, n * 3 + 2, none⟩ = some (.func (.func F) #[] #[]) := fun W => (cell_of_heap (heap_alloc_new W _)).trans t2
  have i0 : W2.cell? ⟨I, 0, none⟩ = some (.int .i64 n) := s2.cell 0 rfl 0
  have hIs : I < W2.heap.size := lt_of_heap (s2.get 0 rfl)
  have m0 : (0 : Int) ≤ n := Int.natCast_nonneg _
  have m23 : (n : Int) < 23 := by omega
  have HA1 := hid ((s2.calm (kept_alloc W2 (.cells ptabC 238))).box #[.int .i64 P, .int .i64 U, .func (.func F) #[] #[]] 238).drew
  rw [alloc_size] at HA1
  have HA2 := hid ((s2.box #[.int .i64 P, .int .i64 U, .func (.func F) #[] #[]] 238).calm (kept_alloc _ (.cells ptabC 238))).drew
  go_cut [4] from 6 (fun b wx => ∃ B, b = .pointer (some ⟨B, 0, none⟩) ∧ Hid (PH o c A X (boxI B #[.int .i64 P, .int .i64 U, .func (.func F) #[] #[]] 238 :: boxI I #[.int .i64 n, .int .i64 ia] 79 :: R) z x wx))
  case first =>
    go_region_with (first | (go_at_call 110; refine (ptable_any _).mono ?_; rintro r w3 ⟨rfl, rfl⟩))
    all_goals
      go_wp2_with fail
      go_meet
      first | exact ⟨_, rfl, HA1⟩ | exact ⟨_, rfl, HA2⟩
  case rest =>
    obtain ⟨B, rfl, HB⟩ := hcut
    have s3 := HB.out
    clear HB s2 k0 k1 k2 i0 hIs t0 t1 t2 HA1 HA2
    obtain ⟨S, cS, _⟩ := s3.len
    have hL : ∀ k, Calls Tryz.prog 111 #[.pointer (some ⟨S, 0, none⟩)] (wc.drewN k) fun e w' => e = .returned (.int .i64 x.fm.st.length) ∧ w' = wc.drewN k := fun k => by
      obtain ⟨S', cS', q⟩ := (s3.calm ((Kept.refl _ wc).drewN k)).len
      have e : (some (Value.pointer (some ⟨S', 0, none⟩))) = some (Value.pointer (some ⟨S, 0, none⟩)) := cS'.symm.trans cS
      simp only [Option.some.injEq, Value.pointer.injEq, Addr.mk.injEq, and_true] at e
      rw [← e]
      exact q
    have p0 : wc.cell? ⟨B, 0, none⟩ = some (.int .i64 P) := s3.cell 0 rfl 0
    have p1 : wc.cell? ⟨B, 1, none⟩ = some (.int .i64 U) := s3.cell 0 rfl 1
    have p2 : wc.cell? ⟨B, 2, none⟩ = some (.func (.func F) #[] #[]) := s3.cell 0 rfl 2
    have p3 : wc.cell? ⟨I, 1, none⟩ = some (.int .i64 ia) := s3.cell 1 rfl 1
    have H3 := hid s3
    clear s3
    generalize hD : x.fm.st.length = D at *
    clear hD
    have hwr : IntKind.i64.wrap ((D : Int) - P) = D - P := by rw [wrap_small (by omega) (by omega)]
    have hwr2 : IntKind.i64.wrap ((D : Int) - P + U) = D - P + U := by rw [wrap_small (by omega) (by omega)]
    go_upto_region 5 with fail
    go_quiet (first | (go_at_call 111; exact Calls.quiet_of_same (hL _)))
    have hlo : ¬ (D : Int) - P < 0 := by omega
    have hhi : ¬ 32 < (D : Int) - P + U := by omega
    have hq := hM _ _ (H3.out.calm ((Kept.refl _ wc).drewN nq))
    clear hM H3 hL
    have hFs := HFs.out
    subst hFs
    all_goals
      go_wp2_with fail
      refine hq.mono ?_
      rintro r w9 ⟨rfl, s9⟩
      have H9 := hid s9
      clear hq s9
      go_wp2
      exact ⟨rfl, rfl, H9.out.popR.popR⟩
end
end Go.Proofs.YthbcbjkgjgmegaaGreat
