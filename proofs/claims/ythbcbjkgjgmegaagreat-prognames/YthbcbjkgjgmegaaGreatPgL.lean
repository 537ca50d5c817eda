/- A step of a program. -/
import Derived.Test.YthbcbjkgjgmegaaGreatPgK
namespace Go.Proofs.YthbcbjkgjgmegaaGreat
open Go.RowKit
set_option linter.unusedVariables false
set_option linter.unusedSimpArgs false
attribute [local go_sem ↓] Go.wp_at_zero Go.wp_at_succ
section
variable {o w : World} {its R : List It} {A : Ad} {c : Cfg} {z : SSt} {v u : Value} {Q : PA} {x : Pg} {X : Nat}
set_option maxRecDepth 100000 in
theorem PH.fail (h : PH o c A X R z x w) (hu : x.under = false) {n k : Nat} (hx : x.fit c n k) (ok : z.ok c k) (hk : k ≤ 800000000) (hf : c.fits = true) (hz : z.hs.length = n) (hw : WsOk z.ws) {e0 : Int} (h0 : e0 ≠ 0) (h5 : e0 ≠ 165) :
    Calls Tryz.prog 65 #[.pointer (some ⟨X, 0, none⟩), .int .i64 e0] w fun r w' => r = .returned (.int .i64 (x.fail c z e0).a) ∧ PH o c A X R (x.fail c z e0).z (x.fail c z e0).x w' := by
  have hq := h.inside
  clear h
  unfold Pg.fail
  cases hi : x.inside
  · rw [hi] at hq
    have hp := out_idle hu hi
    simp only [Bool.false_eq_true, if_false]
    go_enter Tryz.func65, Tryz.ntmps65
    go_wp2_with fail
    refine hq.mono ?_
    rintro r w1 ⟨rfl, s1⟩
    clear hq
    have hq := s1.ends hp e0
    clear s1
    go_wp2_with fail
    refine hq.mono ?_
    rintro r w2 ⟨rfl, s2⟩
    have H2 := hid s2
    clear hq s2
    go_wp2
    go_ret
    exact ⟨rfl, H2.out⟩
  · rw [hi] at hq
    have hp := in_two hu hi
    simp only [if_true]
    have hb := abort_beg hx hp h0 (fun q => absurd q h5)
    have hun : ({ x with tx := x.tx.abort e0 } : Pg).under = true := by
      have ha : x.tx.abort e0 = { x.tx with dg := .abo 5 e0 0 } := by
        unfold Tt.abort Tt.abortE
        rw [if_neg (show ¬ x.tx.dg.phase ≠ 2 from fun q => q hp), if_neg h0, if_pos rfl]
      rw [ha]
      rfl
    obtain ⟨y, hy⟩ : ∃ y : Pg, y = { x with tx := x.tx.abort e0 } := ⟨_, rfl⟩
    have hyt : x.tx.abort e0 = y.tx := by rw [hy]
    rw [hyt, ← hyt, ← hy] at hun hb ⊢
    obtain ⟨an, han⟩ : ∃ an, an = y.tx.ans z := ⟨_, rfl⟩
    have HY : Hid (y = { x with tx := x.tx.abort e0 } ∧ an = y.tx.ans z) := ⟨hy, han⟩
    rw [hyt, ← han]
    clear hy han hyt
    go_enter Tryz.func65, Tryz.ntmps65
    go_wp2_with fail
    refine hq.mono ?_
    rintro r w1 ⟨rfl, s1⟩
    clear hq
    obtain ⟨T, cT, hq⟩ := s1.txAbort hp h0
    rw [← HY.out.1] at hq
    clear s1
    go_wp2_with fail
    refine hq.mono ?_
    rintro r w2 ⟨rfl, s2⟩
    clear hq cT
    have hq := s2.goOn (hb.yes hun) hun ok (by omega) hz hf hw
    rw [← HY.out.2] at hq
    clear s2
    go_wp2_with fail
    refine hq.mono ?_
    rintro r w3 ⟨rfl, s3⟩
    have H3 := hid s3
    clear hq s3
    go_wp2
    go_ret
    exact ⟨rfl, H3.out⟩
theorem passert_gave (e : Int) (w : World) : (Instr.typeAssert (.iface 27 (.int .i64 e)) 20 27 true).run Tryz.prog w = .ok (.tuple #[.int .i64 e, .bool true]) w := by kernel_rfl
theorem passert_none (w : World) : (Instr.typeAssert .nilIface 20 27 true).run Tryz.prog w = .ok (.tuple #[.int .i64 0, .bool false]) w := by kernel_rfl
set_option maxRecDepth 100000 in
set_option maxHeartbeats 1000000 in
theorem pcatch_idle (p q : Addr) (w : World) :
    CallsD Tryz.prog 64 #[.pointer (some p), .pointer (some q)] .returning w fun e u' w' => e = .returned (.tuple #[]) ∧ u' = .returning ∧ w' = w := by
  refine callsD_of_wpS Tryz.func64 rfl fun c₀ cs hu => ?_
  apply wpS_seq
  apply wpS_region
  simp [wpOpsS, go_sem, recoverD, hu, Tryz.ntmps64, Exit.thenS, passert_none, Array.replicate, List.replicate]
  refine wpS_of_wp ?_
  go_wp2
  refine ⟨rfl, .returning, ?_, .tuple #[], results_none rfl _ _ _, rfl, rfl, rfl⟩
  cases c₀
  simp_all
set_option maxRecDepth 100000 in
set_option maxHeartbeats 1000000 in
theorem pcatch_gave {C1 C2 : Nat} {av : Int} (h : PH o c A X (boxI C2 #[.int .i64 av] 3 :: boxI C1 #[.pointer (some ⟨X, 0, none⟩)] 31 :: R) z x w) (hu0 : x.under = false) {n k : Nat} (hx : x.fit c n k) (ok : z.ok c k) (hk : k ≤ 800000000) (hf : c.fits = true) (hz : z.hs.length = n) (hw : WsOk z.ws) {e0 : Int} (h0 : e0 ≠ 0) (h5 : e0 ≠ 165) :
    CallsD Tryz.prog 64 #[.pointer (some ⟨C1, 0, none⟩), .pointer (some ⟨C2, 0, none⟩)] (.panicking [{ v := .iface 27 (.int .i64 e0), recovered := false }]) w fun e u' w' => e = .returned (.tuple #[]) ∧ u' = .panicking [{ v := .iface 27 (.int .i64 e0), recovered := true }] ∧ PH o c A X (boxI C2 #[.int .i64 (x.fail c z e0).a] 3 :: boxI C1 #[.pointer (some ⟨X, 0, none⟩)] 31 :: R) (x.fail c z e0).z (x.fail c z e0).x w' := by
  have hq := h.fail hu0 hx ok hk hf hz hw h0 h5
  have c1 : w.cell? ⟨C1, 0, none⟩ = some (.pointer (some ⟨X, 0, none⟩)) := h.cell 1 rfl 0
  obtain ⟨out, hout⟩ : ∃ out, out = x.fail c z e0 := ⟨_, rfl⟩
  rw [← hout] at hq ⊢
  clear h hout
  refine callsD_of_wpS Tryz.func64 rfl fun c₀ cs hu => ?_
  apply wpS_seq
  apply wpS_region
  simp [wpOpsS, go_sem, recoverD, hu, Tryz.ntmps64, Exit.thenS, passert_gave, Array.replicate, List.replicate]
  refine wpS_of_wp ?_
  go_wp2_with fail
  refine hq.mono ?_
  rintro r w2 ⟨rfl, s2⟩
  clear hq c1
  have c2 : w2.cell? ⟨C2, 0, none⟩ = some (.int .i64 av) := s2.cell 0 rfl 0
  have f2 : w2.frozen? ⟨C2, 0, none⟩ = false := frozen_of_heap (s2.get 0 rfl)
  have H2 := hid (s2.setR (fun its q => q.write 0 rfl 0 (.int .i64 out.a)))
  clear s2
  go_wp2
  exact ⟨rfl, _, rfl, .tuple #[], results_none rfl _ _ _, rfl, rfl, H2.out⟩
theorem PH.doneCell (h : PH o c A X R z x w) : w.cell? ⟨X, 27, none⟩ = some (.bool x.dn) := by
  obtain ⟨Q, v, u, rfl, hJ, hn, h⟩ := h
  exact h.cell 7 rfl 27
set_option maxRecDepth 100000 in
set_option maxHeartbeats 1000000 in
theorem PH.step (h : PH o c A X R z x w) {n k : Nat} (hx : x.fit c n k) (hg : x.rng) (ok : z.ok c k) (hk : k ≤ 800000000) (hf : c.fits = true) (hz : z.hs.length = n) (hw : WsOk z.ws) (hs : 1 ≤ z.s.st) :
    Calls Tryz.prog 25 #[.pointer (some ⟨X, 0, none⟩)] w fun r w' => r = .returned (.int .i64 (x.step c z).a) ∧ PH o c A X R (x.step c z).z (x.step c z).x w' := by
  have hl : (n : Int) = c.sl := by rw [← hz]; exact ok.hl
  have h1 : 1 ≤ n := by rw [← hz]; exact ok.h1
  have h8 : n ≤ 8 := by rw [← hz]; exact ok.h8
  have hmf : ∀ (fn : Fn) (first cap : Array Value) (w : World), (Instr.makeFunc fn first cap).run Tryz.prog w = .ok (.func fn first cap) w := fun _ _ _ _ => rfl
  have s0 := (h.box #[.pointer (some ⟨X, 0, none⟩)] 31).box #[.int .i64 0] 3
  rw [alloc_size] at s0
  clear h
  unfold Pg.step
  cases hd : x.dn
  · rw [if_neg (by simp)]
    cases hu : x.under
    · rw [if_neg (by simp)]
      unfold Pg.instruct
      by_cases hr : x.refuses c x.ins = 0
      · rw [if_neg (fun q => q hr)]
        obtain ⟨out, hout⟩ : ∃ out, out = x.does c z x.ins := ⟨_, rfl⟩
        rw [← hout]
        have HO := hid hout
        clear hout
        go_enter_defers Tryz.func25, Tryz.ntmps25
        go_upto_region 1 with fail
        generalize (w.alloc (.cells #[.pointer (some ⟨X, 0, none⟩)] 31)).alloc (.cells #[.int .i64 0] 3) = W0 at *
        generalize w.heap.size = B at *
        have b0 : W0.cell? ⟨B, 0, none⟩ = some (.pointer (some ⟨X, 0, none⟩)) := s0.cell 1 rfl 0
        have c27 := s0.doneCell
        rw [hd] at c27
        have hq := s0.under
        rw [hu] at hq
        clear s0
        go_wp2_with fail
        refine hq.mono ?_
        rintro r w1 ⟨rfl, s1⟩
        clear hq b0 c27
        have b0 : w1.cell? ⟨B, 0, none⟩ = some (.pointer (some ⟨X, 0, none⟩)) := s1.cell 1 rfl 0
        have hq := s1.instruct_ok hd hu hx hg ok hk hf hz hl h1 h8 hw hs hr
        rw [← HO.out] at hq
        clear s1
        go_wp2_with fail
        refine hq.mono ?_
        rintro r w2 ⟨rfl, s2⟩
        clear hq
        have b1 : w2.cell? ⟨B + 1, 0, none⟩ = some (.int .i64 0) := s2.cell 0 rfl 0
        have f1 : w2.frozen? ⟨B + 1, 0, none⟩ = false := frozen_of_heap (s2.get 0 rfl)
        have s3 := s2.setR (fun its q => q.write 0 rfl 0 (.int .i64 out.a))
        have q1 : (w2.setCell ⟨B + 1, 0, none⟩ (.int .i64 out.a)).cell? ⟨B + 1, 0, none⟩ = some (.int .i64 out.a) := s3.cell 0 rfl 0
        have H3 := hid s3.popR.popR
        clear s2 s3 b0
        go_wp2
        refine leaves_cons (f := 64) (args := #[.pointer (some ⟨B, 0, none⟩), .pointer (some ⟨B + 1, 0, none⟩)]) (by simp) (by simp [go_sem]) ?_
        refine (pcatch_idle _ _ _).mono ?_
        rintro e u' w3 ⟨rfl, rfl, rfl⟩
        generalize w2.setCell ⟨B + 1, 0, none⟩ (.int .i64 out.a) = W9 at *
        simp [Leaves, settle, results, Tryz.results25, go_sem, q1]
        exact H3.out
      · rw [if_pos hr]
        obtain ⟨out, hout⟩ : ∃ out, out = x.fail c z (x.refuses c x.ins) := ⟨_, rfl⟩
        rw [← hout]
        have HO := hid hout
        clear hout
        go_enter_defers Tryz.func25, Tryz.ntmps25
        go_upto_region 1 with fail
        generalize (w.alloc (.cells #[.pointer (some ⟨X, 0, none⟩)] 31)).alloc (.cells #[.int .i64 0] 3) = W0 at *
        generalize w.heap.size = B at *
        have b0 : W0.cell? ⟨B, 0, none⟩ = some (.pointer (some ⟨X, 0, none⟩)) := s0.cell 1 rfl 0
        have c27 := s0.doneCell
        rw [hd] at c27
        have hq := s0.under
        rw [hu] at hq
        clear s0
        go_wp2_with fail
        refine hq.mono ?_
        rintro r w1 ⟨rfl, s1⟩
        clear hq b0 c27
        have b0 : w1.cell? ⟨B, 0, none⟩ = some (.pointer (some ⟨X, 0, none⟩)) := s1.cell 1 rfl 0
        have hq := s1.instruct_no hd hu hx hg ok hk hf hz hl hw hr
        unfold boom at hq
        clear s1
        go_wp2_with fail
        refine hq.mono ?_
        rintro r w2 ⟨rfl, s2⟩
        clear hq b0
        have hcg := pcatch_gave s2 hu hx ok hk hf hz hw hr (refuses_is x c _ hr)
        rw [← HO.out] at hcg
        clear s2
        go_wp2
        refine leaves_cons (f := 64) (args := #[.pointer (some ⟨B, 0, none⟩), .pointer (some ⟨B + 1, 0, none⟩)]) (by simp) (by simp [go_sem]) ?_
        refine hcg.mono ?_
        rintro e u' w3 ⟨rfl, rfl, s3⟩
        have q1 : w3.cell? ⟨B + 1, 0, none⟩ = some (.int .i64 out.a) := s3.cell 0 rfl 0
        have H3 := hid s3.popR.popR
        clear s3 hcg
        simp [Leaves, settle, results, Tryz.results25, go_sem, q1]
        exact H3.out
    · rw [if_pos rfl]
      obtain ⟨an, han⟩ : ∃ an, an = x.tx.ans z := ⟨_, rfl⟩
      rw [← han]
      have HA := hid han
      clear han
      go_enter_defers Tryz.func25, Tryz.ntmps25
      go_upto_region 1 with fail
      generalize (w.alloc (.cells #[.pointer (some ⟨X, 0, none⟩)] 31)).alloc (.cells #[.int .i64 0] 3) = W0 at *
      generalize w.heap.size = B at *
      have b0 : W0.cell? ⟨B, 0, none⟩ = some (.pointer (some ⟨X, 0, none⟩)) := s0.cell 1 rfl 0
      have c27 := s0.doneCell
      rw [hd] at c27
      have hq := s0.under
      rw [hu] at hq
      clear s0
      go_wp2_with fail
      refine hq.mono ?_
      rintro r w1 ⟨rfl, s1⟩
      clear hq b0 c27
      have b0 : w1.cell? ⟨B, 0, none⟩ = some (.pointer (some ⟨X, 0, none⟩)) := s1.cell 1 rfl 0
      have hq := s1.goOn hx hu ok (by omega) hz hf hw
      rw [← HA.out] at hq
      clear s1
      go_wp2_with fail
      refine hq.mono ?_
      rintro r w2 ⟨rfl, s2⟩
      clear hq
      have b1 : w2.cell? ⟨B + 1, 0, none⟩ = some (.int .i64 0) := s2.cell 0 rfl 0
      have f1 : w2.frozen? ⟨B + 1, 0, none⟩ = false := frozen_of_heap (s2.get 0 rfl)
      have s3 := s2.setR (fun its q => q.write 0 rfl 0 (.int .i64 an))
      have q1 : (w2.setCell ⟨B + 1, 0, none⟩ (.int .i64 an)).cell? ⟨B + 1, 0, none⟩ = some (.int .i64 an) := s3.cell 0 rfl 0
      have H3 := hid s3.popR.popR
      clear s2 s3 b0
      go_wp2
      refine leaves_cons (f := 64) (args := #[.pointer (some ⟨B, 0, none⟩), .pointer (some ⟨B + 1, 0, none⟩)]) (by simp) (by simp [go_sem]) ?_
      refine (pcatch_idle _ _ _).mono ?_
      rintro e u' w3 ⟨rfl, rfl, rfl⟩
      generalize w2.setCell ⟨B + 1, 0, none⟩ (.int .i64 an) = W9 at *
      simp [Leaves, settle, results, Tryz.results25, go_sem, q1]
      exact H3.out
  · rw [if_pos rfl]
    go_enter_defers Tryz.func25, Tryz.ntmps25
    go_upto_region 1 with fail
    generalize (w.alloc (.cells #[.pointer (some ⟨X, 0, none⟩)] 31)).alloc (.cells #[.int .i64 0] 3) = W0 at *
    generalize w.heap.size = B at *
    have b0 : W0.cell? ⟨B, 0, none⟩ = some (.pointer (some ⟨X, 0, none⟩)) := s0.cell 1 rfl 0
    have c27 := s0.doneCell
    rw [hd] at c27
    have b1 : W0.cell? ⟨B + 1, 0, none⟩ = some (.int .i64 0) := s0.cell 0 rfl 0
    have f1 : W0.frozen? ⟨B + 1, 0, none⟩ = false := frozen_of_heap (s0.get 0 rfl)
    have s1 := s0.setR (fun its q => q.write 0 rfl 0 (.int .i64 4))
    have q1 : (W0.setCell ⟨B + 1, 0, none⟩ (.int .i64 4)).cell? ⟨B + 1, 0, none⟩ = some (.int .i64 4) := s1.cell 0 rfl 0
    have H1 := hid s1.popR.popR
    clear s0 s1
    go_wp2
    generalize W0.setCell ⟨B + 1, 0, none⟩ (.int .i64 4) = W9 at *
    simp [bodyPostD, Leaves, settle, results, Tryz.results25, go_sem, q1]
    exact H1.out
end
end Go.Proofs.YthbcbjkgjgmegaaGreat
