/- The document's first example of a begin. -/
import Derived.Test.YtpjhljfcoejndaaBg
import Derived.Test.YtpjhljfcoejndaaSpB
namespace Go.Proofs.Ytpjhljfcoejndaa
open Go.RowKit
set_option linter.unusedVariables false
set_option linter.unusedSimpArgs false
attribute [local go_sem ↓] Go.wp_at_zero Go.wp_at_succ

def smallC (n : Int) : Cfg := ⟨1, n, 8, 1, 0, 0⟩
theorem small_any (n : Int) (w : World) : Calls Try.prog 8 #[.int .i64 n] w fun e w' => e = .returned (.agg #[.int .i64 1, .int .i64 n, .int .i64 8, .int .i64 1, .int .i64 0, .int .i64 0]) ∧ Kept (fun _ => False) w w' := by
  have h := (St.nil w).box #[.int .i64 0, .int .i64 0, .int .i64 0, .int .i64 0, .int .i64 0, .int .i64 0] 29
  go_enter Try.func8, Try.ntmps8
  go_upto_region 1 with fail
  generalize w.alloc (.cells #[.int .i64 0, .int .i64 0, .int .i64 0, .int .i64 0, .int .i64 0, .int .i64 0] 29) = W0 at *
  generalize hB : w.heap.size = B at *
  have b0 : W0.cell? ⟨B, 0, none⟩ = some (.int .i64 0) := h.cell 0 rfl 0
  have b1 : W0.cell? ⟨B, 1, none⟩ = some (.int .i64 0) := h.cell 0 rfl 1
  have b2 : W0.cell? ⟨B, 2, none⟩ = some (.int .i64 0) := h.cell 0 rfl 2
  have b3 : W0.cell? ⟨B, 3, none⟩ = some (.int .i64 0) := h.cell 0 rfl 3
  have b4 : W0.cell? ⟨B, 4, none⟩ = some (.int .i64 0) := h.cell 0 rfl 4
  have b5 : W0.cell? ⟨B, 5, none⟩ = some (.int .i64 0) := h.cell 0 rfl 5
  have f0 : W0.frozen? ⟨B, 0, none⟩ = false := h.frozen 0 rfl 0
  have f1 : W0.frozen? ⟨B, 1, none⟩ = false := h.frozen 0 rfl 1
  have f2 : W0.frozen? ⟨B, 2, none⟩ = false := h.frozen 0 rfl 2
  have f3 : W0.frozen? ⟨B, 3, none⟩ = false := h.frozen 0 rfl 3
  have f4 : W0.frozen? ⟨B, 4, none⟩ = false := h.frozen 0 rfl 4
  have f5 : W0.frozen? ⟨B, 5, none⟩ = false := h.frozen 0 rfl 5
  have HS : Hid (∀ u0 u1 u2 u3 u4 u5, Kept (fun _ => False) w ((((((W0.setCell ⟨B, 0, none⟩ u0).setCell ⟨B, 1, none⟩ u1).setCell ⟨B, 2, none⟩ u2).setCell ⟨B, 3, none⟩ u3).setCell ⟨B, 4, none⟩ u4).setCell ⟨B, 5, none⟩ u5)) := fun u0 u1 u2 u3 u4 u5 => ((((((h.write 0 rfl 0 u0).write 0 rfl 1 u1).write 0 rfl 2 u2).write 0 rfl 3 u3).write 0 rfl 4 u4).write 0 rfl 5 u5).same
  clear h hB
  go_wp2
  exact bodyPost_ret (v := .agg #[.int .i64 1, .int .i64 n, .int .i64 8, .int .i64 1, .int .i64 0, .int .i64 0]) (by simp [results, Try.results8, go_sem, b0, b1, b2, b3, b4, b5]) rfl ⟨rfl, HS.out _ _ _ _ _ _⟩

/-- The example's states. -/
def upZ0 : SSt := (SSt.zero (smallC 2)).op (claimOp 5) 0
def upS : Nat → SSt × Bg
  | 0 => (upZ0, Bg.new 3 7)
  | j + 1 => ((upS j).1.goes (upS j).2, (upS j).2.next (upS j).1)
theorem SSt.ok.goes {z : SSt} {c : Cfg} {k : Nat} (h : z.ok c k) (b : Bg) : (z.goes b).ok c (k + 1) := by
  unfold SSt.goes
  split
  · exact h.op _ _ (claim_keeps h.hd _ _)
  · split
    · exact h.put _ _ _
    · split
      · exact h.op _ _ (ready_keeps h.hd _ _ _)
      · exact h.more (Nat.le_succ _)
theorem up_ok (j : Nat) : (upS j).1.ok (smallC 2) (j + 1) := by
  induction j with
  | zero => exact (SSt.ok_zero (smallC 2) rfl 0).op _ _ (claim_keeps (HsOk.rep _ _) _ _)
  | succ j ih => exact ih.goes _
theorem up_facts (j : Nat) (h : j ≤ 5) : (upS j).2.fine ∧ ((upS j).2.st == 3) = decide (j = 5) ∧ (upS j).2.ans = (if j = 5 then 3 else 1) := by
  have : j = 0 ∨ j = 1 ∨ j = 2 ∨ j = 3 ∨ j = 4 ∨ j = 5 := by omega
  rcases this with rfl | rfl | rfl | rfl | rfl | rfl
  all_goals exact ⟨⟨by decide, by decide, by decide, by decide⟩, by decide, by decide⟩

set_option maxRecDepth 100000 in
set_option maxHeartbeats 4000000 in
theorem up_any (w : World) : Calls Try.prog 6 #[] w fun e w' => e = .returned (.bool true) ∧ Kept (fun _ => False) w w' := by
  go_enter Try.func6, Try.ntmps6
  go_wp2_with fail
  refine (small_any 2 _).mono ?_
  rintro e w1 ⟨rfl, k1⟩
  have s1 := (St.nil w).calm k1
  clear k1
  have hq : Calls Try.prog 7 #[.agg #[.int .i64 1, .int .i64 2, .int .i64 8, .int .i64 1, .int .i64 0, .int .i64 0]] w1 _ := spNew_st s1 (smallC 2) rfl
  clear s1
  go_wp2_with fail
  refine hq.mono ?_
  rintro e w2 ⟨A, rfl, s2⟩
  clear hq
  unfold spp
  have ht := spSlots s2 0 rfl
  unfold spp at ht
  have hq := spClaim s2 0 rfl (SSt.ok_zero (smallC 2) rfl 0) (by omega) 0 5
  clear s2
  go_wp2_with (go_at_call 9; refine ht.mono ?_; rintro e wq ⟨rfl, rfl⟩)
  refine hq.mono ?_
  rintro e w3 ⟨rfl, v3, s3'⟩
  have s3 : St w [spI A (smallC 2) upZ0 v3 (.slice none 0 0)] w3 := s3'
  clear hq ht s3'
  have hq := bgNew_st s3 0 rfl 3 7 (by omega)
  unfold spp at hq
  clear s3
  go_wp2_with fail
  refine hq.mono ?_
  rintro e w4 ⟨K, rfl, s4⟩
  clear hq
  have hq := bgNew_out (.pointer (some ⟨A.sp, 0, none⟩)) 9 7 (by omega) w4
  go_wp2_with fail
  refine hq.mono ?_
  rintro e w5 ⟨rfl, rfl⟩
  clear hq
  go_wp2
  go_loopw [7, 8] (fun a b wr => ∃ j v, a = .int .i64 (j : Nat) ∧ b = .int .i64 (j : Nat) ∧ j ≤ 5 ∧ St w [bgI K A.t (upS j).2, spI A (smallC 2) (upS j).1 v (.slice none 0 0)] wr) (fun a _ _ => 5 - (intOf a).toNat)
  case atStart => exact ⟨0, v3, rfl, rfl, by omega, s4⟩
  case round =>
    clear s4
    obtain ⟨j, v, rfl, rfl, hj, hS⟩ := hrel
    obtain ⟨f1, f2, f3⟩ := up_facts j hj
    have hd := bgDone hS 0 rfl
    rw [f2] at hd
    have hj9 : (j : Int) < 9 := by omega
    have hj0 : (0 : Int) ≤ (j : Int) := by omega
    by_cases h5 : j = 5
    · subst h5
      rw [show decide ((5 : Nat) = 5) = true from rfl] at hd
      have hb := bgSlot hS 0 rfl
      rw [show (upS 5).2.slotA = 1 from by decide, show (upS 5).2.slotB = 1 from by decide, show (upS 5).2.slotE = 0 from by decide] at hb
      go_wp2_with (go_at_call 12; refine hd.mono ?_; rintro e wq ⟨rfl, rfl⟩)
      refine hb.mono ?_
      rintro e w6 ⟨rfl, q, rfl⟩
      have s6 := hS.calm ((Kept.refl _ _).drewN q)
      clear hS hd hb f2
      have m0 : World.cell? _ ⟨A.sp, 0, none⟩ = some (.pointer (some ⟨A.m, 0, none⟩)) := spCell s6 1 rfl 0
      have hq := spLog s6 1 rfl (up_ok 5) (by omega)
      go_wp2_with fail
      refine hq.mono ?_
      rintro e w7 ⟨vl, rfl, s7⟩
      clear hq m0 s6
      have o7 : w7.ownsRow 0 80 6 vl 6 (logCells (upS 5).1.s.l) := s7.get 0 rfl
      obtain ⟨p, cl, rfl, _, _⟩ := o7.form (by simp)
      have l2 : w7.cell? ⟨p, 20, none⟩ = some (.int .i64 4) := (o7.cellAt 20 (by omega)).trans (by rfl)
      have l3 : w7.cell? ⟨p, 21, none⟩ = some (.int .i64 2) := (o7.cellAt 21 (by omega)).trans (by rfl)
      have hq : Calls Try.prog 16 #[.pointer (some ⟨K, 0, none⟩)] w7 fun e w' => e = .returned (.int .i64 3) ∧ w'.cell? ⟨p, 20, none⟩ = some (.int .i64 4) ∧ w'.cell? ⟨p, 21, none⟩ = some (.int .i64 2) ∧ Hid (Kept (fun _ => False) w w') := by
        refine (bgStep s7 2 1 (by omega) rfl rfl (up_ok 5) (by omega) f1).mono ?_
        rintro e w' ⟨he, v', h'⟩
        have o8 : w'.ownsRow 0 80 6 (.slice (some ⟨p, 0, none⟩) 6 cl) 6 (logCells (upS 5).1.s.l) := h'.get 0 rfl
        exact ⟨he, (o8.cellAt 20 (by omega)).trans (by rfl), (o8.cellAt 21 (by omega)).trans (by rfl), h'.same⟩
      clear s7 o7 f1 f3
      go_wp2_with (go_at_call 16; refine hq.mono ?_; rintro e w8 ⟨rfl, d2, d3, HK⟩)
      go_ret
      exact ⟨rfl, HK.out⟩
    · rw [show decide (j = 5) = false from by simpa using h5] at hd
      rw [if_neg h5] at f3
      have hq : Calls Try.prog 16 #[.pointer (some ⟨K, 0, none⟩)] wr fun e w' => e = .returned (.int .i64 1) ∧ Hid (∃ v', St w [bgI K A.t (upS (j + 1)).2, spI A (smallC 2) (upS (j + 1)).1 v' (.slice none 0 0)] w') := by
        refine (bgStep hS 1 0 (by omega) rfl rfl (up_ok j) (by omega) f1).mono ?_
        rintro e w' ⟨he, v', h'⟩
        rw [f3] at he
        exact ⟨he, v', h'⟩
      clear hS f1 f2 f3
      go_wp2_with (go_at_call 12; refine hd.mono ?_; rintro e wq ⟨rfl, rfl⟩)
      refine hq.mono ?_
      rintro e w6 ⟨rfl, HS⟩
      clear hq hd
      go_wp2
      go_roundw
      case rel =>
        obtain ⟨v', h'⟩ := HS.out
        exact ⟨j + 1, v', by go_num, by go_num, by omega, h'⟩
      case measure => simp [intOf]; omega
end Go.Proofs.Ytpjhljfcoejndaa
