/- The law ReadDoomed, step by step. -/
import Derived.Test.YtajfjkhbimehbaaUp
namespace Go.Proofs.Ytajfjkhbimehbaa
open Go.RowKit
set_option linter.unusedVariables false
set_option linter.unusedSimpArgs false
attribute [local go_sem ↓] Go.wp_at_zero Go.wp_at_succ

theorem Rd.fit_new {sl gn sn : Int} {sg : Sg} {ce : Int} {bi : Sg} (h1 : sg.ok) (h2 : bi.ok) : (Rd.new sl gn sn sg ce bi).fit := Rd.fit_on (r := ⟨sl, gn, sn, sg, ce, bi, 0, 0, 4⟩) h1 h2
/-- What others do to the attempt. -/
def spoil (h : Nat) (z : SSt) : SSt := if h = 0 then z.op (doomOp 1 3) 0 else if h = 1 then z.op (freeOp 1) 0 else if h = 2 then ((z.op (freeOp 1) 0).op (claimOp 4) 0).op (readyOp 2 9) 0 else z
/-- The space, the read, and whether it is spoilt, behind j rounds. -/
def dS (c a h : Nat) : Nat → SSt × Rd × Bool
  | 0 => ((rdZ 16 128).fill [1, 2, 3, 4, 5, 6, 7, 8], Rd.new 0 1 1 Sg.zero c (bitsOf 128 c), false)
  | j + 1 => if (dS c a h j).2.1.st = 4 then dS c a h j else ((if j = a then spoil h (dS c a h j).1 else (dS c a h j).1).reads (dS c a h j).2.1, (dS c a h j).2.1.next (if j = a then spoil h (dS c a h j).1 else (dS c a h j).1), if j = a then decide (h ≠ 3) else (dS c a h j).2.2)
theorem spoil_ok {z : SSt} {c : Cfg} {k : Nat} (h : Nat) (ok : z.ok c k) : (spoil h z).ok c (k + 3) := by
  unfold spoil
  have h1 := ok.op (freeOp 1) 0 (free_keeps ok.hd _ _)
  have h2 := h1.op (claimOp 4) 0 (claim_keeps h1.hd _ _)
  split
  · exact (ok.op (doomOp 1 3) 0 (doom_keeps ok.hd _ _ _)).more (by omega)
  · split
    · exact h1.more (by omega)
    · split
      · exact h2.op (readyOp 2 9) 0 (ready_keeps h2.hd _ _ _)
      · exact ok.more (by omega)
theorem dS_next (c a h j : Nat) (h4 : ¬ (dS c a h j).2.1.st = 4) : dS c a h (j + 1) = ((if j = a then spoil h (dS c a h j).1 else (dS c a h j).1).reads (dS c a h j).2.1, (dS c a h j).2.1.next (if j = a then spoil h (dS c a h j).1 else (dS c a h j).1), if j = a then decide (h ≠ 3) else (dS c a h j).2.2) := by
  rw [dS, if_neg h4]
theorem dS_same (c a h j : Nat) (h4 : (dS c a h j).2.1.st = 4) : dS c a h (j + 1) = dS c a h j := by
  rw [dS, if_pos h4]
theorem dS_zero (c a h : Nat) : dS c a h 0 = ((rdZ 16 128).fill [1, 2, 3, 4, 5, 6, 7, 8], Rd.new 0 1 1 Sg.zero c (bitsOf 128 c), false) := by rw [dS]
theorem dS_ok (c a h j : Nat) : (dS c a h j).1.ok (rdC 16 128) (3 + 4 * j) := by
  induction j with
  | zero =>
    rw [dS_zero]
    exact (rdZ_ok (n := 16) (b := 128) rfl).fill _
  | succ j ih =>
    by_cases h4 : (dS c a h j).2.1.st = 4
    · rw [dS_same c a h j h4]
      exact ih.more (by omega)
    · rw [dS_next c a h j h4]
      have h2 : (if j = a then spoil h (dS c a h j).1 else (dS c a h j).1).ok (rdC 16 128) (3 + 4 * j + 3) := by
        split
        · exact spoil_ok h ih
        · exact ih.more (by omega)
      exact h2.reads _
theorem dS_fit (c a h j : Nat) : (dS c a h j).2.1.fit := by
  induction j with
  | zero =>
    rw [dS_zero]
    exact Rd.fit_new Sg.ok_zero (bitsOf_ok _ _)
  | succ j ih =>
    by_cases h4 : (dS c a h j).2.1.st = 4
    · rw [dS_same c a h j h4]
      exact ih
    · rw [dS_next c a h j h4]
      exact ih.next _
/-- What is to be seen when it is done, and that it is done behind seven rounds. -/
def dGood (c a h j : Nat) : Bool :=
  let s := dS c a h j
  if s.2.1.st = 4 then decide (3 ≤ j) && (if s.2.2 then s.2.1.valX == 0 && s.2.1.e == 7 else s.2.1.valX == (1 + c : Nat) && s.2.1.e == 0) else decide (j < 7)
set_option maxRecDepth 100000 in
theorem d_good : ∀ c, c < 8 → ∀ a, a < 8 → ∀ h, h < 4 → ∀ j, j < 8 → dGood c a h j = true := by decide +kernel

set_option maxRecDepth 100000 in
set_option maxHeartbeats 4000000 in
theorem doomed_walk (cell when how : Int) (w : World) :
    Calls Try.prog 7 #[.int .i64 cell, .int .i64 when, .int .i64 how] w fun e w' => e = .returned (.bool true) ∧ Kept (fun _ => False) w w' := by
  obtain ⟨c, hc, c8⟩ : ∃ n : Nat, bits .and .i64 cell 7 = (n : Int) ∧ n < 8 := ⟨(cell % 8).toNat, by rw [and7]; omega, by omega⟩
  obtain ⟨a, ha, a8⟩ : ∃ n : Nat, bits .and .i64 when 7 = (n : Int) ∧ n < 8 := ⟨(when % 8).toNat, by rw [and7]; omega, by omega⟩
  obtain ⟨h, hh, h4⟩ : ∃ n : Nat, bits .and .i64 how 3 = (n : Int) ∧ n < 4 := ⟨(how % 4).toNat, by rw [and3]; omega, by omega⟩
  have HG : Hid (∀ j, j < 8 → dGood c a h j = true) := d_good c c8 a a8 h h4
  have c0 : (0 : Int) ≤ (c : Int) := by omega
  have c9 : (c : Int) < 8 := by omega
  go_enter Try.func7, Try.ntmps7
  go_wp2_with fail
  refine (up_any _).mono ?_
  rintro e w1 ⟨rfl, k1⟩
  have hq := reader_st ((St.nil w).calm k1) 16 128 rfl
  clear k1
  go_wp2_with fail
  refine hq.mono ?_
  rintro e w2 ⟨A, v2, rfl, s2⟩
  clear hq
  unfold spp
  have s3 := s2.box #[.int .i64 1, .int .i64 2, .int .i64 3, .int .i64 4, .int .i64 5, .int .i64 6, .int .i64 7, .int .i64 8] 2
  have hN : NumsIn (w2.alloc (.cells #[.int .i64 1, .int .i64 2, .int .i64 3, .int .i64 4, .int .i64 5, .int .i64 6, .int .i64 7, .int .i64 8] 2)) (some ⟨w2.heap.size, 0, none⟩) 8 [1, 2, 3, 4, 5, 6, 7, 8] := ⟨rfl, fun _ => ⟨_, 0, rfl, fun j hj => by
    rw [Nat.zero_add, s3.cell 0 rfl j]
    rcases (show j = 0 ∨ j = 1 ∨ j = 2 ∨ j = 3 ∨ j = 4 ∨ j = 5 ∨ j = 6 ∨ j = 7 by omega) with rfl | rfl | rfl | rfl | rfl | rfl | rfl | rfl <;> rfl⟩⟩
  have hq := spFill s3 1 rfl (rdZ_ok (n := 16) (b := 128) rfl) (by omega) (lc := 8) hN (by omega)
  unfold spp at hq
  clear s2 s3 hN
  go_wp2_with fail
  refine hq.mono ?_
  rintro e w3 ⟨rfl, s4⟩
  have s5 : St w [spI A (rdC 16 128) (dS c a h 0).1 v2 (.slice none 0 0)] w3 := by
    rw [dS_zero]
    exact s4.pop
  clear hq s4
  have hq := rdNew_st s5 0 rfl 0 1 1 Sg.zero c Sg.ok_zero (show inN 16 (c : Int) = true from by unfold inN; rw [decide_eq_true (by omega : (0 : Int) ≤ c), decide_eq_true (by omega : (c : Int) < 16)]; rfl) rfl
  unfold spp at hq
  clear s5
  go_wp2_with (simp only [hc])
  refine hq.mono ?_
  rintro e w4 ⟨K, rfl, s6⟩
  have s4 : St w [rdI K A.sp (dS c a h 0).2.1, spI A (rdC 16 128) (dS c a h 0).1 v2 (.slice none 0 0)] w4 := by
    have h0 : (dS c a h 0).2.1 = Rd.new 0 1 1 Sg.zero c (bitsOf 128 c) := by rw [dS_zero]
    rw [h0]
    exact s6
  clear hq s6
  go_wp2_with (simp only [ha])
  go_loopw [12, 14, 15] (fun x y z wr => ∃ j v, x = .int .i64 (j : Nat) ∧ y = .bool (dS c a h j).2.2 ∧ z = .int .i64 (j : Nat) ∧ j ≤ 7 ∧ St w [rdI K A.sp (dS c a h j).2.1, spI A (rdC 16 128) (dS c a h j).1 v (.slice none 0 0)] wr) (fun x _ _ _ => 7 - (intOf x).toNat)
  case atStart => exact ⟨0, v2, rfl, by rw [dS_zero], rfl, by omega, s4⟩
  case round =>
    clear s4
    obtain ⟨j, v, rfl, rfl, rfl, hj, hS⟩ := hrel
    have hg := HG.out j (by omega)
    have hd := rdDone hS 0 rfl (dS_fit c a h j).st
    have hj0 : (0 : Int) ≤ (j : Int) := by omega
    have hj12 : (j : Int) < 12 := by omega
    by_cases h5 : (dS c a h j).2.1.st = 4
    · rw [show ((dS c a h j).2.1.st == 4) = true from by simpa using h5] at hd
      unfold dGood at hg
      simp only [h5, if_true, Bool.and_eq_true, decide_eq_true_eq] at hg
      obtain ⟨hj3, hg⟩ := hg
      have hj3' : ¬ (j : Int) < 3 := by omega
      have hb := rdValue hS 0 rfl
      cases hsp : (dS c a h j).2.2 with
      | true =>
        as_aux_lemma =>
          rw [hsp] at hg
          simp only [if_true, Bool.and_eq_true, beq_iff_eq] at hg
          rw [hg.1, hg.2] at hb
          go_wp2_with (go_at_call 14; refine hd.mono ?_; rintro e wq ⟨rfl, rfl⟩)
          refine hb.mono ?_
          rintro e w6 ⟨rfl, q, rfl⟩
          have s6 := hS.calm ((Kept.refl _ _).drewN q)
          have hd := rdDone s6 0 rfl (dS_fit c a h j).st
          rw [show ((dS c a h j).2.1.st == 4) = true from by simpa using h5] at hd
          have HK : Hid (Kept (fun _ => False) w _) := s6.same
          clear hS hb s6 hg
          generalize wq.drewN q = w6 at *
          go_wp2_with (go_at_call 14; refine hd.mono ?_; rintro e wq ⟨rfl, rfl⟩)
          go_ret
          exact ⟨rfl, HK.out⟩
      | false =>
        as_aux_lemma =>
          rw [hsp] at hg
          simp only [Bool.false_eq_true, if_false, Bool.and_eq_true, beq_iff_eq] at hg
          rw [hg.1, hg.2] at hb
          go_wp2_with (go_at_call 14; refine hd.mono ?_; rintro e wq ⟨rfl, rfl⟩)
          refine hb.mono ?_
          rintro e w6 ⟨rfl, q, rfl⟩
          have s6 := hS.calm ((Kept.refl _ _).drewN q)
          have hd := rdDone s6 0 rfl (dS_fit c a h j).st
          rw [show ((dS c a h j).2.1.st == 4) = true from by simpa using h5] at hd
          have HK : Hid (Kept (fun _ => False) w _) := s6.same
          have hcc : (((1 + c : Nat) : Int) == 1 + (c : Int)) = true := by simp
          clear hS hb s6 hg
          generalize wq.drewN q = w6 at *
          go_wp2_with (first | (go_at_call 14; refine hd.mono ?_; rintro e wq ⟨rfl, rfl⟩) | simp only [hc])
          go_ret
          exact ⟨by simp, HK.out⟩
    · rw [show ((dS c a h j).2.1.st == 4) = false from by simpa using h5] at hd
      have hj7 : j < 7 := by
        unfold dGood at hg
        simp only [h5, if_false, decide_eq_true_eq] at hg
        exact hg
      have ok := dS_ok c a h j
      have HF := dS_fit c a h j
      have HN := dS_next c a h j h5
      generalize (dS c a h j).1 = z at *
      generalize (dS c a h j).2.1 = r at *
      generalize (dS c a h j).2.2 = sp at *
      clear hg h5
      by_cases hja : j = a
      · subst hja
        rw [if_pos rfl, if_pos rfl] at HN
        have hjj : ((j : Int) == (j : Int)) = true := by simp
        rcases (show h = 0 ∨ h = 1 ∨ h = 2 ∨ h = 3 by omega) with rfl | rfl | rfl | rfl
        · as_aux_lemma =>
            have HR : Hid ((dS c j 0 (j + 1)).1 = (spoil 0 z).reads r ∧ (dS c j 0 (j + 1)).2.1 = r.next (spoil 0 z) ∧ (dS c j 0 (j + 1)).2.2 = true) := by rw [HN]; exact ⟨rfl, rfl, rfl⟩
            clear HN
            replace hh : bits .and .i64 how 3 = 0 := hh
            have ht := spSlots hS 1 rfl
            unfold spp at ht
            have hc1 := spDoom hS 1 rfl ok (by omega) 0 1 3
            go_wp2_with (first | (go_at_call 14; refine hd.mono ?_; rintro e wq ⟨rfl, rfl⟩) | (go_at_call 28; refine ht.mono ?_; rintro e wq ⟨rfl, rfl⟩) | simp only [hh])
            refine hc1.mono ?_
            rintro e wx ⟨rfl, vx, t1⟩
            clear hc1 ht hd
            have okt1 := ok.op (doomOp 1 3) 0 (doom_keeps ok.hd _ _ _)
            have hq := rdStep t1 1 0 (by omega) rfl rfl okt1 (by omega) HF
            clear t1
            generalize hA : r.ans _ = an at hq
            clear hA
            go_wp2_with fail
            refine hq.mono ?_
            rintro e w9 ⟨rfl, v9, s9⟩
            have H9 : Hid _ := s9
            clear hq s9
            go_wp2
            go_roundw
            case rel => exact ⟨j + 1, v9, by go_num, by rw [HR.out.2.2], by go_num, by omega, by rw [HR.out.1, HR.out.2.1]; exact H9.out⟩
            case measure => simp [intOf]; omega
        · as_aux_lemma =>
            have HR : Hid ((dS c j 1 (j + 1)).1 = (spoil 1 z).reads r ∧ (dS c j 1 (j + 1)).2.1 = r.next (spoil 1 z) ∧ (dS c j 1 (j + 1)).2.2 = true) := by rw [HN]; exact ⟨rfl, rfl, rfl⟩
            clear HN
            replace hh : bits .and .i64 how 3 = 1 := hh
            have ht := spSlots hS 1 rfl
            unfold spp at ht
            have hc1 := spFree hS 1 rfl ok (by omega) 0 1
            go_wp2_with (first | (go_at_call 14; refine hd.mono ?_; rintro e wq ⟨rfl, rfl⟩) | (go_at_call 28; refine ht.mono ?_; rintro e wq ⟨rfl, rfl⟩) | simp only [hh])
            refine hc1.mono ?_
            rintro e wx ⟨rfl, vx, t2⟩
            clear hc1 ht hd
            have okt2 := ok.op (freeOp 1) 0 (free_keeps ok.hd _ _)
            have hq := rdStep t2 1 0 (by omega) rfl rfl okt2 (by omega) HF
            clear t2
            generalize hA : r.ans _ = an at hq
            clear hA
            go_wp2_with fail
            refine hq.mono ?_
            rintro e w9 ⟨rfl, v9, s9⟩
            have H9 : Hid _ := s9
            clear hq s9
            go_wp2
            go_roundw
            case rel => exact ⟨j + 1, v9, by go_num, by rw [HR.out.2.2], by go_num, by omega, by rw [HR.out.1, HR.out.2.1]; exact H9.out⟩
            case measure => simp [intOf]; omega
        · as_aux_lemma =>
            have HR : Hid ((dS c j 2 (j + 1)).1 = (spoil 2 z).reads r ∧ (dS c j 2 (j + 1)).2.1 = r.next (spoil 2 z) ∧ (dS c j 2 (j + 1)).2.2 = true) := by rw [HN]; exact ⟨rfl, rfl, rfl⟩
            clear HN
            replace hh : bits .and .i64 how 3 = 2 := hh
            have ht := spSlots hS 1 rfl
            unfold spp at ht
            have hc1 := spFree hS 1 rfl ok (by omega) 0 1
            go_wp2_with (first | (go_at_call 14; refine hd.mono ?_; rintro e wq ⟨rfl, rfl⟩) | (go_at_call 28; refine ht.mono ?_; rintro e wq ⟨rfl, rfl⟩) | simp only [hh])
            refine hc1.mono ?_
            rintro e wx ⟨rfl, vx, t3⟩
            clear hc1 ht hd
            have okt3 := ok.op (freeOp 1) 0 (free_keeps ok.hd _ _)
            have ht := spSlots t3 1 rfl
            unfold spp at ht
            have hc1 := spClaim t3 1 rfl okt3 (by omega) 0 4
            go_wp2_with (first | (go_at_call 28; refine ht.mono ?_; rintro e wq ⟨rfl, rfl⟩))
            refine hc1.mono ?_
            rintro e wx ⟨rfl, vx, t4⟩
            clear hc1 ht
            have okt4 := okt3.op (claimOp 4) 0 (claim_keeps okt3.hd _ _)
            have ht := spSlots t4 1 rfl
            unfold spp at ht
            have hc1 := spReady t4 1 rfl okt4 (by omega) 0 2 9
            go_wp2_with (first | (go_at_call 28; refine ht.mono ?_; rintro e wq ⟨rfl, rfl⟩))
            refine hc1.mono ?_
            rintro e wx ⟨rfl, vx, t5⟩
            clear hc1 ht
            have okt5 := okt4.op (readyOp 2 9) 0 (ready_keeps okt4.hd _ _ _)
            have hq := rdStep t5 1 0 (by omega) rfl rfl okt5 (by omega) HF
            clear t5
            generalize hA : r.ans _ = an at hq
            clear hA
            go_wp2_with fail
            refine hq.mono ?_
            rintro e w9 ⟨rfl, v9, s9⟩
            have H9 : Hid _ := s9
            clear hq s9
            go_wp2
            go_roundw
            case rel => exact ⟨j + 1, v9, by go_num, by rw [HR.out.2.2], by go_num, by omega, by rw [HR.out.1, HR.out.2.1]; exact H9.out⟩
            case measure => simp [intOf]; omega
        · as_aux_lemma =>
            have HR : Hid ((dS c j 3 (j + 1)).1 = (spoil 3 z).reads r ∧ (dS c j 3 (j + 1)).2.1 = r.next (spoil 3 z) ∧ (dS c j 3 (j + 1)).2.2 = false) := by rw [HN]; exact ⟨rfl, rfl, rfl⟩
            clear HN
            replace hh : bits .and .i64 how 3 = 3 := hh
            have hq := rdStep hS 1 0 (by omega) rfl rfl ok (by omega) HF
            clear hS
            generalize hA : r.ans _ = an at hq
            clear hA
            go_wp2_with (first | (go_at_call 14; refine hd.mono ?_; rintro e wq ⟨rfl, rfl⟩) | simp only [hh])
            refine hq.mono ?_
            rintro e w9 ⟨rfl, v9, s9⟩
            have H9 : Hid _ := s9
            clear hq s9
            go_wp2
            go_roundw
            case rel => exact ⟨j + 1, v9, by go_num, by rw [HR.out.2.2], by go_num, by omega, by rw [HR.out.1, HR.out.2.1]; exact H9.out⟩
            case measure => simp [intOf]; omega
      · as_aux_lemma =>
          rw [if_neg hja, if_neg hja] at HN
          have hjj : ((j : Int) == (a : Int)) = false := by simp; omega
          have HR : Hid ((dS c a h (j + 1)).1 = z.reads r ∧ (dS c a h (j + 1)).2.1 = r.next z ∧ (dS c a h (j + 1)).2.2 = sp) := by rw [HN]; exact ⟨rfl, rfl, rfl⟩
          clear HN
          have hq := rdStep hS 1 0 (by omega) rfl rfl ok (by omega) HF
          clear hS
          generalize hA : r.ans _ = an at hq
          clear hA
          go_wp2_with (go_at_call 14; refine hd.mono ?_; rintro e wq ⟨rfl, rfl⟩)
          refine hq.mono ?_
          rintro e w9 ⟨rfl, v9, s9⟩
          have H9 : Hid _ := s9
          clear hq s9
          go_wp2
          go_roundw
          case rel => exact ⟨j + 1, v9, by go_num, by rw [HR.out.2.2], by go_num, by omega, by rw [HR.out.1, HR.out.2.1]; exact H9.out⟩
          case measure => simp [intOf]; omega
end Go.Proofs.Ytajfjkhbimehbaa
