/- A space of so many slots; the document's examples; seats. -/
import Derived.Test.YtpojkkdmlpjfeaaDmA
import Derived.Test.YtpojkkdmlpjfeaaLkD
import Derived.Test.YtpojkkdmlpjfeaaEq
namespace Go.Proofs.Ytpojkkdmlpjfeaa
open Go.RowKit
set_option linter.unusedVariables false
set_option linter.unusedSimpArgs false
attribute [local go_sem ↓] Go.wp_at_zero Go.wp_at_succ

def tbC (n : Int) : Cfg := ⟨1, n, 8, 1, 0, 0⟩
theorem tbC_fits {n : Int} (h : 1 ≤ n ∧ n ≤ 8) : (tbC n).fits = true := by
  simp [Cfg.fits, tbC, inR, h.1, h.2]
set_option maxRecDepth 100000 in
set_option maxHeartbeats 1000000 in
theorem lkTable {o w : World} {its : List It} (h : St o its w) (n : Int) (hf : (tbC n).fits = true) :
    Calls Try.prog 7 #[.int .i64 n] w fun e w' => ∃ A, e = .returned (.tuple #[spp A, .bool true]) ∧ St o (spI A (tbC n) (SSt.zero (tbC n)) (.slice none 0 0) (.slice none 0 0) :: its) w' := by
  have hq : Calls Try.prog 28 #[.agg #[.int .i64 1, .int .i64 n, .int .i64 8, .int .i64 1, .int .i64 0, .int .i64 0]] w _ := spNew_st h (tbC n) hf
  clear h
  go_enter Try.func7, Try.ntmps7
  go_wp2_with fail
  refine hq.mono ?_
  rintro e w2 ⟨A, rfl, s2⟩
  clear hq
  unfold spp
  have ht := spSlots s2 0 rfl
  unfold spp at ht
  have HS : Hid (St o (spI A (tbC n) (SSt.zero (tbC n)) (.slice none 0 0) (.slice none 0 0) :: its) w2) := s2
  clear s2
  go_wp2_with (go_at_call 19; refine ht.mono ?_; rintro e wq ⟨rfl, rfl⟩)
  go_ret2
  exact ⟨A, rfl, HS.out⟩

set_option maxRecDepth 100000 in
theorem neVt (a : Int) (b : Int) (c : Int) (d : Int) (w : World) : (binOp .neq 48 (.agg #[.int .i64 a, .int .i64 b, .int .i64 c, .int .i64 d]) (.agg #[.int .i64 a, .int .i64 b, .int .i64 c, .int .i64 d])).run Try.prog w = .ok (.bool false) w := by
  rw [run_neq_struct, run_equalIn_struct w 9999 48 _ _ (by kernel_rfl) (by kernel_rfl)]
  have hi0 : ∀ (x : Int) (w : World), (Op.equalIn 9999 3 (.int .i64 x) (.int .i64 x)).run Try.prog w = .ok (x == x) w := fun x w => run_equalIn_int w 9998 3 .i64 .i64 x x Try.underlying3
  have p0 : ∀ w, (part 3 #[.int .i64 a, .int .i64 b, .int .i64 c, .int .i64 d] 0).run Try.prog w = .ok (.int .i64 a) w := fun w => run_part_plain (P := Try.prog) w (by kernel_rfl) rfl
  have p1 : ∀ w, (part 3 #[.int .i64 a, .int .i64 b, .int .i64 c, .int .i64 d] 1).run Try.prog w = .ok (.int .i64 b) w := fun w => run_part_plain (P := Try.prog) w (by kernel_rfl) rfl
  have p2 : ∀ w, (part 3 #[.int .i64 a, .int .i64 b, .int .i64 c, .int .i64 d] 2).run Try.prog w = .ok (.int .i64 c) w := fun w => run_part_plain (P := Try.prog) w (by kernel_rfl) rfl
  have p3 : ∀ w, (part 3 #[.int .i64 a, .int .i64 b, .int .i64 c, .int .i64 d] 3).run Try.prog w = .ok (.int .i64 d) w := fun w => run_part_plain (P := Try.prog) w (by kernel_rfl) rfl
  simp [Program.fieldsOf, Try.underlying48, Op.eqFields, Sem.run_bind, p0, p1, p2, p3, hi0]

def upZ0 : SSt := SSt.zero (tbC 3)
def upZ1 : SSt := upZ0.op (claimOp 4) 1
def upZ2 : SSt := upZ1.op (freeOp 1) 1
def upZ3 : SSt := upZ2.op (claimOp 4) 1
def upZ4 : SSt := upZ3.put 1 0 6
def upZ5 : SSt := upZ4.op (readyOp 2 9) 1
def upZ6 : SSt := upZ5.op (claimOp 5) 2
theorem up0 : upZ0.ok (tbC 3) 0 := SSt.ok_zero (tbC 3) rfl 0
theorem up1 : upZ1.ok (tbC 3) 1 := up0.op _ _ (claim_keeps up0.hd _ _)
theorem up2 : upZ2.ok (tbC 3) 2 := up1.op _ _ (free_keeps up1.hd _ _)
theorem up3 : upZ3.ok (tbC 3) 3 := up2.op _ _ (claim_keeps up2.hd _ _)
theorem up4 : upZ4.ok (tbC 3) 4 := up3.put _ _ _
theorem up5 : upZ5.ok (tbC 3) 5 := up4.op _ _ (ready_keeps up4.hd _ _ _)
theorem up6 : upZ6.ok (tbC 3) 6 := up5.op _ _ (claim_keeps up5.hd _ _)
def upS : Nat → SSt × Lk
  | 0 => (upZ6, Lk.new ⟨2, 0⟩ 3 0)
  | j + 1 => ((upS j).1.looks (upS j).2, (upS j).2.next (upS j).1)
theorem up_ws (j : Nat) : (upS j).1.ws = [0, 0, 6, 0, 0, 0] := by
  induction j with
  | zero => rfl
  | succ j ih => exact (SSt.looks_ws _ _).trans ih
theorem up_wok (j : Nat) : WsOk (upS j).1.ws := by
  rw [up_ws]
  intro x hx
  simp only [List.mem_cons, List.not_mem_nil, or_false] at hx
  rcases hx with rfl | rfl | rfl | rfl | rfl | rfl
  all_goals first | exact ⟨0, rfl, by decide⟩ | exact ⟨6, rfl, by decide⟩
theorem up_ok (j : Nat) : (upS j).1.ok (tbC 3) (6 + j) := by
  induction j with
  | zero => exact up6
  | succ j ih => exact ih.looks _
theorem up_fit (j : Nat) : (upS j).2.fit := by
  induction j with
  | zero => exact Lk.fit_new ⟨by decide, by decide⟩ (by decide) 0
  | succ j ih => exact ih.next (up_wok j)
theorem up_facts (j : Nat) (h : j ≤ 4) : decide ((upS j).2.left = []) = decide (j = 4) ∧ (upS j).2.ans = (if j = 4 then 3 else 1) := by
  have : j = 0 ∨ j = 1 ∨ j = 2 ∨ j = 3 ∨ j = 4 := by omega
  rcases this with rfl | rfl | rfl | rfl | rfl
  all_goals exact ⟨by decide +kernel, by decide +kernel⟩
theorem up_end : (upS 4).2.vs.length = 1 ∧ (upS 4).2.vs = [⟨1, 2, 9, 4⟩] := ⟨by rfl, by rfl⟩
def upD : Dm := ⟨5, [⟨1, 2, 9, 4⟩], []⟩
theorem upD_next : upD.next (upS 4).1.hs = ⟨5, [], [⟨1, 2, 9, 4⟩]⟩ := by rfl
theorem upD_hs : nowAt ((upS 4).1.dooms upD).hs 1 = ⟨2, 2, 9, 4, true, 5⟩ := by rfl
theorem upHs : (upS 4).1.hs.length = 3 := by rfl
theorem up_all : allIn (upS 4).1.hs.length [⟨1, 2, 9, 4⟩] := by
  rw [upHs]
  intro j hj
  obtain rfl : j = 0 := by simpa using hj
  rfl

set_option maxRecDepth 100000 in
set_option maxHeartbeats 4000000 in
theorem up_any (w : World) : Calls Try.prog 6 #[] w fun e w' => e = .returned (.bool true) ∧ Kept (fun _ => False) w w' := by
  have hq := lkTable (St.nil w) 3 rfl
  go_enter Try.func6, Try.ntmps6
  go_wp2_with fail
  refine hq.mono ?_
  rintro e w1 ⟨A, rfl, s1⟩
  clear hq
  unfold spp
  have ht := spSlots s1 0 rfl
  unfold spp at ht
  have hq := spClaim s1 0 rfl up0 (by omega) 1 4
  clear s1
  go_wp2_with (go_at_call 19; refine ht.mono ?_; rintro e wq ⟨rfl, rfl⟩)
  clear ht
  refine hq.mono ?_
  rintro e w2 ⟨rfl, v2, s2⟩
  clear hq
  have hq := spFree s2 0 rfl up1 (by omega) 1 1
  clear s2
  go_wp2_with fail
  refine hq.mono ?_
  rintro e w3 ⟨rfl, v3, s3⟩
  clear hq
  have hq := spClaim s3 0 rfl up2 (by omega) 1 4
  clear s3
  go_wp2_with fail
  refine hq.mono ?_
  rintro e w4 ⟨rfl, v4, s4⟩
  clear hq
  have hq := spPut s4 0 rfl up3 (by omega) 1 0 6
  clear s4
  go_wp2_with fail
  refine hq.mono ?_
  rintro e w5 ⟨rfl, v5, s5⟩
  clear hq
  have hq := spReady s5 0 rfl up4 (by omega) 1 2 9
  clear s5
  go_wp2_with fail
  refine hq.mono ?_
  rintro e w6 ⟨rfl, v6, s6⟩
  clear hq
  have hq := spClaim s6 0 rfl up5 (by omega) 2 5
  clear s6
  go_wp2_with fail
  refine hq.mono ?_
  rintro e w7 ⟨rfl, v7, s7⟩
  clear hq
  have s8 : St w [spI A (tbC 3) (upS 0).1 v7 (.slice none 0 0)] w7 := s7
  clear s7
  have hq := lkNew_st s8 0 rfl 0 ⟨2, 0⟩ (by decide) (by decide)
  unfold spp Sg.val at hq
  clear s8
  go_wp2_with fail
  refine hq.mono ?_
  rintro e w8 ⟨K, vl, rfl, s8⟩
  clear hq
  have hq := lkNew_out s8 1 rfl 3 ⟨2, 0⟩ (by decide)
  unfold spp Sg.val at hq
  clear s8
  go_wp2_with fail
  refine hq.mono ?_
  rintro e w9 ⟨rfl, s9⟩
  clear hq
  have s0 : St w [lkI K A.t (upS 0).2 vl (.slice none 0 0) (.slice none 0 0), spI A (tbC 3) (upS 0).1 v7 (.slice none 0 0)] w9 := s9
  clear s9
  go_wp2_with fail
  go_loopw [8] (fun a wr => ∃ j v vl vd vv, a = .int .i64 (j : Nat) ∧ j ≤ 4 ∧ St w [lkI K A.t (upS j).2 vl vd vv, spI A (tbC 3) (upS j).1 v (.slice none 0 0)] wr) (fun a _ => 4 - (intOf a).toNat)
  case atStart => exact ⟨0, v7, vl, _, _, rfl, by omega, s0⟩
  case round =>
    clear s0
    obtain ⟨j, v, vl, vd, vv, rfl, hj, hS⟩ := hrel
    obtain ⟨f2, f3⟩ := up_facts j hj
    have hd := lkDone hS 0 rfl
    rw [f2] at hd
    have hj0 : (0 : Int) ≤ (j : Int) := by omega
    by_cases h5 : j = 4
    · subst h5
      rw [show decide ((4 : Nat) = 4) = true from rfl] at hd
      obtain ⟨u1, u2⟩ := up_end
      have hb := lkVictims hS 0 rfl (by rw [u1]; omega)
      rw [u2] at hb
      have hl4 : ¬ ((4 : Nat) : Int) < 4 := by omega
      clear hS
      go_wp2_with fail
      refine hb.mono ?_
      rintro e w3 ⟨v3, rfl, s3⟩
      clear hb hd f2
      obtain ⟨g, cap, rfl⟩ := s3.form 0 rfl (by simp)
      have b0 : w3.cell? ⟨g, 0, none⟩ = some (.int .i64 1) := s3.ownCell 0 rfl 0 (by simp)
      have b1 : w3.cell? ⟨g, 1, none⟩ = some (.int .i64 2) := s3.ownCell 0 rfl 1 (by simp)
      have b2 : w3.cell? ⟨g, 2, none⟩ = some (.int .i64 9) := s3.ownCell 0 rfl 2 (by simp)
      have b3 : w3.cell? ⟨g, 3, none⟩ = some (.int .i64 4) := s3.ownCell 0 rfl 3 (by simp)
      have hV : VIn w3 (some ⟨g, 0, none⟩) 1 [⟨1, 2, 9, 4⟩] := ⟨rfl, fun _ => ⟨g, 0, rfl, fun q u hu => by
        have hq4 : q < 4 := (List.getElem?_eq_some_iff.1 hu).1
        rw [Nat.zero_add, s3.ownCell 0 rfl q (by simpa using hq4)]
        exact hu⟩⟩
      have hq := dmNew_st (lc := cap) s3 2 rfl 5 (by omega) (by omega) hV (fun e => by cases e) (by omega) up_all
      unfold spp at hq
      have HC : Hid (∀ W its', St w (its' ++ [ownI 48 4 (.slice (some ⟨g, 0, none⟩) 1 cap) 1 (vtCells [⟨1, 2, 9, 4⟩])]) W → True) := fun _ _ _ => trivial
      clear s3 hV HC b0 b1 b2 b3
      simp only [List.length_cons, List.length_nil, Nat.zero_add] at *
      go_wp2_with fail
      refine hq.mono ?_
      rintro e w4 ⟨D, vdl, rfl, s4⟩
      clear hq
      have b0 : w4.cell? ⟨g, 0, none⟩ = some (.int .i64 1) := s4.ownCell 1 rfl 0 (by simp)
      have b1 : w4.cell? ⟨g, 1, none⟩ = some (.int .i64 2) := s4.ownCell 1 rfl 1 (by simp)
      have b2 : w4.cell? ⟨g, 2, none⟩ = some (.int .i64 9) := s4.ownCell 1 rfl 2 (by simp)
      have b3 : w4.cell? ⟨g, 3, none⟩ = some (.int .i64 4) := s4.ownCell 1 rfl 3 (by simp)
      have hd := lkDone s4 2 rfl
      rw [show decide ((upS 4).2.left = []) = true by decide +kernel] at hd
      have hne := neVt 1 2 9 4
      have hq := dmStep s4 3 0 (by omega) rfl rfl (up_ok 4) (by omega) (by simp)
      rw [show (⟨5, [⟨1, 2, 9, 4⟩], []⟩ : Dm).ans = 1 from rfl] at hq
      clear s4
      go_wp2_with (go_at_call 11; refine hd.mono ?_; rintro e wq ⟨rfl, rfl⟩)
      refine hq.mono ?_
      rintro e w5 ⟨rfl, v5, vl5, vv5, s5⟩
      clear hq hd b0 b1 b2 b3 hne
      have hq := spLook s5 3 rfl ((up_ok 4).dooms upD) (by omega) 1
      rw [show nowAt ((upS 4).1.dooms ⟨5, [⟨1, 2, 9, 4⟩], []⟩).hs 1 = ⟨2, 2, 9, 4, true, 5⟩ from upD_hs] at hq
      unfold Hd.val at hq
      simp only at hq
      clear s5
      go_wp2_with fail
      refine hq.mono ?_
      rintro e w6 ⟨rfl, v6, s6⟩
      clear hq
      have s7 : St w [boxI w6.heap.size #[.int .i64 2, .int .i64 2, .int .i64 9, .int .i64 4, .bool true, .int .i64 5] 44, dmI D A.t ⟨5, [], [⟨1, 2, 9, 4⟩]⟩ vl5 vv5, ownI 48 4 (.slice (some ⟨g, 0, none⟩) 1 cap) 1 (vtCells [⟨1, 2, 9, 4⟩]), lkI K A.t (upS 4).2 vl vd vv, spI A (tbC 3) (((upS 4).1.dooms upD).look 1) v6 (.slice none 0 0)] (w6.alloc (.cells #[.int .i64 2, .int .i64 2, .int .i64 9, .int .i64 4, .bool true, .int .i64 5] 44)) := s6.box _ _
      clear s6
      go_upto_region 26 with fail
      generalize w6.alloc (.cells #[.int .i64 2, .int .i64 2, .int .i64 9, .int .i64 4, .bool true, .int .i64 5] 44) = w7 at *
      generalize w6.heap.size = M at *
      have hd := dmDone s7 1 rfl
      rw [show decide ((⟨5, [], [⟨1, 2, 9, 4⟩]⟩ : Dm).left = []) = true from rfl] at hd
      have hq := dmDoomed s7 1 rfl (by simp)
      clear s7
      go_wp2_with (go_at_call 16; refine hd.mono ?_; rintro e wq ⟨rfl, rfl⟩)
      refine hq.mono ?_
      rintro e w8 ⟨v8, rfl, s8⟩
      clear hq hd
      obtain ⟨g8, cap8, rfl⟩ := s8.form 0 rfl (by simp)
      have m4 : w8.cell? ⟨M, 4, none⟩ = some (.bool true) := s8.cell 1 rfl 4
      have m5 : w8.cell? ⟨M, 5, none⟩ = some (.int .i64 5) := s8.cell 1 rfl 5
      have hq := dmStep s8 5 2 (by omega) rfl rfl (((up_ok 4).dooms upD).look 1) (by omega) (by simp)
      rw [show (⟨5, [], [⟨1, 2, 9, 4⟩]⟩ : Dm).ans = 3 from rfl] at hq
      simp only [List.length_cons, List.length_nil, Nat.zero_add] at *
      clear s8
      go_wp2_with fail
      refine hq.mono ?_
      rintro e w9 ⟨rfl, v9, vl9, vv9, s9⟩
      have HK : Hid (Kept (fun _ => False) w w9) := s9.same
      clear hq s9
      go_wp2
      go_ret
      exact ⟨rfl, HK.out⟩
    · as_aux_lemma =>
        rw [show decide (j = 4) = false from by simpa using h5] at hd
        have hq := lkStep hS 1 0 (by omega) rfl rfl (up_ok j) (by omega) (up_fit j) (up_wok j)
        rw [f3, if_neg h5] at hq
        have hl4 : (j : Int) < 4 := by omega
        clear hS f2 f3
        go_wp2_with (go_at_call 11; refine hd.mono ?_; rintro e wq ⟨rfl, rfl⟩)
        refine hq.mono ?_
        rintro e w6 ⟨rfl, v6, vl6, vd6, vv6, s6⟩
        have H6 : Hid (St w [lkI K A.t (upS (j + 1)).2 vl6 vd6 vv6, spI A (tbC 3) (upS (j + 1)).1 v6 (.slice none 0 0)] w6) := s6
        clear hq hd s6
        go_wp2
        go_roundw
        case rel => exact ⟨j + 1, v6, vl6, vd6, vv6, by go_num, by omega, H6.out⟩
        case measure => simp [intOf]; omega
end Go.Proofs.Ytpojkkdmlpjfeaa
