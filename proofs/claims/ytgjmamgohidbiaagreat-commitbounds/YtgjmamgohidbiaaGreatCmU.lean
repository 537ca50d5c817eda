/- Most, by code and document; a space in which thread 1 lives. -/
import Derived.Test.YtgjmamgohidbiaaGreatCmP
namespace Go.Proofs.YtgjmamgohidbiaaGreat
open Go.RowKit
set_option linter.unusedVariables false
set_option linter.unusedSimpArgs false
attribute [local go_sem ↓] Go.wp_at_zero Go.wp_at_succ

def mostV (c : Cfg) (n : Int) : Int := if c.fits = true ∧ 0 ≤ n ∧ n ≤ 16 then (c.sl - 1) * 4 + n + 3 else 0
set_option maxRecDepth 100000 in
set_option maxHeartbeats 1000000 in
theorem most_any (c : Cfg) (n : Int) (w : World) : Calls Tryz.prog 35 #[c.val, .int .i64 n] w fun e w' => e = .returned (.int .i64 (mostV c n)) ∧ Kept (fun _ => False) w w' := by
  have h0 := (St.nil w).box #[.int .i64 c.ce, .int .i64 c.sl, .int .i64 c.bi, .int .i64 c.ta, .int .i64 c.ba, .int .i64 c.de] 23
  have HC : Hid (∀ W, Calls Tryz.prog 51 #[.agg #[.int .i64 c.ce, .int .i64 c.sl, .int .i64 c.bi, .int .i64 c.ta, .int .i64 c.ba, .int .i64 c.de]] W fun e w' => e = .returned (.int .i64 (if c.fits then 0 else 1)) ∧ Kept (fun _ => False) W w') := fun W => check_any c W
  have HW : Hid (∀ W, Calls Tryz.prog 102 #[.int .i64 n, .int .i64 0, .int .i64 16] W fun e w' => e = .returned (.bool (decide (0 ≤ n) && decide (n ≤ 16))) ∧ w' = W) := fun W => cmWithin n 0 16 W
  have M1 : Hid (c.fits = false → mostV c n = 0) := fun h => by unfold mostV; rw [if_neg (by rw [h]; simp)]
  have M2 : Hid (¬ (0 ≤ n ∧ n ≤ 16) → mostV c n = 0) := fun h => by unfold mostV; rw [if_neg (fun q => h q.2)]
  have M3 : Hid (c.fits = true → 0 ≤ n → n ≤ 16 → mostV c n = (c.sl - 1) * 4 + n + 3) := fun h a b => by unfold mostV; rw [if_pos ⟨h, a, b⟩]
  have FB : Hid (c.fits = true → 1 ≤ c.sl ∧ c.sl ≤ 8) := fun h => (Cfg.fits_cells h).2.2
  generalize mostV c n = E at *
  obtain ⟨ce, sl, bi, ta, ba, de⟩ := c
  unfold Cfg.val
  simp only at *
  generalize Cfg.fits ⟨ce, sl, bi, ta, ba, de⟩ = F at *
  go_enter Tryz.func35, Tryz.ntmps35
  go_upto_region 1 with fail
  generalize w.alloc (.cells #[.int .i64 ce, .int .i64 sl, .int .i64 bi, .int .i64 ta, .int .i64 ba, .int .i64 de] 23) = W0 at *
  generalize w.heap.size = B at *
  have c0 : W0.cell? ⟨B, 0, none⟩ = some (.int .i64 ce) := h0.cell 0 rfl 0
  have c1 : W0.cell? ⟨B, 1, none⟩ = some (.int .i64 sl) := h0.cell 0 rfl 1
  have c2 : W0.cell? ⟨B, 2, none⟩ = some (.int .i64 bi) := h0.cell 0 rfl 2
  have c3 : W0.cell? ⟨B, 3, none⟩ = some (.int .i64 ta) := h0.cell 0 rfl 3
  have c4 : W0.cell? ⟨B, 4, none⟩ = some (.int .i64 ba) := h0.cell 0 rfl 4
  have c5 : W0.cell? ⟨B, 5, none⟩ = some (.int .i64 de) := h0.cell 0 rfl 5
  have hq := HC.out W0
  have HS : Hid _ := h0
  clear h0
  cases F with
  | false =>
    obtain rfl := M1.out rfl
    rw [if_neg (by simp)] at hq
    clear M1 M2 M3 HW HC FB
    go_wp2_with fail
    refine hq.mono ?_
    rintro e w1 ⟨rfl, k1⟩
    have HK : Hid _ := (HS.out.calm k1).same
    clear HS k1 hq c0 c1 c2 c3 c4 c5
    go_wp2
    go_ret
    exact ⟨rfl, HK.out⟩
  | true =>
    rw [if_pos rfl] at hq
    obtain ⟨f1, f2⟩ := FB.out rfl
    by_cases hn : 0 ≤ n ∧ n ≤ 16
    · obtain rfl := M3.out rfl hn.1 hn.2
      obtain ⟨n1, n2⟩ := hn
      have hw : ∀ W, Calls Tryz.prog 102 #[.int .i64 n, .int .i64 0, .int .i64 16] W fun e w' => e = .returned (.bool true) ∧ w' = W := fun W => by
        have := HW.out W
        rw [decide_eq_true n1, decide_eq_true n2] at this
        exact this
      clear M1 M2 M3 HW HC FB
      go_wp2_with fail
      refine hq.mono ?_
      rintro e w1 ⟨rfl, k1⟩
      have s1 := HS.out.calm k1
      clear HS k1 hq c0 c1 c2 c3 c4 c5
      have c1 : w1.cell? ⟨B, 1, none⟩ = some (.int .i64 sl) := s1.cell 0 rfl 1
      have HK : Hid _ := s1.same
      clear s1
      have hq := hw w1
      clear hw
      go_wp2_with fail
      refine hq.mono ?_
      rintro e w2 ⟨rfl, rfl⟩
      clear hq
      go_wp2
      go_ret
      exact ⟨rfl, HK.out⟩
    · obtain rfl := M2.out hn
      have hw : ∀ W, Calls Tryz.prog 102 #[.int .i64 n, .int .i64 0, .int .i64 16] W fun e w' => e = .returned (.bool false) ∧ w' = W := fun W => by
        have := HW.out W
        have e : (decide (0 ≤ n) && decide (n ≤ 16)) = false := by simpa using hn
        rw [e] at this
        exact this
      clear M1 M2 M3 HW HC FB hn
      go_wp2_with fail
      refine hq.mono ?_
      rintro e w1 ⟨rfl, k1⟩
      have HK : Hid _ := (HS.out.calm k1).same
      clear HS k1 hq c0 c1 c2 c3 c4 c5
      have hq := hw w1
      clear hw
      go_wp2_with fail
      refine hq.mono ?_
      rintro e w2 ⟨rfl, rfl⟩
      clear hq
      go_wp2
      go_ret
      exact ⟨rfl, HK.out⟩

/-- Thread 1 lives in slot 0. -/
def liveZ (c : Cfg) : SSt := ((SSt.zero c).op (claimOp 1) 0).op (readyOp 1 5) 0
structure LiveOk (c : Cfg) : Prop where
  f : c.fits = true
  r : claimR (SSt.zero c).hs 0 1 = 1
  e : (claimOp 1).E (SSt.zero c).hs 0 = 0
  d : (readyOp 1 5).E ((SSt.zero c).op (claimOp 1) 0).hs 0 = 0
theorem LiveOk.ok {c : Cfg} (h : LiveOk c) : (liveZ c).ok c 2 := by
  have a := SSt.ok_zero c h.f 0
  have b := a.op (claimOp 1) 0 (claim_keeps a.hd _ _)
  exact b.op (readyOp 1 5) 0 (ready_keeps b.hd _ _ _)
set_option maxRecDepth 100000 in
set_option maxHeartbeats 1000000 in
theorem lives_st {o w : World} {its : List It} (h : St o its w) {c : Cfg} (hc : LiveOk c) :
    Calls Tryz.prog 25 #[c.val] w fun e w' => ∃ A J v, e = .returned (.tuple #[spp A, .pointer (some ⟨J, 0, none⟩), .bool true]) ∧ St o (boxI J (jd c 0) 146 :: spI A c (liveZ c) v (.slice none 0 0) :: its) w' := by
  have HC : Hid (LiveOk c) := hc
  have h0 := h.box #[.int .i64 c.ce, .int .i64 c.sl, .int .i64 c.bi, .int .i64 c.ta, .int .i64 c.ba, .int .i64 c.de] 23
  clear h hc
  unfold Cfg.val
  go_enter Tryz.func25, Tryz.ntmps25
  go_upto_region 1 with fail
  generalize w.alloc (.cells #[.int .i64 c.ce, .int .i64 c.sl, .int .i64 c.bi, .int .i64 c.ta, .int .i64 c.ba, .int .i64 c.de] 23) = W0 at *
  generalize w.heap.size = M at *
  have c0 : W0.cell? ⟨M, 0, none⟩ = some (.int .i64 c.ce) := h0.cell 0 rfl 0
  have c1 : W0.cell? ⟨M, 1, none⟩ = some (.int .i64 c.sl) := h0.cell 0 rfl 1
  have c2 : W0.cell? ⟨M, 2, none⟩ = some (.int .i64 c.bi) := h0.cell 0 rfl 2
  have c3 : W0.cell? ⟨M, 3, none⟩ = some (.int .i64 c.ta) := h0.cell 0 rfl 3
  have c4 : W0.cell? ⟨M, 4, none⟩ = some (.int .i64 c.ba) := h0.cell 0 rfl 4
  have c5 : W0.cell? ⟨M, 5, none⟩ = some (.int .i64 c.de) := h0.cell 0 rfl 5
  have hq : Calls Tryz.prog 10 #[.agg #[.int .i64 c.ce, .int .i64 c.sl, .int .i64 c.bi, .int .i64 c.ta, .int .i64 c.ba, .int .i64 c.de]] W0 _ := spNew_st h0 c HC.out.f
  clear h0
  go_wp2_with fail
  refine hq.mono ?_
  rintro e w1 ⟨A, rfl, s1⟩
  clear hq c0 c1 c2 c3 c4 c5
  have c0 : w1.cell? ⟨M, 0, none⟩ = some (.int .i64 c.ce) := s1.cell 1 rfl 0
  have c1 : w1.cell? ⟨M, 1, none⟩ = some (.int .i64 c.sl) := s1.cell 1 rfl 1
  have c2 : w1.cell? ⟨M, 2, none⟩ = some (.int .i64 c.bi) := s1.cell 1 rfl 2
  have c3 : w1.cell? ⟨M, 3, none⟩ = some (.int .i64 c.ta) := s1.cell 1 rfl 3
  have c4 : w1.cell? ⟨M, 4, none⟩ = some (.int .i64 c.ba) := s1.cell 1 rfl 4
  have c5 : w1.cell? ⟨M, 5, none⟩ = some (.int .i64 c.de) := s1.cell 1 rfl 5
  have hq : Calls Tryz.prog 12 #[.agg #[.int .i64 c.ce, .int .i64 c.sl, .int .i64 c.bi, .int .i64 c.ta, .int .i64 c.ba, .int .i64 c.de]] w1 _ := new_st s1 c HC.out.f
  clear s1
  unfold spp at *
  go_wp2_with fail
  refine hq.mono ?_
  rintro e w2 ⟨J, rfl, s2⟩
  clear hq c0 c1 c2 c3 c4 c5
  have s3 := St.popAt (pre := [_, _]) s2
  clear s2
  have hs := spSlots s3 1 rfl
  have hg := spGate s3 1 rfl
  unfold spp at hs hg
  have hq := spClaim s3 1 rfl (SSt.ok_zero c HC.out.f 0) (by omega) 0 1
  rw [HC.out.r, HC.out.e] at hq
  clear s3
  go_wp2_with (first | (go_at_call 42; refine hs.mono ?_; rintro e wq ⟨rfl, rfl⟩) | (go_at_call 48; refine hg.mono ?_; rintro e wq ⟨rfl, rfl⟩))
  clear hs hg
  refine hq.mono ?_
  rintro e w3 ⟨rfl, v3, s4⟩
  clear hq
  have hs := spSlots s4 1 rfl
  unfold spp at hs
  have a0 := SSt.ok_zero c HC.out.f 0
  have hq := spReady s4 1 rfl (a0.op (claimOp 1) 0 (claim_keeps a0.hd _ _)) (by omega) 0 1 5
  rw [HC.out.d] at hq
  clear s4 a0
  go_wp2_with (go_at_call 42; refine hs.mono ?_; rintro e wq ⟨rfl, rfl⟩)
  clear hs
  refine hq.mono ?_
  rintro e w4 ⟨rfl, v4, s5⟩
  have HS : Hid _ := s5
  clear hq s5
  go_wp2
  first | go_ret | go_ret2 | refine bodyPost_ret (v := .tuple #[.pointer (some ⟨A.sp, 0, none⟩), .pointer (some ⟨J, 0, none⟩), .bool true]) (by simp [results, Tryz.results25, go_sem]) rfl ?_
  exact ⟨A, J, v4, rfl, HS.out⟩
end Go.Proofs.YtgjmamgohidbiaaGreat
