/- What the calls on heads do: Claim. -/
import Derived.Test.YtajfjkhbimehbaaTabB
namespace Go.Proofs.Ytajfjkhbimehbaa
open Go.RowKit
set_option linter.unusedVariables false
set_option linter.unusedSimpArgs false
attribute [local go_sem ↓] Go.wp_at_zero Go.wp_at_succ

theorem nowAt_ok {hs : List Hd} {n : Nat} (e : HsOk hs n) (i : Int) : HOk (nowAt hs i) n := by
  unfold nowAt
  cases h : headAt hs i with
  | none => exact HOk.zero n
  | some x => exact e x (headAt_mem h)
theorem claim_agree {hs : List Hd} {N : Nat} (e : HsOk hs N) (k : Int) {t : Int} (ht : isTh t = true) (s : Mt) :
    (trOp ⟨(nowAt hs k).gn, 0, 0, 0, false, 0⟩ ⟨(nowAt hs k).gn + 1, 1, 0, t, false, 0⟩ 5).E hs k = (claimOp t).E hs k ∧
    (trOp ⟨(nowAt hs k).gn, 0, 0, 0, false, 0⟩ ⟨(nowAt hs k).gn + 1, 1, 0, t, false, 0⟩ 5).H hs k = (claimOp t).H hs k ∧
    (trOp ⟨(nowAt hs k).gn, 0, 0, 0, false, 0⟩ ⟨(nowAt hs k).gn + 1, 1, 0, t, false, 0⟩ 5).S s hs k = (claimOp t).S s hs k := by
  refine HOp.agree ?_ ?_ ?_ (fun x hx => ?_) s
  · rfl
  · simp [claimOp, ht]
  · rfl
  have hn : nowAt hs k = x := by simp [nowAt, hx]
  simp only [trOp, claimOp, hn]
  exact ⟨claim_trade (e x (headAt_mem hx)), fun _ => trivial⟩
theorem ready_agree {hs : List Hd} (k g p : Int) (hp : ¬ p < 1) (s : Mt) :
    (trOp ⟨g, 1, (nowAt hs k).sp, (nowAt hs k).th, (nowAt hs k).dm, (nowAt hs k).wy⟩ ⟨g, 2, p, (nowAt hs k).th, (nowAt hs k).dm, (nowAt hs k).wy⟩ 4).E hs k = (readyOp g p).E hs k ∧
    (trOp ⟨g, 1, (nowAt hs k).sp, (nowAt hs k).th, (nowAt hs k).dm, (nowAt hs k).wy⟩ ⟨g, 2, p, (nowAt hs k).th, (nowAt hs k).dm, (nowAt hs k).wy⟩ 4).H hs k = (readyOp g p).H hs k ∧
    (trOp ⟨g, 1, (nowAt hs k).sp, (nowAt hs k).th, (nowAt hs k).dm, (nowAt hs k).wy⟩ ⟨g, 2, p, (nowAt hs k).th, (nowAt hs k).dm, (nowAt hs k).wy⟩ 4).S s hs k = (readyOp g p).S s hs k := by
  refine HOp.agree ?_ ?_ ?_ (fun x hx => ?_) s
  · rfl
  · simp [readyOp, hp]
  · rfl
  have hn : nowAt hs k = x := by simp [nowAt, hx]
  simp only [trOp, readyOp, hn]
  refine ⟨ready_trade g, fun h => ?_⟩
  simp only [Bool.and_eq_true, beq_iff_eq] at h
  rw [h.2]
theorem doom_agree {hs : List Hd} (k g t : Int) (ht : isTh t = true) (s : Mt) :
    (trOp ⟨g, 2, (nowAt hs k).sp, (nowAt hs k).th, (nowAt hs k).dm, (nowAt hs k).wy⟩ (if (nowAt hs k).dm then ⟨g, 2, (nowAt hs k).sp, (nowAt hs k).th, (nowAt hs k).dm, (nowAt hs k).wy⟩ else ⟨g, 2, (nowAt hs k).sp, (nowAt hs k).th, true, t⟩) 4).E hs k = (doomOp g t).E hs k ∧
    (trOp ⟨g, 2, (nowAt hs k).sp, (nowAt hs k).th, (nowAt hs k).dm, (nowAt hs k).wy⟩ (if (nowAt hs k).dm then ⟨g, 2, (nowAt hs k).sp, (nowAt hs k).th, (nowAt hs k).dm, (nowAt hs k).wy⟩ else ⟨g, 2, (nowAt hs k).sp, (nowAt hs k).th, true, t⟩) 4).H hs k = (doomOp g t).H hs k ∧
    (trOp ⟨g, 2, (nowAt hs k).sp, (nowAt hs k).th, (nowAt hs k).dm, (nowAt hs k).wy⟩ (if (nowAt hs k).dm then ⟨g, 2, (nowAt hs k).sp, (nowAt hs k).th, (nowAt hs k).dm, (nowAt hs k).wy⟩ else ⟨g, 2, (nowAt hs k).sp, (nowAt hs k).th, true, t⟩) 4).S s hs k = (doomOp g t).S s hs k := by
  refine HOp.agree ?_ ?_ ?_ (fun x hx => ?_) s
  · rfl
  · simp [doomOp, ht]
  · rfl
  have hn : nowAt hs k = x := by simp [nowAt, hx]
  simp only [trOp, doomOp, hn]
  refine ⟨doom_trade g, fun h => ?_⟩
  simp only [Bool.and_eq_true, beq_iff_eq] at h
  obtain ⟨rfl⟩ := h.2
  rw [← h.1]
theorem free_agree {hs : List Hd} {N : Nat} (e : HsOk hs N) (k g : Int) (s : Mt) :
    (trOp ⟨g, max (nowAt hs k).sa 1, (nowAt hs k).sp, (nowAt hs k).th, (nowAt hs k).dm, (nowAt hs k).wy⟩ ⟨g, 0, 0, 0, false, 0⟩ 4).E hs k = (freeOp g).E hs k ∧
    (trOp ⟨g, max (nowAt hs k).sa 1, (nowAt hs k).sp, (nowAt hs k).th, (nowAt hs k).dm, (nowAt hs k).wy⟩ ⟨g, 0, 0, 0, false, 0⟩ 4).H hs k = (freeOp g).H hs k ∧
    (trOp ⟨g, max (nowAt hs k).sa 1, (nowAt hs k).sp, (nowAt hs k).th, (nowAt hs k).dm, (nowAt hs k).wy⟩ ⟨g, 0, 0, 0, false, 0⟩ 4).S s hs k = (freeOp g).S s hs k := by
  refine HOp.agree ?_ ?_ ?_ (fun x hx => ?_) s
  · rfl
  · rfl
  · rfl
  have hn : nowAt hs k = x := by simp [nowAt, hx]
  simp only [trOp, freeOp, hn]
  exact ⟨free_trade (e x (headAt_mem hx)) g, fun _ => trivial⟩
theorem claimR_eq {hs : List Hd} (k : Int) {t : Int} (ht : isTh t = true) : claimR hs k t = if (claimOp t).E hs k = 0 then (nowAt hs k).gn + 1 else 0 := by
  unfold claimR HOp.E nowAt
  simp only [claimOp, ht, if_true]
  cases headAt hs k with
  | none => simp
  | some x => cases h : (x.sa == 0) <;> simp [h]

theorem hdField_gn (a b c d : Int) (e : Bool) (f : Int) (w : World) : (Instr.field 47 (.agg #[.int .i64 a, .int .i64 b, .int .i64 c, .int .i64 d, .bool e, .int .i64 f]) 0).run Try.prog w = .ok (.int .i64 a) w := by kernel_rfl
theorem keep_all {o w : World} {its : List It} {i b : Nat} {A B : It} (h : St o its w) (hi : its[i]? = some A) (hb : its[b]? = some B) : St o ((its.set i A).set b B) w := by
  rw [set_back hi, set_back hb]; exact h

set_option maxRecDepth 100000 in
set_option maxHeartbeats 1000000 in
theorem tabClaim_st {o w : World} {its : List It} (h : St o its w) (i a b : Nat) {t r c q : Nat} {mo : Option Nat} {s : Mt} {v : Value} {hs : List Hd} (hi : its[i]? = some (meterI 115 mo s v)) (ha : its[a]? = some (tabI t r q)) (hb : its[b]? = some (hdRowI r c mo 3 hs)) (hib : i ≠ b)
    {n N : Nat} (hw : s.within n) (hn : n ≤ 4611686018427) (hok : HsOk hs N) (hN : N ≤ 4611686018427387904) (k th : Int) :
    Calls Try.prog 34 #[.pointer (some ⟨t, 0, none⟩), .int .i64 k, .int .i64 th] w fun e w' => e = .returned (.tuple #[.int .i64 (claimR hs k th), .int .i64 ((claimOp th).E hs k)]) ∧
      ∃ v', St o ((its.set i (meterI 115 mo ((claimOp th).S s hs k) v')).set b (hdRowI r c mo 3 ((claimOp th).H hs k))) w' := by
  cases ht : isTh th
  · have hS : Hid (St o ((its.set i (meterI 115 mo s v)).set b (hdRowI r c mo 3 hs)) w) := keep_all h hi hb
    have hth : Calls Try.prog 53 #[.int .i64 th] w fun e w' => e = .returned (.bool false) ∧ w' = w := ht ▸ isThread_any th w
    have e1 : (claimOp th).E hs k = 1 := by simp [HOp.E, claimOp, ht]
    have e2 : (claimOp th).S s hs k = s := by simp [HOp.S, claimOp, ht]
    have e3 : (claimOp th).H hs k = hs := by simp [HOp.H, claimOp, ht]
    have e4 : claimR hs k th = 0 := by simp [claimR, ht]
    rw [e1, e2, e3, e4]
    clear h
    go_enter Try.func34, Try.ntmps34
    go_wp2_with (go_at_call 53; refine hth.mono ?_; rintro e w' ⟨rfl, rfl⟩)
    go_ret2
    exact ⟨rfl, v, hS.out⟩
  · have hth : Calls Try.prog 53 #[.int .i64 th] w fun e w' => e = .returned (.bool true) ∧ w' = w := ht ▸ isThread_any th w
    obtain ⟨a1, a2, a3⟩ := claim_agree hok k ht s
    rw [claimR_eq k ht]
    have hnow := tabNow_st h a b ha hb k
    have hx := nowAt_ok hok k
    have g0 := hx.g0
    have g1 := hx.g1
    clear hx
    generalize nowAt hs k = x at *
    obtain ⟨xgn, xsa, xsp, xth, xdm, xwy⟩ := x
    simp only [Hd.val] at *
    have htr : ∀ w1, St o its w1 → Calls Try.prog 55 #[.pointer (some ⟨t, 0, none⟩), .int .i64 k, .agg #[.int .i64 xgn, .int .i64 0, .int .i64 0, .int .i64 0, .bool false, .int .i64 0], .agg #[.int .i64 (xgn + 1), .int .i64 1, .int .i64 0, .int .i64 th, .bool false, .int .i64 0], .int .i64 5] ((w1.alloc (.cells #[.int .i64 xgn, .int .i64 0, .int .i64 0, .int .i64 0, .bool false, .int .i64 0] 47)).alloc (.cells #[.int .i64 (xgn + 1), .int .i64 1, .int .i64 0, .int .i64 th, .bool false, .int .i64 0] 47)) fun e w' => e = .returned (.int .i64 ((claimOp th).E hs k)) ∧
        ∃ v', w'.cell? ⟨w1.heap.size + 1, 0, none⟩ = some (.int .i64 (xgn + 1)) ∧ Hid (St o ((its.set i (meterI 115 mo ((claimOp th).S s hs k) v')).set b (hdRowI r c mo 3 ((claimOp th).H hs k))) w') := by
      intro w1 hS
      have hS2 := (hS.box #[.int .i64 xgn, .int .i64 0, .int .i64 0, .int .i64 0, .bool false, .int .i64 0] 47).box #[.int .i64 (xgn + 1), .int .i64 1, .int .i64 0, .int .i64 th, .bool false, .int .i64 0] 47
      simp only [alloc_size] at hS2
      refine (tabTrade_st hS2 (i + 2) (a + 2) (b + 2) hi ha hb (by omega) hw hn k ⟨xgn, 0, 0, 0, false, 0⟩ ⟨xgn + 1, 1, 0, th, false, 0⟩ 5).mono ?_
      rintro e w' ⟨h1, v', h2⟩
      rw [a1] at h1
      rw [a2, a3] at h2
      exact ⟨h1, v', h2.cell 0 rfl 0, h2.pop.pop⟩
    clear h a1 a2 a3
    generalize (claimOp th).E hs k = E at *
    generalize (claimOp th).H hs k = hs' at *
    generalize (claimOp th).S s hs k = s' at *
    have hfd := hdField_gn xgn xsa xsp xth xdm xwy
    have hways : (E = 0 ∧ (if E = 0 then xgn + 1 else 0) = xgn + 1) ∨ ((E != 0) = true ∧ (if E = 0 then xgn + 1 else 0) = 0) := by
      by_cases hE : E = 0
      · exact .inl ⟨hE, if_pos hE⟩
      · exact .inr ⟨by simpa using hE, if_neg hE⟩
    generalize (if E = 0 then xgn + 1 else 0) = R at *
    rcases hways with ⟨rfl, rfl⟩ | ⟨hE, rfl⟩
    all_goals
      go_enter Try.func34, Try.ntmps34
      go_wp2_with (go_at_call 53; refine hth.mono ?_; rintro e w' ⟨rfl, rfl⟩)
      refine hnow.mono ?_
      rintro e w1 ⟨rfl, hS1⟩
      have hT := htr w1 hS1
      clear htr hnow hth hS1
      go_wp2_with fail
      generalize (w1.alloc (.cells #[.int .i64 xgn, .int .i64 0, .int .i64 0, .int .i64 0, .bool false, .int .i64 0] 47)).alloc (.cells #[.int .i64 (xgn + 1), .int .i64 1, .int .i64 0, .int .i64 th, .bool false, .int .i64 0] 47) = w2 at *
      generalize w1.heap.size + 1 = C at *
      refine hT.mono ?_
      rintro e w3 ⟨rfl, v', d0, HS⟩
      clear hT
      go_wp2
      go_ret2
      exact ⟨rfl, v', HS.out⟩
end Go.Proofs.Ytajfjkhbimehbaa
