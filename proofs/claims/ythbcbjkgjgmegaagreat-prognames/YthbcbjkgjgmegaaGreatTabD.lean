/- What the calls on heads do: Claim. What the calls on heads do: Ready, Doom, Free; Word and Put. -/
import Derived.Test.YthbcbjkgjgmegaaGreatTabB
namespace Go.Proofs.YthbcbjkgjgmegaaGreat
open Go.RowKit
set_option linter.unusedVariables false
set_option linter.unusedSimpArgs false
attribute [local go_sem ↓] Go.wp_at_zero Go.wp_at_succ

theorem nowAt_ok {hs : List Hd} {n : Nat} (e : HsOk hs n) (i : Int) : HOk (nowAt hs i) n := by
  unfold nowAt
  cases h : headAt hs i with
  | none => exact HOk.zero n
  | some x => exact e x (headAt_mem h)
theorem claim_agree {hs : List Hd} {N : Nat} (e : HsOk hs N) (k : Int) {t : Int} (ht : isTh t = true) (s : Mt) :
    (trOp ⟨(nowAt hs k).gn, 0, 0, 0, false, 0⟩ ⟨(nowAt hs k).gn + 1, 1, 0, t, false, 0⟩ 5).E hs k = (claimOp t).E hs k ∧
    (trOp ⟨(nowAt hs k).gn, 0, 0, 0, false, 0⟩ ⟨(nowAt hs k).gn + 1, 1, 0, t, false, 0⟩ 5).H hs k = (claimOp t).H hs k ∧
    (trOp ⟨(nowAt hs k).gn, 0, 0, 0, false, 0⟩ ⟨(nowAt hs k).gn + 1, 1, 0, t, false, 0⟩ 5).S s hs k = (claimOp t).S s hs k := by
  refine HOp.agree ?_ ?_ ?_ (fun x hx => ?_) s
  · rfl
  · simp [claimOp, ht]
  · rfl
  have hn : nowAt hs k = x := by simp [nowAt, hx]
  simp only [trOp, claimOp, hn]
  exact ⟨claim_trade (e x (headAt_mem hx)), fun _ => trivial⟩
theorem ready_agree {hs : List Hd} (k g p : Int) (hp : ¬ p < 1) (s : Mt) :
    (trOp ⟨g, 1, (nowAt hs k).sp, (nowAt hs k).th, (nowAt hs k).dm, (nowAt hs k).wy⟩ ⟨g, 2, p, (nowAt hs k).th, (nowAt hs k).dm, (nowAt hs k).wy⟩ 4).E hs k = (readyOp g p).E hs k ∧
    (trOp ⟨g, 1, (nowAt hs k).sp, (nowAt hs k).th, (nowAt hs k).dm, (nowAt hs k).wy⟩ ⟨g, 2, p, (nowAt hs k).th, (nowAt hs k).dm, (nowAt hs k).wy⟩ 4).H hs k = (readyOp g p).H hs k ∧
    (trOp ⟨g, 1, (nowAt hs k).sp, (nowAt hs k).th, (nowAt hs k).dm, (nowAt hs k).wy⟩ ⟨g, 2, p, (nowAt hs k).th, (nowAt hs k).dm, (nowAt hs k).wy⟩ 4).S s hs k = (readyOp g p).S s hs k := by
  refine HOp.agree ?_ ?_ ?_ (fun x hx => ?_) s
  · rfl
  · simp [readyOp, hp]
  · rfl
  have hn : nowAt hs k = x := by simp [nowAt, hx]
  simp only [trOp, readyOp, hn]
  refine ⟨ready_trade g, fun h => ?_⟩
  simp only [Bool.and_eq_true, beq_iff_eq] at h
  rw [h.2]
theorem doom_agree {hs : List Hd} (k g t : Int) (ht : isTh t = true) (s : Mt) :
    (trOp ⟨g, 2, (nowAt hs k).sp, (nowAt hs k).th, (nowAt hs k).dm, (nowAt hs k).wy⟩ (if (nowAt hs k).dm then ⟨g, 2, (nowAt hs k).sp, (nowAt hs k).th, (nowAt hs k).dm, (nowAt hs k).wy⟩ else ⟨g, 2, (nowAt hs k).sp, (nowAt hs k).th, true, t⟩) 4).E hs k = (doomOp g t).E hs k ∧
    (trOp ⟨g, 2, (nowAt hs k).sp, (nowAt hs k).th, (nowAt hs k).dm, (nowAt hs k).wy⟩ (if (nowAt hs k).dm then ⟨g, 2, (nowAt hs k).sp, (nowAt hs k).th, (nowAt hs k).dm, (nowAt hs k).wy⟩ else ⟨g, 2, (nowAt hs k).sp, (nowAt hs k).th, true, t⟩) 4).H hs k = (doomOp g t).H hs k ∧
    (trOp ⟨g, 2, (nowAt hs k).sp, (nowAt hs k).th, (nowAt hs k).dm, (nowAt hs k).wy⟩ (if (nowAt hs k).dm then ⟨g, 2, (nowAt hs k).sp, (nowAt hs k).th, (nowAt hs k).dm, (nowAt hs k).wy⟩ else ⟨g, 2, (nowAt hs k).sp, (nowAt hs k).th, true, t⟩) 4).S s hs k = (doomOp g t).S s hs k := by
  refine HOp.agree ?_ ?_ ?_ (fun x hx => ?_) s
  · rfl
  · simp [doomOp, ht]
  · rfl
  have hn : nowAt hs k = x := by simp [nowAt, hx]
  simp only [trOp, doomOp, hn]
  refine ⟨doom_trade g, fun h => ?_⟩
  simp only [Bool.and_eq_true, beq_iff_eq] at h
  obtain ⟨rfl⟩ := h.2
  rw [← h.1]
theorem free_agree {hs : List Hd} {N : Nat} (e : HsOk hs N) (k g : Int) (s : Mt) :
    (trOp ⟨g, max (nowAt hs k).sa 1, (nowAt hs k).sp, (nowAt hs k).th, (nowAt hs k).dm, (nowAt hs k).wy⟩ ⟨g, 0, 0, 0, false, 0⟩ 4).E hs k = (freeOp g).E hs k ∧
    (trOp ⟨g, max (nowAt hs k).sa 1, (nowAt hs k).sp, (nowAt hs k).th, (nowAt hs k).dm, (nowAt hs k).wy⟩ ⟨g, 0, 0, 0, false, 0⟩ 4).H hs k = (freeOp g).H hs k ∧
    (trOp ⟨g, max (nowAt hs k).sa 1, (nowAt hs k).sp, (nowAt hs k).th, (nowAt hs k).dm, (nowAt hs k).wy⟩ ⟨g, 0, 0, 0, false, 0⟩ 4).S s hs k = (freeOp g).S s hs k := by
  refine HOp.agree ?_ ?_ ?_ (fun x hx => ?_) s
  · rfl
  · rfl
  · rfl
  have hn : nowAt hs k = x := by simp [nowAt, hx]
  simp only [trOp, freeOp, hn]
  exact ⟨free_trade (e x (headAt_mem hx)) g, fun _ => trivial⟩
theorem claimR_eq {hs : List Hd} (k : Int) {t : Int} (ht : isTh t = true) : claimR hs k t = if (claimOp t).E hs k = 0 then (nowAt hs k).gn + 1 else 0 := by
  unfold claimR HOp.E nowAt
  simp only [claimOp, ht, if_true]
  cases headAt hs k with
  | none => simp
  | some x => cases h : (x.sa == 0) <;> simp [h]

theorem hdField_gn (a b c d : Int) (e : Bool) (f : Int) (w : World) : (Instr.field 181 (.agg #[.int .i64 a, .int .i64 b, .int .i64 c, .int .i64 d, .bool e, .int .i64 f]) 0).run Tryz.prog w = .ok (.int .i64 a) w := by kernel_rfl
theorem keep_all {o w : World} {its : List It} {i b : Nat} {A B : It} (h : St o its w) (hi : its[i]? = some A) (hb : its[b]? = some B) : St o ((its.set i A).set b B) w := by
  rw [set_back hi, set_back hb]; exact h

set_option maxRecDepth 100000 in
set_option maxHeartbeats 1000000 in
theorem tabClaim_st {o w : World} {its : List It} (h : St o its w) (i a b : Nat) {t r c q : Nat} {mo : Option Nat} {s : Mt} {v : Value} {hs : List Hd} (hi : its[i]? = some (meterI 174 mo s v)) (ha : its[a]? = some (tabI t r q)) (hb : its[b]? = some (hdRowI r c mo 3 hs)) (hib : i ≠ b)
    {n N : Nat} (hw : s.within n) (hn : n ≤ 4611686018427) (hok : HsOk hs N) (hN : N ≤ 4611686018427387904) (k th : Int) :
    Calls Tryz.prog 364 #[.pointer (some ⟨t, 0, none⟩), .int .i64 k, .int .i64 th] w fun e w' => e = .returned (.tuple #[.int .i64 (claimR hs k th), .int .i64 ((claimOp th).E hs k)]) ∧
      ∃ v', St o ((its.set i (meterI 174 mo ((claimOp th).S s hs k) v')).set b (hdRowI r c mo 3 ((claimOp th).H hs k))) w' := by
  cases ht : isTh th
  · have hS : Hid (St o ((its.set i (meterI 174 mo s v)).set b (hdRowI r c mo 3 hs)) w) := keep_all h hi hb
    have hth : Calls Tryz.prog 365 #[.int .i64 th] w fun e w' => e = .returned (.bool false) ∧ w' = w := ht ▸ isThread_any th w
    have e1 : (claimOp th).E hs k = 1 := by simp [HOp.E, claimOp, ht]
    have e2 : (claimOp th).S s hs k = s := by simp [HOp.S, claimOp, ht]
    have e3 : (claimOp th).H hs k = hs := by simp [HOp.H, claimOp, ht]
    have e4 : claimR hs k th = 0 := by simp [claimR, ht]
    rw [e1, e2, e3, e4]
    clear h
    go_enter Tryz.func364, Tryz.ntmps364
    go_wp2_with (go_at_call 365; refine hth.mono ?_; rintro e w' ⟨rfl, rfl⟩)
    go_ret2
    exact ⟨rfl, v, hS.out⟩
  · have hth : Calls Tryz.prog 365 #[.int .i64 th] w fun e w' => e = .returned (.bool true) ∧ w' = w := ht ▸ isThread_any th w
    obtain ⟨a1, a2, a3⟩ := claim_agree hok k ht s
    rw [claimR_eq k ht]
    have hnow := tabNow_st h a b ha hb k
    have hx := nowAt_ok hok k
    have g0 := hx.g0
    have g1 := hx.g1
    clear hx
    generalize nowAt hs k = x at *
    obtain ⟨xgn, xsa, xsp, xth, xdm, xwy⟩ := x
    simp only [Hd.val] at *
    have htr : ∀ w1, St o its w1 → Calls Tryz.prog 350 #[.pointer (some ⟨t, 0, none⟩), .int .i64 k, .agg #[.int .i64 xgn, .int .i64 0, .int .i64 0, .int .i64 0, .bool false, .int .i64 0], .agg #[.int .i64 (xgn + 1), .int .i64 1, .int .i64 0, .int .i64 th, .bool false, .int .i64 0], .int .i64 5] ((w1.alloc (.cells #[.int .i64 xgn, .int .i64 0, .int .i64 0, .int .i64 0, .bool false, .int .i64 0] 181)).alloc (.cells #[.int .i64 (xgn + 1), .int .i64 1, .int .i64 0, .int .i64 th, .bool false, .int .i64 0] 181)) fun e w' => e = .returned (.int .i64 ((claimOp th).E hs k)) ∧
        ∃ v', w'.cell? ⟨w1.heap.size + 1, 0, none⟩ = some (.int .i64 (xgn + 1)) ∧ Hid (St o ((its.set i (meterI 174 mo ((claimOp th).S s hs k) v')).set b (hdRowI r c mo 3 ((claimOp th).H hs k))) w') := by
      intro w1 hS
      have hS2 := (hS.box #[.int .i64 xgn, .int .i64 0, .int .i64 0, .int .i64 0, .bool false, .int .i64 0] 181).box #[.int .i64 (xgn + 1), .int .i64 1, .int .i64 0, .int .i64 th, .bool false, .int .i64 0] 181
      simp only [alloc_size] at hS2
      refine (tabTrade_st hS2 (i + 2) (a + 2) (b + 2) hi ha hb (by omega) hw hn k ⟨xgn, 0, 0, 0, false, 0⟩ ⟨xgn + 1, 1, 0, th, false, 0⟩ 5).mono ?_
      rintro e w' ⟨h1, v', h2⟩
      rw [a1] at h1
      rw [a2, a3] at h2
      exact ⟨h1, v', h2.cell 0 rfl 0, h2.pop.pop⟩
    clear h a1 a2 a3
    generalize (claimOp th).E hs k = E at *
    generalize (claimOp th).H hs k = hs' at *
    generalize (claimOp th).S s hs k = s' at *
    have hfd := hdField_gn xgn xsa xsp xth xdm xwy
    have hways : (E = 0 ∧ (if E = 0 then xgn + 1 else 0) = xgn + 1) ∨ ((E != 0) = true ∧ (if E = 0 then xgn + 1 else 0) = 0) := by
      by_cases hE : E = 0
      · exact .inl ⟨hE, if_pos hE⟩
      · exact .inr ⟨by simpa using hE, if_neg hE⟩
    generalize (if E = 0 then xgn + 1 else 0) = R at *
    rcases hways with ⟨rfl, rfl⟩ | ⟨hE, rfl⟩
    all_goals
      go_enter Tryz.func364, Tryz.ntmps364
      go_wp2_with (go_at_call 365; refine hth.mono ?_; rintro e w' ⟨rfl, rfl⟩)
      refine hnow.mono ?_
      rintro e w1 ⟨rfl, hS1⟩
      have hT := htr w1 hS1
      clear htr hnow hth hS1
      go_wp2_with fail
      generalize (w1.alloc (.cells #[.int .i64 xgn, .int .i64 0, .int .i64 0, .int .i64 0, .bool false, .int .i64 0] 181)).alloc (.cells #[.int .i64 (xgn + 1), .int .i64 1, .int .i64 0, .int .i64 th, .bool false, .int .i64 0] 181) = w2 at *
      generalize w1.heap.size + 1 = C at *
      refine hT.mono ?_
      rintro e w3 ⟨rfl, v', d0, HS⟩
      clear hT
      go_wp2
      go_ret2
      exact ⟨rfl, v', HS.out⟩
end Go.Proofs.YthbcbjkgjgmegaaGreat

namespace Go.Proofs.YthbcbjkgjgmegaaGreat
open Go.RowKit
set_option linter.unusedVariables false
set_option linter.unusedSimpArgs false
attribute [local go_sem ↓] Go.wp_at_zero Go.wp_at_succ

set_option maxRecDepth 100000 in
set_option maxHeartbeats 1000000 in
theorem tabReady_st {o w : World} {its : List It} (h : St o its w) (i a b : Nat) {t r c q : Nat} {mo : Option Nat} {s : Mt} {v : Value} {hs : List Hd} (hi : its[i]? = some (meterI 174 mo s v)) (ha : its[a]? = some (tabI t r q)) (hb : its[b]? = some (hdRowI r c mo 3 hs)) (hib : i ≠ b)
    {n N : Nat} (hw : s.within n) (hn : n ≤ 4611686018427) (hok : HsOk hs N) (k g p : Int) :
    Calls Tryz.prog 363 #[.pointer (some ⟨t, 0, none⟩), .int .i64 k, .int .i64 g, .int .i64 p] w fun e w' => e = .returned (.int .i64 ((readyOp g p).E hs k)) ∧
      ∃ v', St o ((its.set i (meterI 174 mo ((readyOp g p).S s hs k) v')).set b (hdRowI r c mo 3 ((readyOp g p).H hs k))) w' := by
  by_cases hp : p < 1
  · have hS : Hid (St o ((its.set i (meterI 174 mo s v)).set b (hdRowI r c mo 3 hs)) w) := keep_all h hi hb
    have e1 : (readyOp g p).E hs k = 1 := by simp [HOp.E, readyOp, hp]
    have e2 : (readyOp g p).S s hs k = s := by simp [HOp.S, readyOp, hp]
    have e3 : (readyOp g p).H hs k = hs := by simp [HOp.H, readyOp, hp]
    rw [e1, e2, e3]
    clear h
    go_enter Tryz.func363, Tryz.ntmps363
    go_wp2
    go_ret
    exact ⟨rfl, v, hS.out⟩
  · obtain ⟨a1, a2, a3⟩ := ready_agree (hs := hs) k g p hp s
    have hnow := tabNow_st h a b ha hb k
    generalize nowAt hs k = x at *
    obtain ⟨xgn, xsa, xsp, xth, xdm, xwy⟩ := x
    simp only [Hd.val] at *
    have htr : ∀ w1, St o its w1 → Calls Tryz.prog 350 #[.pointer (some ⟨t, 0, none⟩), .int .i64 k, .agg #[.int .i64 g, .int .i64 1, .int .i64 xsp, .int .i64 xth, .bool xdm, .int .i64 xwy], .agg #[.int .i64 g, .int .i64 2, .int .i64 p, .int .i64 xth, .bool xdm, .int .i64 xwy], .int .i64 4] ((w1.alloc (.cells #[.int .i64 g, .int .i64 1, .int .i64 xsp, .int .i64 xth, .bool xdm, .int .i64 xwy] 181)).alloc (.cells #[.int .i64 g, .int .i64 2, .int .i64 p, .int .i64 xth, .bool xdm, .int .i64 xwy] 181)) fun e w' => e = .returned (.int .i64 ((readyOp g p).E hs k)) ∧
        ∃ v', Hid (St o ((its.set i (meterI 174 mo ((readyOp g p).S s hs k) v')).set b (hdRowI r c mo 3 ((readyOp g p).H hs k))) w') := by
      intro w1 hS
      have hS2 := ((hS.box #[.int .i64 g, .int .i64 1, .int .i64 xsp, .int .i64 xth, .bool xdm, .int .i64 xwy] 181).box #[.int .i64 g, .int .i64 2, .int .i64 p, .int .i64 xth, .bool xdm, .int .i64 xwy] 181)
      refine (tabTrade_st hS2 (i + 2) (a + 2) (b + 2) hi ha hb (by omega) hw hn k ⟨g, 1, xsp, xth, xdm, xwy⟩ ⟨g, 2, p, xth, xdm, xwy⟩ 4).mono ?_
      rintro e w' ⟨h1, v', h2⟩
      rw [a1] at h1
      rw [a2, a3] at h2
      exact ⟨h1, v', h2.pop.pop⟩
    clear h a1 a2 a3
    generalize (readyOp g p).E hs k = E at *
    generalize (readyOp g p).H hs k = hs' at *
    generalize (readyOp g p).S s hs k = s' at *
    go_enter Tryz.func363, Tryz.ntmps363
    go_wp2_with fail
    refine hnow.mono ?_
    rintro e w1 ⟨rfl, hS1⟩
    have hT := htr w1 hS1
    clear htr hnow hS1
    go_wp2_with fail
    refine hT.mono ?_
    rintro e w3 ⟨rfl, v', HS⟩
    clear hT
    go_wp2
    go_ret
    exact ⟨rfl, v', HS.out⟩

set_option maxRecDepth 100000 in
set_option maxHeartbeats 1000000 in
theorem tabDoom_st {o w : World} {its : List It} (h : St o its w) (i a b : Nat) {t r c q : Nat} {mo : Option Nat} {s : Mt} {v : Value} {hs : List Hd} (hi : its[i]? = some (meterI 174 mo s v)) (ha : its[a]? = some (tabI t r q)) (hb : its[b]? = some (hdRowI r c mo 3 hs)) (hib : i ≠ b)
    {n N : Nat} (hw : s.within n) (hn : n ≤ 4611686018427) (hok : HsOk hs N) (k g th : Int) :
    Calls Tryz.prog 423 #[.pointer (some ⟨t, 0, none⟩), .int .i64 k, .int .i64 g, .int .i64 th] w fun e w' => e = .returned (.int .i64 ((doomOp g th).E hs k)) ∧
      ∃ v', St o ((its.set i (meterI 174 mo ((doomOp g th).S s hs k) v')).set b (hdRowI r c mo 3 ((doomOp g th).H hs k))) w' := by
  cases ht : isTh th
  · have hS : Hid (St o ((its.set i (meterI 174 mo s v)).set b (hdRowI r c mo 3 hs)) w) := keep_all h hi hb
    have hth : Calls Tryz.prog 365 #[.int .i64 th] w fun e w' => e = .returned (.bool false) ∧ w' = w := ht ▸ isThread_any th w
    have e1 : (doomOp g th).E hs k = 1 := by simp [HOp.E, doomOp, ht]
    have e2 : (doomOp g th).S s hs k = s := by simp [HOp.S, doomOp, ht]
    have e3 : (doomOp g th).H hs k = hs := by simp [HOp.H, doomOp, ht]
    rw [e1, e2, e3]
    clear h
    go_enter Tryz.func423, Tryz.ntmps423
    go_wp2_with (go_at_call 365; refine hth.mono ?_; rintro e w' ⟨rfl, rfl⟩)
    go_ret
    exact ⟨rfl, v, hS.out⟩
  have hth : Calls Tryz.prog 365 #[.int .i64 th] w fun e w' => e = .returned (.bool true) ∧ w' = w := ht ▸ isThread_any th w
  obtain ⟨a1, a2, a3⟩ := doom_agree (hs := hs) k g th ht s
  have hnow := tabNow_st h a b ha hb k
  generalize nowAt hs k = x at *
  obtain ⟨xgn, xsa, xsp, xth, xdm, xwy⟩ := x
  simp only [Hd.val] at *
  cases xdm
  · simp only [Bool.false_eq_true, if_false] at a1 a2 a3
    have htr : ∀ w1, St o its w1 → Calls Tryz.prog 350 #[.pointer (some ⟨t, 0, none⟩), .int .i64 k, .agg #[.int .i64 g, .int .i64 2, .int .i64 xsp, .int .i64 xth, .bool false, .int .i64 xwy], .agg #[.int .i64 g, .int .i64 2, .int .i64 xsp, .int .i64 xth, .bool true, .int .i64 th], .int .i64 4] ((w1.alloc (.cells #[.int .i64 g, .int .i64 2, .int .i64 xsp, .int .i64 xth, .bool false, .int .i64 xwy] 181)).alloc (.cells #[.int .i64 g, .int .i64 2, .int .i64 xsp, .int .i64 xth, .bool true, .int .i64 th] 181)) fun e w' => e = .returned (.int .i64 ((doomOp g th).E hs k)) ∧
        ∃ v', Hid (St o ((its.set i (meterI 174 mo ((doomOp g th).S s hs k) v')).set b (hdRowI r c mo 3 ((doomOp g th).H hs k))) w') := by
      intro w1 hS
      have hS2 := ((hS.box #[.int .i64 g, .int .i64 2, .int .i64 xsp, .int .i64 xth, .bool false, .int .i64 xwy] 181).box #[.int .i64 g, .int .i64 2, .int .i64 xsp, .int .i64 xth, .bool true, .int .i64 th] 181)
      refine (tabTrade_st hS2 (i + 2) (a + 2) (b + 2) hi ha hb (by omega) hw hn k ⟨g, 2, xsp, xth, false, xwy⟩ ⟨g, 2, xsp, xth, true, th⟩ 4).mono ?_
      rintro e w' ⟨h1, v', h2⟩
      rw [a1] at h1
      rw [a2, a3] at h2
      exact ⟨h1, v', h2.pop.pop⟩
    clear h a1 a2 a3
    generalize (doomOp g th).E hs k = E at *
    generalize (doomOp g th).H hs k = hs' at *
    generalize (doomOp g th).S s hs k = s' at *
    go_enter Tryz.func423, Tryz.ntmps423
    go_wp2_with (go_at_call 365; refine hth.mono ?_; rintro e w' ⟨rfl, rfl⟩)
    refine hnow.mono ?_
    rintro e w1 ⟨rfl, hS1⟩
    have hT := htr w1 hS1
    clear htr hnow hS1
    go_wp2_with fail
    refine hT.mono ?_
    rintro e w3 ⟨rfl, v', HS⟩
    clear hT
    go_wp2
    go_ret
    exact ⟨rfl, v', HS.out⟩
  · simp only [if_true] at a1 a2 a3
    have htr : ∀ w1, St o its w1 → Calls Tryz.prog 350 #[.pointer (some ⟨t, 0, none⟩), .int .i64 k, .agg #[.int .i64 g, .int .i64 2, .int .i64 xsp, .int .i64 xth, .bool true, .int .i64 xwy], .agg #[.int .i64 g, .int .i64 2, .int .i64 xsp, .int .i64 xth, .bool true, .int .i64 xwy], .int .i64 4] ((w1.alloc (.cells #[.int .i64 g, .int .i64 2, .int .i64 xsp, .int .i64 xth, .bool true, .int .i64 xwy] 181)).alloc (.cells #[.int .i64 g, .int .i64 2, .int .i64 xsp, .int .i64 xth, .bool true, .int .i64 xwy] 181)) fun e w' => e = .returned (.int .i64 ((doomOp g th).E hs k)) ∧
        ∃ v', Hid (St o ((its.set i (meterI 174 mo ((doomOp g th).S s hs k) v')).set b (hdRowI r c mo 3 ((doomOp g th).H hs k))) w') := by
      intro w1 hS
      have hS2 := ((hS.box #[.int .i64 g, .int .i64 2, .int .i64 xsp, .int .i64 xth, .bool true, .int .i64 xwy] 181).box #[.int .i64 g, .int .i64 2, .int .i64 xsp, .int .i64 xth, .bool true, .int .i64 xwy] 181)
      refine (tabTrade_st hS2 (i + 2) (a + 2) (b + 2) hi ha hb (by omega) hw hn k ⟨g, 2, xsp, xth, true, xwy⟩ ⟨g, 2, xsp, xth, true, xwy⟩ 4).mono ?_
      rintro e w' ⟨h1, v', h2⟩
      rw [a1] at h1
      rw [a2, a3] at h2
      exact ⟨h1, v', h2.pop.pop⟩
    clear h a1 a2 a3
    generalize (doomOp g th).E hs k = E at *
    generalize (doomOp g th).H hs k = hs' at *
    generalize (doomOp g th).S s hs k = s' at *
    go_enter Tryz.func423, Tryz.ntmps423
    go_wp2_with (go_at_call 365; refine hth.mono ?_; rintro e w' ⟨rfl, rfl⟩)
    refine hnow.mono ?_
    rintro e w1 ⟨rfl, hS1⟩
    have hT := htr w1 hS1
    clear htr hnow hS1
    go_wp2_with fail
    refine hT.mono ?_
    rintro e w3 ⟨rfl, v', HS⟩
    clear hT
    go_wp2
    go_ret
    exact ⟨rfl, v', HS.out⟩

set_option maxRecDepth 100000 in
set_option maxHeartbeats 1000000 in
theorem tabFree_st {o w : World} {its : List It} (h : St o its w) (i a b : Nat) {t r c q : Nat} {mo : Option Nat} {s : Mt} {v : Value} {hs : List Hd} (hi : its[i]? = some (meterI 174 mo s v)) (ha : its[a]? = some (tabI t r q)) (hb : its[b]? = some (hdRowI r c mo 3 hs)) (hib : i ≠ b)
    {n N : Nat} (hw : s.within n) (hn : n ≤ 4611686018427) (hok : HsOk hs N) (k g : Int) :
    Calls Tryz.prog 348 #[.pointer (some ⟨t, 0, none⟩), .int .i64 k, .int .i64 g] w fun e w' => e = .returned (.int .i64 ((freeOp g).E hs k)) ∧
      ∃ v', St o ((its.set i (meterI 174 mo ((freeOp g).S s hs k) v')).set b (hdRowI r c mo 3 ((freeOp g).H hs k))) w' := by
  obtain ⟨a1, a2, a3⟩ := free_agree hok k g s
  have hnow := tabNow_st h a b ha hb k
  have hx := (nowAt_ok hok k).st
  generalize nowAt hs k = x at *
  obtain ⟨xgn, xsa, xsp, xth, xdm, xwy⟩ := x
  simp only [Hd.val] at *
  have hsa : xsa = 0 ∨ xsa = 1 ∨ xsa = 2 := by
    rcases hx with hx | hx | hx
    · exact .inl hx.1
    · exact .inr (.inl hx.1)
    · exact .inr (.inr hx.1)
  clear hx
  rcases hsa with rfl | rfl | rfl
  · have hm : max (0 : Int) 1 = 1 := by decide
    simp only [hm] at a1 a2 a3
    have htr : ∀ w1, St o its w1 → Calls Tryz.prog 350 #[.pointer (some ⟨t, 0, none⟩), .int .i64 k, .agg #[.int .i64 g, .int .i64 1, .int .i64 xsp, .int .i64 xth, .bool xdm, .int .i64 xwy], .agg #[.int .i64 g, .int .i64 0, .int .i64 0, .int .i64 0, .bool false, .int .i64 0], .int .i64 4] (w1.alloc (.cells #[.int .i64 g, .int .i64 1, .int .i64 xsp, .int .i64 xth, .bool xdm, .int .i64 xwy] 181)) fun e w' => e = .returned (.int .i64 ((freeOp g).E hs k)) ∧
        ∃ v', Hid (St o ((its.set i (meterI 174 mo ((freeOp g).S s hs k) v')).set b (hdRowI r c mo 3 ((freeOp g).H hs k))) w') := by
      intro w1 hS
      have hS2 := (hS.box #[.int .i64 g, .int .i64 1, .int .i64 xsp, .int .i64 xth, .bool xdm, .int .i64 xwy] 181)
      refine (tabTrade_st hS2 (i + 1) (a + 1) (b + 1) hi ha hb (by omega) hw hn k ⟨g, 1, xsp, xth, xdm, xwy⟩ ⟨g, 0, 0, 0, false, 0⟩ 4).mono ?_
      rintro e w' ⟨h1, v', h2⟩
      rw [a1] at h1
      rw [a2, a3] at h2
      exact ⟨h1, v', h2.pop⟩
    clear h a1 a2 a3
    generalize (freeOp g).E hs k = E at *
    generalize (freeOp g).H hs k = hs' at *
    generalize (freeOp g).S s hs k = s' at *
    go_enter Tryz.func348, Tryz.ntmps348
    go_wp2_with fail
    refine hnow.mono ?_
    rintro e w1 ⟨rfl, hS1⟩
    have hT := htr w1 hS1
    clear htr hnow hS1
    go_wp2_with fail
    refine hT.mono ?_
    rintro e w3 ⟨rfl, v', HS⟩
    clear hT
    go_wp2
    go_ret
    exact ⟨rfl, v', HS.out⟩
  · have hm : max (1 : Int) 1 = 1 := by decide
    simp only [hm] at a1 a2 a3
    have htr : ∀ w1, St o its w1 → Calls Tryz.prog 350 #[.pointer (some ⟨t, 0, none⟩), .int .i64 k, .agg #[.int .i64 g, .int .i64 1, .int .i64 xsp, .int .i64 xth, .bool xdm, .int .i64 xwy], .agg #[.int .i64 g, .int .i64 0, .int .i64 0, .int .i64 0, .bool false, .int .i64 0], .int .i64 4] (w1.alloc (.cells #[.int .i64 g, .int .i64 1, .int .i64 xsp, .int .i64 xth, .bool xdm, .int .i64 xwy] 181)) fun e w' => e = .returned (.int .i64 ((freeOp g).E hs k)) ∧
        ∃ v', Hid (St o ((its.set i (meterI 174 mo ((freeOp g).S s hs k) v')).set b (hdRowI r c mo 3 ((freeOp g).H hs k))) w') := by
      intro w1 hS
      have hS2 := (hS.box #[.int .i64 g, .int .i64 1, .int .i64 xsp, .int .i64 xth, .bool xdm, .int .i64 xwy] 181)
      refine (tabTrade_st hS2 (i + 1) (a + 1) (b + 1) hi ha hb (by omega) hw hn k ⟨g, 1, xsp, xth, xdm, xwy⟩ ⟨g, 0, 0, 0, false, 0⟩ 4).mono ?_
      rintro e w' ⟨h1, v', h2⟩
      rw [a1] at h1
      rw [a2, a3] at h2
      exact ⟨h1, v', h2.pop⟩
    clear h a1 a2 a3
    generalize (freeOp g).E hs k = E at *
    generalize (freeOp g).H hs k = hs' at *
    generalize (freeOp g).S s hs k = s' at *
    go_enter Tryz.func348, Tryz.ntmps348
    go_wp2_with fail
    refine hnow.mono ?_
    rintro e w1 ⟨rfl, hS1⟩
    have hT := htr w1 hS1
    clear htr hnow hS1
    go_wp2_with fail
    refine hT.mono ?_
    rintro e w3 ⟨rfl, v', HS⟩
    clear hT
    go_wp2
    go_ret
    exact ⟨rfl, v', HS.out⟩
  · have hm : max (2 : Int) 1 = 2 := by decide
    simp only [hm] at a1 a2 a3
    have htr : ∀ w1, St o its w1 → Calls Tryz.prog 350 #[.pointer (some ⟨t, 0, none⟩), .int .i64 k, .agg #[.int .i64 g, .int .i64 2, .int .i64 xsp, .int .i64 xth, .bool xdm, .int .i64 xwy], .agg #[.int .i64 g, .int .i64 0, .int .i64 0, .int .i64 0, .bool false, .int .i64 0], .int .i64 4] (w1.alloc (.cells #[.int .i64 g, .int .i64 2, .int .i64 xsp, .int .i64 xth, .bool xdm, .int .i64 xwy] 181)) fun e w' => e = .returned (.int .i64 ((freeOp g).E hs k)) ∧
        ∃ v', Hid (St o ((its.set i (meterI 174 mo ((freeOp g).S s hs k) v')).set b (hdRowI r c mo 3 ((freeOp g).H hs k))) w') := by
      intro w1 hS
      have hS2 := (hS.box #[.int .i64 g, .int .i64 2, .int .i64 xsp, .int .i64 xth, .bool xdm, .int .i64 xwy] 181)
      refine (tabTrade_st hS2 (i + 1) (a + 1) (b + 1) hi ha hb (by omega) hw hn k ⟨g, 2, xsp, xth, xdm, xwy⟩ ⟨g, 0, 0, 0, false, 0⟩ 4).mono ?_
      rintro e w' ⟨h1, v', h2⟩
      rw [a1] at h1
      rw [a2, a3] at h2
      exact ⟨h1, v', h2.pop⟩
    clear h a1 a2 a3
    generalize (freeOp g).E hs k = E at *
    generalize (freeOp g).H hs k = hs' at *
    generalize (freeOp g).S s hs k = s' at *
    go_enter Tryz.func348, Tryz.ntmps348
    go_wp2_with fail
    refine hnow.mono ?_
    rintro e w1 ⟨rfl, hS1⟩
    have hT := htr w1 hS1
    clear htr hnow hS1
    go_wp2_with fail
    refine hT.mono ?_
    rintro e w3 ⟨rfl, v', HS⟩
    clear hT
    go_wp2
    go_ret
    exact ⟨rfl, v', HS.out⟩

/-- What Word and Put answer, note and leave. -/
def wordE (n : Nat) (i j : Int) : Int := match wordAt n i j with | none => 2 | some _ => 0
def wordR (ws : List Int) (n : Nat) (i j : Int) : Int := match wordAt n i j with | none => 0 | some k => ws.getD k 0
def wordS (s : Mt) (n : Nat) (i j : Int) : Mt := match wordAt n i j with | none => s | some k => s.note 4 k 1 true
def putS (s : Mt) (n : Nat) (i j : Int) : Mt := match wordAt n i j with | none => s | some k => s.note 4 k 2 true
def putW (ws : List Int) (n : Nat) (i j x : Int) : List Int := match wordAt n i j with | none => ws | some k => ws.set k x
theorem wordS_within {s : Mt} {n : Nat} (h : s.within n) (m : Nat) (i j : Int) : (wordS s m i j).within (n + 1) := by
  unfold wordS
  split
  · exact h.more (Nat.le_succ _)
  · exact h.note _ _ _ _
theorem putS_within {s : Mt} {n : Nat} (h : s.within n) (m : Nat) (i j : Int) : (putS s m i j).within (n + 1) := by
  unfold putS
  split
  · exact h.more (Nat.le_succ _)
  · exact h.note _ _ _ _
theorem putW_len (ws : List Int) (n : Nat) (i j x : Int) : (putW ws n i j x).length = ws.length := by
  unfold putW
  split
  · rfl
  · simp
theorem word_cases (n : Nat) (i j : Int) : (∃ a b : Nat, i = a ∧ j = b ∧ a < n ∧ b < 2 ∧ hasWd n i j = true ∧ wordAt n i j = some (a * 2 + b)) ∨ (hasWd n i j = false ∧ wordAt n i j = none) := by
  by_cases h : 0 ≤ i ∧ i < n ∧ 0 ≤ j ∧ j < 2
  · left
    obtain ⟨h1, h2, h3, h4⟩ := h
    obtain ⟨a, rfl⟩ := Int.eq_ofNat_of_zero_le h1
    obtain ⟨b, rfl⟩ := Int.eq_ofNat_of_zero_le h3
    refine ⟨a, b, rfl, rfl, by omega, by omega, ?_, ?_⟩
    · simp only [hasWd, hasSlot, Bool.and_eq_true, decide_eq_true_eq]
      exact ⟨⟨⟨h1, h2⟩, h3⟩, h4⟩
    · unfold wordAt
      rw [if_pos ⟨h1, h2, h3, h4⟩]
      rfl
  · right
    refine ⟨?_, ?_⟩
    · cases hx : hasWd n i j
      · rfl
      · simp only [hasWd, hasSlot, Bool.and_eq_true, decide_eq_true_eq] at hx
        exact absurd ⟨hx.1.1.1, hx.1.1.2, hx.1.2, hx.2⟩ h
    · unfold wordAt
      rw [if_neg h]

set_option maxRecDepth 100000 in
set_option maxHeartbeats 1000000 in
theorem tabWord_st {o w : World} {its : List It} (h : St o its w) (i a b d : Nat) {t r c q f : Nat} {mo : Option Nat} {s : Mt} {v : Value} {hs : List Hd} {ws : List Int} (hi : its[i]? = some (meterI 174 mo s v)) (ha : its[a]? = some (tabI t r q)) (hb : its[b]? = some (hdRowI r c mo 3 hs)) (hd : its[d]? = some (wdRowI q f mo 4 ws)) (hid : i ≠ d) (hl : ws.length = hs.length * 2)
    {n : Nat} (hw : s.within n) (hn : n ≤ 4611686018427) (k j : Int) :
    Calls Tryz.prog 417 #[.pointer (some ⟨t, 0, none⟩), .int .i64 k, .int .i64 j] w fun e w' => e = .returned (.tuple #[.int .u64 (wordR ws hs.length k j), .int .i64 (wordE hs.length k j)]) ∧ ∃ v', St o (its.set i (meterI 174 mo (wordS s hs.length k j) v')) w' := by
  have hh := tabHasWord_st h a b ha hb k j
  unfold wordE wordS wordR
  rcases word_cases hs.length k j with ⟨k', j', rfl, rfl, hk, hj, e1, e2⟩ | ⟨e1, e2⟩
  · simp only [e2]
    rw [e1] at hh
    have c1 : w.cell? ⟨t, 1, none⟩ = some (.pointer (some ⟨q, 0, none⟩)) := h.cell a ha 1
    have hin : k' * 2 + j' < ws.length := by omega
    have hle : (hs.length : Int) ≤ 4096 := by have := (show HdRow w r c mo 3 hs from h.get b hb).small; omega
    have i0 : (0 : Int) ≤ (k' : Int) := Int.natCast_nonneg _
    have i1 : (k' : Int) < (hs.length : Int) := by omega
    have i2 : (0 : Int) ≤ (j' : Int) := Int.natCast_nonneg _
    have i3 : (j' : Int) < 2 := by omega
    have ec : ((k' * 2 + j' : Nat) : Int) = (k' : Int) * 2 + (j' : Int) := by omega
    have hc : Calls Tryz.prog 338 #[.pointer (some ⟨q, 0, none⟩), .int .i64 ((k' : Int) * 2 + (j' : Int))] w fun e w' => e = .returned (.tuple #[.int .u64 (ws.getD (k' * 2 + j') 0), .int .i64 0]) ∧ ∃ v', Hid (St o (its.set i (meterI 174 mo (s.note 4 ((k' * 2 + j' : Nat) : Int) 1 true) v')) w') := by
      rw [← ec]
      have hg : ws.getD (k' * 2 + j') 0 = ws[k' * 2 + j'] := by simp [List.getD, hin]
      rw [hg]
      exact wdLoad_st h i d hi hd hid hw hn (k' * 2 + j') hin
    generalize ws.getD (k' * 2 + j') 0 = X at *
    clear h
    go_enter Tryz.func417, Tryz.ntmps417
    go_wp2_with (first | (go_at_call 297; refine hh.mono ?_; rintro e w' ⟨rfl, rfl⟩) | (go_at_call 338; refine hc.mono ?_; rintro e w1 ⟨rfl, v', hS⟩))
    go_ret2
    exact ⟨rfl, v', hS.out⟩
  · simp only [e2]
    rw [e1] at hh
    have HS : Hid (St o its w) := h
    clear h
    go_enter Tryz.func417, Tryz.ntmps417
    go_wp2_with (go_at_call 297; refine hh.mono ?_; rintro e w' ⟨rfl, rfl⟩)
    go_ret2
    refine ⟨rfl, v, ?_⟩
    rw [set_back hi]
    exact HS.out

set_option maxRecDepth 100000 in
set_option maxHeartbeats 1000000 in
theorem tabPut_st {o w : World} {its : List It} (h : St o its w) (i a b d : Nat) {t r c q f : Nat} {mo : Option Nat} {s : Mt} {v : Value} {hs : List Hd} {ws : List Int} (hi : its[i]? = some (meterI 174 mo s v)) (ha : its[a]? = some (tabI t r q)) (hb : its[b]? = some (hdRowI r c mo 3 hs)) (hd : its[d]? = some (wdRowI q f mo 4 ws)) (hid : i ≠ d) (hl : ws.length = hs.length * 2)
    {n : Nat} (hw : s.within n) (hn : n ≤ 4611686018427) (k j : Int) (x : Int) :
    Calls Tryz.prog 292 #[.pointer (some ⟨t, 0, none⟩), .int .i64 k, .int .i64 j, .int .u64 x] w fun e w' => e = .returned (.int .i64 (wordE hs.length k j)) ∧ ∃ v', St o ((its.set i (meterI 174 mo (putS s hs.length k j) v')).set d (wdRowI q f mo 4 (putW ws hs.length k j x))) w' := by
  have hh := tabHasWord_st h a b ha hb k j
  unfold wordE putS putW
  rcases word_cases hs.length k j with ⟨k', j', rfl, rfl, hk, hj, e1, e2⟩ | ⟨e1, e2⟩
  · simp only [e2]
    rw [e1] at hh
    have c1 : w.cell? ⟨t, 1, none⟩ = some (.pointer (some ⟨q, 0, none⟩)) := h.cell a ha 1
    have hin : k' * 2 + j' < ws.length := by omega
    have hle : (hs.length : Int) ≤ 4096 := by have := (show HdRow w r c mo 3 hs from h.get b hb).small; omega
    have i0 : (0 : Int) ≤ (k' : Int) := Int.natCast_nonneg _
    have i1 : (k' : Int) < (hs.length : Int) := by omega
    have i2 : (0 : Int) ≤ (j' : Int) := Int.natCast_nonneg _
    have i3 : (j' : Int) < 2 := by omega
    have ec : ((k' * 2 + j' : Nat) : Int) = (k' : Int) * 2 + (j' : Int) := by omega
    have hc : Calls Tryz.prog 298 #[.pointer (some ⟨q, 0, none⟩), .int .i64 ((k' : Int) * 2 + (j' : Int)), .int .u64 x] w fun e w' => e = .returned (.int .i64 0) ∧ ∃ v', Hid (St o ((its.set i (meterI 174 mo (s.note 4 ((k' * 2 + j' : Nat) : Int) 2 true) v')).set d (wdRowI q f mo 4 (ws.set (k' * 2 + j') x))) w') := by
      rw [← ec]
      exact wdStore_st h i d hi hd hid hw hn (k' * 2 + j') hin x
    clear h
    go_enter Tryz.func292, Tryz.ntmps292
    go_wp2_with (first | (go_at_call 297; refine hh.mono ?_; rintro e w' ⟨rfl, rfl⟩) | (go_at_call 298; refine hc.mono ?_; rintro e w1 ⟨rfl, v', hS⟩))
    go_ret
    exact ⟨rfl, v', hS.out⟩
  · simp only [e2]
    rw [e1] at hh
    have HS : Hid (St o its w) := h
    clear h
    go_enter Tryz.func292, Tryz.ntmps292
    go_wp2_with (go_at_call 297; refine hh.mono ?_; rintro e w' ⟨rfl, rfl⟩)
    go_ret
    refine ⟨rfl, v, ?_⟩
    rw [set_back hi, set_back hd]
    exact HS.out

end Go.Proofs.YthbcbjkgjgmegaaGreat
