/- What the calls on heads do: Claim. -/
import Derived.Test.YtjffkgolpdoegaaTabB
namespace Go.Proofs.Ytjffkgolpdoegaa
open Go.RowKit
set_option linter.unusedVariables false
set_option linter.unusedSimpArgs false
attribute [local go_sem ↓] Go.wp_at_zero Go.wp_at_succ

theorem nowAt_ok {hs : List Hd} {n : Nat} (e : HsOk hs n) (i : Int) : HOk (nowAt hs i) n := by
  unfold nowAt
  cases h : headAt hs i with
  | none => exact HOk.zero n
  | some x => exact e x (headAt_mem h)
theorem claim_agree {hs : List Hd} {N : Nat} (e : HsOk hs N) (k : Int) {t : Int} (ht : isTh t = true) (s : Mt) :
    (trOp ⟨(nowAt hs k).gn, 0, 0, 0, false, 0⟩ ⟨(nowAt hs k).gn + 1, 1, 0, t, false, 0⟩ 5).E hs k = (claimOp t).E hs k ∧
    (trOp ⟨(nowAt hs k).gn, 0, 0, 0, false, 0⟩ ⟨(nowAt hs k).gn + 1, 1, 0, t, false, 0⟩ 5).H hs k = (claimOp t).H hs k ∧
    (trOp ⟨(nowAt hs k).gn, 0, 0, 0, false, 0⟩ ⟨(nowAt hs k).gn + 1, 1, 0, t, false, 0⟩ 5).S s hs k = (claimOp t).S s hs k := by
  refine HOp.agree ?_ ?_ ?_ (fun x hx => ?_) s
  · rfl
  · simp [claimOp, ht]
  · rfl
  have hn : nowAt hs k = x := by simp [nowAt, hx]
  simp only [trOp, claimOp, hn]
  exact ⟨claim_trade (e x (headAt_mem hx)), fun _ => trivial⟩
theorem ready_agree {hs : List Hd} (k g p : Int) (hp : ¬ p < 1) (s : Mt) :
    (trOp ⟨g, 1, (nowAt hs k).sp, (nowAt hs k).th, (nowAt hs k).dm, (nowAt hs k).wy⟩ ⟨g, 2, p, (nowAt hs k).th, (nowAt hs k).dm, (nowAt hs k).wy⟩ 4).E hs k = (readyOp g p).E hs k ∧
    (trOp ⟨g, 1, (nowAt hs k).sp, (nowAt hs k).th, (nowAt hs k).dm, (nowAt hs k).wy⟩ ⟨g, 2, p, (nowAt hs k).th, (nowAt hs k).dm, (nowAt hs k).wy⟩ 4).H hs k = (readyOp g p).H hs k ∧
    (trOp ⟨g, 1, (nowAt hs k).sp, (nowAt hs k).th, (nowAt hs k).dm, (nowAt hs k).wy⟩ ⟨g, 2, p, (nowAt hs k).th, (nowAt hs k).dm, (nowAt hs k).wy⟩ 4).S s hs k = (readyOp g p).S s hs k := by
  refine HOp.agree ?_ ?_ ?_ (fun x hx => ?_) s
  · rfl
  · simp [readyOp, hp]
  · rfl
  have hn : nowAt hs k = x := by simp [nowAt, hx]
  simp only [trOp, readyOp, hn]
  refine ⟨ready_trade g, fun h => ?_⟩
  simp only [Bool.and_eq_true, beq_iff_eq] at h
  rw [h.2]
theorem doom_agree {hs : List Hd} (k g t : Int) (ht : isTh t = true) (s : Mt) :
    (trOp ⟨g, 2, (nowAt hs k).sp, (nowAt hs k).th, (nowAt hs k).dm, (nowAt hs k).wy⟩ (if (nowAt hs k).dm then ⟨g, 2, (nowAt hs k).sp, (nowAt hs k).th, (nowAt hs k).dm, (nowAt hs k).wy⟩ else ⟨g, 2, (nowAt hs k).sp, (nowAt hs k).th, true, t⟩) 4).E hs k = (doomOp g t).E hs k ∧
    (trOp ⟨g, 2, (nowAt hs k).sp, (nowAt hs k).th, (nowAt hs k).dm, (nowAt hs k).wy⟩ (if (nowAt hs k).dm then ⟨g, 2, (nowAt hs k).sp, (nowAt hs k).th, (nowAt hs k).dm, (nowAt hs k).wy⟩ else ⟨g, 2, (nowAt hs k).sp, (nowAt hs k).th, true, t⟩) 4).H hs k = (doomOp g t).H hs k ∧
    (trOp ⟨g, 2, (nowAt hs k).sp, (nowAt hs k).th, (nowAt hs k).dm, (nowAt hs k).wy⟩ (if (nowAt hs k).dm then ⟨g, 2, (nowAt hs k).sp, (nowAt hs k).th, (nowAt hs k).dm, (nowAt hs k).wy⟩ else ⟨g, 2, (nowAt hs k).sp, (nowAt hs k).th, true, t⟩) 4).S s hs k = (doomOp g t).S s hs k := by
  refine HOp.agree ?_ ?_ ?_ (fun x hx => ?_) s
  · rfl
  · simp [doomOp, ht]
  · rfl
  have hn : nowAt hs k = x := by simp [nowAt, hx]
  simp only [trOp, doomOp, hn]
  refine ⟨doom_trade g, fun h => ?_⟩
  simp only [Bool.and_eq_true, beq_iff_eq] at h
  obtain ⟨rfl⟩ := h.2
  rw [← h.1]
theorem free_agree {hs : List Hd} {N : Nat} (e : HsOk hs N) (k g : Int) (s : Mt) :
    (trOp ⟨g, max (nowAt hs k).sa 1, (nowAt hs k).sp, (nowAt hs k).th, (nowAt hs k).dm, (nowAt hs k).wy⟩ ⟨g, 0, 0, 0, false, 0⟩ 4).E hs k = (freeOp g).E hs k ∧
    (trOp ⟨g, max (nowAt hs k).sa 1, (nowAt hs k).sp, (nowAt hs k).th, (nowAt hs k).dm, (nowAt hs k).wy⟩ ⟨g, 0, 0, 0, false, 0⟩ 4).H hs k = (freeOp g).H hs k ∧
    (trOp ⟨g, max (nowAt hs k).sa 1, (nowAt hs k).sp, (nowAt hs k).th, (nowAt hs k).dm, (nowAt hs k).wy⟩ ⟨g, 0, 0, 0, false, 0⟩ 4).S s hs k = (freeOp g).S s hs k := by
  refine HOp.agree ?_ ?_ ?_ (fun x hx => ?_) s
  · rfl
  · rfl
  · rfl
  have hn : nowAt hs k = x := by simp [nowAt, hx]
  simp only [trOp, freeOp, hn]
  exact ⟨free_trade (e x (headAt_mem hx)) g, fun _ => trivial⟩
theorem claimR_eq {hs : List Hd} (k : Int) {t : Int} (ht : isTh t = true) : claimR hs k t = if (claimOp t).E hs k = 0 then (nowAt hs k).gn + 1 else 0 := by
  unfold claimR HOp.E nowAt
  simp only [claimOp, ht, if_true]
  cases headAt hs k with
  | none => simp
  | some x => cases h : (x.sa == 0) <;> simp [h]

theorem hdField_gn (a b c d : Int) (e : Bool) (f : Int) (w : World) : (Instr.field 58 (.agg #[.int .i64 a, .int .i64 b, .int .i64 c, .int .i64 d, .bool e, .int .i64 f]) 0).run Try.prog w = .ok (.int .i64 a) w := by kernel_rfl
theorem keep_all {o w : World} {its : List It} {i b : Nat} {A B : It} (h : St o its w) (hi : its[i]? = some A) (hb : its[b]? = some B) : St o ((its.set i A).set b B) w := by
  rw [set_back hi, set_back hb]; exact h

end Go.Proofs.Ytjffkgolpdoegaa
