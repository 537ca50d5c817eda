/- The law PolicyJudges, step by step. -/
import Derived.Test.YtjljipbmbelmgaaLent
import Derived.Test.YtjljipbmbelmgaaUp
import Derived.Test.YtjljipbmbelmgaaOps
namespace Go.Proofs.Ytjljipbmbelmgaa
open Go.RowKit
set_option linter.unusedVariables false
set_option linter.unusedSimpArgs false
attribute [local go_sem ↓] Go.wp_at_zero Go.wp_at_succ

set_option maxRecDepth 100000 in
set_option maxHeartbeats 8000000 in
theorem judges_walk (c d : Cfg) (a : Option Addr) (len cap : Nat) (f : Nat → OpD) (w : World) (hS : ScriptAt w a len f) (hlen : len * 40 ≤ 140737488351232) :
    Calls Try.prog 4 #[c.val, d.val, .slice a len cap] w fun e w' => e = .returned (.bool true) ∧ Kept (fun _ => False) w w' := by
  have h0 := ((St.nil w).box #[.int .i64 c.ce, .int .i64 c.sl, .int .i64 c.bi, .int .i64 c.ta, .int .i64 c.ba, .int .i64 c.de] 23).box #[.int .i64 d.ce, .int .i64 d.sl, .int .i64 d.bi, .int .i64 d.ta, .int .i64 d.ba, .int .i64 d.de] 23
  have HS : Hid (ScriptAt w a len f) := hS
  clear hS
  simp only [alloc_size] at h0
  unfold Cfg.val
  go_enter Try.func4, Try.ntmps4
  go_upto_region 1 with fail
  generalize (w.alloc (.cells #[.int .i64 c.ce, .int .i64 c.sl, .int .i64 c.bi, .int .i64 c.ta, .int .i64 c.ba, .int .i64 c.de] 23)).alloc (.cells #[.int .i64 d.ce, .int .i64 d.sl, .int .i64 d.bi, .int .i64 d.ta, .int .i64 d.ba, .int .i64 d.de] 23) = W0 at *
  generalize w.heap.size + 1 = B2 at *
  generalize w.heap.size = B1 at *
  go_wp2_with fail
  refine (up_any _).mono ?_
  rintro e w1 ⟨rfl, k1⟩
  have h1 := h0.calm k1
  clear h0 k1
  cases hfc : c.fits
  · cases hfd : d.fits
    · skip
      have c0 : w1.cell? ⟨B1, 0, none⟩ = some (.int .i64 c.ce) := h1.cell 1 rfl 0
      have c1 : w1.cell? ⟨B1, 1, none⟩ = some (.int .i64 c.sl) := h1.cell 1 rfl 1
      have c2 : w1.cell? ⟨B1, 2, none⟩ = some (.int .i64 c.bi) := h1.cell 1 rfl 2
      have c3 : w1.cell? ⟨B1, 3, none⟩ = some (.int .i64 c.ta) := h1.cell 1 rfl 3
      have c4 : w1.cell? ⟨B1, 4, none⟩ = some (.int .i64 c.ba) := h1.cell 1 rfl 4
      have c5 : w1.cell? ⟨B1, 5, none⟩ = some (.int .i64 c.de) := h1.cell 1 rfl 5
      have hq : Calls Try.prog 12 #[.agg #[.int .i64 c.ce, .int .i64 c.sl, .int .i64 c.bi, .int .i64 c.ta, .int .i64 c.ba, .int .i64 c.de]] w1 _ := new_out c hfc w1
      go_wp2_with fail
      refine hq.mono ?_
      rintro e w2 ⟨rfl, k2⟩
      have h2 := h1.calm k2
      clear hq h1 k2 c0 c1 c2 c3 c4 c5
      have d0 : w2.cell? ⟨B2, 0, none⟩ = some (.int .i64 d.ce) := h2.cell 0 rfl 0
      have d1 : w2.cell? ⟨B2, 1, none⟩ = some (.int .i64 d.sl) := h2.cell 0 rfl 1
      have d2 : w2.cell? ⟨B2, 2, none⟩ = some (.int .i64 d.bi) := h2.cell 0 rfl 2
      have d3 : w2.cell? ⟨B2, 3, none⟩ = some (.int .i64 d.ta) := h2.cell 0 rfl 3
      have d4 : w2.cell? ⟨B2, 4, none⟩ = some (.int .i64 d.ba) := h2.cell 0 rfl 4
      have d5 : w2.cell? ⟨B2, 5, none⟩ = some (.int .i64 d.de) := h2.cell 0 rfl 5
      have hq : Calls Try.prog 12 #[.agg #[.int .i64 d.ce, .int .i64 d.sl, .int .i64 d.bi, .int .i64 d.ta, .int .i64 d.ba, .int .i64 d.de]] w2 _ := new_out d hfd w2
      go_wp2_with fail
      refine hq.mono ?_
      rintro e w3 ⟨rfl, k3⟩
      have h3 := h2.calm k3
      clear hq h2 k3 d0 d1 d2 d3 d4 d5
      have c0 : w3.cell? ⟨B1, 0, none⟩ = some (.int .i64 c.ce) := h3.cell 1 rfl 0
      have c1 : w3.cell? ⟨B1, 1, none⟩ = some (.int .i64 c.sl) := h3.cell 1 rfl 1
      have c2 : w3.cell? ⟨B1, 2, none⟩ = some (.int .i64 c.bi) := h3.cell 1 rfl 2
      have c3 : w3.cell? ⟨B1, 3, none⟩ = some (.int .i64 c.ta) := h3.cell 1 rfl 3
      have c4 : w3.cell? ⟨B1, 4, none⟩ = some (.int .i64 c.ba) := h3.cell 1 rfl 4
      have c5 : w3.cell? ⟨B1, 5, none⟩ = some (.int .i64 c.de) := h3.cell 1 rfl 5
      have HRc : Hid (∀ W, St w [boxI B2 #[.int .i64 d.ce, .int .i64 d.sl, .int .i64 d.bi, .int .i64 d.ta, .int .i64 d.ba, .int .i64 d.de] 23, boxI B1 #[.int .i64 c.ce, .int .i64 c.sl, .int .i64 c.bi, .int .i64 c.ta, .int .i64 c.ba, .int .i64 c.de] 23] W → Calls Try.prog 13 #[.agg #[.int .i64 c.ce, .int .i64 c.sl, .int .i64 c.bi, .int .i64 c.ta, .int .i64 c.ba, .int .i64 c.de]] W fun e w' => e = .returned (.int .i64 1) ∧ St w [boxI B2 #[.int .i64 d.ce, .int .i64 d.sl, .int .i64 d.bi, .int .i64 d.ta, .int .i64 d.ba, .int .i64 d.de] 23, boxI B1 #[.int .i64 c.ce, .int .i64 c.sl, .int .i64 c.bi, .int .i64 c.ta, .int .i64 c.ba, .int .i64 c.de] 23] w') := fun W h => by
        have := refCheck_any c W
        rw [hfc] at this
        refine this.mono ?_
        rintro e w' ⟨he, hk⟩
        exact ⟨he, h.calm hk⟩
      have HRd : Hid (∀ W, St w [boxI B2 #[.int .i64 d.ce, .int .i64 d.sl, .int .i64 d.bi, .int .i64 d.ta, .int .i64 d.ba, .int .i64 d.de] 23, boxI B1 #[.int .i64 c.ce, .int .i64 c.sl, .int .i64 c.bi, .int .i64 c.ta, .int .i64 c.ba, .int .i64 c.de] 23] W → Calls Try.prog 13 #[.agg #[.int .i64 d.ce, .int .i64 d.sl, .int .i64 d.bi, .int .i64 d.ta, .int .i64 d.ba, .int .i64 d.de]] W fun e w' => e = .returned (.int .i64 1) ∧ St w [boxI B2 #[.int .i64 d.ce, .int .i64 d.sl, .int .i64 d.bi, .int .i64 d.ta, .int .i64 d.ba, .int .i64 d.de] 23, boxI B1 #[.int .i64 c.ce, .int .i64 c.sl, .int .i64 c.bi, .int .i64 c.ta, .int .i64 c.ba, .int .i64 c.de] 23] w') := fun W h => by
        have := refCheck_any d W
        rw [hfd] at this
        refine this.mono ?_
        rintro e w' ⟨he, hk⟩
        exact ⟨he, h.calm hk⟩
      have HFc : Hid (c.fits = false) := hfc
      have HFd : Hid (d.fits = false) := hfd
      clear hfc hfd
      have CD : Hid (∀ W, St w [boxI B2 #[.int .i64 d.ce, .int .i64 d.sl, .int .i64 d.bi, .int .i64 d.ta, .int .i64 d.ba, .int .i64 d.de] 23, boxI B1 #[.int .i64 c.ce, .int .i64 c.sl, .int .i64 c.bi, .int .i64 c.ta, .int .i64 c.ba, .int .i64 c.de] 23] W → W.cell? ⟨B2, 0, none⟩ = some (.int .i64 d.ce) ∧ W.cell? ⟨B2, 1, none⟩ = some (.int .i64 d.sl) ∧ W.cell? ⟨B2, 2, none⟩ = some (.int .i64 d.bi) ∧ W.cell? ⟨B2, 3, none⟩ = some (.int .i64 d.ta) ∧ W.cell? ⟨B2, 4, none⟩ = some (.int .i64 d.ba) ∧ W.cell? ⟨B2, 5, none⟩ = some (.int .i64 d.de)) := fun W h => ⟨h.cell 0 rfl 0, h.cell 0 rfl 1, h.cell 0 rfl 2, h.cell 0 rfl 3, h.cell 0 rfl 4, h.cell 0 rfl 5⟩
      go_wp2_with (first | (go_at_call_of 13 c; refine (HRc.out _ h3).mono ?_; rintro e w4 ⟨rfl, h4⟩; obtain ⟨d0, d1, d2, d3, d4, d5⟩ := CD.out _ h4) | (go_at_call_of 13 d; refine (HRd.out _ h4).mono ?_; rintro e w5 ⟨rfl, h5⟩))
      go_ret
      exact ⟨rfl, h5.same⟩
    · skip
      have c0 : w1.cell? ⟨B1, 0, none⟩ = some (.int .i64 c.ce) := h1.cell 1 rfl 0
      have c1 : w1.cell? ⟨B1, 1, none⟩ = some (.int .i64 c.sl) := h1.cell 1 rfl 1
      have c2 : w1.cell? ⟨B1, 2, none⟩ = some (.int .i64 c.bi) := h1.cell 1 rfl 2
      have c3 : w1.cell? ⟨B1, 3, none⟩ = some (.int .i64 c.ta) := h1.cell 1 rfl 3
      have c4 : w1.cell? ⟨B1, 4, none⟩ = some (.int .i64 c.ba) := h1.cell 1 rfl 4
      have c5 : w1.cell? ⟨B1, 5, none⟩ = some (.int .i64 c.de) := h1.cell 1 rfl 5
      have hq : Calls Try.prog 12 #[.agg #[.int .i64 c.ce, .int .i64 c.sl, .int .i64 c.bi, .int .i64 c.ta, .int .i64 c.ba, .int .i64 c.de]] w1 _ := new_out c hfc w1
      go_wp2_with fail
      refine hq.mono ?_
      rintro e w2 ⟨rfl, k2⟩
      have h2 := h1.calm k2
      clear hq h1 k2 c0 c1 c2 c3 c4 c5
      have d0 : w2.cell? ⟨B2, 0, none⟩ = some (.int .i64 d.ce) := h2.cell 0 rfl 0
      have d1 : w2.cell? ⟨B2, 1, none⟩ = some (.int .i64 d.sl) := h2.cell 0 rfl 1
      have d2 : w2.cell? ⟨B2, 2, none⟩ = some (.int .i64 d.bi) := h2.cell 0 rfl 2
      have d3 : w2.cell? ⟨B2, 3, none⟩ = some (.int .i64 d.ta) := h2.cell 0 rfl 3
      have d4 : w2.cell? ⟨B2, 4, none⟩ = some (.int .i64 d.ba) := h2.cell 0 rfl 4
      have d5 : w2.cell? ⟨B2, 5, none⟩ = some (.int .i64 d.de) := h2.cell 0 rfl 5
      have hq : Calls Try.prog 12 #[.agg #[.int .i64 d.ce, .int .i64 d.sl, .int .i64 d.bi, .int .i64 d.ta, .int .i64 d.ba, .int .i64 d.de]] w2 _ := new_st h2 d hfd
      go_wp2_with fail
      refine hq.mono ?_
      rintro e w3 ⟨K, rfl, h3⟩
      clear hq h2 d0 d1 d2 d3 d4 d5
      have c0 : w3.cell? ⟨B1, 0, none⟩ = some (.int .i64 c.ce) := h3.cell 2 rfl 0
      have c1 : w3.cell? ⟨B1, 1, none⟩ = some (.int .i64 c.sl) := h3.cell 2 rfl 1
      have c2 : w3.cell? ⟨B1, 2, none⟩ = some (.int .i64 c.bi) := h3.cell 2 rfl 2
      have c3 : w3.cell? ⟨B1, 3, none⟩ = some (.int .i64 c.ta) := h3.cell 2 rfl 3
      have c4 : w3.cell? ⟨B1, 4, none⟩ = some (.int .i64 c.ba) := h3.cell 2 rfl 4
      have c5 : w3.cell? ⟨B1, 5, none⟩ = some (.int .i64 c.de) := h3.cell 2 rfl 5
      have HRc : Hid (∀ W, St w [boxI K (jd d 0) 56, boxI B2 #[.int .i64 d.ce, .int .i64 d.sl, .int .i64 d.bi, .int .i64 d.ta, .int .i64 d.ba, .int .i64 d.de] 23, boxI B1 #[.int .i64 c.ce, .int .i64 c.sl, .int .i64 c.bi, .int .i64 c.ta, .int .i64 c.ba, .int .i64 c.de] 23] W → Calls Try.prog 13 #[.agg #[.int .i64 c.ce, .int .i64 c.sl, .int .i64 c.bi, .int .i64 c.ta, .int .i64 c.ba, .int .i64 c.de]] W fun e w' => e = .returned (.int .i64 1) ∧ St w [boxI K (jd d 0) 56, boxI B2 #[.int .i64 d.ce, .int .i64 d.sl, .int .i64 d.bi, .int .i64 d.ta, .int .i64 d.ba, .int .i64 d.de] 23, boxI B1 #[.int .i64 c.ce, .int .i64 c.sl, .int .i64 c.bi, .int .i64 c.ta, .int .i64 c.ba, .int .i64 c.de] 23] w') := fun W h => by
        have := refCheck_any c W
        rw [hfc] at this
        refine this.mono ?_
        rintro e w' ⟨he, hk⟩
        exact ⟨he, h.calm hk⟩
      have HRd : Hid (∀ W, St w [boxI K (jd d 0) 56, boxI B2 #[.int .i64 d.ce, .int .i64 d.sl, .int .i64 d.bi, .int .i64 d.ta, .int .i64 d.ba, .int .i64 d.de] 23, boxI B1 #[.int .i64 c.ce, .int .i64 c.sl, .int .i64 c.bi, .int .i64 c.ta, .int .i64 c.ba, .int .i64 c.de] 23] W → Calls Try.prog 13 #[.agg #[.int .i64 d.ce, .int .i64 d.sl, .int .i64 d.bi, .int .i64 d.ta, .int .i64 d.ba, .int .i64 d.de]] W fun e w' => e = .returned (.int .i64 0) ∧ St w [boxI K (jd d 0) 56, boxI B2 #[.int .i64 d.ce, .int .i64 d.sl, .int .i64 d.bi, .int .i64 d.ta, .int .i64 d.ba, .int .i64 d.de] 23, boxI B1 #[.int .i64 c.ce, .int .i64 c.sl, .int .i64 c.bi, .int .i64 c.ta, .int .i64 c.ba, .int .i64 c.de] 23] w') := fun W h => by
        have := refCheck_any d W
        rw [hfd] at this
        refine this.mono ?_
        rintro e w' ⟨he, hk⟩
        exact ⟨he, h.calm hk⟩
      have HFc : Hid (c.fits = false) := hfc
      have HFd : Hid (d.fits = true) := hfd
      clear hfc hfd
      have CD : Hid (∀ W, St w [boxI K (jd d 0) 56, boxI B2 #[.int .i64 d.ce, .int .i64 d.sl, .int .i64 d.bi, .int .i64 d.ta, .int .i64 d.ba, .int .i64 d.de] 23, boxI B1 #[.int .i64 c.ce, .int .i64 c.sl, .int .i64 c.bi, .int .i64 c.ta, .int .i64 c.ba, .int .i64 c.de] 23] W → W.cell? ⟨B2, 0, none⟩ = some (.int .i64 d.ce) ∧ W.cell? ⟨B2, 1, none⟩ = some (.int .i64 d.sl) ∧ W.cell? ⟨B2, 2, none⟩ = some (.int .i64 d.bi) ∧ W.cell? ⟨B2, 3, none⟩ = some (.int .i64 d.ta) ∧ W.cell? ⟨B2, 4, none⟩ = some (.int .i64 d.ba) ∧ W.cell? ⟨B2, 5, none⟩ = some (.int .i64 d.de)) := fun W h => ⟨h.cell 1 rfl 0, h.cell 1 rfl 1, h.cell 1 rfl 2, h.cell 1 rfl 3, h.cell 1 rfl 4, h.cell 1 rfl 5⟩
      go_wp2_with (first | (go_at_call_of 13 c; refine (HRc.out _ h3).mono ?_; rintro e w4 ⟨rfl, h4⟩; obtain ⟨d0, d1, d2, d3, d4, d5⟩ := CD.out _ h4) | (go_at_call_of 13 d; refine (HRd.out _ h4).mono ?_; rintro e w5 ⟨rfl, h5⟩))
      go_ret
      exact ⟨rfl, h5.same⟩
  · cases hfd : d.fits
    · skip
      have c0 : w1.cell? ⟨B1, 0, none⟩ = some (.int .i64 c.ce) := h1.cell 1 rfl 0
      have c1 : w1.cell? ⟨B1, 1, none⟩ = some (.int .i64 c.sl) := h1.cell 1 rfl 1
      have c2 : w1.cell? ⟨B1, 2, none⟩ = some (.int .i64 c.bi) := h1.cell 1 rfl 2
      have c3 : w1.cell? ⟨B1, 3, none⟩ = some (.int .i64 c.ta) := h1.cell 1 rfl 3
      have c4 : w1.cell? ⟨B1, 4, none⟩ = some (.int .i64 c.ba) := h1.cell 1 rfl 4
      have c5 : w1.cell? ⟨B1, 5, none⟩ = some (.int .i64 c.de) := h1.cell 1 rfl 5
      have hq : Calls Try.prog 12 #[.agg #[.int .i64 c.ce, .int .i64 c.sl, .int .i64 c.bi, .int .i64 c.ta, .int .i64 c.ba, .int .i64 c.de]] w1 _ := new_st h1 c hfc
      go_wp2_with fail
      refine hq.mono ?_
      rintro e w2 ⟨J, rfl, h2⟩
      clear hq h1 c0 c1 c2 c3 c4 c5
      have d0 : w2.cell? ⟨B2, 0, none⟩ = some (.int .i64 d.ce) := h2.cell 1 rfl 0
      have d1 : w2.cell? ⟨B2, 1, none⟩ = some (.int .i64 d.sl) := h2.cell 1 rfl 1
      have d2 : w2.cell? ⟨B2, 2, none⟩ = some (.int .i64 d.bi) := h2.cell 1 rfl 2
      have d3 : w2.cell? ⟨B2, 3, none⟩ = some (.int .i64 d.ta) := h2.cell 1 rfl 3
      have d4 : w2.cell? ⟨B2, 4, none⟩ = some (.int .i64 d.ba) := h2.cell 1 rfl 4
      have d5 : w2.cell? ⟨B2, 5, none⟩ = some (.int .i64 d.de) := h2.cell 1 rfl 5
      have hq : Calls Try.prog 12 #[.agg #[.int .i64 d.ce, .int .i64 d.sl, .int .i64 d.bi, .int .i64 d.ta, .int .i64 d.ba, .int .i64 d.de]] w2 _ := new_out d hfd w2
      go_wp2_with fail
      refine hq.mono ?_
      rintro e w3 ⟨rfl, k3⟩
      have h3 := h2.calm k3
      clear hq h2 k3 d0 d1 d2 d3 d4 d5
      have c0 : w3.cell? ⟨B1, 0, none⟩ = some (.int .i64 c.ce) := h3.cell 2 rfl 0
      have c1 : w3.cell? ⟨B1, 1, none⟩ = some (.int .i64 c.sl) := h3.cell 2 rfl 1
      have c2 : w3.cell? ⟨B1, 2, none⟩ = some (.int .i64 c.bi) := h3.cell 2 rfl 2
      have c3 : w3.cell? ⟨B1, 3, none⟩ = some (.int .i64 c.ta) := h3.cell 2 rfl 3
      have c4 : w3.cell? ⟨B1, 4, none⟩ = some (.int .i64 c.ba) := h3.cell 2 rfl 4
      have c5 : w3.cell? ⟨B1, 5, none⟩ = some (.int .i64 c.de) := h3.cell 2 rfl 5
      have HRc : Hid (∀ W, St w [boxI J (jd c 0) 56, boxI B2 #[.int .i64 d.ce, .int .i64 d.sl, .int .i64 d.bi, .int .i64 d.ta, .int .i64 d.ba, .int .i64 d.de] 23, boxI B1 #[.int .i64 c.ce, .int .i64 c.sl, .int .i64 c.bi, .int .i64 c.ta, .int .i64 c.ba, .int .i64 c.de] 23] W → Calls Try.prog 13 #[.agg #[.int .i64 c.ce, .int .i64 c.sl, .int .i64 c.bi, .int .i64 c.ta, .int .i64 c.ba, .int .i64 c.de]] W fun e w' => e = .returned (.int .i64 0) ∧ St w [boxI J (jd c 0) 56, boxI B2 #[.int .i64 d.ce, .int .i64 d.sl, .int .i64 d.bi, .int .i64 d.ta, .int .i64 d.ba, .int .i64 d.de] 23, boxI B1 #[.int .i64 c.ce, .int .i64 c.sl, .int .i64 c.bi, .int .i64 c.ta, .int .i64 c.ba, .int .i64 c.de] 23] w') := fun W h => by
        have := refCheck_any c W
        rw [hfc] at this
        refine this.mono ?_
        rintro e w' ⟨he, hk⟩
        exact ⟨he, h.calm hk⟩
      have HRd : Hid (∀ W, St w [boxI J (jd c 0) 56, boxI B2 #[.int .i64 d.ce, .int .i64 d.sl, .int .i64 d.bi, .int .i64 d.ta, .int .i64 d.ba, .int .i64 d.de] 23, boxI B1 #[.int .i64 c.ce, .int .i64 c.sl, .int .i64 c.bi, .int .i64 c.ta, .int .i64 c.ba, .int .i64 c.de] 23] W → Calls Try.prog 13 #[.agg #[.int .i64 d.ce, .int .i64 d.sl, .int .i64 d.bi, .int .i64 d.ta, .int .i64 d.ba, .int .i64 d.de]] W fun e w' => e = .returned (.int .i64 1) ∧ St w [boxI J (jd c 0) 56, boxI B2 #[.int .i64 d.ce, .int .i64 d.sl, .int .i64 d.bi, .int .i64 d.ta, .int .i64 d.ba, .int .i64 d.de] 23, boxI B1 #[.int .i64 c.ce, .int .i64 c.sl, .int .i64 c.bi, .int .i64 c.ta, .int .i64 c.ba, .int .i64 c.de] 23] w') := fun W h => by
        have := refCheck_any d W
        rw [hfd] at this
        refine this.mono ?_
        rintro e w' ⟨he, hk⟩
        exact ⟨he, h.calm hk⟩
      have HFc : Hid (c.fits = true) := hfc
      have HFd : Hid (d.fits = false) := hfd
      clear hfc hfd
      have CD : Hid (∀ W, St w [boxI J (jd c 0) 56, boxI B2 #[.int .i64 d.ce, .int .i64 d.sl, .int .i64 d.bi, .int .i64 d.ta, .int .i64 d.ba, .int .i64 d.de] 23, boxI B1 #[.int .i64 c.ce, .int .i64 c.sl, .int .i64 c.bi, .int .i64 c.ta, .int .i64 c.ba, .int .i64 c.de] 23] W → W.cell? ⟨B2, 0, none⟩ = some (.int .i64 d.ce) ∧ W.cell? ⟨B2, 1, none⟩ = some (.int .i64 d.sl) ∧ W.cell? ⟨B2, 2, none⟩ = some (.int .i64 d.bi) ∧ W.cell? ⟨B2, 3, none⟩ = some (.int .i64 d.ta) ∧ W.cell? ⟨B2, 4, none⟩ = some (.int .i64 d.ba) ∧ W.cell? ⟨B2, 5, none⟩ = some (.int .i64 d.de)) := fun W h => ⟨h.cell 1 rfl 0, h.cell 1 rfl 1, h.cell 1 rfl 2, h.cell 1 rfl 3, h.cell 1 rfl 4, h.cell 1 rfl 5⟩
      go_wp2_with (first | (go_at_call_of 13 c; refine (HRc.out _ h3).mono ?_; rintro e w4 ⟨rfl, h4⟩; obtain ⟨d0, d1, d2, d3, d4, d5⟩ := CD.out _ h4) | (go_at_call_of 13 d; refine (HRd.out _ h4).mono ?_; rintro e w5 ⟨rfl, h5⟩))
      go_ret
      exact ⟨rfl, h5.same⟩
    · skip
      have c0 : w1.cell? ⟨B1, 0, none⟩ = some (.int .i64 c.ce) := h1.cell 1 rfl 0
      have c1 : w1.cell? ⟨B1, 1, none⟩ = some (.int .i64 c.sl) := h1.cell 1 rfl 1
      have c2 : w1.cell? ⟨B1, 2, none⟩ = some (.int .i64 c.bi) := h1.cell 1 rfl 2
      have c3 : w1.cell? ⟨B1, 3, none⟩ = some (.int .i64 c.ta) := h1.cell 1 rfl 3
      have c4 : w1.cell? ⟨B1, 4, none⟩ = some (.int .i64 c.ba) := h1.cell 1 rfl 4
      have c5 : w1.cell? ⟨B1, 5, none⟩ = some (.int .i64 c.de) := h1.cell 1 rfl 5
      have hq : Calls Try.prog 12 #[.agg #[.int .i64 c.ce, .int .i64 c.sl, .int .i64 c.bi, .int .i64 c.ta, .int .i64 c.ba, .int .i64 c.de]] w1 _ := new_st h1 c hfc
      go_wp2_with fail
      refine hq.mono ?_
      rintro e w2 ⟨J, rfl, h2⟩
      clear hq h1 c0 c1 c2 c3 c4 c5
      have d0 : w2.cell? ⟨B2, 0, none⟩ = some (.int .i64 d.ce) := h2.cell 1 rfl 0
      have d1 : w2.cell? ⟨B2, 1, none⟩ = some (.int .i64 d.sl) := h2.cell 1 rfl 1
      have d2 : w2.cell? ⟨B2, 2, none⟩ = some (.int .i64 d.bi) := h2.cell 1 rfl 2
      have d3 : w2.cell? ⟨B2, 3, none⟩ = some (.int .i64 d.ta) := h2.cell 1 rfl 3
      have d4 : w2.cell? ⟨B2, 4, none⟩ = some (.int .i64 d.ba) := h2.cell 1 rfl 4
      have d5 : w2.cell? ⟨B2, 5, none⟩ = some (.int .i64 d.de) := h2.cell 1 rfl 5
      have hq : Calls Try.prog 12 #[.agg #[.int .i64 d.ce, .int .i64 d.sl, .int .i64 d.bi, .int .i64 d.ta, .int .i64 d.ba, .int .i64 d.de]] w2 _ := new_st h2 d hfd
      go_wp2_with fail
      refine hq.mono ?_
      rintro e w3 ⟨K, rfl, h3⟩
      clear hq h2 d0 d1 d2 d3 d4 d5
      have c0 : w3.cell? ⟨B1, 0, none⟩ = some (.int .i64 c.ce) := h3.cell 3 rfl 0
      have c1 : w3.cell? ⟨B1, 1, none⟩ = some (.int .i64 c.sl) := h3.cell 3 rfl 1
      have c2 : w3.cell? ⟨B1, 2, none⟩ = some (.int .i64 c.bi) := h3.cell 3 rfl 2
      have c3 : w3.cell? ⟨B1, 3, none⟩ = some (.int .i64 c.ta) := h3.cell 3 rfl 3
      have c4 : w3.cell? ⟨B1, 4, none⟩ = some (.int .i64 c.ba) := h3.cell 3 rfl 4
      have c5 : w3.cell? ⟨B1, 5, none⟩ = some (.int .i64 c.de) := h3.cell 3 rfl 5
      have HRc : Hid (∀ W, St w [boxI K (jd d 0) 56, boxI J (jd c 0) 56, boxI B2 #[.int .i64 d.ce, .int .i64 d.sl, .int .i64 d.bi, .int .i64 d.ta, .int .i64 d.ba, .int .i64 d.de] 23, boxI B1 #[.int .i64 c.ce, .int .i64 c.sl, .int .i64 c.bi, .int .i64 c.ta, .int .i64 c.ba, .int .i64 c.de] 23] W → Calls Try.prog 13 #[.agg #[.int .i64 c.ce, .int .i64 c.sl, .int .i64 c.bi, .int .i64 c.ta, .int .i64 c.ba, .int .i64 c.de]] W fun e w' => e = .returned (.int .i64 0) ∧ St w [boxI K (jd d 0) 56, boxI J (jd c 0) 56, boxI B2 #[.int .i64 d.ce, .int .i64 d.sl, .int .i64 d.bi, .int .i64 d.ta, .int .i64 d.ba, .int .i64 d.de] 23, boxI B1 #[.int .i64 c.ce, .int .i64 c.sl, .int .i64 c.bi, .int .i64 c.ta, .int .i64 c.ba, .int .i64 c.de] 23] w') := fun W h => by
        have := refCheck_any c W
        rw [hfc] at this
        refine this.mono ?_
        rintro e w' ⟨he, hk⟩
        exact ⟨he, h.calm hk⟩
      have HRd : Hid (∀ W, St w [boxI K (jd d 0) 56, boxI J (jd c 0) 56, boxI B2 #[.int .i64 d.ce, .int .i64 d.sl, .int .i64 d.bi, .int .i64 d.ta, .int .i64 d.ba, .int .i64 d.de] 23, boxI B1 #[.int .i64 c.ce, .int .i64 c.sl, .int .i64 c.bi, .int .i64 c.ta, .int .i64 c.ba, .int .i64 c.de] 23] W → Calls Try.prog 13 #[.agg #[.int .i64 d.ce, .int .i64 d.sl, .int .i64 d.bi, .int .i64 d.ta, .int .i64 d.ba, .int .i64 d.de]] W fun e w' => e = .returned (.int .i64 0) ∧ St w [boxI K (jd d 0) 56, boxI J (jd c 0) 56, boxI B2 #[.int .i64 d.ce, .int .i64 d.sl, .int .i64 d.bi, .int .i64 d.ta, .int .i64 d.ba, .int .i64 d.de] 23, boxI B1 #[.int .i64 c.ce, .int .i64 c.sl, .int .i64 c.bi, .int .i64 c.ta, .int .i64 c.ba, .int .i64 c.de] 23] w') := fun W h => by
        have := refCheck_any d W
        rw [hfd] at this
        refine this.mono ?_
        rintro e w' ⟨he, hk⟩
        exact ⟨he, h.calm hk⟩
      have HFc : Hid (c.fits = true) := hfc
      have HFd : Hid (d.fits = true) := hfd
      clear hfc hfd
      have CD : Hid (∀ W, St w [boxI K (jd d 0) 56, boxI J (jd c 0) 56, boxI B2 #[.int .i64 d.ce, .int .i64 d.sl, .int .i64 d.bi, .int .i64 d.ta, .int .i64 d.ba, .int .i64 d.de] 23, boxI B1 #[.int .i64 c.ce, .int .i64 c.sl, .int .i64 c.bi, .int .i64 c.ta, .int .i64 c.ba, .int .i64 c.de] 23] W → W.cell? ⟨B2, 0, none⟩ = some (.int .i64 d.ce) ∧ W.cell? ⟨B2, 1, none⟩ = some (.int .i64 d.sl) ∧ W.cell? ⟨B2, 2, none⟩ = some (.int .i64 d.bi) ∧ W.cell? ⟨B2, 3, none⟩ = some (.int .i64 d.ta) ∧ W.cell? ⟨B2, 4, none⟩ = some (.int .i64 d.ba) ∧ W.cell? ⟨B2, 5, none⟩ = some (.int .i64 d.de)) := fun W h => ⟨h.cell 2 rfl 0, h.cell 2 rfl 1, h.cell 2 rfl 2, h.cell 2 rfl 3, h.cell 2 rfl 4, h.cell 2 rfl 5⟩
      go_upto_region 8 with (first | (go_at_call_of 13 c; refine (HRc.out _ h3).mono ?_; rintro e w4 ⟨rfl, h4⟩; obtain ⟨d0, d1, d2, d3, d4, d5⟩ := CD.out _ h4) | (go_at_call_of 13 d; refine (HRd.out _ h4).mono ?_; rintro e w5 ⟨rfl, h5⟩))
      clear HRc HRd CD c0 c1 c2 c3 c4 c5 d0 d1 d2 d3 d4 d5 h3 h4
      have c0 : w5.cell? ⟨B1, 0, none⟩ = some (.int .i64 c.ce) := h5.cell 3 rfl 0
      have c1 : w5.cell? ⟨B1, 1, none⟩ = some (.int .i64 c.sl) := h5.cell 3 rfl 1
      have c2 : w5.cell? ⟨B1, 2, none⟩ = some (.int .i64 c.bi) := h5.cell 3 rfl 2
      have c3 : w5.cell? ⟨B1, 3, none⟩ = some (.int .i64 c.ta) := h5.cell 3 rfl 3
      have c4 : w5.cell? ⟨B1, 4, none⟩ = some (.int .i64 c.ba) := h5.cell 3 rfl 4
      have c5 : w5.cell? ⟨B1, 5, none⟩ = some (.int .i64 c.de) := h5.cell 3 rfl 5
      have h6 := h5.box (jd c 0) 39
      have h6 : St w [boxI w5.heap.size (jd c 0) 39, boxI K (jd d 0) 56, boxI J (jd c 0) 56, boxI B2 #[.int .i64 d.ce, .int .i64 d.sl, .int .i64 d.bi, .int .i64 d.ta, .int .i64 d.ba, .int .i64 d.de] 23, boxI B1 #[.int .i64 c.ce, .int .i64 c.sl, .int .i64 c.bi, .int .i64 c.ta, .int .i64 c.ba, .int .i64 c.de] 23] (w5.alloc (.cells #[.int .i64 c.ce, .int .i64 c.sl, .int .i64 c.bi, .int .i64 c.ta, .int .i64 c.ba, .int .i64 c.de, .int .i64 0] 39)) := h6
      go_upto_region 9 with fail
      clear c0 c1 c2 c3 c4 c5 h5
      generalize w5.alloc (.cells #[.int .i64 c.ce, .int .i64 c.sl, .int .i64 c.bi, .int .i64 c.ta, .int .i64 c.ba, .int .i64 c.de, .int .i64 0] 39) = w6 at *
      generalize w5.heap.size = X at *
      have d0 : w6.cell? ⟨B2, 0, none⟩ = some (.int .i64 d.ce) := h6.cell 3 rfl 0
      have d1 : w6.cell? ⟨B2, 1, none⟩ = some (.int .i64 d.sl) := h6.cell 3 rfl 1
      have d2 : w6.cell? ⟨B2, 2, none⟩ = some (.int .i64 d.bi) := h6.cell 3 rfl 2
      have d3 : w6.cell? ⟨B2, 3, none⟩ = some (.int .i64 d.ta) := h6.cell 3 rfl 3
      have d4 : w6.cell? ⟨B2, 4, none⟩ = some (.int .i64 d.ba) := h6.cell 3 rfl 4
      have d5 : w6.cell? ⟨B2, 5, none⟩ = some (.int .i64 d.de) := h6.cell 3 rfl 5
      have h7 : St w [boxI w6.heap.size (jd d 0) 39, boxI X (jd c 0) 39, boxI K (jd d 0) 56, boxI J (jd c 0) 56, boxI B2 #[.int .i64 d.ce, .int .i64 d.sl, .int .i64 d.bi, .int .i64 d.ta, .int .i64 d.ba, .int .i64 d.de] 23, boxI B1 #[.int .i64 c.ce, .int .i64 c.sl, .int .i64 c.bi, .int .i64 c.ta, .int .i64 c.ba, .int .i64 c.de] 23] (w6.alloc (.cells #[.int .i64 d.ce, .int .i64 d.sl, .int .i64 d.bi, .int .i64 d.ta, .int .i64 d.ba, .int .i64 d.de, .int .i64 0] 39)) := h6.box (jd d 0) 39
      go_upto_region 10 with fail
      clear d0 d1 d2 d3 d4 d5 h6
      generalize w6.alloc (.cells #[.int .i64 d.ce, .int .i64 d.sl, .int .i64 d.bi, .int .i64 d.ta, .int .i64 d.ba, .int .i64 d.de, .int .i64 0] 39) = w7 at *
      generalize w6.heap.size = Y at *
      go_wp2_with fail
      go_loopw [14] (fun i wr => ∃ (dx dy : Int) (k : Nat), i = .int .i64 k ∧ k ≤ len ∧ 0 ≤ dx ∧ 0 ≤ dy ∧ St w [boxI Y (jd d dy) 39, boxI X (jd c dx) 39, boxI K (jd d dy) 56, boxI J (jd c dx) 56, boxI B2 #[.int .i64 d.ce, .int .i64 d.sl, .int .i64 d.bi, .int .i64 d.ta, .int .i64 d.ba, .int .i64 d.de] 23, boxI B1 #[.int .i64 c.ce, .int .i64 c.sl, .int .i64 c.bi, .int .i64 c.ta, .int .i64 c.ba, .int .i64 c.de] 23] wr) (fun i _ => len - (intOf i).toNat)
      case atStart => exact ⟨0, 0, 0, rfl, Nat.zero_le _, by omega, by omega, h7⟩
      case round =>
        obtain ⟨dx, dy, k, rfl, hk, hdx, hdy, h8⟩ := hrel
        clear h7
        by_cases hlt : k < len
        · obtain ⟨b, off, rfl, ho⟩ : ∃ b off, a = some ⟨b, off, none⟩ ∧ OpAt w b (off + k * 4) (f k) := by
            rcases HS.out with e | ⟨b, off, e, h⟩
            · omega
            · exact ⟨b, off, e, h k hlt⟩
          have hL := ho.list_v
          have hR := ho.reach_v
          obtain ⟨o0, o1, o2, o3, _, _⟩ := ho.kept h8.same
          clear ho
          generalize f k = O at *
          obtain ⟨oo, re, st, la, ll, lc, zs⟩ := O
          simp only at hL hR o0 o1 o2 o3
          have hk0 : (0 : Int) ≤ (k : Int) := Int.natCast_nonneg _
          have hk1 : (k : Int) < (len : Int) := by omega
          have HL : Hid (VIn w la ll zs) := hL
          have HR : Hid (ll ≤ lc ∧ lc * 32 ≤ 140737488351232 ∧ (la = none → ll = 0 ∧ lc = 0)) := hR
          have hn : ll ≤ 17592186044416 := by omega
          clear hL hR
          have h9 := h8.box #[.bool oo, .bool re, .int .i64 st, .slice la ll lc] 41
          clear h8
          go_upto_region 14 with fail
          generalize wr.alloc (.cells #[.bool oo, .bool re, .int .i64 st, .slice la ll lc] 41) = w9 at *
          generalize wr.heap.size = R at *
          clear o0 o1 o2 o3
          have r0 : w9.cell? ⟨R, 0, none⟩ = some (.bool oo) := h9.cell 0 rfl 0
          have r1 : w9.cell? ⟨R, 1, none⟩ = some (.bool re) := h9.cell 0 rfl 1
          have r2 : w9.cell? ⟨R, 2, none⟩ = some (.int .i64 st) := h9.cell 0 rfl 2
          have r3 : w9.cell? ⟨R, 3, none⟩ = some (.slice la ll lc) := h9.cell 0 rfl 3
          cases oo
          · cases re
            · skip
              have hq := lent_st h9 (HL.out.kept h9.same) HR.out
              go_wp2_with fail
              refine hq.mono ?_
              rintro e w10 ⟨g, cap2, rfl, h10⟩
              clear hq h9 r0 r1 r2 r3
              have r2 : w10.cell? ⟨R, 2, none⟩ = some (.int .i64 st) := h10.cell 1 rfl 2
              have hq := decide_st h10 5 rfl HFc.out hdx st (lc := cap2) (zs := zs) (n := ll) (la := some ⟨g, 0, none⟩) (fun W h => by
                have := own_vin (h.get 0 rfl) zs [mark] rfl
                rwa [← HL.out.1] at this) hn
              go_wp2_with fail
              refine hq.mono ?_
              rintro e w11 ⟨rfl, h11⟩
              clear hq h10 r2
              have r2 : w11.cell? ⟨R, 2, none⟩ = some (.int .i64 st) := h11.cell 1 rfl 2
              have r3 : w11.cell? ⟨R, 3, none⟩ = some (.slice la ll lc) := h11.cell 1 rfl 3
              have hq := refDecide_st h11 3 rfl HFc.out hdx st (lc := lc) (fun W h => HL.out.kept h.same) hn
              go_wp2_with fail
              refine hq.mono ?_
              rintro e w12 ⟨rfl, h12⟩
              clear hq h11 r2 r3
              have r3 : w12.cell? ⟨R, 3, none⟩ = some (.slice la ll lc) := h12.cell 1 rfl 3
              have hq := whole_st h12 0 rfl (lc := lc) (HL.out.kept h12.same) hn
              clear h12
              generalize vdV c st dx zs = V at *
              go_upto_region 25 with (go_at_call 11; refine hq.mono ?_; rintro e w13 ⟨rfl, h13⟩)
              have h14 : St w [boxI Y (jd d dy) 39, boxI X (jd c (nxt c st dx zs)) 39, boxI K (jd d dy) 56, boxI J (jd c (nxt c st dx zs)) 56, boxI B2 #[.int .i64 d.ce, .int .i64 d.sl, .int .i64 d.bi, .int .i64 d.ta, .int .i64 d.ba, .int .i64 d.de] 23, boxI B1 #[.int .i64 c.ce, .int .i64 c.sl, .int .i64 c.bi, .int .i64 c.ta, .int .i64 c.ba, .int .i64 c.de] 23] w13 := h13.pop.pop
              clear h13 hq r3
              obtain ⟨ex, hex⟩ : ∃ ex : Int, ex = (nxt c st dx zs) := ⟨_, rfl⟩
              obtain ⟨ey, hey⟩ : ∃ ey : Int, ey = dy := ⟨_, rfl⟩
              have hX : 0 ≤ ex := by rw [hex]; first | omega | exact nxt_nn c st zs hdx
              have hY : 0 ≤ ey := by rw [hey]; first | omega | exact nxt_nn d st zs hdy
              rw [← hex, ← hey] at h14
              clear hex hey
              obtain ⟨P, HP⟩ : ∃ P : World → Prop, P = fun W => St w [boxI Y (jd d ey) 39, boxI X (jd c ex) 39, boxI K (jd d ey) 56, boxI J (jd c ex) 56, boxI B2 #[.int .i64 d.ce, .int .i64 d.sl, .int .i64 d.bi, .int .i64 d.ta, .int .i64 d.ba, .int .i64 d.de] 23, boxI B1 #[.int .i64 c.ce, .int .i64 c.sl, .int .i64 c.bi, .int .i64 c.ta, .int .i64 c.ba, .int .i64 c.de] 23] W := ⟨_, rfl⟩
              have hD : P w13.drew := by rw [HP]; exact h14.drew
              have CH : Hid (∀ W, P W → W.cell? ⟨X, 6, none⟩ = some (.int .i64 ex) ∧ W.cell? ⟨Y, 6, none⟩ = some (.int .i64 ey) ∧ P W) := by
                intro W h
                have h' := h
                rw [HP] at h'
                exact ⟨h'.cell 1 rfl 6, h'.cell 0 rfl 6, h⟩
              have C1 : ∀ W, P W → Calls Try.prog 17 #[.pointer (some ⟨J, 0, none⟩)] W fun e w' => e = .returned (.int .i64 ex) ∧ P w' := by
                intro W h
                have h' := h
                rw [HP] at h'
                refine (defers_st h' 3 rfl).mono ?_
                rintro e w' ⟨he, rfl⟩
                exact ⟨he, h⟩
              have C2 : ∀ W, P W → Calls Try.prog 17 #[.pointer (some ⟨K, 0, none⟩)] W fun e w' => e = .returned (.int .i64 ey) ∧ P w' := by
                intro W h
                have h' := h
                rw [HP] at h'
                refine (defers_st h' 2 rfl).mono ?_
                rintro e w' ⟨he, rfl⟩
                exact ⟨he, h⟩
              have C3 : ∀ W, P W → Calls Try.prog 18 #[.pointer (some ⟨J, 0, none⟩)] W fun e w' => e = .returned (.bool (prom c ex)) ∧ P w' := by
                intro W h
                rw [HP] at h ⊢
                exact promoted_st h 3 rfl
              have C4 : ∀ W, P W → Calls Try.prog 18 #[.pointer (some ⟨K, 0, none⟩)] W fun e w' => e = .returned (.bool (prom d ey)) ∧ P w' := by
                intro W h
                rw [HP] at h ⊢
                exact promoted_st h 2 rfl
              have C5 : ∀ W, P W → Calls Try.prog 19 #[.pointer (some ⟨X, 0, none⟩)] W fun e w' => e = .returned (.bool (prom c ex)) ∧ P w' := by
                intro W h
                rw [HP] at h ⊢
                exact refPromoted_st h 1 rfl
              have C6 : ∀ W, P W → Calls Try.prog 19 #[.pointer (some ⟨Y, 0, none⟩)] W fun e w' => e = .returned (.bool (prom d ey)) ∧ P w' := by
                intro W h
                rw [HP] at h ⊢
                exact refPromoted_st h 0 rfl
              have HE : Hid (∀ W, P W → St w [boxI Y (jd d ey) 39, boxI X (jd c ex) 39, boxI K (jd d ey) 56, boxI J (jd c ex) 56, boxI B2 #[.int .i64 d.ce, .int .i64 d.sl, .int .i64 d.bi, .int .i64 d.ta, .int .i64 d.ba, .int .i64 d.de] 23, boxI B1 #[.int .i64 c.ce, .int .i64 c.sl, .int .i64 c.bi, .int .i64 c.ta, .int .i64 c.ba, .int .i64 c.de] 23] W) := by
                intro W h
                rw [HP] at h
                exact h
              clear HP h14
              generalize prom c ex = p1 at *
              generalize prom d ey = p2 at *
              obtain ⟨x6, y6, _⟩ := CH.out _ hD
              go_region_held3 (fun W => W.cell? ⟨X, 6, none⟩ = some (.int .i64 ex) ∧ W.cell? ⟨Y, 6, none⟩ = some (.int .i64 ey) ∧ P W)
                (exact CH.out _ hD)
                (first | (go_at_call_of 17 J; refine (C1 _ hD).mono ?_; rintro e wx ⟨rfl, hD⟩) | (go_at_call_of 17 K; refine (C2 _ hD).mono ?_; rintro e wx ⟨rfl, hD⟩) | (go_at_call_of 18 J; refine (C3 _ hD).mono ?_; rintro e wx ⟨rfl, hD⟩) | (go_at_call_of 18 K; refine (C4 _ hD).mono ?_; rintro e wx ⟨rfl, hD⟩) | (go_at_call_of 19 X; refine (C5 _ hD).mono ?_; rintro e wx ⟨rfl, hD⟩) | (go_at_call_of 19 Y; refine (C6 _ hD).mono ?_; rintro e wx ⟨rfl, hD⟩))
              have hZ := HE.out _ hD
              clear hD HE CH C1 C2 C3 C4 C5 C6 x6 y6
              go_wp2
              go_roundw
              case rel => exact ⟨ex, ey, k + 1, by simp, by omega, hX, hY, hZ⟩
              case measure => simp [intOf]; omega
            · skip
              have hq := reset_st h9 4 rfl
              go_wp2_with fail
              refine hq.mono ?_
              rintro e w10 ⟨rfl, h10⟩
              clear hq h9 r0 r1 r2 r3
              have h11 := h10.write 2 rfl 6 (.int .i64 0)
              have z6 : w10.cell? ⟨X, 6, none⟩ = some (.int .i64 dx) := h10.cell 2 rfl 6
              have zf : w10.frozen? ⟨X, 6, none⟩ = false := h10.frozen 2 rfl 6
              clear h10
              go_upto_region 25 with fail
              have h12 : St w [boxI Y (jd d dy) 39, boxI X (jd c 0) 39, boxI K (jd d dy) 56, boxI J (jd c 0) 56, boxI B2 #[.int .i64 d.ce, .int .i64 d.sl, .int .i64 d.bi, .int .i64 d.ta, .int .i64 d.ba, .int .i64 d.de] 23, boxI B1 #[.int .i64 c.ce, .int .i64 c.sl, .int .i64 c.bi, .int .i64 c.ta, .int .i64 c.ba, .int .i64 c.de] 23] (w10.setCell ⟨X, 6, none⟩ (.int .i64 0)) := h11.pop
              clear h11 z6 zf
              generalize w10.setCell ⟨X, 6, none⟩ (.int .i64 0) = w12 at *
              obtain ⟨ex, hex⟩ : ∃ ex : Int, ex = 0 := ⟨_, rfl⟩
              obtain ⟨ey, hey⟩ : ∃ ey : Int, ey = dy := ⟨_, rfl⟩
              have hX : 0 ≤ ex := by rw [hex]; first | omega | exact nxt_nn c st zs hdx
              have hY : 0 ≤ ey := by rw [hey]; first | omega | exact nxt_nn d st zs hdy
              rw [← hex, ← hey] at h12
              clear hex hey
              obtain ⟨P, HP⟩ : ∃ P : World → Prop, P = fun W => St w [boxI Y (jd d ey) 39, boxI X (jd c ex) 39, boxI K (jd d ey) 56, boxI J (jd c ex) 56, boxI B2 #[.int .i64 d.ce, .int .i64 d.sl, .int .i64 d.bi, .int .i64 d.ta, .int .i64 d.ba, .int .i64 d.de] 23, boxI B1 #[.int .i64 c.ce, .int .i64 c.sl, .int .i64 c.bi, .int .i64 c.ta, .int .i64 c.ba, .int .i64 c.de] 23] W := ⟨_, rfl⟩
              have hD : P w12.drew := by rw [HP]; exact h12.drew
              have CH : Hid (∀ W, P W → W.cell? ⟨X, 6, none⟩ = some (.int .i64 ex) ∧ W.cell? ⟨Y, 6, none⟩ = some (.int .i64 ey) ∧ P W) := by
                intro W h
                have h' := h
                rw [HP] at h'
                exact ⟨h'.cell 1 rfl 6, h'.cell 0 rfl 6, h⟩
              have C1 : ∀ W, P W → Calls Try.prog 17 #[.pointer (some ⟨J, 0, none⟩)] W fun e w' => e = .returned (.int .i64 ex) ∧ P w' := by
                intro W h
                have h' := h
                rw [HP] at h'
                refine (defers_st h' 3 rfl).mono ?_
                rintro e w' ⟨he, rfl⟩
                exact ⟨he, h⟩
              have C2 : ∀ W, P W → Calls Try.prog 17 #[.pointer (some ⟨K, 0, none⟩)] W fun e w' => e = .returned (.int .i64 ey) ∧ P w' := by
                intro W h
                have h' := h
                rw [HP] at h'
                refine (defers_st h' 2 rfl).mono ?_
                rintro e w' ⟨he, rfl⟩
                exact ⟨he, h⟩
              have C3 : ∀ W, P W → Calls Try.prog 18 #[.pointer (some ⟨J, 0, none⟩)] W fun e w' => e = .returned (.bool (prom c ex)) ∧ P w' := by
                intro W h
                rw [HP] at h ⊢
                exact promoted_st h 3 rfl
              have C4 : ∀ W, P W → Calls Try.prog 18 #[.pointer (some ⟨K, 0, none⟩)] W fun e w' => e = .returned (.bool (prom d ey)) ∧ P w' := by
                intro W h
                rw [HP] at h ⊢
                exact promoted_st h 2 rfl
              have C5 : ∀ W, P W → Calls Try.prog 19 #[.pointer (some ⟨X, 0, none⟩)] W fun e w' => e = .returned (.bool (prom c ex)) ∧ P w' := by
                intro W h
                rw [HP] at h ⊢
                exact refPromoted_st h 1 rfl
              have C6 : ∀ W, P W → Calls Try.prog 19 #[.pointer (some ⟨Y, 0, none⟩)] W fun e w' => e = .returned (.bool (prom d ey)) ∧ P w' := by
                intro W h
                rw [HP] at h ⊢
                exact refPromoted_st h 0 rfl
              have HE : Hid (∀ W, P W → St w [boxI Y (jd d ey) 39, boxI X (jd c ex) 39, boxI K (jd d ey) 56, boxI J (jd c ex) 56, boxI B2 #[.int .i64 d.ce, .int .i64 d.sl, .int .i64 d.bi, .int .i64 d.ta, .int .i64 d.ba, .int .i64 d.de] 23, boxI B1 #[.int .i64 c.ce, .int .i64 c.sl, .int .i64 c.bi, .int .i64 c.ta, .int .i64 c.ba, .int .i64 c.de] 23] W) := by
                intro W h
                rw [HP] at h
                exact h
              clear HP h12
              generalize prom c ex = p1 at *
              generalize prom d ey = p2 at *
              obtain ⟨x6, y6, _⟩ := CH.out _ hD
              go_region_held3 (fun W => W.cell? ⟨X, 6, none⟩ = some (.int .i64 ex) ∧ W.cell? ⟨Y, 6, none⟩ = some (.int .i64 ey) ∧ P W)
                (exact CH.out _ hD)
                (first | (go_at_call_of 17 J; refine (C1 _ hD).mono ?_; rintro e wx ⟨rfl, hD⟩) | (go_at_call_of 17 K; refine (C2 _ hD).mono ?_; rintro e wx ⟨rfl, hD⟩) | (go_at_call_of 18 J; refine (C3 _ hD).mono ?_; rintro e wx ⟨rfl, hD⟩) | (go_at_call_of 18 K; refine (C4 _ hD).mono ?_; rintro e wx ⟨rfl, hD⟩) | (go_at_call_of 19 X; refine (C5 _ hD).mono ?_; rintro e wx ⟨rfl, hD⟩) | (go_at_call_of 19 Y; refine (C6 _ hD).mono ?_; rintro e wx ⟨rfl, hD⟩))
              have hZ := HE.out _ hD
              clear hD HE CH C1 C2 C3 C4 C5 C6 x6 y6
              go_wp2
              go_roundw
              case rel => exact ⟨ex, ey, k + 1, by simp, by omega, hX, hY, hZ⟩
              case measure => simp [intOf]; omega
          · cases re
            · skip
              have hq := lent_st h9 (HL.out.kept h9.same) HR.out
              go_wp2_with fail
              refine hq.mono ?_
              rintro e w10 ⟨g, cap2, rfl, h10⟩
              clear hq h9 r0 r1 r2 r3
              have r2 : w10.cell? ⟨R, 2, none⟩ = some (.int .i64 st) := h10.cell 1 rfl 2
              have hq := decide_st h10 4 rfl HFd.out hdy st (lc := cap2) (zs := zs) (n := ll) (la := some ⟨g, 0, none⟩) (fun W h => by
                have := own_vin (h.get 0 rfl) zs [mark] rfl
                rwa [← HL.out.1] at this) hn
              go_wp2_with fail
              refine hq.mono ?_
              rintro e w11 ⟨rfl, h11⟩
              clear hq h10 r2
              have r2 : w11.cell? ⟨R, 2, none⟩ = some (.int .i64 st) := h11.cell 1 rfl 2
              have r3 : w11.cell? ⟨R, 3, none⟩ = some (.slice la ll lc) := h11.cell 1 rfl 3
              have hq := refDecide_st h11 2 rfl HFd.out hdy st (lc := lc) (fun W h => HL.out.kept h.same) hn
              go_wp2_with fail
              refine hq.mono ?_
              rintro e w12 ⟨rfl, h12⟩
              clear hq h11 r2 r3
              have r3 : w12.cell? ⟨R, 3, none⟩ = some (.slice la ll lc) := h12.cell 1 rfl 3
              have hq := whole_st h12 0 rfl (lc := lc) (HL.out.kept h12.same) hn
              clear h12
              generalize vdV d st dy zs = V at *
              go_upto_region 25 with (go_at_call 11; refine hq.mono ?_; rintro e w13 ⟨rfl, h13⟩)
              have h14 : St w [boxI Y (jd d (nxt d st dy zs)) 39, boxI X (jd c dx) 39, boxI K (jd d (nxt d st dy zs)) 56, boxI J (jd c dx) 56, boxI B2 #[.int .i64 d.ce, .int .i64 d.sl, .int .i64 d.bi, .int .i64 d.ta, .int .i64 d.ba, .int .i64 d.de] 23, boxI B1 #[.int .i64 c.ce, .int .i64 c.sl, .int .i64 c.bi, .int .i64 c.ta, .int .i64 c.ba, .int .i64 c.de] 23] w13 := h13.pop.pop
              clear h13 hq r3
              obtain ⟨ex, hex⟩ : ∃ ex : Int, ex = dx := ⟨_, rfl⟩
              obtain ⟨ey, hey⟩ : ∃ ey : Int, ey = (nxt d st dy zs) := ⟨_, rfl⟩
              have hX : 0 ≤ ex := by rw [hex]; first | omega | exact nxt_nn c st zs hdx
              have hY : 0 ≤ ey := by rw [hey]; first | omega | exact nxt_nn d st zs hdy
              rw [← hex, ← hey] at h14
              clear hex hey
              obtain ⟨P, HP⟩ : ∃ P : World → Prop, P = fun W => St w [boxI Y (jd d ey) 39, boxI X (jd c ex) 39, boxI K (jd d ey) 56, boxI J (jd c ex) 56, boxI B2 #[.int .i64 d.ce, .int .i64 d.sl, .int .i64 d.bi, .int .i64 d.ta, .int .i64 d.ba, .int .i64 d.de] 23, boxI B1 #[.int .i64 c.ce, .int .i64 c.sl, .int .i64 c.bi, .int .i64 c.ta, .int .i64 c.ba, .int .i64 c.de] 23] W := ⟨_, rfl⟩
              have hD : P w13.drew := by rw [HP]; exact h14.drew
              have CH : Hid (∀ W, P W → W.cell? ⟨X, 6, none⟩ = some (.int .i64 ex) ∧ W.cell? ⟨Y, 6, none⟩ = some (.int .i64 ey) ∧ P W) := by
                intro W h
                have h' := h
                rw [HP] at h'
                exact ⟨h'.cell 1 rfl 6, h'.cell 0 rfl 6, h⟩
              have C1 : ∀ W, P W → Calls Try.prog 17 #[.pointer (some ⟨J, 0, none⟩)] W fun e w' => e = .returned (.int .i64 ex) ∧ P w' := by
                intro W h
                have h' := h
                rw [HP] at h'
                refine (defers_st h' 3 rfl).mono ?_
                rintro e w' ⟨he, rfl⟩
                exact ⟨he, h⟩
              have C2 : ∀ W, P W → Calls Try.prog 17 #[.pointer (some ⟨K, 0, none⟩)] W fun e w' => e = .returned (.int .i64 ey) ∧ P w' := by
                intro W h
                have h' := h
                rw [HP] at h'
                refine (defers_st h' 2 rfl).mono ?_
                rintro e w' ⟨he, rfl⟩
                exact ⟨he, h⟩
              have C3 : ∀ W, P W → Calls Try.prog 18 #[.pointer (some ⟨J, 0, none⟩)] W fun e w' => e = .returned (.bool (prom c ex)) ∧ P w' := by
                intro W h
                rw [HP] at h ⊢
                exact promoted_st h 3 rfl
              have C4 : ∀ W, P W → Calls Try.prog 18 #[.pointer (some ⟨K, 0, none⟩)] W fun e w' => e = .returned (.bool (prom d ey)) ∧ P w' := by
                intro W h
                rw [HP] at h ⊢
                exact promoted_st h 2 rfl
              have C5 : ∀ W, P W → Calls Try.prog 19 #[.pointer (some ⟨X, 0, none⟩)] W fun e w' => e = .returned (.bool (prom c ex)) ∧ P w' := by
                intro W h
                rw [HP] at h ⊢
                exact refPromoted_st h 1 rfl
              have C6 : ∀ W, P W → Calls Try.prog 19 #[.pointer (some ⟨Y, 0, none⟩)] W fun e w' => e = .returned (.bool (prom d ey)) ∧ P w' := by
                intro W h
                rw [HP] at h ⊢
                exact refPromoted_st h 0 rfl
              have HE : Hid (∀ W, P W → St w [boxI Y (jd d ey) 39, boxI X (jd c ex) 39, boxI K (jd d ey) 56, boxI J (jd c ex) 56, boxI B2 #[.int .i64 d.ce, .int .i64 d.sl, .int .i64 d.bi, .int .i64 d.ta, .int .i64 d.ba, .int .i64 d.de] 23, boxI B1 #[.int .i64 c.ce, .int .i64 c.sl, .int .i64 c.bi, .int .i64 c.ta, .int .i64 c.ba, .int .i64 c.de] 23] W) := by
                intro W h
                rw [HP] at h
                exact h
              clear HP h14
              generalize prom c ex = p1 at *
              generalize prom d ey = p2 at *
              obtain ⟨x6, y6, _⟩ := CH.out _ hD
              go_region_held3 (fun W => W.cell? ⟨X, 6, none⟩ = some (.int .i64 ex) ∧ W.cell? ⟨Y, 6, none⟩ = some (.int .i64 ey) ∧ P W)
                (exact CH.out _ hD)
                (first | (go_at_call_of 17 J; refine (C1 _ hD).mono ?_; rintro e wx ⟨rfl, hD⟩) | (go_at_call_of 17 K; refine (C2 _ hD).mono ?_; rintro e wx ⟨rfl, hD⟩) | (go_at_call_of 18 J; refine (C3 _ hD).mono ?_; rintro e wx ⟨rfl, hD⟩) | (go_at_call_of 18 K; refine (C4 _ hD).mono ?_; rintro e wx ⟨rfl, hD⟩) | (go_at_call_of 19 X; refine (C5 _ hD).mono ?_; rintro e wx ⟨rfl, hD⟩) | (go_at_call_of 19 Y; refine (C6 _ hD).mono ?_; rintro e wx ⟨rfl, hD⟩))
              have hZ := HE.out _ hD
              clear hD HE CH C1 C2 C3 C4 C5 C6 x6 y6
              go_wp2
              go_roundw
              case rel => exact ⟨ex, ey, k + 1, by simp, by omega, hX, hY, hZ⟩
              case measure => simp [intOf]; omega
            · skip
              have hq := reset_st h9 3 rfl
              go_wp2_with fail
              refine hq.mono ?_
              rintro e w10 ⟨rfl, h10⟩
              clear hq h9 r0 r1 r2 r3
              have h11 := h10.write 1 rfl 6 (.int .i64 0)
              have z6 : w10.cell? ⟨Y, 6, none⟩ = some (.int .i64 dy) := h10.cell 1 rfl 6
              have zf : w10.frozen? ⟨Y, 6, none⟩ = false := h10.frozen 1 rfl 6
              clear h10
              go_upto_region 25 with fail
              have h12 : St w [boxI Y (jd d 0) 39, boxI X (jd c dx) 39, boxI K (jd d 0) 56, boxI J (jd c dx) 56, boxI B2 #[.int .i64 d.ce, .int .i64 d.sl, .int .i64 d.bi, .int .i64 d.ta, .int .i64 d.ba, .int .i64 d.de] 23, boxI B1 #[.int .i64 c.ce, .int .i64 c.sl, .int .i64 c.bi, .int .i64 c.ta, .int .i64 c.ba, .int .i64 c.de] 23] (w10.setCell ⟨Y, 6, none⟩ (.int .i64 0)) := h11.pop
              clear h11 z6 zf
              generalize w10.setCell ⟨Y, 6, none⟩ (.int .i64 0) = w12 at *
              obtain ⟨ex, hex⟩ : ∃ ex : Int, ex = dx := ⟨_, rfl⟩
              obtain ⟨ey, hey⟩ : ∃ ey : Int, ey = 0 := ⟨_, rfl⟩
              have hX : 0 ≤ ex := by rw [hex]; first | omega | exact nxt_nn c st zs hdx
              have hY : 0 ≤ ey := by rw [hey]; first | omega | exact nxt_nn d st zs hdy
              rw [← hex, ← hey] at h12
              clear hex hey
              obtain ⟨P, HP⟩ : ∃ P : World → Prop, P = fun W => St w [boxI Y (jd d ey) 39, boxI X (jd c ex) 39, boxI K (jd d ey) 56, boxI J (jd c ex) 56, boxI B2 #[.int .i64 d.ce, .int .i64 d.sl, .int .i64 d.bi, .int .i64 d.ta, .int .i64 d.ba, .int .i64 d.de] 23, boxI B1 #[.int .i64 c.ce, .int .i64 c.sl, .int .i64 c.bi, .int .i64 c.ta, .int .i64 c.ba, .int .i64 c.de] 23] W := ⟨_, rfl⟩
              have hD : P w12.drew := by rw [HP]; exact h12.drew
              have CH : Hid (∀ W, P W → W.cell? ⟨X, 6, none⟩ = some (.int .i64 ex) ∧ W.cell? ⟨Y, 6, none⟩ = some (.int .i64 ey) ∧ P W) := by
                intro W h
                have h' := h
                rw [HP] at h'
                exact ⟨h'.cell 1 rfl 6, h'.cell 0 rfl 6, h⟩
              have C1 : ∀ W, P W → Calls Try.prog 17 #[.pointer (some ⟨J, 0, none⟩)] W fun e w' => e = .returned (.int .i64 ex) ∧ P w' := by
                intro W h
                have h' := h
                rw [HP] at h'
                refine (defers_st h' 3 rfl).mono ?_
                rintro e w' ⟨he, rfl⟩
                exact ⟨he, h⟩
              have C2 : ∀ W, P W → Calls Try.prog 17 #[.pointer (some ⟨K, 0, none⟩)] W fun e w' => e = .returned (.int .i64 ey) ∧ P w' := by
                intro W h
                have h' := h
                rw [HP] at h'
                refine (defers_st h' 2 rfl).mono ?_
                rintro e w' ⟨he, rfl⟩
                exact ⟨he, h⟩
              have C3 : ∀ W, P W → Calls Try.prog 18 #[.pointer (some ⟨J, 0, none⟩)] W fun e w' => e = .returned (.bool (prom c ex)) ∧ P w' := by
                intro W h
                rw [HP] at h ⊢
                exact promoted_st h 3 rfl
              have C4 : ∀ W, P W → Calls Try.prog 18 #[.pointer (some ⟨K, 0, none⟩)] W fun e w' => e = .returned (.bool (prom d ey)) ∧ P w' := by
                intro W h
                rw [HP] at h ⊢
                exact promoted_st h 2 rfl
              have C5 : ∀ W, P W → Calls Try.prog 19 #[.pointer (some ⟨X, 0, none⟩)] W fun e w' => e = .returned (.bool (prom c ex)) ∧ P w' := by
                intro W h
                rw [HP] at h ⊢
                exact refPromoted_st h 1 rfl
              have C6 : ∀ W, P W → Calls Try.prog 19 #[.pointer (some ⟨Y, 0, none⟩)] W fun e w' => e = .returned (.bool (prom d ey)) ∧ P w' := by
                intro W h
                rw [HP] at h ⊢
                exact refPromoted_st h 0 rfl
              have HE : Hid (∀ W, P W → St w [boxI Y (jd d ey) 39, boxI X (jd c ex) 39, boxI K (jd d ey) 56, boxI J (jd c ex) 56, boxI B2 #[.int .i64 d.ce, .int .i64 d.sl, .int .i64 d.bi, .int .i64 d.ta, .int .i64 d.ba, .int .i64 d.de] 23, boxI B1 #[.int .i64 c.ce, .int .i64 c.sl, .int .i64 c.bi, .int .i64 c.ta, .int .i64 c.ba, .int .i64 c.de] 23] W) := by
                intro W h
                rw [HP] at h
                exact h
              clear HP h12
              generalize prom c ex = p1 at *
              generalize prom d ey = p2 at *
              obtain ⟨x6, y6, _⟩ := CH.out _ hD
              go_region_held3 (fun W => W.cell? ⟨X, 6, none⟩ = some (.int .i64 ex) ∧ W.cell? ⟨Y, 6, none⟩ = some (.int .i64 ey) ∧ P W)
                (exact CH.out _ hD)
                (first | (go_at_call_of 17 J; refine (C1 _ hD).mono ?_; rintro e wx ⟨rfl, hD⟩) | (go_at_call_of 17 K; refine (C2 _ hD).mono ?_; rintro e wx ⟨rfl, hD⟩) | (go_at_call_of 18 J; refine (C3 _ hD).mono ?_; rintro e wx ⟨rfl, hD⟩) | (go_at_call_of 18 K; refine (C4 _ hD).mono ?_; rintro e wx ⟨rfl, hD⟩) | (go_at_call_of 19 X; refine (C5 _ hD).mono ?_; rintro e wx ⟨rfl, hD⟩) | (go_at_call_of 19 Y; refine (C6 _ hD).mono ?_; rintro e wx ⟨rfl, hD⟩))
              have hZ := HE.out _ hD
              clear hD HE CH C1 C2 C3 C4 C5 C6 x6 y6
              go_wp2
              go_roundw
              case rel => exact ⟨ex, ey, k + 1, by simp, by omega, hX, hY, hZ⟩
              case measure => simp [intOf]; omega
        · have hk1 : ¬ (k : Int) < (len : Int) := by omega
          have hs := h8.same
          clear h8
          go_wp2
          go_ret
          exact ⟨rfl, hs⟩
end Go.Proofs.Ytjljipbmbelmgaa
