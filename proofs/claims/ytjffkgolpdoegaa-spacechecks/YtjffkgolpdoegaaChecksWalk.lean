/- The law SpaceChecks, step by step. -/
import Derived.Test.YtjffkgolpdoegaaUp
import Derived.Test.YtjffkgolpdoegaaEqS
namespace Go.Proofs.Ytjffkgolpdoegaa
open Go.RowKit
set_option linter.unusedVariables false
set_option linter.unusedSimpArgs false
attribute [local go_sem ↓] Go.wp_at_zero Go.wp_at_succ

set_option maxRecDepth 100000 in
set_option maxHeartbeats 4000000 in
theorem checks_walk (c : Cfg) (w : World) : Calls Try.prog 3 #[c.val] w fun e w' => e = .returned (.bool true) ∧ Kept (fun _ => False) w w' := by
  have h0 := (St.nil w).box #[.int .i64 c.ce, .int .i64 c.sl, .int .i64 c.bi, .int .i64 c.ta, .int .i64 c.ba, .int .i64 c.de] 23
  obtain ⟨E, hE⟩ : ∃ E : Int, (if c.fits then (0 : Int) else 1) = E := ⟨_, rfl⟩
  have HC : Hid (∀ W, Calls Try.prog 6 #[.agg #[.int .i64 c.ce, .int .i64 c.sl, .int .i64 c.bi, .int .i64 c.ta, .int .i64 c.ba, .int .i64 c.de]] W fun e w' => e = .returned (.int .i64 E) ∧ Kept (fun _ => False) W w') := fun W => by rw [← hE]; exact check_any c W
  have HR : Hid (∀ W, Calls Try.prog 8 #[.agg #[.int .i64 c.ce, .int .i64 c.sl, .int .i64 c.bi, .int .i64 c.ta, .int .i64 c.ba, .int .i64 c.de]] W fun e w' => e = .returned (.int .i64 E) ∧ Kept (fun _ => False) W w') := fun W => by rw [← hE]; exact refCheck_any c W
  obtain ⟨B, hB⟩ : ∃ B, B = w.heap.size := ⟨_, rfl⟩
  have HF : Hid (∀ W, St w [boxI B #[.int .i64 c.ce, .int .i64 c.sl, .int .i64 c.bi, .int .i64 c.ta, .int .i64 c.ba, .int .i64 c.de] 23] W → W.cell? ⟨B, 0, none⟩ = some (.int .i64 c.ce) ∧ W.cell? ⟨B, 1, none⟩ = some (.int .i64 c.sl) ∧ W.cell? ⟨B, 2, none⟩ = some (.int .i64 c.bi) ∧ W.cell? ⟨B, 3, none⟩ = some (.int .i64 c.ta) ∧ W.cell? ⟨B, 4, none⟩ = some (.int .i64 c.ba) ∧ W.cell? ⟨B, 5, none⟩ = some (.int .i64 c.de)) := fun W h => ⟨h.cell 0 rfl 0, h.cell 0 rfl 1, h.cell 0 rfl 2, h.cell 0 rfl 3, h.cell 0 rfl 4, h.cell 0 rfl 5⟩
  unfold Cfg.val
  go_enter Try.func3, Try.ntmps3
  go_wp2_with fail
  rw [← hB] at h0 ⊢
  clear hB
  refine (up_any _).mono ?_
  rintro e w1 ⟨rfl, k1⟩
  have h1 := h0.calm k1
  clear h0 k1
  obtain ⟨c0, c1, c2, c3, c4, c5⟩ := HF.out _ h1
  go_wp2_with fail
  refine (HC.out _).mono ?_
  rintro e w2 ⟨rfl, k2⟩
  have h2 := h1.calm k2
  clear h1 k2 c0 c1 c2 c3 c4 c5 HC
  obtain ⟨c0, c1, c2, c3, c4, c5⟩ := HF.out _ h2
  by_cases hf : c.fits = true
  · have hq : Calls Try.prog 7 #[.agg #[.int .i64 c.ce, .int .i64 c.sl, .int .i64 c.bi, .int .i64 c.ta, .int .i64 c.ba, .int .i64 c.de]] w2 _ := spNew_st h2 c hf
    have OK := SSt.ok_zero c hf 0
    rw [hf, if_pos rfl] at hE
    subst hE
    clear h2 hf
    go_wp2_with fail
    refine hq.mono ?_
    rintro e w3 ⟨A, rfl, h3⟩
    clear hq c0 c1 c2 c3 c4 c5
    obtain ⟨c0, c1, c2, c3, c4, c5⟩ := HF.out _ h3.pop
    unfold spp
    go_wp2_with fail
    refine (HR.out _).mono ?_
    rintro e w4 ⟨rfl, k4⟩
    have h4 := h3.calm k4
    clear h3 k4 c0 c1 c2 c3 c4 c5
    have hq := spView h4 0 rfl OK.wl OK.h1 OK.h8
    rw [show (SSt.zero c).x.n = 0 from rfl, show (SSt.zero c).x.o = 0 from rfl] at hq
    unfold spp at hq
    go_wp2_with fail
    refine hq.mono ?_
    rintro e w5 ⟨va, vs, rfl, h5⟩
    clear hq h4 HR
    obtain ⟨pa, ca, rfl⟩ := own_form (h5.get 0 rfl)
    obtain ⟨ps, cs, rfl⟩ := own_form (h5.get 1 rfl)
    have h6 := St.tail [_, _] h5
    clear h5
    have t1 : (((SSt.zero c).xs.length : Int) == c.ce) = true := by rw [OK.cl]; simp
    have t2 : (((SSt.zero c).hs.length : Int) == c.sl) = true := by rw [OK.hl]; simp
    generalize (SSt.zero c).xs.length = nx at *
    generalize (SSt.zero c).hs.length = nh at *
    have h7 := h6.box #[.slice pa nx ca, .int .i64 0, .int .i64 0, .slice ps nh cs] 35
    clear h6 HF
    go_upto_region 10 with fail
    generalize w5.alloc (.cells #[.slice pa nx ca, .int .i64 0, .int .i64 0, .slice ps nh cs] 35) = w6 at *
    generalize w5.heap.size = V at *
    obtain ⟨P, HP⟩ : ∃ P : World → Prop, P = fun W => St w [boxI V #[.slice pa nx ca, .int .i64 0, .int .i64 0, .slice ps nh cs] 35, spI A c (SSt.zero c) (.slice none 0 0) (.slice none 0 0), boxI B #[.int .i64 c.ce, .int .i64 c.sl, .int .i64 c.bi, .int .i64 c.ta, .int .i64 c.ba, .int .i64 c.de] 23] W := ⟨_, rfl⟩
    have hH : P w6.drew := by rw [HP]; exact h7.drew
    have CH : Hid (∀ W, P W → W.cell? ⟨V, 0, none⟩ = some (.slice pa nx ca) ∧ W.cell? ⟨V, 1, none⟩ = some (.int .i64 0) ∧ W.cell? ⟨V, 2, none⟩ = some (.int .i64 0) ∧ W.cell? ⟨V, 3, none⟩ = some (.slice ps nh cs) ∧ W.cell? ⟨B, 0, none⟩ = some (.int .i64 c.ce) ∧ W.cell? ⟨B, 1, none⟩ = some (.int .i64 c.sl) ∧ W.cell? ⟨B, 2, none⟩ = some (.int .i64 c.bi) ∧ W.cell? ⟨B, 3, none⟩ = some (.int .i64 c.ta) ∧ W.cell? ⟨B, 4, none⟩ = some (.int .i64 c.ba) ∧ W.cell? ⟨B, 5, none⟩ = some (.int .i64 c.de) ∧ W.cell? ⟨A.sp, 0, none⟩ = some (.pointer (some ⟨A.m, 0, none⟩)) ∧ P W) := by
      intro W h
      have h' := h
      rw [HP] at h'
      exact ⟨h'.cell 0 rfl 0, h'.cell 0 rfl 1, h'.cell 0 rfl 2, h'.cell 0 rfl 3, h'.cell 2 rfl 0, h'.cell 2 rfl 1, h'.cell 2 rfl 2, h'.cell 2 rfl 3, h'.cell 2 rfl 4, h'.cell 2 rfl 5, spCell h' 1 rfl 0, h⟩
    have C1 : ∀ W, P W → Calls Try.prog 10 #[.pointer (some ⟨A.sp, 0, none⟩)] W fun e w' => e = .returned (.agg #[.int .i64 c.ce, .int .i64 c.sl, .int .i64 c.bi, .int .i64 c.ta, .int .i64 c.ba, .int .i64 c.de]) ∧ P w' := by
      intro W h
      rw [HP] at h ⊢
      exact spConfig h 1 rfl
    have C2 : ∀ W, P W → Calls Try.prog 11 #[.pointer (some ⟨A.sp, 0, none⟩)] W fun e w' => e = .returned (.int .i64 0) ∧ P w' := by
      intro W h
      have h' := h
      rw [HP] at h'
      refine (spStep h' 1 rfl).mono ?_
      rintro e w' ⟨he, rfl⟩
      exact ⟨he, h⟩
    have C3 : ∀ W, P W → Calls Try.prog 12 #[.pointer (some ⟨A.m, 0, none⟩)] W fun e w' => ∃ p n, e = .returned (.slice p 0 n) ∧ P w' := by
      intro W h
      rw [HP] at h ⊢
      refine (spLog h 1 rfl OK (by omega)).mono ?_
      rintro e w' ⟨v', he, h'⟩
      obtain ⟨p, n, rfl⟩ := own_form (n := 0) (h'.get 0 rfl)
      exact ⟨p, n, he, h'.pop⟩
    have C4 : ∀ W, P W → Calls Try.prog 13 #[.pointer (some ⟨A.sp, 0, none⟩)] W fun e w' => ∃ p n, e = .returned (.slice p 0 n) ∧ P w' := by
      intro W h
      rw [HP] at h ⊢
      refine (spEvents h 1 rfl (show (0 + 1) * 80 ≤ 140737488355328 by omega)).mono ?_
      rintro e w' ⟨v', he, h'⟩
      obtain ⟨p, n, rfl⟩ := own_form (n := 0) (h'.get 0 rfl)
      exact ⟨p, n, he, h'.pop⟩
    have HE : Hid (∀ W, P W → Kept (fun _ => False) w W) := by
      intro W h
      rw [HP] at h
      exact h.same
    have hec := eqCfg c.ce c.sl c.bi c.ta c.ba c.de
    clear HP h7 OK
    go_region_held3 (fun W => W.cell? ⟨V, 0, none⟩ = some (.slice pa nx ca) ∧ W.cell? ⟨V, 1, none⟩ = some (.int .i64 0) ∧ W.cell? ⟨V, 2, none⟩ = some (.int .i64 0) ∧ W.cell? ⟨V, 3, none⟩ = some (.slice ps nh cs) ∧ W.cell? ⟨B, 0, none⟩ = some (.int .i64 c.ce) ∧ W.cell? ⟨B, 1, none⟩ = some (.int .i64 c.sl) ∧ W.cell? ⟨B, 2, none⟩ = some (.int .i64 c.bi) ∧ W.cell? ⟨B, 3, none⟩ = some (.int .i64 c.ta) ∧ W.cell? ⟨B, 4, none⟩ = some (.int .i64 c.ba) ∧ W.cell? ⟨B, 5, none⟩ = some (.int .i64 c.de) ∧ W.cell? ⟨A.sp, 0, none⟩ = some (.pointer (some ⟨A.m, 0, none⟩)) ∧ P W)
      (exact CH.out _ hH)
      (first | (go_at_call 10; refine (C1 _ hH).mono ?_; rintro e wx ⟨rfl, hH⟩) | (go_at_call 11; refine (C2 _ hH).mono ?_; rintro e wx ⟨rfl, hH⟩) | (go_at_call 12; refine (C3 _ hH).mono ?_; rintro e wx ⟨p1, n1, rfl, hH⟩) | (go_at_call 13; refine (C4 _ hH).mono ?_; rintro e wx ⟨p2, n2, rfl, hH⟩))
    go_wp2
    go_ret
    exact ⟨rfl, HE.out _ hH⟩
  · have hf' : c.fits = false := by simpa using hf
    have hq : Calls Try.prog 7 #[.agg #[.int .i64 c.ce, .int .i64 c.sl, .int .i64 c.bi, .int .i64 c.ta, .int .i64 c.ba, .int .i64 c.de]] w2 _ := spNew_out c hf' w2
    rw [hf', if_neg (by simp)] at hE
    subst hE
    clear hf hf'
    go_wp2_with fail
    refine hq.mono ?_
    rintro e w3 ⟨rfl, k3⟩
    have h3 := h2.calm k3
    clear hq c0 c1 c2 c3 c4 c5 h2 k3
    obtain ⟨c0, c1, c2, c3, c4, c5⟩ := HF.out _ h3
    go_wp2_with fail
    refine (HR.out _).mono ?_
    rintro e w4 ⟨rfl, k4⟩
    have HK : Hid (Kept (fun _ => False) w w4) := (h3.calm k4).same
    clear h3 k4 c0 c1 c2 c3 c4 c5 HR HF
    go_wp2
    go_ret
    exact ⟨rfl, HK.out⟩
end Go.Proofs.Ytjffkgolpdoegaa
