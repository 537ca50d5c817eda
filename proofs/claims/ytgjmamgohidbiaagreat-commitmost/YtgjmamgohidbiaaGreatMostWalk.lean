/- CommitMost: the walk. -/
import Derived.Test.YtgjmamgohidbiaaGreatCmV
namespace Go.Proofs.YtgjmamgohidbiaaGreat
open Go.RowKit
set_option linter.unusedVariables false
set_option linter.unusedSimpArgs false
attribute [local go_sem ↓] Go.wp_at_zero Go.wp_at_succ

set_option maxRecDepth 100000 in
set_option maxHeartbeats 1000000 in
theorem refMost_any (c : Cfg) (n : Int) (w : World) : Calls Tryz.prog 41 #[c.val, .int .i64 n] w fun e w' => e = .returned (.int .i64 (mostV c n)) ∧ Kept (fun _ => False) w w' := by
  have h0 := (St.nil w).box #[.int .i64 c.ce, .int .i64 c.sl, .int .i64 c.bi, .int .i64 c.ta, .int .i64 c.ba, .int .i64 c.de] 23
  have HC : Hid (∀ W, Calls Tryz.prog 56 #[.agg #[.int .i64 c.ce, .int .i64 c.sl, .int .i64 c.bi, .int .i64 c.ta, .int .i64 c.ba, .int .i64 c.de]] W fun e w' => e = .returned (.int .i64 (if c.fits then 0 else 1)) ∧ Kept (fun _ => False) W w') := fun W => refCheck_any c W
  have M1 : Hid (c.fits = false → mostV c n = 0) := fun h => by unfold mostV; rw [if_neg (by rw [h]; simp)]
  have M2 : Hid (¬ (0 ≤ n ∧ n ≤ 16) → mostV c n = 0) := fun h => by unfold mostV; rw [if_neg (fun q => h q.2)]
  have M3 : Hid (c.fits = true → 0 ≤ n → n ≤ 16 → mostV c n = (c.sl - 1) * 4 + n + 3) := fun h a b => by unfold mostV; rw [if_pos ⟨h, a, b⟩]
  have FB : Hid (c.fits = true → 1 ≤ c.sl ∧ c.sl ≤ 8) := fun h => (Cfg.fits_cells h).2.2
  generalize mostV c n = E at *
  obtain ⟨ce, sl, bi, ta, ba, de⟩ := c
  unfold Cfg.val
  simp only at *
  generalize Cfg.fits ⟨ce, sl, bi, ta, ba, de⟩ = F at *
  go_enter Tryz.func41, Tryz.ntmps41
  go_upto_region 1 with fail
  generalize w.alloc (.cells #[.int .i64 ce, .int .i64 sl, .int .i64 bi, .int .i64 ta, .int .i64 ba, .int .i64 de] 23) = W0 at *
  generalize w.heap.size = B at *
  have c0 : W0.cell? ⟨B, 0, none⟩ = some (.int .i64 ce) := h0.cell 0 rfl 0
  have c1 : W0.cell? ⟨B, 1, none⟩ = some (.int .i64 sl) := h0.cell 0 rfl 1
  have c2 : W0.cell? ⟨B, 2, none⟩ = some (.int .i64 bi) := h0.cell 0 rfl 2
  have c3 : W0.cell? ⟨B, 3, none⟩ = some (.int .i64 ta) := h0.cell 0 rfl 3
  have c4 : W0.cell? ⟨B, 4, none⟩ = some (.int .i64 ba) := h0.cell 0 rfl 4
  have c5 : W0.cell? ⟨B, 5, none⟩ = some (.int .i64 de) := h0.cell 0 rfl 5
  have hq := HC.out W0
  have HS : Hid _ := h0
  clear h0
  cases F with
  | false =>
    obtain rfl := M1.out rfl
    rw [if_neg (by simp)] at hq
    clear M1 M2 M3 HC FB
    go_wp2_with fail
    refine hq.mono ?_
    rintro e w1 ⟨rfl, k1⟩
    have HK : Hid _ := (HS.out.calm k1).same
    clear HS k1 hq c0 c1 c2 c3 c4 c5
    go_wp2
    go_ret
    exact ⟨rfl, HK.out⟩
  | true =>
    rw [if_pos rfl] at hq
    obtain ⟨f1, f2⟩ := FB.out rfl
    by_cases h1 : n < 0
    · obtain rfl := M2.out (fun q => by omega)
      clear M1 M2 M3 HC FB
      go_wp2_with fail
      refine hq.mono ?_
      rintro e w1 ⟨rfl, k1⟩
      have HK : Hid _ := (HS.out.calm k1).same
      clear HS k1 hq c0 c1 c2 c3 c4 c5
      go_wp2
      go_ret
      exact ⟨rfl, HK.out⟩
    · have t1 : decide (n < 0) = false := decide_eq_false h1
      by_cases h2 : 16 < n
      · obtain rfl := M2.out (fun q => by omega)
        clear M1 M2 M3 HC FB
        go_wp2_with fail
        refine hq.mono ?_
        rintro e w1 ⟨rfl, k1⟩
        have HK : Hid _ := (HS.out.calm k1).same
        clear HS k1 hq c0 c1 c2 c3 c4 c5
        go_wp2
        go_ret
        exact ⟨rfl, HK.out⟩
      · have t2 : decide (16 < n) = false := decide_eq_false h2
        obtain rfl := M3.out rfl (by omega) (by omega)
        have n1 : 0 ≤ n := by omega
        have n2 : n ≤ 16 := by omega
        clear M1 M2 M3 HC FB
        go_wp2_with fail
        refine hq.mono ?_
        rintro e w1 ⟨rfl, k1⟩
        have s1 := HS.out.calm k1
        clear HS k1 hq c0 c1 c2 c3 c4 c5
        have c1 : w1.cell? ⟨B, 1, none⟩ = some (.int .i64 sl) := s1.cell 0 rfl 1
        have HK : Hid _ := s1.same
        clear s1
        go_wp2
        go_ret
        exact ⟨rfl, HK.out⟩

set_option maxRecDepth 100000 in
set_option maxHeartbeats 2000000 in
theorem mostWalk (c : Cfg) (n : Int) (w : World) : Calls Tryz.prog 6 #[c.val, .int .i64 n] w fun e w' => e = .returned (.bool true) ∧ Kept (fun _ => False) w w' := by
  have h0 := (St.nil w).box #[.int .i64 c.ce, .int .i64 c.sl, .int .i64 c.bi, .int .i64 c.ta, .int .i64 c.ba, .int .i64 c.de] 23
  unfold Cfg.val
  go_enter Tryz.func6, Tryz.ntmps6
  go_upto_region 1 with fail
  generalize w.alloc (.cells #[.int .i64 c.ce, .int .i64 c.sl, .int .i64 c.bi, .int .i64 c.ta, .int .i64 c.ba, .int .i64 c.de] 23) = W0 at *
  generalize w.heap.size = M at *
  have hq := up_any W0
  go_wp2_with fail
  refine hq.mono ?_
  rintro e w1 ⟨rfl, k1⟩
  have h1 := h0.calm k1
  clear h0 k1 hq
  obtain ⟨P, HP⟩ : ∃ P : World → Prop, P = fun W => St w [boxI M #[.int .i64 c.ce, .int .i64 c.sl, .int .i64 c.bi, .int .i64 c.ta, .int .i64 c.ba, .int .i64 c.de] 23] W := ⟨_, rfl⟩
  have hD : P w1.drew := by rw [HP]; exact h1.drew
  have CH : Hid (∀ W, P W → W.cell? ⟨M, 0, none⟩ = some (.int .i64 c.ce) ∧ W.cell? ⟨M, 1, none⟩ = some (.int .i64 c.sl) ∧ W.cell? ⟨M, 2, none⟩ = some (.int .i64 c.bi) ∧ W.cell? ⟨M, 3, none⟩ = some (.int .i64 c.ta) ∧ W.cell? ⟨M, 4, none⟩ = some (.int .i64 c.ba) ∧ W.cell? ⟨M, 5, none⟩ = some (.int .i64 c.de) ∧ P W) := by
    intro W hW
    have h' := hW
    rw [HP] at h'
    exact ⟨h'.cell 0 rfl 0, h'.cell 0 rfl 1, h'.cell 0 rfl 2, h'.cell 0 rfl 3, h'.cell 0 rfl 4, h'.cell 0 rfl 5, hW⟩
  have C1 : ∀ W, P W → Calls Tryz.prog 35 #[.agg #[.int .i64 c.ce, .int .i64 c.sl, .int .i64 c.bi, .int .i64 c.ta, .int .i64 c.ba, .int .i64 c.de], .int .i64 n] W fun e w' => e = .returned (.int .i64 (mostV c n)) ∧ P w' := by
    intro W hW
    refine (most_any c n W).mono ?_
    rintro e w' ⟨he, hk⟩
    rw [HP] at hW ⊢
    exact ⟨he, hW.calm hk⟩
  have C2 : ∀ W, P W → Calls Tryz.prog 41 #[.agg #[.int .i64 c.ce, .int .i64 c.sl, .int .i64 c.bi, .int .i64 c.ta, .int .i64 c.ba, .int .i64 c.de], .int .i64 n] W fun e w' => e = .returned (.int .i64 (mostV c n)) ∧ P w' := by
    intro W hW
    refine (refMost_any c n W).mono ?_
    rintro e w' ⟨he, hk⟩
    rw [HP] at hW ⊢
    exact ⟨he, hW.calm hk⟩
  have HK : Hid (∀ W, P W → Kept (fun _ => False) w W) := fun W hW => by rw [HP] at hW; exact hW.same
  clear HP h1
  generalize mostV c n = E at *
  obtain ⟨c0, c1, c2, c3, c4, c5, _⟩ := CH.out _ hD
  go_upto_region 2 with fail
  go_region_held3 (fun W => W.cell? ⟨M, 0, none⟩ = some (.int .i64 c.ce) ∧ W.cell? ⟨M, 1, none⟩ = some (.int .i64 c.sl) ∧ W.cell? ⟨M, 2, none⟩ = some (.int .i64 c.bi) ∧ W.cell? ⟨M, 3, none⟩ = some (.int .i64 c.ta) ∧ W.cell? ⟨M, 4, none⟩ = some (.int .i64 c.ba) ∧ W.cell? ⟨M, 5, none⟩ = some (.int .i64 c.de) ∧ P W)
    (exact CH.out _ hD)
    (first | (go_at_call 35; refine (C1 _ hD).mono ?_; rintro e wx ⟨rfl, hD⟩) | (go_at_call 41; refine (C2 _ hD).mono ?_; rintro e wx ⟨rfl, hD⟩))
  have HF : Hid _ := HK.out _ hD
  clear c0 c1 c2 c3 c4 c5 C1 C2 CH HK
  go_wp2
  go_ret
  exact ⟨rfl, HF.out⟩
end Go.Proofs.YtgjmamgohidbiaaGreat
