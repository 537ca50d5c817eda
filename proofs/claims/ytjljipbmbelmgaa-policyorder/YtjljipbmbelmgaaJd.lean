/- Judges: New, Decide, Defers, Promoted, Reset; the document's too. -/
import Derived.Test.YtjljipbmbelmgaaVdt
import Derived.Test.YtjljipbmbelmgaaRef
import Derived.BigQuiet
namespace Go.Proofs.Ytjljipbmbelmgaa
open Go.RowKit
set_option linter.unusedVariables false
set_option linter.unusedSimpArgs false
attribute [local go_sem ↓] Go.wp_at_zero Go.wp_at_succ

theorem Kept.drewN {F : Nat → Prop} {a w : World} (h : Kept F a w) (k : Nat) : Kept F a (w.drewN k) := ⟨h.os, h.tape, h.output, h.size, h.block⟩

def jd (c : Cfg) (df : Int) : Array Value := #[.int .i64 c.ce, .int .i64 c.sl, .int .i64 c.bi, .int .i64 c.ta, .int .i64 c.ba, .int .i64 c.de, .int .i64 df]
/-- The counter behind a decision. -/
def nxt (c : Cfg) (sp df : Int) (zs : List Vt) : Int := if vdV c sp df zs = 2 then df + 1 else df
def prom (c : Cfg) (df : Int) : Bool := decide (c.ta = 2) && decide (c.de ≤ df)
theorem vdV_two {c : Cfg} {sp df : Int} {zs : List Vt} (hf : c.fits = true) (h : vdV c sp df zs = 2) : df < 64 := by
  simp only [Cfg.fits, Bool.and_eq_true, inR_iff] at hf
  unfold vdV at h
  split at h
  · split at h
    · omega
    · split at h <;> omega
  · omega
theorem vdV_ok {c : Cfg} {df : Int} (hf : c.fits = true) (h : 0 ≤ df) : vdE c df = 0 := by simp [vdE, vdOk, hf, h]
theorem nxt_nn (c : Cfg) (sp : Int) {df : Int} (zs : List Vt) (h : 0 ≤ df) : 0 ≤ nxt c sp df zs := by
  unfold nxt; split <;> omega

set_option maxRecDepth 100000 in
theorem new_st {o w : World} {its : List It} (h : St o its w) (c : Cfg) (hf : c.fits = true) : Calls Try.prog 12 #[c.val] w fun e w' => ∃ g, e = .returned (.tuple #[.pointer (some ⟨g, 0, none⟩), .int .i64 0]) ∧ St o (boxI g (jd c 0) 56 :: its) w' := by
  have h0 := h.box #[.int .i64 c.ce, .int .i64 c.sl, .int .i64 c.bi, .int .i64 c.ta, .int .i64 c.ba, .int .i64 c.de] 23
  have HC : Hid (∀ W, Calls Try.prog 21 #[.agg #[.int .i64 c.ce, .int .i64 c.sl, .int .i64 c.bi, .int .i64 c.ta, .int .i64 c.ba, .int .i64 c.de]] W fun e w' => e = .returned (.int .i64 0) ∧ Kept (fun _ => False) W w') := fun W => by have := check_any c W; rw [hf, if_pos rfl] at this; exact this
  clear h hf
  unfold Cfg.val
  go_enter Try.func12, Try.ntmps12
  go_upto_region 1 with fail
  generalize w.alloc (.cells #[.int .i64 c.ce, .int .i64 c.sl, .int .i64 c.bi, .int .i64 c.ta, .int .i64 c.ba, .int .i64 c.de] 23) = W0 at *
  generalize w.heap.size = B at *
  have c0 : W0.cell? ⟨B, 0, none⟩ = some (.int .i64 c.ce) := h0.cell 0 rfl 0
  have c1 : W0.cell? ⟨B, 1, none⟩ = some (.int .i64 c.sl) := h0.cell 0 rfl 1
  have c2 : W0.cell? ⟨B, 2, none⟩ = some (.int .i64 c.bi) := h0.cell 0 rfl 2
  have c3 : W0.cell? ⟨B, 3, none⟩ = some (.int .i64 c.ta) := h0.cell 0 rfl 3
  have c4 : W0.cell? ⟨B, 4, none⟩ = some (.int .i64 c.ba) := h0.cell 0 rfl 4
  have c5 : W0.cell? ⟨B, 5, none⟩ = some (.int .i64 c.de) := h0.cell 0 rfl 5
  go_wp2_with fail
  refine (HC.out _).mono ?_
  rintro e w1 ⟨rfl, k1⟩
  have h1 := h0.calm k1
  clear h0 k1 c0 c1 c2 c3 c4 c5 HC
  have c0 : w1.cell? ⟨B, 0, none⟩ = some (.int .i64 c.ce) := h1.cell 0 rfl 0
  have c1 : w1.cell? ⟨B, 1, none⟩ = some (.int .i64 c.sl) := h1.cell 0 rfl 1
  have c2 : w1.cell? ⟨B, 2, none⟩ = some (.int .i64 c.bi) := h1.cell 0 rfl 2
  have c3 : w1.cell? ⟨B, 3, none⟩ = some (.int .i64 c.ta) := h1.cell 0 rfl 3
  have c4 : w1.cell? ⟨B, 4, none⟩ = some (.int .i64 c.ba) := h1.cell 0 rfl 4
  have c5 : w1.cell? ⟨B, 5, none⟩ = some (.int .i64 c.de) := h1.cell 0 rfl 5
  have h2 := h1.pop.box (jd c 0) 56
  unfold jd at *
  clear h1
  go_wp2
  go_ret2
  exact ⟨_, rfl, h2⟩

set_option maxRecDepth 100000 in
theorem new_out (c : Cfg) (hf : c.fits = false) (w : World) : Calls Try.prog 12 #[c.val] w fun e w' => e = .returned (.tuple #[.pointer none, .int .i64 1]) ∧ Kept (fun _ => False) w w' := by
  have h0 := (St.nil w).box #[.int .i64 c.ce, .int .i64 c.sl, .int .i64 c.bi, .int .i64 c.ta, .int .i64 c.ba, .int .i64 c.de] 23
  have HC : Hid (∀ W, Calls Try.prog 21 #[.agg #[.int .i64 c.ce, .int .i64 c.sl, .int .i64 c.bi, .int .i64 c.ta, .int .i64 c.ba, .int .i64 c.de]] W fun e w' => e = .returned (.int .i64 1) ∧ Kept (fun _ => False) W w') := fun W => by have := check_any c W; rw [hf, if_neg (by simp)] at this; exact this
  clear hf
  unfold Cfg.val
  go_enter Try.func12, Try.ntmps12
  go_upto_region 1 with fail
  generalize w.alloc (.cells #[.int .i64 c.ce, .int .i64 c.sl, .int .i64 c.bi, .int .i64 c.ta, .int .i64 c.ba, .int .i64 c.de] 23) = W0 at *
  generalize w.heap.size = B at *
  have c0 : W0.cell? ⟨B, 0, none⟩ = some (.int .i64 c.ce) := h0.cell 0 rfl 0
  have c1 : W0.cell? ⟨B, 1, none⟩ = some (.int .i64 c.sl) := h0.cell 0 rfl 1
  have c2 : W0.cell? ⟨B, 2, none⟩ = some (.int .i64 c.bi) := h0.cell 0 rfl 2
  have c3 : W0.cell? ⟨B, 3, none⟩ = some (.int .i64 c.ta) := h0.cell 0 rfl 3
  have c4 : W0.cell? ⟨B, 4, none⟩ = some (.int .i64 c.ba) := h0.cell 0 rfl 4
  have c5 : W0.cell? ⟨B, 5, none⟩ = some (.int .i64 c.de) := h0.cell 0 rfl 5
  go_wp2_with fail
  refine (HC.out _).mono ?_
  rintro e w1 ⟨rfl, k1⟩
  have hk := (h0.calm k1).same
  clear h0 k1 c0 c1 c2 c3 c4 c5 HC
  go_wp2
  go_ret2
  exact ⟨rfl, hk⟩

set_option maxRecDepth 100000 in
theorem reset_st {o w : World} {its : List It} (h : St o its w) (i : Nat) {g : Nat} {c : Cfg} {df : Int} (hi : its[i]? = some (boxI g (jd c df) 56)) : Calls Try.prog 14 #[.pointer (some ⟨g, 0, none⟩)] w fun e w' => e = .returned (.tuple #[]) ∧ St o (its.set i (boxI g (jd c 0) 56)) w' := by
  have c6 : w.cell? ⟨g, 6, none⟩ = some (.int .i64 df) := h.cell i hi 6
  have f6 : w.frozen? ⟨g, 6, none⟩ = false := h.frozen i hi 6
  have h1 := h.write i hi 6 (.int .i64 0)
  clear h
  go_enter Try.func14, Try.ntmps14
  go_wp2
  go_end0
  exact ⟨rfl, h1⟩

set_option maxRecDepth 100000 in
theorem defers_st {o w : World} {its : List It} (h : St o its w) (i : Nat) {g : Nat} {c : Cfg} {df : Int} (hi : its[i]? = some (boxI g (jd c df) 56)) : Calls Try.prog 17 #[.pointer (some ⟨g, 0, none⟩)] w fun e w' => e = .returned (.int .i64 df) ∧ w' = w := by
  have c6 : w.cell? ⟨g, 6, none⟩ = some (.int .i64 df) := h.cell i hi 6
  clear h hi
  go_enter Try.func17, Try.ntmps17
  go_wp2
  go_ret
  exact ⟨rfl, rfl⟩

set_option maxRecDepth 100000 in
theorem promoted_st {o w : World} {its : List It} (h : St o its w) (i : Nat) {g : Nat} {c : Cfg} {df : Int} (hi : its[i]? = some (boxI g (jd c df) 56)) : Calls Try.prog 18 #[.pointer (some ⟨g, 0, none⟩)] w fun e w' => e = .returned (.bool (prom c df)) ∧ St o its w' := by
  have c3 : w.cell? ⟨g, 3, none⟩ = some (.int .i64 c.ta) := h.cell i hi 3
  have c5 : w.cell? ⟨g, 5, none⟩ = some (.int .i64 c.de) := h.cell i hi 5
  have c6 : w.cell? ⟨g, 6, none⟩ = some (.int .i64 df) := h.cell i hi 6
  have HS : Hid (∀ k, St o its (w.drewN k)) := fun k => h.calm ((Kept.refl _ w).drewN k)
  clear h hi
  have HP : Hid (prom c df = (decide (c.ta = 2) && decide (c.de ≤ df))) := rfl
  generalize prom c df = b at *
  generalize c.ta = ta at *
  generalize c.de = de at *
  by_cases h1 : ta = 2
  · have t1 : (ta == 2) = true := by simp [h1]
    by_cases h2 : de ≤ df
    · obtain rfl : b = true := by rw [HP.out]; simp [h1, h2]
      clear h1 HP
      go_enter Try.func18, Try.ntmps18
      go_wp2_with fail
      go_quiet (fail)
      go_wp2
      go_ret
      exact ⟨rfl, HS.out _⟩
    · obtain rfl : b = false := by rw [HP.out]; simp [h1, h2]
      have t2 : decide (de ≤ df) = false := decide_eq_false h2
      clear h1 HP h2
      go_enter Try.func18, Try.ntmps18
      go_wp2_with fail
      go_quiet (fail)
      go_wp2
      go_ret
      exact ⟨rfl, HS.out _⟩
  · have t1 : (ta == 2) = false := by simp [h1]
    obtain rfl : b = false := by rw [HP.out]; simp [h1]
    clear h1 HP
    go_enter Try.func18, Try.ntmps18
    go_wp2_with fail
    go_quiet (fail)
    go_wp2
    go_ret
    exact ⟨rfl, HS.out _⟩

set_option maxRecDepth 100000 in
theorem refPromoted_st {o w : World} {its : List It} (h : St o its w) (i : Nat) {g : Nat} {c : Cfg} {df : Int} (hi : its[i]? = some (boxI g (jd c df) 39)) : Calls Try.prog 19 #[.pointer (some ⟨g, 0, none⟩)] w fun e w' => e = .returned (.bool (prom c df)) ∧ St o its w' := by
  have c3 : w.cell? ⟨g, 3, none⟩ = some (.int .i64 c.ta) := h.cell i hi 3
  have c5 : w.cell? ⟨g, 5, none⟩ = some (.int .i64 c.de) := h.cell i hi 5
  have c6 : w.cell? ⟨g, 6, none⟩ = some (.int .i64 df) := h.cell i hi 6
  have HS : Hid (∀ k, St o its (w.drewN k)) := fun k => h.calm ((Kept.refl _ w).drewN k)
  clear h hi
  have HP : Hid (prom c df = (decide (c.ta = 2) && decide (c.de ≤ df))) := rfl
  generalize prom c df = b at *
  generalize c.ta = ta at *
  generalize c.de = de at *
  by_cases h1 : ta = 2
  · have t1 : (ta == 2) = true := by simp [h1]
    by_cases h2 : de ≤ df
    · obtain rfl : b = true := by rw [HP.out]; simp [h1, h2]
      clear h1 HP
      go_enter Try.func19, Try.ntmps19
      go_wp2_with fail
      go_quiet (fail)
      go_wp2
      go_ret
      exact ⟨rfl, HS.out _⟩
    · obtain rfl : b = false := by rw [HP.out]; simp [h1, h2]
      have t2 : decide (de ≤ df) = false := decide_eq_false h2
      clear h1 HP h2
      go_enter Try.func19, Try.ntmps19
      go_wp2_with fail
      go_quiet (fail)
      go_wp2
      go_ret
      exact ⟨rfl, HS.out _⟩
  · have t1 : (ta == 2) = false := by simp [h1]
    obtain rfl : b = false := by rw [HP.out]; simp [h1]
    clear h1 HP
    go_enter Try.func19, Try.ntmps19
    go_wp2_with fail
    go_quiet (fail)
    go_wp2
    go_ret
    exact ⟨rfl, HS.out _⟩

set_option maxRecDepth 100000 in
set_option maxHeartbeats 1000000 in
theorem decide_st {o w : World} {its : List It} (h : St o its w) (i : Nat) {g : Nat} {c : Cfg} {df : Int} (hi : its[i]? = some (boxI g (jd c df) 56)) (hf : c.fits = true) (hd : 0 ≤ df) (sp : Int) {la : Option Addr} {n lc : Nat} {zs : List Vt} (hL : ∀ W, St o its W → VIn W la n zs) (hn : n ≤ 17592186044416) :
    Calls Try.prog 15 #[.pointer (some ⟨g, 0, none⟩), .int .i64 sp, .slice la n lc] w fun e w' => e = .returned (.int .i64 (vdV c sp df zs)) ∧ St o (its.set i (boxI g (jd c (nxt c sp df zs)) 56)) w' := by
  obtain ⟨P, HP⟩ : ∃ P : World → Prop, P = fun W => St o its W := ⟨_, rfl⟩
  have hD : P w.drew := by rw [HP]; exact h.drew
  have CH : Hid (∀ W, P W → W.cell? ⟨g, 0, none⟩ = some (.int .i64 c.ce) ∧ W.cell? ⟨g, 1, none⟩ = some (.int .i64 c.sl) ∧ W.cell? ⟨g, 2, none⟩ = some (.int .i64 c.bi) ∧ W.cell? ⟨g, 3, none⟩ = some (.int .i64 c.ta) ∧ W.cell? ⟨g, 4, none⟩ = some (.int .i64 c.ba) ∧ W.cell? ⟨g, 5, none⟩ = some (.int .i64 c.de) ∧ W.cell? ⟨g, 6, none⟩ = some (.int .i64 df) ∧ P W) := by
    intro W hW
    have h' := hW
    rw [HP] at h'
    exact ⟨h'.cell i hi 0, h'.cell i hi 1, h'.cell i hi 2, h'.cell i hi 3, h'.cell i hi 4, h'.cell i hi 5, h'.cell i hi 6, hW⟩
  have C1 : ∀ W, P W → Calls Try.prog 9 #[.agg #[.int .i64 c.ce, .int .i64 c.sl, .int .i64 c.bi, .int .i64 c.ta, .int .i64 c.ba, .int .i64 c.de], .int .i64 sp, .int .i64 df, .slice la n lc] W fun e w' => e = .returned (.tuple #[.int .i64 (vdV c sp df zs), .int .i64 0]) ∧ P w' := by
    intro W hW
    rw [HP] at hW ⊢
    have := verdict_any c sp df la n lc zs W (hL W hW) hn
    rw [vdV_ok hf hd] at this
    refine this.mono ?_
    rintro e w' ⟨he, hk⟩
    exact ⟨he, hW.calm hk⟩
  have HN : Hid (nxt c sp df zs = if vdV c sp df zs = 2 then df + 1 else df) := rfl
  have H2 : Hid (vdV c sp df zs = 2 → df < 64) := vdV_two hf
  have HW : Hid (∀ W, P W → W.frozen? ⟨g, 6, none⟩ = false ∧ ∀ d, St o (its.set i (boxI g (jd c d) 56)) (W.setCell ⟨g, 6, none⟩ (.int .i64 d))) := by
    intro W hW
    rw [HP] at hW
    exact ⟨hW.frozen i hi 6, fun d => hW.write i hi 6 (.int .i64 d)⟩
  have HB : Hid (∀ W, P W → St o (its.set i (boxI g (jd c df) 56)) W) := by
    intro W hW
    rw [HP] at hW
    rw [set_back hi]
    exact hW
  clear HP h hL hi
  generalize vdV c sp df zs = V at *
  generalize nxt c sp df zs = X at *
  obtain ⟨c0, c1, c2, c3, c4, c5, c6, _⟩ := CH.out _ hD
  go_enter Try.func15, Try.ntmps15
  go_wp2_with fail
  go_region_held3 (fun W => W.cell? ⟨g, 0, none⟩ = some (.int .i64 c.ce) ∧ W.cell? ⟨g, 1, none⟩ = some (.int .i64 c.sl) ∧ W.cell? ⟨g, 2, none⟩ = some (.int .i64 c.bi) ∧ W.cell? ⟨g, 3, none⟩ = some (.int .i64 c.ta) ∧ W.cell? ⟨g, 4, none⟩ = some (.int .i64 c.ba) ∧ W.cell? ⟨g, 5, none⟩ = some (.int .i64 c.de) ∧ W.cell? ⟨g, 6, none⟩ = some (.int .i64 df) ∧ P W)
    (exact CH.out _ hD)
    (first | (go_at_call 9; refine (C1 _ hD).mono ?_; rintro e wx ⟨rfl, hD⟩))
  clear c0 c1 c2 c3 c4 c5 c6
  obtain ⟨c0, c1, c2, c3, c4, c5, c6, _⟩ := CH.out _ hD
  by_cases hv : V = 2
  · obtain rfl : X = df + 1 := by rw [HN.out, if_pos hv]
    have h64 := H2.out hv
    obtain ⟨f6, hs⟩ := HW.out _ hD
    have hs' := hs (df + 1)
    subst hv
    clear hs HN H2 HW HB CH
    go_wp2
    go_ret
    exact ⟨rfl, hs'⟩
  · obtain rfl : X = df := by rw [HN.out, if_neg hv]
    have t1 : (V == 2) = false := by simp [hv]
    have hs' := HB.out _ hD
    clear hv HN H2 HW HB CH
    go_wp2
    go_ret
    exact ⟨rfl, hs'⟩

set_option maxRecDepth 100000 in
set_option maxHeartbeats 1000000 in
theorem refDecide_st {o w : World} {its : List It} (h : St o its w) (i : Nat) {g : Nat} {c : Cfg} {df : Int} (hi : its[i]? = some (boxI g (jd c df) 39)) (hf : c.fits = true) (hd : 0 ≤ df) (sp : Int) {la : Option Addr} {n lc : Nat} {zs : List Vt} (hL : ∀ W, St o its W → VIn W la n zs) (hn : n ≤ 17592186044416) :
    Calls Try.prog 16 #[.pointer (some ⟨g, 0, none⟩), .int .i64 sp, .slice la n lc] w fun e w' => e = .returned (.int .i64 (vdV c sp df zs)) ∧ St o (its.set i (boxI g (jd c (nxt c sp df zs)) 39)) w' := by
  obtain ⟨P, HP⟩ : ∃ P : World → Prop, P = fun W => St o its W := ⟨_, rfl⟩
  have hD : P w.drew := by rw [HP]; exact h.drew
  have CH : Hid (∀ W, P W → W.cell? ⟨g, 0, none⟩ = some (.int .i64 c.ce) ∧ W.cell? ⟨g, 1, none⟩ = some (.int .i64 c.sl) ∧ W.cell? ⟨g, 2, none⟩ = some (.int .i64 c.bi) ∧ W.cell? ⟨g, 3, none⟩ = some (.int .i64 c.ta) ∧ W.cell? ⟨g, 4, none⟩ = some (.int .i64 c.ba) ∧ W.cell? ⟨g, 5, none⟩ = some (.int .i64 c.de) ∧ W.cell? ⟨g, 6, none⟩ = some (.int .i64 df) ∧ P W) := by
    intro W hW
    have h' := hW
    rw [HP] at h'
    exact ⟨h'.cell i hi 0, h'.cell i hi 1, h'.cell i hi 2, h'.cell i hi 3, h'.cell i hi 4, h'.cell i hi 5, h'.cell i hi 6, hW⟩
  have C1 : ∀ W, P W → Calls Try.prog 10 #[.agg #[.int .i64 c.ce, .int .i64 c.sl, .int .i64 c.bi, .int .i64 c.ta, .int .i64 c.ba, .int .i64 c.de], .int .i64 sp, .int .i64 df, .slice la n lc] W fun e w' => e = .returned (.tuple #[.int .i64 (vdV c sp df zs), .int .i64 0]) ∧ P w' := by
    intro W hW
    rw [HP] at hW ⊢
    have := refVerdict_any c sp df la n lc zs W (hL W hW) hn
    rw [vdV_ok hf hd] at this
    refine this.mono ?_
    rintro e w' ⟨he, hk⟩
    exact ⟨he, hW.calm hk⟩
  have HN : Hid (nxt c sp df zs = if vdV c sp df zs = 2 then df + 1 else df) := rfl
  have H2 : Hid (vdV c sp df zs = 2 → df < 64) := vdV_two hf
  have HW : Hid (∀ W, P W → W.frozen? ⟨g, 6, none⟩ = false ∧ ∀ d, St o (its.set i (boxI g (jd c d) 39)) (W.setCell ⟨g, 6, none⟩ (.int .i64 d))) := by
    intro W hW
    rw [HP] at hW
    exact ⟨hW.frozen i hi 6, fun d => hW.write i hi 6 (.int .i64 d)⟩
  have HB : Hid (∀ W, P W → St o (its.set i (boxI g (jd c df) 39)) W) := by
    intro W hW
    rw [HP] at hW
    rw [set_back hi]
    exact hW
  clear HP h hL hi
  generalize vdV c sp df zs = V at *
  generalize nxt c sp df zs = X at *
  obtain ⟨c0, c1, c2, c3, c4, c5, c6, _⟩ := CH.out _ hD
  go_enter Try.func16, Try.ntmps16
  go_wp2_with fail
  go_region_held3 (fun W => W.cell? ⟨g, 0, none⟩ = some (.int .i64 c.ce) ∧ W.cell? ⟨g, 1, none⟩ = some (.int .i64 c.sl) ∧ W.cell? ⟨g, 2, none⟩ = some (.int .i64 c.bi) ∧ W.cell? ⟨g, 3, none⟩ = some (.int .i64 c.ta) ∧ W.cell? ⟨g, 4, none⟩ = some (.int .i64 c.ba) ∧ W.cell? ⟨g, 5, none⟩ = some (.int .i64 c.de) ∧ W.cell? ⟨g, 6, none⟩ = some (.int .i64 df) ∧ P W)
    (exact CH.out _ hD)
    (first | (go_at_call 10; refine (C1 _ hD).mono ?_; rintro e wx ⟨rfl, hD⟩))
  clear c0 c1 c2 c3 c4 c5 c6
  obtain ⟨c0, c1, c2, c3, c4, c5, c6, _⟩ := CH.out _ hD
  by_cases hv : V = 2
  · obtain rfl : X = df + 1 := by rw [HN.out, if_pos hv]
    have h64 := H2.out hv
    obtain ⟨f6, hs⟩ := HW.out _ hD
    have hs' := hs (df + 1)
    subst hv
    clear hs HN H2 HW HB CH
    go_wp2
    go_ret
    exact ⟨rfl, hs'⟩
  · obtain rfl : X = df := by rw [HN.out, if_neg hv]
    have t1 : (V == 2) = false := by simp [hv]
    have hs' := HB.out _ hD
    clear hv HN H2 HW HB CH
    go_wp2
    go_ret
    exact ⟨rfl, hs'⟩
end Go.Proofs.Ytjljipbmbelmgaa
