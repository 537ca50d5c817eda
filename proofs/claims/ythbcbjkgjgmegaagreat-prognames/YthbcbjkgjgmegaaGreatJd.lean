/- What each tag's function says: commitWins, readerBias, aging. Verdict, by the code. Verdict, by the document. Judges: New, Decide, Defers, Promoted, Reset; the document's too. -/
import Derived.Test.YthbcbjkgjgmegaaGreatVt
import Derived.LoopN
import Derived.Laws.EntriesVeiled
import Derived.Test.YthbcbjkgjgmegaaGreatSame
import Derived.BigQuiet
namespace Go.Proofs.YthbcbjkgjgmegaaGreat
open Go.RowKit
set_option linter.unusedVariables false
set_option linter.unusedSimpArgs false
attribute [local go_sem ↓] Go.wp_at_zero Go.wp_at_succ

/-- Is one of them older? -/
def anyOld (sp : Int) (zs : List Vt) : Bool := zs.any (fun t => decide (t.sp < sp))

set_option maxRecDepth 100000 in
theorem cw_any (c : Cfg) (sp df : Int) (v : Value) (w : World) : Calls Tryz.prog 405 #[c.val, .int .i64 sp, .int .i64 df, v] w fun e w' => e = .returned (.int .i64 1) ∧ Kept (fun _ => False) w w' := by
  have k0 := kept_alloc w (.cells #[.int .i64 c.ce, .int .i64 c.sl, .int .i64 c.bi, .int .i64 c.ta, .int .i64 c.ba, .int .i64 c.de] 24)
  unfold Cfg.val
  go_enter Tryz.func405, Tryz.ntmps405
  go_wp2
  go_ret
  exact ⟨rfl, k0⟩

def rbAns (c : Cfg) (df : Int) (n : Nat) : Int := if c.ba < (n : Int) ∧ df < c.de then 2 else 1

set_option maxRecDepth 100000 in
theorem rb_any (c : Cfg) (sp df : Int) (la : Option Addr) (n lc : Nat) (w : World) : Calls Tryz.prog 406 #[c.val, .int .i64 sp, .int .i64 df, .slice la n lc] w fun e w' => e = .returned (.int .i64 (rbAns c df n)) ∧ Kept (fun _ => False) w w' := by
  obtain ⟨ce, sl, bi, ta, ba, de⟩ := c
  have k0 := kept_alloc w (.cells #[.int .i64 ce, .int .i64 sl, .int .i64 bi, .int .i64 ta, .int .i64 ba, .int .i64 de] 24)
  have hh := heap_alloc_new w (.cells #[.int .i64 ce, .int .i64 sl, .int .i64 bi, .int .i64 ta, .int .i64 ba, .int .i64 de] 24)
  obtain ⟨E, hE⟩ : ∃ E : Int, rbAns ⟨ce, sl, bi, ta, ba, de⟩ df n = E := ⟨_, rfl⟩
  have HE : Hid (rbAns ⟨ce, sl, bi, ta, ba, de⟩ df n = E) := hE
  rw [hE]
  clear hE
  unfold Cfg.val
  simp only
  go_enter Tryz.func406, Tryz.ntmps406
  go_upto_region 1 with fail
  generalize w.alloc (.cells #[.int .i64 ce, .int .i64 sl, .int .i64 bi, .int .i64 ta, .int .i64 ba, .int .i64 de] 24) = W0 at *
  generalize w.heap.size = B at *
  have c4 : W0.cell? ⟨B, 4, none⟩ = some (.int .i64 ba) := cell_of_heap hh
  have c5 : W0.cell? ⟨B, 5, none⟩ = some (.int .i64 de) := cell_of_heap hh
  clear hh
  by_cases h1 : ba < (n : Int)
  · by_cases h2 : df < de
    · obtain rfl : 2 = E := by rw [← HE.out]; simp [rbAns, h1, h2]
      go_wp2
      go_ret
      exact ⟨rfl, k0⟩
    · obtain rfl : 1 = E := by rw [← HE.out]; simp [rbAns, h1, h2]
      go_wp2
      go_ret
      exact ⟨rfl, k0⟩
  · obtain rfl : 1 = E := by rw [← HE.out]; simp [rbAns, h1]
    go_wp2
    go_ret
    exact ⟨rfl, k0⟩

set_option maxRecDepth 100000 in
theorem older_any (t : Vt) (B : Nat) (sp : Int) (w : World) (hB : w.cell? ⟨B, 0, none⟩ = some (.int .i64 sp)) : Calls Tryz.prog 408 #[t.val, .pointer (some ⟨B, 0, none⟩)] w fun e w' => e = .returned (.bool (decide (t.sp < sp))) ∧ Kept (fun _ => False) w w' := by
  obtain ⟨so, ge, ts, th⟩ := t
  have k0 := kept_alloc w (.cells #[.int .i64 so, .int .i64 ge, .int .i64 ts, .int .i64 th] 374)
  have hh := heap_alloc_new w (.cells #[.int .i64 so, .int .i64 ge, .int .i64 ts, .int .i64 th] 374)
  have hb : B < w.heap.size := World.block_lt_of_cell? w _ hB
  have cB : (w.alloc (.cells #[.int .i64 so, .int .i64 ge, .int .i64 ts, .int .i64 th] 374)).cell? ⟨B, 0, none⟩ = some (.int .i64 sp) := by
    rw [World.cell?_alloc_past _ _ _ hb]; exact hB
  unfold Vt.val
  simp only
  go_enter Tryz.func408, Tryz.ntmps408
  go_upto_region 1 with fail
  generalize w.alloc (.cells #[.int .i64 so, .int .i64 ge, .int .i64 ts, .int .i64 th] 374) = W0 at *
  generalize w.heap.size = N at *
  have c2 : W0.cell? ⟨N, 2, none⟩ = some (.int .i64 ts) := cell_of_heap hh
  clear hh hB
  cases h : decide (ts < sp)
  all_goals
    go_wp2
    go_ret
    first | exact ⟨rfl, k0⟩ | simp_all

set_option maxRecDepth 100000 in
set_option maxHeartbeats 1000000 in
theorem index_any (la : Option Addr) (n lc : Nat) (zs : List Vt) (B : Nat) (sp : Int) (w : World) (hL : VIn w la n zs) (hn : n ≤ 17592186044416) (hB : w.cell? ⟨B, 0, none⟩ = some (.int .i64 sp)) :
    Calls Tryz.prog 410 #[.slice la n lc, .func (.func 408) #[] #[.pointer (some ⟨B, 0, none⟩)]] w fun e w' => ∃ r : Int, e = .returned (.int .i64 r) ∧ decide (0 ≤ r) = anyOld sp zs ∧ Kept (fun _ => False) w w' := by
  have HN : Hid (n = zs.length) := hL.1
  have HB : Hid (B < w.heap.size) := World.block_lt_of_cell? w _ hB
  go_enter Tryz.func410, Tryz.ntmps410
  go_wp2
  go_loopw [8] (fun i wr => ∃ j : Nat, i = .int .i64 j ∧ j ≤ n ∧ (∀ k (h : k < zs.length), k < j → sp ≤ zs[k].sp) ∧ Kept (fun _ => False) w wr) (fun i _ => n - (intOf i).toNat)
  case atStart => exact ⟨0, rfl, Nat.zero_le _, fun k h h0 => by omega, Kept.refl _ _⟩
  case round =>
    obtain ⟨j, rfl, hj, ho, hk⟩ := hrel
    have HO : Hid (∀ k (h : k < zs.length), k < j → sp ≤ zs[k].sp) := ho
    clear ho
    by_cases hlt : j < n
    · have hz : j < zs.length := by have := HN.out; omega
      obtain ⟨g, o, rfl, _⟩ := hL.2 (by omega)
      obtain ⟨c0, c1, c2, c3⟩ := (hL.kept hk).cells hz
      have hcB : wr.cell? ⟨B, 0, none⟩ = some (.int .i64 sp) := by
        rw [World.cell?_of_block (hk.block B HB.out (fun f => f))]; exact hB
      have hq := older_any zs[j] B sp wr hcB
      have HZ : Hid (decide (zs[j].sp < sp) = true → anyOld sp zs = true) := fun h => List.any_eq_true.2 ⟨zs[j], List.getElem_mem hz, h⟩
      have HY : Hid (decide (zs[j].sp < sp) = false → ∀ k (h : k < zs.length), k < j + 1 → sp ≤ zs[k].sp) := fun h k hk1 hk2 => by
        by_cases e : k = j
        · subst e; simpa using h
        · exact HO.out k hk1 (by omega)
      unfold Vt.val at hq
      generalize zs[j] = t at *
      generalize decide (t.sp < sp) = b at *
      have h0 : (0 : Int) ≤ (j : Int) := Int.natCast_nonneg _
      have h1 : (j : Int) < (n : Int) := by omega
      clear hL hcB hB
      cases b
      · go_wp2_with (go_at_call 408; refine hq.mono ?_; rintro e w2 ⟨rfl, k2⟩)
        go_roundw
        case rel => exact ⟨j + 1, by simp, by omega, HY.out (by simp), hk.trans k2 (fun _ _ f => f)⟩
        case measure => simp [intOf]; omega
      · go_wp2_with (go_at_call 408; refine hq.mono ?_; rintro e w2 ⟨rfl, k2⟩)
        go_ret
        exact ⟨_, rfl, by rw [HZ.out (by simp)]; simp, hk.trans k2 (fun _ _ f => f)⟩
    · have h1 : ¬ (j : Int) < (n : Int) := by omega
      have hje : anyOld sp zs = false := by
        cases hh : anyOld sp zs
        · rfl
        · obtain ⟨t, ht, hl⟩ := List.any_eq_true.1 hh
          obtain ⟨i, hi, rfl⟩ := List.getElem_of_mem ht
          exact absurd (of_decide_eq_true hl) (Int.not_lt.2 (HO.out i hi (by have := HN.out; omega)))
      clear hL hB
      go_wp2
      go_ret
      exact ⟨_, rfl, by first | decide | (rw [hje]; decide), hk⟩

set_option maxRecDepth 100000 in
theorem contains_any (la : Option Addr) (n lc : Nat) (zs : List Vt) (B : Nat) (sp : Int) (w : World) (hL : VIn w la n zs) (hn : n ≤ 17592186044416) (hB : w.cell? ⟨B, 0, none⟩ = some (.int .i64 sp)) :
    Calls Tryz.prog 409 #[.slice la n lc, .func (.func 408) #[] #[.pointer (some ⟨B, 0, none⟩)]] w fun e w' => e = .returned (.bool (anyOld sp zs)) ∧ Kept (fun _ => False) w w' := by
  have hq := index_any la n lc zs B sp w hL hn hB
  clear hL hn hB
  generalize anyOld sp zs = b at *
  go_enter Tryz.func409, Tryz.ntmps409
  go_wp2_with fail
  refine hq.mono ?_
  rintro e w1 ⟨r, rfl, hr, k1⟩
  clear hq
  cases b
  · have hr : ¬ 0 ≤ r := of_decide_eq_false hr
    go_wp2
    go_ret
    exact ⟨rfl, k1⟩
  · have hr : 0 ≤ r := of_decide_eq_true hr
    go_wp2
    go_ret
    exact ⟨rfl, k1⟩

set_option maxRecDepth 100000 in
theorem aging_any (c : Cfg) (sp df : Int) (la : Option Addr) (n lc : Nat) (zs : List Vt) (w : World) (hL : VIn w la n zs) (hn : n ≤ 17592186044416) : Calls Tryz.prog 407 #[c.val, .int .i64 sp, .int .i64 df, .slice la n lc] w fun e w' => e = .returned (.int .i64 (if anyOld sp zs then 3 else 1)) ∧ Kept (fun _ => False) w w' := by
  have hmf : ∀ (fn : Fn) (first cap : Array Value) (w : World), (Instr.makeFunc fn first cap).run Tryz.prog w = .ok (.func fn first cap) w := fun _ _ _ _ => rfl
  obtain ⟨ce, sl, bi, ta, ba, de⟩ := c
  have h0 := ((St.nil w).box #[.int .i64 ce, .int .i64 sl, .int .i64 bi, .int .i64 ta, .int .i64 ba, .int .i64 de] 24).box #[.int .i64 sp] 3
  have hq := contains_any la n lc zs _ sp _ (hL.kept h0.same) hn (h0.cell 0 rfl 0)
  have k0 := h0.same
  simp only [alloc_size] at hq
  clear hL h0 hn
  generalize anyOld sp zs = b at *
  unfold Cfg.val
  simp only
  go_enter Tryz.func407, Tryz.ntmps407
  go_wp2_with fail
  refine hq.mono ?_
  rintro e w1 ⟨rfl, k1⟩
  have hk := k0.trans k1 (fun _ _ f => f)
  clear hq k0 k1
  cases b
  all_goals
    go_wp2
    go_ret
    exact ⟨rfl, hk⟩
end Go.Proofs.YthbcbjkgjgmegaaGreat

namespace Go.Proofs.YthbcbjkgjgmegaaGreat
open Go.RowKit
set_option linter.unusedVariables false
set_option linter.unusedSimpArgs false
attribute [local go_sem ↓] Go.wp_at_zero Go.wp_at_succ

def vdOk (c : Cfg) (df : Int) : Bool := c.fits && decide (0 ≤ df)
/-- What the document says. -/
def vdV (c : Cfg) (sp df : Int) (zs : List Vt) : Int :=
  if vdOk c df then (if c.ta = 2 ∧ c.ba < (zs.length : Int) ∧ df < c.de then 2 else if c.ta = 3 ∧ anyOld sp zs = true then 3 else 1) else 0
def vdE (c : Cfg) (df : Int) : Int := if vdOk c df then 0 else 1
def ruleCells : Array Value := #[.int .i64 1, .func (.func 405) #[] #[], .int .i64 2, .func (.func 406) #[] #[], .int .i64 3, .func (.func 407) #[] #[]]
theorem Cfg.fits_tag {c : Cfg} (h : c.fits = true) : 1 ≤ c.ta ∧ c.ta ≤ 3 := by
  simp only [Cfg.fits, Bool.and_eq_true, inR_iff] at h
  omega

set_option maxRecDepth 100000 in
theorem rules_st {o w : World} {its : List It} (h : St o its w) : Calls Tryz.prog 404 #[] w fun e w' => ∃ g, e = .returned (.slice (some ⟨g, 0, none⟩) 3 3) ∧ St o (boxI g ruleCells 455 :: its) w' := by
  have h0 := h.box ruleCells 455
  unfold ruleCells at *
  clear h
  go_enter Tryz.func404, Tryz.ntmps404
  go_wp2
  first | go_ret | go_ret2
  exact ⟨_, rfl, h0⟩

set_option maxRecDepth 100000 in
set_option maxHeartbeats 1000000 in
theorem verdict_any (c : Cfg) (sp df : Int) (la : Option Addr) (n lc : Nat) (zs : List Vt) (w : World) (hL : VIn w la n zs) (hn : n ≤ 17592186044416) :
    Calls Tryz.prog 401 #[c.val, .int .i64 sp, .int .i64 df, .slice la n lc] w fun e w' => e = .returned (.tuple #[.int .i64 (vdV c sp df zs), .int .i64 (vdE c df)]) ∧ Kept (fun _ => False) w w' := by
  have HV : Hid (vdOk c df = true → vdV c sp df zs = if c.ta = 2 ∧ c.ba < (zs.length : Int) ∧ df < c.de then 2 else if c.ta = 3 ∧ anyOld sp zs = true then 3 else 1) := fun h => by simp [vdV, h]
  have HV0 : Hid (vdOk c df = false → vdV c sp df zs = 0) := fun h => by simp [vdV, h]
  have HE : Hid (vdOk c df = true → vdE c df = 0) := fun h => by simp [vdE, h]
  have HE0 : Hid (vdOk c df = false → vdE c df = 1) := fun h => by simp [vdE, h]
  generalize vdV c sp df zs = V at *
  generalize vdE c df = E at *
  have h0 := (St.nil w).box #[.int .i64 c.ce, .int .i64 c.sl, .int .i64 c.bi, .int .i64 c.ta, .int .i64 c.ba, .int .i64 c.de] 24
  have HC : Hid (∀ W, Calls Tryz.prog 32 #[.agg #[.int .i64 c.ce, .int .i64 c.sl, .int .i64 c.bi, .int .i64 c.ta, .int .i64 c.ba, .int .i64 c.de]] W fun e w' => e = .returned (.int .i64 (if c.fits then 0 else 1)) ∧ Kept (fun _ => False) W w') := fun W => check_any c W
  obtain ⟨B, hB⟩ : ∃ B, B = w.heap.size := ⟨_, rfl⟩
  have HF : Hid (∀ W, St w [boxI B #[.int .i64 c.ce, .int .i64 c.sl, .int .i64 c.bi, .int .i64 c.ta, .int .i64 c.ba, .int .i64 c.de] 24] W → W.cell? ⟨B, 0, none⟩ = some (.int .i64 c.ce) ∧ W.cell? ⟨B, 1, none⟩ = some (.int .i64 c.sl) ∧ W.cell? ⟨B, 2, none⟩ = some (.int .i64 c.bi) ∧ W.cell? ⟨B, 3, none⟩ = some (.int .i64 c.ta) ∧ W.cell? ⟨B, 4, none⟩ = some (.int .i64 c.ba) ∧ W.cell? ⟨B, 5, none⟩ = some (.int .i64 c.de)) := fun W h => ⟨h.cell 0 rfl 0, h.cell 0 rfl 1, h.cell 0 rfl 2, h.cell 0 rfl 3, h.cell 0 rfl 4, h.cell 0 rfl 5⟩
  unfold Cfg.val
  go_enter Tryz.func401, Tryz.ntmps401
  go_upto_region 1 with fail
  rw [← hB] at h0 ⊢
  clear hB
  generalize w.alloc (.cells #[.int .i64 c.ce, .int .i64 c.sl, .int .i64 c.bi, .int .i64 c.ta, .int .i64 c.ba, .int .i64 c.de] 24) = W0 at *
  obtain ⟨c0, c1, c2, c3, c4, c5⟩ := HF.out _ h0
  go_wp2_with fail
  refine (HC.out _).mono ?_
  rintro e w1 ⟨rfl, k1⟩
  have h1 := h0.calm k1
  clear h0 k1 c0 c1 c2 c3 c4 c5 HC
  cases hf : c.fits
  · obtain rfl : V = 0 := HV0.out (by simp [vdOk, hf])
    obtain rfl : E = 1 := HE0.out (by simp [vdOk, hf])
    have HK : Hid (Kept (fun _ => False) w w1) := h1.same
    clear h1 HV HV0 HE HE0 HF hL
    simp only [Bool.false_eq_true, if_false]
    go_wp2
    first | go_ret | go_ret2
    exact ⟨rfl, HK.out⟩
  · simp only [if_true]
    by_cases hd : df < 0
    · obtain rfl : V = 0 := HV0.out (by simp [vdOk, hf]; omega)
      obtain rfl : E = 1 := HE0.out (by simp [vdOk, hf]; omega)
      have HK : Hid (Kept (fun _ => False) w w1) := h1.same
      clear h1 HV HV0 HE HE0 HF hL
      go_wp2
      first | go_ret | go_ret2
      exact ⟨rfl, HK.out⟩
    · have hok : vdOk c df = true := by simp [vdOk, hf]; omega
      have hV := HV.out hok
      obtain rfl : E = 0 := HE.out hok
      have ht := Cfg.fits_tag hf
      clear HV0 HE HE0 HV hok
      have hr := rules_st h1
      have HV : Hid (V = _) := hV
      clear hV
      go_wp2_with fail
      refine hr.mono ?_
      rintro e w2 ⟨g, rfl, h2⟩
      clear h1 hr HF
      go_wp2_with fail
      go_loopw [21] (fun i wr => ∃ j : Nat, i = .int .i64 j ∧ (j : Int) < c.ta ∧ St w [boxI g ruleCells 455, boxI B #[.int .i64 c.ce, .int .i64 c.sl, .int .i64 c.bi, .int .i64 c.ta, .int .i64 c.ba, .int .i64 c.de] 24] wr) (fun i _ => 3 - (intOf i).toNat)
      case atStart => exact ⟨0, rfl, by omega, h2⟩
      case round =>
        obtain ⟨j, rfl, hj, h3⟩ := hrel
        have hj3 : j = 0 ∨ j = 1 ∨ j = 2 := by omega
        rcases hj3 with rfl | rfl | rfl
        · have h4 := h3.box #[.int .i64 1, .func (.func 405) #[] #[]] 455
          have HL : Hid (VIn w la n zs) := hL
          clear hL
          by_cases hta : c.ta = 1
          · have hV := HV.out
            have t1 : ((1 : Int) == c.ta) = true := by simp [hta]
            have hq : Hid (∀ W, St w [boxI wr.heap.size #[.int .i64 1, .func (.func 405) #[] #[]] 455, boxI g ruleCells 455, boxI B #[.int .i64 c.ce, .int .i64 c.sl, .int .i64 c.bi, .int .i64 c.ta, .int .i64 c.ba, .int .i64 c.de] 24] W → Calls Tryz.prog 405 #[.agg #[.int .i64 c.ce, .int .i64 c.sl, .int .i64 c.bi, .int .i64 c.ta, .int .i64 c.ba, .int .i64 c.de], .int .i64 sp, .int .i64 df, .slice la n lc] W fun e w' => e = .returned (.int .i64 V) ∧ Kept (fun _ => False) W w') := by
              intro W hW
              have := cw_any c sp df (.slice la n lc) W
              rw [show V = 1 by rw [hV]; simp [hta]]
              exact this
            clear hV HV
            have d0 : wr.cell? ⟨g, 0, none⟩ = some (.int .i64 1) := h3.cell 0 rfl 0
            have d1 : wr.cell? ⟨g, 1, none⟩ = some (.func (.func 405) #[] #[]) := h3.cell 0 rfl 1
            go_upto_region 6 with fail
            generalize wr.alloc (.cells #[.int .i64 1, .func (.func 405) #[] #[]] 455) = w4 at *
            generalize wr.heap.size = R at *
            have e0 : w4.cell? ⟨R, 0, none⟩ = some (.int .i64 1) := h4.cell 0 rfl 0
            have e1 : w4.cell? ⟨R, 1, none⟩ = some (.func (.func 405) #[] #[]) := h4.cell 0 rfl 1
            have c0 : w4.cell? ⟨B, 0, none⟩ = some (.int .i64 c.ce) := h4.cell 2 rfl 0
            have c1 : w4.cell? ⟨B, 1, none⟩ = some (.int .i64 c.sl) := h4.cell 2 rfl 1
            have c2 : w4.cell? ⟨B, 2, none⟩ = some (.int .i64 c.bi) := h4.cell 2 rfl 2
            have c3 : w4.cell? ⟨B, 3, none⟩ = some (.int .i64 c.ta) := h4.cell 2 rfl 3
            have c4 : w4.cell? ⟨B, 4, none⟩ = some (.int .i64 c.ba) := h4.cell 2 rfl 4
            have c5 : w4.cell? ⟨B, 5, none⟩ = some (.int .i64 c.de) := h4.cell 2 rfl 5
            have hq2 := hq.out _ h4
            have HK : Hid (Kept (fun _ => False) w w4) := h4.same
            clear hq h4 h3 hta d0 d1 hj
            go_wp2_with (go_at_call 405; refine hq2.mono ?_; rintro e w5 ⟨rfl, k5⟩)
            go_ret2
            exact ⟨rfl, HK.out.trans k5 (fun _ _ f => f)⟩
          · have t1 : ((1 : Int) == c.ta) = false := by simp; omega
            have d0 : wr.cell? ⟨g, 0, none⟩ = some (.int .i64 1) := h3.cell 0 rfl 0
            have d1 : wr.cell? ⟨g, 1, none⟩ = some (.func (.func 405) #[] #[]) := h3.cell 0 rfl 1
            have HJ : Hid (((0 : Nat) + 1 : Int) < c.ta) := (by show ((0 : Nat) + 1 : Int) < c.ta; omega)
            go_upto_region 6 with fail
            generalize wr.alloc (.cells #[.int .i64 1, .func (.func 405) #[] #[]] 455) = w4 at *
            generalize wr.heap.size = R at *
            have e0 : w4.cell? ⟨R, 0, none⟩ = some (.int .i64 1) := h4.cell 0 rfl 0
            have c3 : w4.cell? ⟨B, 3, none⟩ = some (.int .i64 c.ta) := h4.cell 2 rfl 3
            have h5 := h4.pop
            clear h4 h3 d0 d1 hj hta
            go_wp2
            go_roundw
            case rel => exact ⟨1, by simp, by simpa using HJ.out, h5⟩
            case measure => simp [intOf]
        · have h4 := h3.box #[.int .i64 2, .func (.func 406) #[] #[]] 455
          have HL : Hid (VIn w la n zs) := hL
          clear hL
          by_cases hta : c.ta = 2
          · have hV := HV.out
            have t1 : ((2 : Int) == c.ta) = true := by simp [hta]
            have hq : Hid (∀ W, St w [boxI wr.heap.size #[.int .i64 2, .func (.func 406) #[] #[]] 455, boxI g ruleCells 455, boxI B #[.int .i64 c.ce, .int .i64 c.sl, .int .i64 c.bi, .int .i64 c.ta, .int .i64 c.ba, .int .i64 c.de] 24] W → Calls Tryz.prog 406 #[.agg #[.int .i64 c.ce, .int .i64 c.sl, .int .i64 c.bi, .int .i64 c.ta, .int .i64 c.ba, .int .i64 c.de], .int .i64 sp, .int .i64 df, .slice la n lc] W fun e w' => e = .returned (.int .i64 V) ∧ Kept (fun _ => False) W w') := by
              intro W hW
              have := rb_any c sp df la n lc W
              rw [show V = rbAns c df n by rw [hV, rbAns, HL.out.1]; simp [hta]]
              exact this
            clear hV HV
            have d0 : wr.cell? ⟨g, 2, none⟩ = some (.int .i64 2) := h3.cell 0 rfl 2
            have d1 : wr.cell? ⟨g, 3, none⟩ = some (.func (.func 406) #[] #[]) := h3.cell 0 rfl 3
            go_upto_region 6 with fail
            generalize wr.alloc (.cells #[.int .i64 2, .func (.func 406) #[] #[]] 455) = w4 at *
            generalize wr.heap.size = R at *
            have e0 : w4.cell? ⟨R, 0, none⟩ = some (.int .i64 2) := h4.cell 0 rfl 0
            have e1 : w4.cell? ⟨R, 1, none⟩ = some (.func (.func 406) #[] #[]) := h4.cell 0 rfl 1
            have c0 : w4.cell? ⟨B, 0, none⟩ = some (.int .i64 c.ce) := h4.cell 2 rfl 0
            have c1 : w4.cell? ⟨B, 1, none⟩ = some (.int .i64 c.sl) := h4.cell 2 rfl 1
            have c2 : w4.cell? ⟨B, 2, none⟩ = some (.int .i64 c.bi) := h4.cell 2 rfl 2
            have c3 : w4.cell? ⟨B, 3, none⟩ = some (.int .i64 c.ta) := h4.cell 2 rfl 3
            have c4 : w4.cell? ⟨B, 4, none⟩ = some (.int .i64 c.ba) := h4.cell 2 rfl 4
            have c5 : w4.cell? ⟨B, 5, none⟩ = some (.int .i64 c.de) := h4.cell 2 rfl 5
            have hq2 := hq.out _ h4
            have HK : Hid (Kept (fun _ => False) w w4) := h4.same
            clear hq h4 h3 hta d0 d1 hj
            go_wp2_with (go_at_call 406; refine hq2.mono ?_; rintro e w5 ⟨rfl, k5⟩)
            go_ret2
            exact ⟨rfl, HK.out.trans k5 (fun _ _ f => f)⟩
          · have t1 : ((2 : Int) == c.ta) = false := by simp; omega
            have d0 : wr.cell? ⟨g, 2, none⟩ = some (.int .i64 2) := h3.cell 0 rfl 2
            have d1 : wr.cell? ⟨g, 3, none⟩ = some (.func (.func 406) #[] #[]) := h3.cell 0 rfl 3
            have HJ : Hid (((1 : Nat) + 1 : Int) < c.ta) := (by show ((1 : Nat) + 1 : Int) < c.ta; omega)
            go_upto_region 6 with fail
            generalize wr.alloc (.cells #[.int .i64 2, .func (.func 406) #[] #[]] 455) = w4 at *
            generalize wr.heap.size = R at *
            have e0 : w4.cell? ⟨R, 0, none⟩ = some (.int .i64 2) := h4.cell 0 rfl 0
            have c3 : w4.cell? ⟨B, 3, none⟩ = some (.int .i64 c.ta) := h4.cell 2 rfl 3
            have h5 := h4.pop
            clear h4 h3 d0 d1 hj hta
            go_wp2
            go_roundw
            case rel => exact ⟨2, by simp, by simpa using HJ.out, h5⟩
            case measure => simp [intOf]
        · have h4 := h3.box #[.int .i64 3, .func (.func 407) #[] #[]] 455
          have HL : Hid (VIn w la n zs) := hL
          clear hL
          by_cases hta : c.ta = 3
          · have hV := HV.out
            have t1 : ((3 : Int) == c.ta) = true := by simp [hta]
            have hq : Hid (∀ W, St w [boxI wr.heap.size #[.int .i64 3, .func (.func 407) #[] #[]] 455, boxI g ruleCells 455, boxI B #[.int .i64 c.ce, .int .i64 c.sl, .int .i64 c.bi, .int .i64 c.ta, .int .i64 c.ba, .int .i64 c.de] 24] W → Calls Tryz.prog 407 #[.agg #[.int .i64 c.ce, .int .i64 c.sl, .int .i64 c.bi, .int .i64 c.ta, .int .i64 c.ba, .int .i64 c.de], .int .i64 sp, .int .i64 df, .slice la n lc] W fun e w' => e = .returned (.int .i64 V) ∧ Kept (fun _ => False) W w') := by
              intro W hW
              have := aging_any c sp df la n lc zs W (HL.out.kept hW.same) hn
              rw [show V = if anyOld sp zs then 3 else 1 by rw [hV]; simp [hta]]
              exact this
            clear hV HV
            have d0 : wr.cell? ⟨g, 4, none⟩ = some (.int .i64 3) := h3.cell 0 rfl 4
            have d1 : wr.cell? ⟨g, 5, none⟩ = some (.func (.func 407) #[] #[]) := h3.cell 0 rfl 5
            go_upto_region 6 with fail
            generalize wr.alloc (.cells #[.int .i64 3, .func (.func 407) #[] #[]] 455) = w4 at *
            generalize wr.heap.size = R at *
            have e0 : w4.cell? ⟨R, 0, none⟩ = some (.int .i64 3) := h4.cell 0 rfl 0
            have e1 : w4.cell? ⟨R, 1, none⟩ = some (.func (.func 407) #[] #[]) := h4.cell 0 rfl 1
            have c0 : w4.cell? ⟨B, 0, none⟩ = some (.int .i64 c.ce) := h4.cell 2 rfl 0
            have c1 : w4.cell? ⟨B, 1, none⟩ = some (.int .i64 c.sl) := h4.cell 2 rfl 1
            have c2 : w4.cell? ⟨B, 2, none⟩ = some (.int .i64 c.bi) := h4.cell 2 rfl 2
            have c3 : w4.cell? ⟨B, 3, none⟩ = some (.int .i64 c.ta) := h4.cell 2 rfl 3
            have c4 : w4.cell? ⟨B, 4, none⟩ = some (.int .i64 c.ba) := h4.cell 2 rfl 4
            have c5 : w4.cell? ⟨B, 5, none⟩ = some (.int .i64 c.de) := h4.cell 2 rfl 5
            have hq2 := hq.out _ h4
            have HK : Hid (Kept (fun _ => False) w w4) := h4.same
            clear hq h4 h3 hta d0 d1 hj
            go_wp2_with (go_at_call 407; refine hq2.mono ?_; rintro e w5 ⟨rfl, k5⟩)
            go_ret2
            exact ⟨rfl, HK.out.trans k5 (fun _ _ f => f)⟩
          · exfalso
            omega
end Go.Proofs.YthbcbjkgjgmegaaGreat

namespace Go.Proofs.YthbcbjkgjgmegaaGreat
open Go.RowKit
set_option linter.unusedVariables false
set_option linter.unusedSimpArgs false
attribute [local go_sem ↓] Go.wp_at_zero Go.wp_at_succ

set_option maxRecDepth 100000 in
set_option maxHeartbeats 1000000 in
theorem refVerdict_any (c : Cfg) (sp df : Int) (la : Option Addr) (n lc : Nat) (zs : List Vt) (w : World) (hL : VIn w la n zs) (hn : n ≤ 17592186044416) :
    Calls Tryz.prog 288 #[c.val, .int .i64 sp, .int .i64 df, .slice la n lc] w fun e w' => e = .returned (.tuple #[.int .i64 (vdV c sp df zs), .int .i64 (vdE c df)]) ∧ Kept (fun _ => False) w w' := by
  have HV : Hid (vdOk c df = true → vdV c sp df zs = if c.ta = 2 ∧ c.ba < (n : Int) ∧ df < c.de then 2 else if c.ta = 3 ∧ anyOld sp zs = true then 3 else 1) := fun h => by rw [hL.1]; simp [vdV, h]
  have HV0 : Hid (vdOk c df = false → vdV c sp df zs = 0) := fun h => by simp [vdV, h]
  have HE : Hid (vdOk c df = true → vdE c df = 0) := fun h => by simp [vdE, h]
  have HE0 : Hid (vdOk c df = false → vdE c df = 1) := fun h => by simp [vdE, h]
  generalize vdV c sp df zs = V at *
  generalize vdE c df = E at *
  have h0 := (St.nil w).box #[.int .i64 c.ce, .int .i64 c.sl, .int .i64 c.bi, .int .i64 c.ta, .int .i64 c.ba, .int .i64 c.de] 24
  have HC : Hid (∀ W, Calls Tryz.prog 87 #[.agg #[.int .i64 c.ce, .int .i64 c.sl, .int .i64 c.bi, .int .i64 c.ta, .int .i64 c.ba, .int .i64 c.de]] W fun e w' => e = .returned (.int .i64 (if c.fits then 0 else 1)) ∧ Kept (fun _ => False) W w') := fun W => refCheck_any c W
  obtain ⟨B, hB⟩ : ∃ B, B = w.heap.size := ⟨_, rfl⟩
  have HF : Hid (∀ W, St w [boxI B #[.int .i64 c.ce, .int .i64 c.sl, .int .i64 c.bi, .int .i64 c.ta, .int .i64 c.ba, .int .i64 c.de] 24] W → W.cell? ⟨B, 0, none⟩ = some (.int .i64 c.ce) ∧ W.cell? ⟨B, 1, none⟩ = some (.int .i64 c.sl) ∧ W.cell? ⟨B, 2, none⟩ = some (.int .i64 c.bi) ∧ W.cell? ⟨B, 3, none⟩ = some (.int .i64 c.ta) ∧ W.cell? ⟨B, 4, none⟩ = some (.int .i64 c.ba) ∧ W.cell? ⟨B, 5, none⟩ = some (.int .i64 c.de)) := fun W h => ⟨h.cell 0 rfl 0, h.cell 0 rfl 1, h.cell 0 rfl 2, h.cell 0 rfl 3, h.cell 0 rfl 4, h.cell 0 rfl 5⟩
  unfold Cfg.val
  go_enter Tryz.func288, Tryz.ntmps288
  go_upto_region 1 with fail
  rw [← hB] at h0 ⊢
  clear hB
  generalize w.alloc (.cells #[.int .i64 c.ce, .int .i64 c.sl, .int .i64 c.bi, .int .i64 c.ta, .int .i64 c.ba, .int .i64 c.de] 24) = W0 at *
  obtain ⟨c0, c1, c2, c3, c4, c5⟩ := HF.out _ h0
  go_wp2_with fail
  refine (HC.out _).mono ?_
  rintro e w1 ⟨rfl, k1⟩
  have h1 := h0.calm k1
  clear h0 k1 c0 c1 c2 c3 c4 c5 HC
  have HK : Hid (Kept (fun _ => False) w w1) := h1.same
  cases hf : c.fits
  · obtain rfl : V = 0 := HV0.out (by simp [vdOk, hf])
    obtain rfl : E = 1 := HE0.out (by simp [vdOk, hf])
    clear h1 HV HV0 HE HE0 HF hL
    simp only [Bool.false_eq_true, if_false]
    go_wp2
    go_ret2
    exact ⟨rfl, HK.out⟩
  · simp only [if_true]
    by_cases hd : df < 0
    · obtain rfl : V = 0 := HV0.out (by simp [vdOk, hf]; omega)
      obtain rfl : E = 1 := HE0.out (by simp [vdOk, hf]; omega)
      clear h1 HV HV0 HE HE0 HF hL
      go_wp2
      go_ret2
      exact ⟨rfl, HK.out⟩
    · have hok : vdOk c df = true := by simp [vdOk, hf]; omega
      have hV := HV.out hok
      obtain rfl : E = 0 := HE.out hok
      clear HV0 HE HE0 HV hok
      have HV : Hid (V = if c.ta = 2 ∧ c.ba < (n : Int) ∧ df < c.de then 2 else if c.ta = 3 ∧ anyOld sp zs = true then 3 else 1) := hV
      clear hV
      obtain ⟨c0, c1, c2, c3, c4, c5⟩ := HF.out _ h1
      clear HF
      have HL : Hid (VIn w1 la n zs) := hL.kept HK.out
      clear hL h1 hf
      generalize c.ta = ta at *
      generalize c.ba = ba at *
      generalize c.de = de at *
      by_cases ht2 : ta = 2
      · have t2 : (ta == 2) = true := by simp [ht2]
        have t3 : (ta == 3) = false := by simp [ht2]
        by_cases hb : ba < (n : Int)
        · by_cases hde : df < de
          · obtain rfl : V = 2 := by rw [HV.out, if_pos ⟨ht2, hb, hde⟩]
            clear ht2 HV
            go_wp2
            go_ret2
            exact ⟨rfl, HK.out⟩
          · obtain rfl : V = 1 := by rw [HV.out, if_neg (fun h => hde h.2.2), if_neg (fun h => by rw [ht2] at h; omega)]
            clear ht2 HV
            go_wp2
            go_ret2
            exact ⟨rfl, HK.out⟩
        · obtain rfl : V = 1 := by rw [HV.out, if_neg (fun h => hb h.2.1), if_neg (fun h => by rw [ht2] at h; omega)]
          clear ht2 HV
          go_wp2
          go_ret2
          exact ⟨rfl, HK.out⟩
      · have t2 : (ta == 2) = false := by simp [ht2]
        by_cases ht3 : ta = 3
        · have t3 : (ta == 3) = true := by simp [ht3]
          have hV : V = if anyOld sp zs = true then 3 else 1 := by rw [HV.out, if_neg (fun h => ht2 h.1)]; simp [ht3]
          have HV' : Hid (V = if anyOld sp zs = true then 3 else 1) := hV
          clear ht2 ht3 HV hV
          go_wp2_with fail
          go_loopw [10] (fun i wr => ∃ j : Nat, i = .int .i64 j ∧ j ≤ n ∧ (∀ k (h : k < zs.length), k < j → sp ≤ zs[k].sp) ∧ wr = w1) (fun i _ => n - (intOf i).toNat)
          case atStart => exact ⟨0, rfl, Nat.zero_le _, fun k h h0 => by omega, rfl⟩
          case round =>
            obtain ⟨j, rfl, hj, ho, rfl⟩ := hrel
            have HO : Hid (∀ k (h : k < zs.length), k < j → sp ≤ zs[k].sp) := ho
            clear ho
            by_cases hlt : j < n
            · have hz : j < zs.length := by have := HL.out.1; omega
              obtain ⟨g, o, rfl, _⟩ := HL.out.2 (by omega)
              obtain ⟨d0, d1, d2, d3⟩ := HL.out.cells hz
              have HZ : Hid (zs[j].sp < sp → V = 3) := fun h => by rw [HV'.out, if_pos (show anyOld sp zs = true from List.any_eq_true.2 ⟨zs[j], List.getElem_mem hz, decide_eq_true h⟩)]
              have HY : Hid (¬ zs[j].sp < sp → ∀ k (h : k < zs.length), k < j + 1 → sp ≤ zs[k].sp) := fun h k hk1 hk2 => by
                by_cases e : k = j
                · subst e; omega
                · exact HO.out k hk1 (by omega)
              generalize zs[j] = t at *
              generalize t.sp = ts at *
              have hj0 : (0 : Int) ≤ (j : Int) := Int.natCast_nonneg _
              have hj1 : (j : Int) < (n : Int) := by omega
              by_cases hts : ts < sp
              · obtain rfl : V = 3 := HZ.out hts
                clear HV' HZ HY
                go_wp2
                go_ret2
                exact ⟨rfl, HK.out⟩
              · have hy := HY.out hts
                have HY' : Hid (∀ k (h : k < zs.length), k < j + 1 → sp ≤ zs[k].sp) := hy
                clear hy HZ HY HV'
                go_wp2
                go_roundw
                case rel => exact ⟨j + 1, by simp, by omega, HY'.out, by trivial⟩
                case measure => simp [intOf]; omega
            · have h1 : ¬ (j : Int) < (n : Int) := by omega
              have hje : anyOld sp zs = false := by
                cases hh : anyOld sp zs
                · rfl
                · obtain ⟨t, ht, hl⟩ := List.any_eq_true.1 hh
                  obtain ⟨i, hi, rfl⟩ := List.getElem_of_mem ht
                  exact absurd (of_decide_eq_true hl) (Int.not_lt.2 (HO.out i hi (by have := HL.out.1; omega)))
              obtain rfl : V = 1 := by rw [HV'.out, hje]; rfl
              clear hje HV'
              go_wp2
              go_ret2
              exact ⟨rfl, HK.out⟩
        · have t3 : (ta == 3) = false := by simp [ht3]
          obtain rfl : V = 1 := by rw [HV.out, if_neg (fun h => ht2 h.1), if_neg (fun h => ht3 h.1)]
          clear ht2 ht3 HV
          go_wp2
          go_ret2
          exact ⟨rfl, HK.out⟩
end Go.Proofs.YthbcbjkgjgmegaaGreat

namespace Go.Proofs.YthbcbjkgjgmegaaGreat
open Go.RowKit
set_option linter.unusedVariables false
set_option linter.unusedSimpArgs false
attribute [local go_sem ↓] Go.wp_at_zero Go.wp_at_succ

def jd (c : Cfg) (df : Int) : Array Value := #[.int .i64 c.ce, .int .i64 c.sl, .int .i64 c.bi, .int .i64 c.ta, .int .i64 c.ba, .int .i64 c.de, .int .i64 df]
/-- The counter behind a decision. -/
def nxt (c : Cfg) (sp df : Int) (zs : List Vt) : Int := if vdV c sp df zs = 2 then df + 1 else df
def prom (c : Cfg) (df : Int) : Bool := decide (c.ta = 2) && decide (c.de ≤ df)
theorem vdV_two {c : Cfg} {sp df : Int} {zs : List Vt} (hf : c.fits = true) (h : vdV c sp df zs = 2) : df < 64 := by
  simp only [Cfg.fits, Bool.and_eq_true, inR_iff] at hf
  unfold vdV at h
  split at h
  · split at h
    · omega
    · split at h <;> omega
  · omega
theorem vdV_ok {c : Cfg} {df : Int} (hf : c.fits = true) (h : 0 ≤ df) : vdE c df = 0 := by simp [vdE, vdOk, hf, h]
theorem nxt_nn (c : Cfg) (sp : Int) {df : Int} (zs : List Vt) (h : 0 ≤ df) : 0 ≤ nxt c sp df zs := by
  unfold nxt; split <;> omega

set_option maxRecDepth 100000 in
theorem new_st {o w : World} {its : List It} (h : St o its w) (c : Cfg) (hf : c.fits = true) : Calls Tryz.prog 84 #[c.val] w fun e w' => ∃ g, e = .returned (.tuple #[.pointer (some ⟨g, 0, none⟩), .int .i64 0]) ∧ St o (boxI g (jd c 0) 257 :: its) w' := by
  have h0 := h.box #[.int .i64 c.ce, .int .i64 c.sl, .int .i64 c.bi, .int .i64 c.ta, .int .i64 c.ba, .int .i64 c.de] 24
  have HC : Hid (∀ W, Calls Tryz.prog 32 #[.agg #[.int .i64 c.ce, .int .i64 c.sl, .int .i64 c.bi, .int .i64 c.ta, .int .i64 c.ba, .int .i64 c.de]] W fun e w' => e = .returned (.int .i64 0) ∧ Kept (fun _ => False) W w') := fun W => by have := check_any c W; rw [hf, if_pos rfl] at this; exact this
  clear h hf
  unfold Cfg.val
  go_enter Tryz.func84, Tryz.ntmps84
  go_upto_region 1 with fail
  generalize w.alloc (.cells #[.int .i64 c.ce, .int .i64 c.sl, .int .i64 c.bi, .int .i64 c.ta, .int .i64 c.ba, .int .i64 c.de] 24) = W0 at *
  generalize w.heap.size = B at *
  have c0 : W0.cell? ⟨B, 0, none⟩ = some (.int .i64 c.ce) := h0.cell 0 rfl 0
  have c1 : W0.cell? ⟨B, 1, none⟩ = some (.int .i64 c.sl) := h0.cell 0 rfl 1
  have c2 : W0.cell? ⟨B, 2, none⟩ = some (.int .i64 c.bi) := h0.cell 0 rfl 2
  have c3 : W0.cell? ⟨B, 3, none⟩ = some (.int .i64 c.ta) := h0.cell 0 rfl 3
  have c4 : W0.cell? ⟨B, 4, none⟩ = some (.int .i64 c.ba) := h0.cell 0 rfl 4
  have c5 : W0.cell? ⟨B, 5, none⟩ = some (.int .i64 c.de) := h0.cell 0 rfl 5
  go_wp2_with fail
  refine (HC.out _).mono ?_
  rintro e w1 ⟨rfl, k1⟩
  have h1 := h0.calm k1
  clear h0 k1 c0 c1 c2 c3 c4 c5 HC
  have c0 : w1.cell? ⟨B, 0, none⟩ = some (.int .i64 c.ce) := h1.cell 0 rfl 0
  have c1 : w1.cell? ⟨B, 1, none⟩ = some (.int .i64 c.sl) := h1.cell 0 rfl 1
  have c2 : w1.cell? ⟨B, 2, none⟩ = some (.int .i64 c.bi) := h1.cell 0 rfl 2
  have c3 : w1.cell? ⟨B, 3, none⟩ = some (.int .i64 c.ta) := h1.cell 0 rfl 3
  have c4 : w1.cell? ⟨B, 4, none⟩ = some (.int .i64 c.ba) := h1.cell 0 rfl 4
  have c5 : w1.cell? ⟨B, 5, none⟩ = some (.int .i64 c.de) := h1.cell 0 rfl 5
  have h2 := h1.pop.box (jd c 0) 257
  unfold jd at *
  clear h1
  go_wp2
  go_ret2
  exact ⟨_, rfl, h2⟩

set_option maxRecDepth 100000 in
theorem new_out (c : Cfg) (hf : c.fits = false) (w : World) : Calls Tryz.prog 84 #[c.val] w fun e w' => e = .returned (.tuple #[.pointer none, .int .i64 1]) ∧ Kept (fun _ => False) w w' := by
  have h0 := (St.nil w).box #[.int .i64 c.ce, .int .i64 c.sl, .int .i64 c.bi, .int .i64 c.ta, .int .i64 c.ba, .int .i64 c.de] 24
  have HC : Hid (∀ W, Calls Tryz.prog 32 #[.agg #[.int .i64 c.ce, .int .i64 c.sl, .int .i64 c.bi, .int .i64 c.ta, .int .i64 c.ba, .int .i64 c.de]] W fun e w' => e = .returned (.int .i64 1) ∧ Kept (fun _ => False) W w') := fun W => by have := check_any c W; rw [hf, if_neg (by simp)] at this; exact this
  clear hf
  unfold Cfg.val
  go_enter Tryz.func84, Tryz.ntmps84
  go_upto_region 1 with fail
  generalize w.alloc (.cells #[.int .i64 c.ce, .int .i64 c.sl, .int .i64 c.bi, .int .i64 c.ta, .int .i64 c.ba, .int .i64 c.de] 24) = W0 at *
  generalize w.heap.size = B at *
  have c0 : W0.cell? ⟨B, 0, none⟩ = some (.int .i64 c.ce) := h0.cell 0 rfl 0
  have c1 : W0.cell? ⟨B, 1, none⟩ = some (.int .i64 c.sl) := h0.cell 0 rfl 1
  have c2 : W0.cell? ⟨B, 2, none⟩ = some (.int .i64 c.bi) := h0.cell 0 rfl 2
  have c3 : W0.cell? ⟨B, 3, none⟩ = some (.int .i64 c.ta) := h0.cell 0 rfl 3
  have c4 : W0.cell? ⟨B, 4, none⟩ = some (.int .i64 c.ba) := h0.cell 0 rfl 4
  have c5 : W0.cell? ⟨B, 5, none⟩ = some (.int .i64 c.de) := h0.cell 0 rfl 5
  go_wp2_with fail
  refine (HC.out _).mono ?_
  rintro e w1 ⟨rfl, k1⟩
  have hk := (h0.calm k1).same
  clear h0 k1 c0 c1 c2 c3 c4 c5 HC
  go_wp2
  go_ret2
  exact ⟨rfl, hk⟩

set_option maxRecDepth 100000 in
theorem reset_st {o w : World} {its : List It} (h : St o its w) (i : Nat) {g : Nat} {c : Cfg} {df : Int} (hi : its[i]? = some (boxI g (jd c df) 257)) : Calls Tryz.prog 217 #[.pointer (some ⟨g, 0, none⟩)] w fun e w' => e = .returned (.tuple #[]) ∧ St o (its.set i (boxI g (jd c 0) 257)) w' := by
  have c6 : w.cell? ⟨g, 6, none⟩ = some (.int .i64 df) := h.cell i hi 6
  have f6 : w.frozen? ⟨g, 6, none⟩ = false := h.frozen i hi 6
  have h1 := h.write i hi 6 (.int .i64 0)
  clear h
  go_enter Tryz.func217, Tryz.ntmps217
  go_wp2
  go_end0
  exact ⟨rfl, h1⟩

set_option maxRecDepth 100000 in
theorem defers_st {o w : World} {its : List It} (h : St o its w) (i : Nat) {g : Nat} {c : Cfg} {df : Int} (hi : its[i]? = some (boxI g (jd c df) 257)) : Calls Tryz.prog 136 #[.pointer (some ⟨g, 0, none⟩)] w fun e w' => e = .returned (.int .i64 df) ∧ w' = w := by
  have c6 : w.cell? ⟨g, 6, none⟩ = some (.int .i64 df) := h.cell i hi 6
  clear h hi
  go_enter Tryz.func136, Tryz.ntmps136
  go_wp2
  go_ret
  exact ⟨rfl, rfl⟩

set_option maxRecDepth 100000 in
set_option maxHeartbeats 1000000 in
theorem decide_st {o w : World} {its : List It} (h : St o its w) (i : Nat) {g : Nat} {c : Cfg} {df : Int} (hi : its[i]? = some (boxI g (jd c df) 257)) (hf : c.fits = true) (hd : 0 ≤ df) (sp : Int) {la : Option Addr} {n lc : Nat} {zs : List Vt} (hL : ∀ W, St o its W → VIn W la n zs) (hn : n ≤ 17592186044416) :
    Calls Tryz.prog 397 #[.pointer (some ⟨g, 0, none⟩), .int .i64 sp, .slice la n lc] w fun e w' => e = .returned (.int .i64 (vdV c sp df zs)) ∧ St o (its.set i (boxI g (jd c (nxt c sp df zs)) 257)) w' := by
  obtain ⟨P, HP⟩ : ∃ P : World → Prop, P = fun W => St o its W := ⟨_, rfl⟩
  have hD : P w.drew := by rw [HP]; exact h.drew
  have CH : Hid (∀ W, P W → W.cell? ⟨g, 0, none⟩ = some (.int .i64 c.ce) ∧ W.cell? ⟨g, 1, none⟩ = some (.int .i64 c.sl) ∧ W.cell? ⟨g, 2, none⟩ = some (.int .i64 c.bi) ∧ W.cell? ⟨g, 3, none⟩ = some (.int .i64 c.ta) ∧ W.cell? ⟨g, 4, none⟩ = some (.int .i64 c.ba) ∧ W.cell? ⟨g, 5, none⟩ = some (.int .i64 c.de) ∧ W.cell? ⟨g, 6, none⟩ = some (.int .i64 df) ∧ P W) := by
    intro W hW
    have h' := hW
    rw [HP] at h'
    exact ⟨h'.cell i hi 0, h'.cell i hi 1, h'.cell i hi 2, h'.cell i hi 3, h'.cell i hi 4, h'.cell i hi 5, h'.cell i hi 6, hW⟩
  have C1 : ∀ W, P W → Calls Tryz.prog 401 #[.agg #[.int .i64 c.ce, .int .i64 c.sl, .int .i64 c.bi, .int .i64 c.ta, .int .i64 c.ba, .int .i64 c.de], .int .i64 sp, .int .i64 df, .slice la n lc] W fun e w' => e = .returned (.tuple #[.int .i64 (vdV c sp df zs), .int .i64 0]) ∧ P w' := by
    intro W hW
    rw [HP] at hW ⊢
    have := verdict_any c sp df la n lc zs W (hL W hW) hn
    rw [vdV_ok hf hd] at this
    refine this.mono ?_
    rintro e w' ⟨he, hk⟩
    exact ⟨he, hW.calm hk⟩
  have HN : Hid (nxt c sp df zs = if vdV c sp df zs = 2 then df + 1 else df) := rfl
  have H2 : Hid (vdV c sp df zs = 2 → df < 64) := vdV_two hf
  have HW : Hid (∀ W, P W → W.frozen? ⟨g, 6, none⟩ = false ∧ ∀ d, St o (its.set i (boxI g (jd c d) 257)) (W.setCell ⟨g, 6, none⟩ (.int .i64 d))) := by
    intro W hW
    rw [HP] at hW
    exact ⟨hW.frozen i hi 6, fun d => hW.write i hi 6 (.int .i64 d)⟩
  have HB : Hid (∀ W, P W → St o (its.set i (boxI g (jd c df) 257)) W) := by
    intro W hW
    rw [HP] at hW
    rw [set_back hi]
    exact hW
  clear HP h hL hi
  generalize vdV c sp df zs = V at *
  generalize nxt c sp df zs = X at *
  obtain ⟨c0, c1, c2, c3, c4, c5, c6, _⟩ := CH.out _ hD
  go_enter Tryz.func397, Tryz.ntmps397
  go_wp2_with fail
  go_region_held3 (fun W => W.cell? ⟨g, 0, none⟩ = some (.int .i64 c.ce) ∧ W.cell? ⟨g, 1, none⟩ = some (.int .i64 c.sl) ∧ W.cell? ⟨g, 2, none⟩ = some (.int .i64 c.bi) ∧ W.cell? ⟨g, 3, none⟩ = some (.int .i64 c.ta) ∧ W.cell? ⟨g, 4, none⟩ = some (.int .i64 c.ba) ∧ W.cell? ⟨g, 5, none⟩ = some (.int .i64 c.de) ∧ W.cell? ⟨g, 6, none⟩ = some (.int .i64 df) ∧ P W)
    (exact CH.out _ hD)
    (first | (go_at_call 401; refine (C1 _ hD).mono ?_; rintro e wx ⟨rfl, hD⟩))
  clear c0 c1 c2 c3 c4 c5 c6
  obtain ⟨c0, c1, c2, c3, c4, c5, c6, _⟩ := CH.out _ hD
  by_cases hv : V = 2
  · obtain rfl : X = df + 1 := by rw [HN.out, if_pos hv]
    have h64 := H2.out hv
    obtain ⟨f6, hs⟩ := HW.out _ hD
    have hs' := hs (df + 1)
    subst hv
    clear hs HN H2 HW HB CH
    go_wp2
    go_ret
    exact ⟨rfl, hs'⟩
  · obtain rfl : X = df := by rw [HN.out, if_neg hv]
    have t1 : (V == 2) = false := by simp [hv]
    have hs' := HB.out _ hD
    clear hv HN H2 HW HB CH
    go_wp2
    go_ret
    exact ⟨rfl, hs'⟩

set_option maxRecDepth 100000 in
set_option maxHeartbeats 1000000 in
theorem refDecide_st {o w : World} {its : List It} (h : St o its w) (i : Nat) {g : Nat} {c : Cfg} {df : Int} (hi : its[i]? = some (boxI g (jd c df) 143)) (hf : c.fits = true) (hd : 0 ≤ df) (sp : Int) {la : Option Addr} {n lc : Nat} {zs : List Vt} (hL : ∀ W, St o its W → VIn W la n zs) (hn : n ≤ 17592186044416) :
    Calls Tryz.prog 267 #[.pointer (some ⟨g, 0, none⟩), .int .i64 sp, .slice la n lc] w fun e w' => e = .returned (.int .i64 (vdV c sp df zs)) ∧ St o (its.set i (boxI g (jd c (nxt c sp df zs)) 143)) w' := by
  obtain ⟨P, HP⟩ : ∃ P : World → Prop, P = fun W => St o its W := ⟨_, rfl⟩
  have hD : P w.drew := by rw [HP]; exact h.drew
  have CH : Hid (∀ W, P W → W.cell? ⟨g, 0, none⟩ = some (.int .i64 c.ce) ∧ W.cell? ⟨g, 1, none⟩ = some (.int .i64 c.sl) ∧ W.cell? ⟨g, 2, none⟩ = some (.int .i64 c.bi) ∧ W.cell? ⟨g, 3, none⟩ = some (.int .i64 c.ta) ∧ W.cell? ⟨g, 4, none⟩ = some (.int .i64 c.ba) ∧ W.cell? ⟨g, 5, none⟩ = some (.int .i64 c.de) ∧ W.cell? ⟨g, 6, none⟩ = some (.int .i64 df) ∧ P W) := by
    intro W hW
    have h' := hW
    rw [HP] at h'
    exact ⟨h'.cell i hi 0, h'.cell i hi 1, h'.cell i hi 2, h'.cell i hi 3, h'.cell i hi 4, h'.cell i hi 5, h'.cell i hi 6, hW⟩
  have C1 : ∀ W, P W → Calls Tryz.prog 288 #[.agg #[.int .i64 c.ce, .int .i64 c.sl, .int .i64 c.bi, .int .i64 c.ta, .int .i64 c.ba, .int .i64 c.de], .int .i64 sp, .int .i64 df, .slice la n lc] W fun e w' => e = .returned (.tuple #[.int .i64 (vdV c sp df zs), .int .i64 0]) ∧ P w' := by
    intro W hW
    rw [HP] at hW ⊢
    have := refVerdict_any c sp df la n lc zs W (hL W hW) hn
    rw [vdV_ok hf hd] at this
    refine this.mono ?_
    rintro e w' ⟨he, hk⟩
    exact ⟨he, hW.calm hk⟩
  have HN : Hid (nxt c sp df zs = if vdV c sp df zs = 2 then df + 1 else df) := rfl
  have H2 : Hid (vdV c sp df zs = 2 → df < 64) := vdV_two hf
  have HW : Hid (∀ W, P W → W.frozen? ⟨g, 6, none⟩ = false ∧ ∀ d, St o (its.set i (boxI g (jd c d) 143)) (W.setCell ⟨g, 6, none⟩ (.int .i64 d))) := by
    intro W hW
    rw [HP] at hW
    exact ⟨hW.frozen i hi 6, fun d => hW.write i hi 6 (.int .i64 d)⟩
  have HB : Hid (∀ W, P W → St o (its.set i (boxI g (jd c df) 143)) W) := by
    intro W hW
    rw [HP] at hW
    rw [set_back hi]
    exact hW
  clear HP h hL hi
  generalize vdV c sp df zs = V at *
  generalize nxt c sp df zs = X at *
  obtain ⟨c0, c1, c2, c3, c4, c5, c6, _⟩ := CH.out _ hD
  go_enter Tryz.func267, Tryz.ntmps267
  go_wp2_with fail
  go_region_held3 (fun W => W.cell? ⟨g, 0, none⟩ = some (.int .i64 c.ce) ∧ W.cell? ⟨g, 1, none⟩ = some (.int .i64 c.sl) ∧ W.cell? ⟨g, 2, none⟩ = some (.int .i64 c.bi) ∧ W.cell? ⟨g, 3, none⟩ = some (.int .i64 c.ta) ∧ W.cell? ⟨g, 4, none⟩ = some (.int .i64 c.ba) ∧ W.cell? ⟨g, 5, none⟩ = some (.int .i64 c.de) ∧ W.cell? ⟨g, 6, none⟩ = some (.int .i64 df) ∧ P W)
    (exact CH.out _ hD)
    (first | (go_at_call 288; refine (C1 _ hD).mono ?_; rintro e wx ⟨rfl, hD⟩))
  clear c0 c1 c2 c3 c4 c5 c6
  obtain ⟨c0, c1, c2, c3, c4, c5, c6, _⟩ := CH.out _ hD
  by_cases hv : V = 2
  · obtain rfl : X = df + 1 := by rw [HN.out, if_pos hv]
    have h64 := H2.out hv
    obtain ⟨f6, hs⟩ := HW.out _ hD
    have hs' := hs (df + 1)
    subst hv
    clear hs HN H2 HW HB CH
    go_wp2
    go_ret
    exact ⟨rfl, hs'⟩
  · obtain rfl : X = df := by rw [HN.out, if_neg hv]
    have t1 : (V == 2) = false := by simp [hv]
    have hs' := HB.out _ hD
    clear hv HN H2 HW HB CH
    go_wp2
    go_ret
    exact ⟨rfl, hs'⟩
end Go.Proofs.YthbcbjkgjgmegaaGreat
