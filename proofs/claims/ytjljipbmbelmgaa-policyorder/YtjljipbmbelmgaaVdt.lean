/- Verdict, by the code. -/
import Derived.Test.YtjljipbmbelmgaaVd
import Derived.Laws.EntriesVeiled
namespace Go.Proofs.Ytjljipbmbelmgaa
open Go.RowKit
set_option linter.unusedVariables false
set_option linter.unusedSimpArgs false
attribute [local go_sem ↓] Go.wp_at_zero Go.wp_at_succ

def vdOk (c : Cfg) (df : Int) : Bool := c.fits && decide (0 ≤ df)
/-- What the document says. -/
def vdV (c : Cfg) (sp df : Int) (zs : List Vt) : Int :=
  if vdOk c df then (if c.ta = 2 ∧ c.ba < (zs.length : Int) ∧ df < c.de then 2 else if c.ta = 3 ∧ anyOld sp zs = true then 3 else 1) else 0
def vdE (c : Cfg) (df : Int) : Int := if vdOk c df then 0 else 1
def ruleCells : Array Value := #[.int .i64 1, .func (.func 25) #[] #[], .int .i64 2, .func (.func 26) #[] #[], .int .i64 3, .func (.func 27) #[] #[]]
theorem Cfg.fits_tag {c : Cfg} (h : c.fits = true) : 1 ≤ c.ta ∧ c.ta ≤ 3 := by
  simp only [Cfg.fits, Bool.and_eq_true, inR_iff] at h
  omega

set_option maxRecDepth 100000 in
theorem rules_st {o w : World} {its : List It} (h : St o its w) : Calls Try.prog 22 #[] w fun e w' => ∃ g, e = .returned (.slice (some ⟨g, 0, none⟩) 3 3) ∧ St o (boxI g ruleCells 54 :: its) w' := by
  have h0 := h.box ruleCells 54
  unfold ruleCells at *
  clear h
  go_enter Try.func22, Try.ntmps22
  go_wp2
  first | go_ret | go_ret2
  exact ⟨_, rfl, h0⟩

set_option maxRecDepth 100000 in
set_option maxHeartbeats 1000000 in
theorem verdict_any (c : Cfg) (sp df : Int) (la : Option Addr) (n lc : Nat) (zs : List Vt) (w : World) (hL : VIn w la n zs) (hn : n ≤ 17592186044416) :
    Calls Try.prog 9 #[c.val, .int .i64 sp, .int .i64 df, .slice la n lc] w fun e w' => e = .returned (.tuple #[.int .i64 (vdV c sp df zs), .int .i64 (vdE c df)]) ∧ Kept (fun _ => False) w w' := by
  have HV : Hid (vdOk c df = true → vdV c sp df zs = if c.ta = 2 ∧ c.ba < (zs.length : Int) ∧ df < c.de then 2 else if c.ta = 3 ∧ anyOld sp zs = true then 3 else 1) := fun h => by simp [vdV, h]
  have HV0 : Hid (vdOk c df = false → vdV c sp df zs = 0) := fun h => by simp [vdV, h]
  have HE : Hid (vdOk c df = true → vdE c df = 0) := fun h => by simp [vdE, h]
  have HE0 : Hid (vdOk c df = false → vdE c df = 1) := fun h => by simp [vdE, h]
  generalize vdV c sp df zs = V at *
  generalize vdE c df = E at *
  have h0 := (St.nil w).box #[.int .i64 c.ce, .int .i64 c.sl, .int .i64 c.bi, .int .i64 c.ta, .int .i64 c.ba, .int .i64 c.de] 23
  have HC : Hid (∀ W, Calls Try.prog 21 #[.agg #[.int .i64 c.ce, .int .i64 c.sl, .int .i64 c.bi, .int .i64 c.ta, .int .i64 c.ba, .int .i64 c.de]] W fun e w' => e = .returned (.int .i64 (if c.fits then 0 else 1)) ∧ Kept (fun _ => False) W w') := fun W => check_any c W
  obtain ⟨B, hB⟩ : ∃ B, B = w.heap.size := ⟨_, rfl⟩
  have HF : Hid (∀ W, St w [boxI B #[.int .i64 c.ce, .int .i64 c.sl, .int .i64 c.bi, .int .i64 c.ta, .int .i64 c.ba, .int .i64 c.de] 23] W → W.cell? ⟨B, 0, none⟩ = some (.int .i64 c.ce) ∧ W.cell? ⟨B, 1, none⟩ = some (.int .i64 c.sl) ∧ W.cell? ⟨B, 2, none⟩ = some (.int .i64 c.bi) ∧ W.cell? ⟨B, 3, none⟩ = some (.int .i64 c.ta) ∧ W.cell? ⟨B, 4, none⟩ = some (.int .i64 c.ba) ∧ W.cell? ⟨B, 5, none⟩ = some (.int .i64 c.de)) := fun W h => ⟨h.cell 0 rfl 0, h.cell 0 rfl 1, h.cell 0 rfl 2, h.cell 0 rfl 3, h.cell 0 rfl 4, h.cell 0 rfl 5⟩
  unfold Cfg.val
  go_enter Try.func9, Try.ntmps9
  go_upto_region 1 with fail
  rw [← hB] at h0 ⊢
  clear hB
  generalize w.alloc (.cells #[.int .i64 c.ce, .int .i64 c.sl, .int .i64 c.bi, .int .i64 c.ta, .int .i64 c.ba, .int .i64 c.de] 23) = W0 at *
  obtain ⟨c0, c1, c2, c3, c4, c5⟩ := HF.out _ h0
  go_wp2_with fail
  refine (HC.out _).mono ?_
  rintro e w1 ⟨rfl, k1⟩
  have h1 := h0.calm k1
  clear h0 k1 c0 c1 c2 c3 c4 c5 HC
  cases hf : c.fits
  · obtain rfl : V = 0 := HV0.out (by simp [vdOk, hf])
    obtain rfl : E = 1 := HE0.out (by simp [vdOk, hf])
    have HK : Hid (Kept (fun _ => False) w w1) := h1.same
    clear h1 HV HV0 HE HE0 HF hL
    simp only [Bool.false_eq_true, if_false]
    go_wp2
    first | go_ret | go_ret2
    exact ⟨rfl, HK.out⟩
  · simp only [if_true]
    by_cases hd : df < 0
    · obtain rfl : V = 0 := HV0.out (by simp [vdOk, hf]; omega)
      obtain rfl : E = 1 := HE0.out (by simp [vdOk, hf]; omega)
      have HK : Hid (Kept (fun _ => False) w w1) := h1.same
      clear h1 HV HV0 HE HE0 HF hL
      go_wp2
      first | go_ret | go_ret2
      exact ⟨rfl, HK.out⟩
    · have hok : vdOk c df = true := by simp [vdOk, hf]; omega
      have hV := HV.out hok
      obtain rfl : E = 0 := HE.out hok
      have ht := Cfg.fits_tag hf
      clear HV0 HE HE0 HV hok
      have hr := rules_st h1
      have HV : Hid (V = _) := hV
      clear hV
      go_wp2_with fail
      refine hr.mono ?_
      rintro e w2 ⟨g, rfl, h2⟩
      clear h1 hr HF
      go_wp2_with fail
      go_loopw [21] (fun i wr => ∃ j : Nat, i = .int .i64 j ∧ (j : Int) < c.ta ∧ St w [boxI g ruleCells 54, boxI B #[.int .i64 c.ce, .int .i64 c.sl, .int .i64 c.bi, .int .i64 c.ta, .int .i64 c.ba, .int .i64 c.de] 23] wr) (fun i _ => 3 - (intOf i).toNat)
      case atStart => exact ⟨0, rfl, by omega, h2⟩
      case round =>
        obtain ⟨j, rfl, hj, h3⟩ := hrel
        have hj3 : j = 0 ∨ j = 1 ∨ j = 2 := by omega
        rcases hj3 with rfl | rfl | rfl
        · have h4 := h3.box #[.int .i64 1, .func (.func 25) #[] #[]] 54
          have HL : Hid (VIn w la n zs) := hL
          clear hL
          by_cases hta : c.ta = 1
          · have hV := HV.out
            have t1 : ((1 : Int) == c.ta) = true := by simp [hta]
            have hq : Hid (∀ W, St w [boxI wr.heap.size #[.int .i64 1, .func (.func 25) #[] #[]] 54, boxI g ruleCells 54, boxI B #[.int .i64 c.ce, .int .i64 c.sl, .int .i64 c.bi, .int .i64 c.ta, .int .i64 c.ba, .int .i64 c.de] 23] W → Calls Try.prog 25 #[.agg #[.int .i64 c.ce, .int .i64 c.sl, .int .i64 c.bi, .int .i64 c.ta, .int .i64 c.ba, .int .i64 c.de], .int .i64 sp, .int .i64 df, .slice la n lc] W fun e w' => e = .returned (.int .i64 V) ∧ Kept (fun _ => False) W w') := by
              intro W hW
              have := cw_any c sp df (.slice la n lc) W
              rw [show V = 1 by rw [hV]; simp [hta]]
              exact this
            clear hV HV
            have d0 : wr.cell? ⟨g, 0, none⟩ = some (.int .i64 1) := h3.cell 0 rfl 0
            have d1 : wr.cell? ⟨g, 1, none⟩ = some (.func (.func 25) #[] #[]) := h3.cell 0 rfl 1
            go_upto_region 6 with fail
            generalize wr.alloc (.cells #[.int .i64 1, .func (.func 25) #[] #[]] 54) = w4 at *
            generalize wr.heap.size = R at *
            have e0 : w4.cell? ⟨R, 0, none⟩ = some (.int .i64 1) := h4.cell 0 rfl 0
            have e1 : w4.cell? ⟨R, 1, none⟩ = some (.func (.func 25) #[] #[]) := h4.cell 0 rfl 1
            have c0 : w4.cell? ⟨B, 0, none⟩ = some (.int .i64 c.ce) := h4.cell 2 rfl 0
            have c1 : w4.cell? ⟨B, 1, none⟩ = some (.int .i64 c.sl) := h4.cell 2 rfl 1
            have c2 : w4.cell? ⟨B, 2, none⟩ = some (.int .i64 c.bi) := h4.cell 2 rfl 2
            have c3 : w4.cell? ⟨B, 3, none⟩ = some (.int .i64 c.ta) := h4.cell 2 rfl 3
            have c4 : w4.cell? ⟨B, 4, none⟩ = some (.int .i64 c.ba) := h4.cell 2 rfl 4
            have c5 : w4.cell? ⟨B, 5, none⟩ = some (.int .i64 c.de) := h4.cell 2 rfl 5
            have hq2 := hq.out _ h4
            have HK : Hid (Kept (fun _ => False) w w4) := h4.same
            clear hq h4 h3 hta d0 d1 hj
            go_wp2_with (go_at_call 25; refine hq2.mono ?_; rintro e w5 ⟨rfl, k5⟩)
            go_ret2
            exact ⟨rfl, HK.out.trans k5 (fun _ _ f => f)⟩
          · have t1 : ((1 : Int) == c.ta) = false := by simp; omega
            have d0 : wr.cell? ⟨g, 0, none⟩ = some (.int .i64 1) := h3.cell 0 rfl 0
            have d1 : wr.cell? ⟨g, 1, none⟩ = some (.func (.func 25) #[] #[]) := h3.cell 0 rfl 1
            have HJ : Hid (((0 : Nat) + 1 : Int) < c.ta) := (by show ((0 : Nat) + 1 : Int) < c.ta; omega)
            go_upto_region 6 with fail
            generalize wr.alloc (.cells #[.int .i64 1, .func (.func 25) #[] #[]] 54) = w4 at *
            generalize wr.heap.size = R at *
            have e0 : w4.cell? ⟨R, 0, none⟩ = some (.int .i64 1) := h4.cell 0 rfl 0
            have c3 : w4.cell? ⟨B, 3, none⟩ = some (.int .i64 c.ta) := h4.cell 2 rfl 3
            have h5 := h4.pop
            clear h4 h3 d0 d1 hj hta
            go_wp2
            go_roundw
            case rel => exact ⟨1, by simp, by simpa using HJ.out, h5⟩
            case measure => simp [intOf]
        · have h4 := h3.box #[.int .i64 2, .func (.func 26) #[] #[]] 54
          have HL : Hid (VIn w la n zs) := hL
          clear hL
          by_cases hta : c.ta = 2
          · have hV := HV.out
            have t1 : ((2 : Int) == c.ta) = true := by simp [hta]
            have hq : Hid (∀ W, St w [boxI wr.heap.size #[.int .i64 2, .func (.func 26) #[] #[]] 54, boxI g ruleCells 54, boxI B #[.int .i64 c.ce, .int .i64 c.sl, .int .i64 c.bi, .int .i64 c.ta, .int .i64 c.ba, .int .i64 c.de] 23] W → Calls Try.prog 26 #[.agg #[.int .i64 c.ce, .int .i64 c.sl, .int .i64 c.bi, .int .i64 c.ta, .int .i64 c.ba, .int .i64 c.de], .int .i64 sp, .int .i64 df, .slice la n lc] W fun e w' => e = .returned (.int .i64 V) ∧ Kept (fun _ => False) W w') := by
              intro W hW
              have := rb_any c sp df la n lc W
              rw [show V = rbAns c df n by rw [hV, rbAns, HL.out.1]; simp [hta]]
              exact this
            clear hV HV
            have d0 : wr.cell? ⟨g, 2, none⟩ = some (.int .i64 2) := h3.cell 0 rfl 2
            have d1 : wr.cell? ⟨g, 3, none⟩ = some (.func (.func 26) #[] #[]) := h3.cell 0 rfl 3
            go_upto_region 6 with fail
            generalize wr.alloc (.cells #[.int .i64 2, .func (.func 26) #[] #[]] 54) = w4 at *
            generalize wr.heap.size = R at *
            have e0 : w4.cell? ⟨R, 0, none⟩ = some (.int .i64 2) := h4.cell 0 rfl 0
            have e1 : w4.cell? ⟨R, 1, none⟩ = some (.func (.func 26) #[] #[]) := h4.cell 0 rfl 1
            have c0 : w4.cell? ⟨B, 0, none⟩ = some (.int .i64 c.ce) := h4.cell 2 rfl 0
            have c1 : w4.cell? ⟨B, 1, none⟩ = some (.int .i64 c.sl) := h4.cell 2 rfl 1
            have c2 : w4.cell? ⟨B, 2, none⟩ = some (.int .i64 c.bi) := h4.cell 2 rfl 2
            have c3 : w4.cell? ⟨B, 3, none⟩ = some (.int .i64 c.ta) := h4.cell 2 rfl 3
            have c4 : w4.cell? ⟨B, 4, none⟩ = some (.int .i64 c.ba) := h4.cell 2 rfl 4
            have c5 : w4.cell? ⟨B, 5, none⟩ = some (.int .i64 c.de) := h4.cell 2 rfl 5
            have hq2 := hq.out _ h4
            have HK : Hid (Kept (fun _ => False) w w4) := h4.same
            clear hq h4 h3 hta d0 d1 hj
            go_wp2_with (go_at_call 26; refine hq2.mono ?_; rintro e w5 ⟨rfl, k5⟩)
            go_ret2
            exact ⟨rfl, HK.out.trans k5 (fun _ _ f => f)⟩
          · have t1 : ((2 : Int) == c.ta) = false := by simp; omega
            have d0 : wr.cell? ⟨g, 2, none⟩ = some (.int .i64 2) := h3.cell 0 rfl 2
            have d1 : wr.cell? ⟨g, 3, none⟩ = some (.func (.func 26) #[] #[]) := h3.cell 0 rfl 3
            have HJ : Hid (((1 : Nat) + 1 : Int) < c.ta) := (by show ((1 : Nat) + 1 : Int) < c.ta; omega)
            go_upto_region 6 with fail
            generalize wr.alloc (.cells #[.int .i64 2, .func (.func 26) #[] #[]] 54) = w4 at *
            generalize wr.heap.size = R at *
            have e0 : w4.cell? ⟨R, 0, none⟩ = some (.int .i64 2) := h4.cell 0 rfl 0
            have c3 : w4.cell? ⟨B, 3, none⟩ = some (.int .i64 c.ta) := h4.cell 2 rfl 3
            have h5 := h4.pop
            clear h4 h3 d0 d1 hj hta
            go_wp2
            go_roundw
            case rel => exact ⟨2, by simp, by simpa using HJ.out, h5⟩
            case measure => simp [intOf]
        · have h4 := h3.box #[.int .i64 3, .func (.func 27) #[] #[]] 54
          have HL : Hid (VIn w la n zs) := hL
          clear hL
          by_cases hta : c.ta = 3
          · have hV := HV.out
            have t1 : ((3 : Int) == c.ta) = true := by simp [hta]
            have hq : Hid (∀ W, St w [boxI wr.heap.size #[.int .i64 3, .func (.func 27) #[] #[]] 54, boxI g ruleCells 54, boxI B #[.int .i64 c.ce, .int .i64 c.sl, .int .i64 c.bi, .int .i64 c.ta, .int .i64 c.ba, .int .i64 c.de] 23] W → Calls Try.prog 27 #[.agg #[.int .i64 c.ce, .int .i64 c.sl, .int .i64 c.bi, .int .i64 c.ta, .int .i64 c.ba, .int .i64 c.de], .int .i64 sp, .int .i64 df, .slice la n lc] W fun e w' => e = .returned (.int .i64 V) ∧ Kept (fun _ => False) W w') := by
              intro W hW
              have := aging_any c sp df la n lc zs W (HL.out.kept hW.same) hn
              rw [show V = if anyOld sp zs then 3 else 1 by rw [hV]; simp [hta]]
              exact this
            clear hV HV
            have d0 : wr.cell? ⟨g, 4, none⟩ = some (.int .i64 3) := h3.cell 0 rfl 4
            have d1 : wr.cell? ⟨g, 5, none⟩ = some (.func (.func 27) #[] #[]) := h3.cell 0 rfl 5
            go_upto_region 6 with fail
            generalize wr.alloc (.cells #[.int .i64 3, .func (.func 27) #[] #[]] 54) = w4 at *
            generalize wr.heap.size = R at *
            have e0 : w4.cell? ⟨R, 0, none⟩ = some (.int .i64 3) := h4.cell 0 rfl 0
            have e1 : w4.cell? ⟨R, 1, none⟩ = some (.func (.func 27) #[] #[]) := h4.cell 0 rfl 1
            have c0 : w4.cell? ⟨B, 0, none⟩ = some (.int .i64 c.ce) := h4.cell 2 rfl 0
            have c1 : w4.cell? ⟨B, 1, none⟩ = some (.int .i64 c.sl) := h4.cell 2 rfl 1
            have c2 : w4.cell? ⟨B, 2, none⟩ = some (.int .i64 c.bi) := h4.cell 2 rfl 2
            have c3 : w4.cell? ⟨B, 3, none⟩ = some (.int .i64 c.ta) := h4.cell 2 rfl 3
            have c4 : w4.cell? ⟨B, 4, none⟩ = some (.int .i64 c.ba) := h4.cell 2 rfl 4
            have c5 : w4.cell? ⟨B, 5, none⟩ = some (.int .i64 c.de) := h4.cell 2 rfl 5
            have hq2 := hq.out _ h4
            have HK : Hid (Kept (fun _ => False) w w4) := h4.same
            clear hq h4 h3 hta d0 d1 hj
            go_wp2_with (go_at_call 27; refine hq2.mono ?_; rintro e w5 ⟨rfl, k5⟩)
            go_ret2
            exact ⟨rfl, HK.out.trans k5 (fun _ _ f => f)⟩
          · exfalso
            omega
end Go.Proofs.Ytjljipbmbelmgaa
