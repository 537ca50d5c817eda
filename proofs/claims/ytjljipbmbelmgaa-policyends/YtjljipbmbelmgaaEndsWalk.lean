/- The law PolicyEnds, step by step. -/
import Derived.Test.YtjljipbmbelmgaaUp
import Derived.Test.YtjljipbmbelmgaaOps
namespace Go.Proofs.Ytjljipbmbelmgaa
open Go.RowKit
set_option linter.unusedVariables false
set_option linter.unusedSimpArgs false
attribute [local go_sem ↓] Go.wp_at_zero Go.wp_at_succ

theorem anyOld_take (sp : Int) (zs : List Vt) (j : Nat) (hz : j < zs.length) : anyOld sp (zs.take (j + 1)) = (anyOld sp (zs.take j) || decide (zs[j].sp < sp)) := by
  rw [List.take_add_one, List.getElem?_eq_getElem hz]
  simp only [anyOld, List.any_append, Option.toList_some, List.any_cons, List.any_nil, Bool.or_false]
theorem vd_ways {c : Cfg} (hf : c.fits = true) {df : Int} (hd : 0 ≤ df) (sp : Int) {n : Nat} {zs : List Vt} (hn : n = zs.length) :
    (vdV c sp df zs = 2 ∧ nxt c sp df zs = df + 1 ∧ c.ta = 2 ∧ c.ba < (n : Int) ∧ df < c.de) ∨ (vdV c sp df zs = 3 ∧ nxt c sp df zs = df ∧ c.ta = 3 ∧ anyOld sp zs = true) ∨
    (vdV c sp df zs = 1 ∧ nxt c sp df zs = df ∧ (c.ta = 3 → anyOld sp zs = false) ∧ (c.ta = 2 → c.ba < (n : Int) → ¬ df < c.de)) := by
  have hok : vdOk c df = true := by simp [vdOk, hf, hd]
  subst hn
  unfold nxt vdV
  rw [if_pos hok]
  by_cases h1 : c.ta = 2 ∧ c.ba < (zs.length : Int) ∧ df < c.de
  · rw [if_pos h1]
    exact .inl ⟨rfl, by simp, h1⟩
  · rw [if_neg h1]
    by_cases h2 : c.ta = 3 ∧ anyOld sp zs = true
    · rw [if_pos h2]
      exact .inr (.inl ⟨rfl, by simp, h2⟩)
    · rw [if_neg h2]
      refine .inr (.inr ⟨rfl, by simp, fun h => ?_, fun h h' h'' => h1 ⟨h, h', h''⟩⟩)
      cases hb : anyOld sp zs
      · rfl
      · exact absurd ⟨h, hb⟩ h2

set_option maxRecDepth 100000 in
set_option maxHeartbeats 4000000 in
theorem ends_walk (c : Cfg) (a : Option Addr) (len cap : Nat) (f : Nat → OpD) (w : World) (hS : ScriptAt w a len f) (hlen : len * 40 ≤ 140737488351232) :
    Calls Try.prog 5 #[c.val, .slice a len cap] w fun e w' => e = .returned (.bool true) ∧ Kept (fun _ => False) w w' := by
  have h0 := (St.nil w).box #[.int .i64 c.ce, .int .i64 c.sl, .int .i64 c.bi, .int .i64 c.ta, .int .i64 c.ba, .int .i64 c.de] 23
  have HS : Hid (ScriptAt w a len f) := hS
  clear hS
  unfold Cfg.val
  go_enter Try.func5, Try.ntmps5
  go_upto_region 1 with fail
  generalize w.alloc (.cells #[.int .i64 c.ce, .int .i64 c.sl, .int .i64 c.bi, .int .i64 c.ta, .int .i64 c.ba, .int .i64 c.de] 23) = W0 at *
  generalize w.heap.size = B at *
  go_wp2_with fail
  refine (up_any _).mono ?_
  rintro e w1 ⟨rfl, k1⟩
  have h1 := h0.calm k1
  clear h0 k1
  have c0 : w1.cell? ⟨B, 0, none⟩ = some (.int .i64 c.ce) := h1.cell 0 rfl 0
  have c1 : w1.cell? ⟨B, 1, none⟩ = some (.int .i64 c.sl) := h1.cell 0 rfl 1
  have c2 : w1.cell? ⟨B, 2, none⟩ = some (.int .i64 c.bi) := h1.cell 0 rfl 2
  have c3 : w1.cell? ⟨B, 3, none⟩ = some (.int .i64 c.ta) := h1.cell 0 rfl 3
  have c4 : w1.cell? ⟨B, 4, none⟩ = some (.int .i64 c.ba) := h1.cell 0 rfl 4
  have c5 : w1.cell? ⟨B, 5, none⟩ = some (.int .i64 c.de) := h1.cell 0 rfl 5
  cases hf : c.fits
  · have hq : Calls Try.prog 12 #[.agg #[.int .i64 c.ce, .int .i64 c.sl, .int .i64 c.bi, .int .i64 c.ta, .int .i64 c.ba, .int .i64 c.de]] w1 _ := new_out c hf w1
    have hk := h1.same
    clear h1 hf
    go_wp2_with fail
    refine hq.mono ?_
    rintro e w2 ⟨rfl, k2⟩
    have hk2 := hk.trans k2 (fun _ _ f => f)
    clear hq hk k2 c0 c1 c2 c3 c4 c5
    go_wp2
    go_ret
    exact ⟨rfl, hk2⟩
  · have hq : Calls Try.prog 12 #[.agg #[.int .i64 c.ce, .int .i64 c.sl, .int .i64 c.bi, .int .i64 c.ta, .int .i64 c.ba, .int .i64 c.de]] w1 _ := new_st h1 c hf
    clear h1
    have HF : Hid (c.fits = true) := hf
    clear hf
    go_wp2_with fail
    refine hq.mono ?_
    rintro e w2 ⟨J, rfl, h2⟩
    clear hq c0 c1 c2 c3 c4 c5
    go_wp2_with fail
    go_loopw [8, 9] (fun d i wr => ∃ (df : Int) (k : Nat), d = .int .i64 df ∧ i = .int .i64 k ∧ k ≤ len ∧ 0 ≤ df ∧ St w [boxI J (jd c df) 56, boxI B #[.int .i64 c.ce, .int .i64 c.sl, .int .i64 c.bi, .int .i64 c.ta, .int .i64 c.ba, .int .i64 c.de] 23] wr) (fun d i _ => len - (intOf i).toNat)
    case atStart => exact ⟨0, 0, rfl, rfl, Nat.zero_le _, by omega, h2⟩
    case round =>
      obtain ⟨df, k, rfl, rfl, hk, hd, h3⟩ := hrel
      by_cases hlt : k < len
      · obtain ⟨b, off, rfl, ho⟩ : ∃ b off, a = some ⟨b, off, none⟩ ∧ OpAt w b (off + k * 4) (f k) := by
          rcases HS.out with e | ⟨b, off, e, h⟩
          · omega
          · exact ⟨b, off, e, h k hlt⟩
        have hL := ho.list_v
        have hR := ho.reach_v
        obtain ⟨o0, o1, o2, o3, _, _⟩ := ho.kept h3.same
        clear ho
        generalize f k = O at *
        obtain ⟨oo, re, st, la, ll, lc, zs⟩ := O
        simp only at hL hR o0 o1 o2 o3
        have hk0 : (0 : Int) ≤ (k : Int) := Int.natCast_nonneg _
        have hk1 : (k : Int) < (len : Int) := by omega
        have HL : Hid (VIn w la ll zs) := hL
        have hn : ll ≤ 17592186044416 := by omega
        clear hL hR
        have h4 := h3.box #[.bool oo, .bool re, .int .i64 st, .slice la ll lc] 41
        clear h3 h2
        go_upto_region 10 with fail
        generalize wr.alloc (.cells #[.bool oo, .bool re, .int .i64 st, .slice la ll lc] 41) = w4 at *
        generalize wr.heap.size = R at *
        clear o0 o1 o2 o3
        have r1 : w4.cell? ⟨R, 1, none⟩ = some (.bool re) := h4.cell 0 rfl 1
        cases re
        · skip
          have r2 : w4.cell? ⟨R, 2, none⟩ = some (.int .i64 st) := h4.cell 0 rfl 2
          have r3 : w4.cell? ⟨R, 3, none⟩ = some (.slice la ll lc) := h4.cell 0 rfl 3
          have HM : Hid (∀ i, St w [boxI R #[.bool oo, .bool false, .int .i64 st, .slice la ll lc] 41, boxI J (jd c df) 56, boxI B #[.int .i64 c.ce, .int .i64 c.sl, .int .i64 c.bi, .int .i64 c.ta, .int .i64 c.ba, .int .i64 c.de] 23] (w4.drewN i)) := fun i => h4.calm ((Kept.refl _ w4).drewN i)
          clear h4
          obtain ⟨y, hy⟩ : ∃ y, y = w4 := ⟨_, rfl⟩
          subst hy
          go_wp2_with fail
          go_loopw [11, 12] (fun lt kk wl => ∃ (j q : Nat), lt = .bool (!anyOld st (zs.take j)) ∧ kk = .int .i64 j ∧ j ≤ ll ∧ wl = y.drewN q) (fun lt kk _ => ll - (intOf kk).toNat)
          case atStart => exact ⟨0, 0, by simp [anyOld], rfl, Nat.zero_le _, rfl⟩
          case round =>
            obtain ⟨j, q, rfl, rfl, hj, rfl⟩ := hrel
            by_cases hjl : j < ll
            · have hz : j < zs.length := by have := HL.out.1; omega
              obtain ⟨g, o, rfl, _⟩ := HL.out.2 (by omega)
              have hvc : VIn y (some ⟨g, o, none⟩) ll zs := HL.out.kept (HM.out 0).same
              obtain ⟨v0, v1, v2, v3⟩ := hvc.cells hz
              clear hvc v0 v1 v3
              have HT : Hid (anyOld st (zs.take (j + 1)) = (anyOld st (zs.take j) || decide (zs[j].sp < st))) := anyOld_take st zs j hz
              generalize zs[j] = t at *
              generalize t.sp = ts at *
              have hj0 : (0 : Int) ≤ (j : Int) := Int.natCast_nonneg _
              have hj1 : (j : Int) < (ll : Int) := by omega
              cases hb : anyOld st (zs.take j)
              · by_cases hts : st ≤ ts
                · have hT : anyOld st (zs.take (j + 1)) = false := by rw [HT.out, hb]; simp; omega
                  simp only [Bool.not_false]
                  go_wp2_with fail
                  go_quiet (fail)
                  go_wp2
                  go_roundw
                  case rel => exact ⟨j + 1, _, by rw [hT]; rfl, by simp, by omega, rfl⟩
                  case measure => simp [intOf]; omega
                · have hT : anyOld st (zs.take (j + 1)) = true := by rw [HT.out, hb]; simp; omega
                  simp only [Bool.not_false]
                  go_wp2_with fail
                  go_quiet (fail)
                  go_wp2
                  go_roundw
                  case rel => exact ⟨j + 1, _, by rw [hT]; first | rfl | (simp; omega), by simp, by omega, rfl⟩
                  case measure => simp [intOf]; omega
              · have hT : anyOld st (zs.take (j + 1)) = true := by rw [HT.out, hb]; simp
                simp only [Bool.not_true]
                go_wp2_with fail
                go_quiet (fail)
                go_wp2
                go_roundw
                case rel => exact ⟨j + 1, _, by rw [hT]; rfl, by simp, by omega, rfl⟩
                case measure => simp [intOf]; omega
            · obtain rfl : j = ll := by omega
              have hjn : ¬ (j : Int) < (j : Int) := by omega
              have h5 := HM.out q
              have r2' : (y.drewN q).cell? ⟨R, 2, none⟩ = some (.int .i64 st) := h5.cell 0 rfl 2
              have r3' : (y.drewN q).cell? ⟨R, 3, none⟩ = some (.slice la j lc) := h5.cell 0 rfl 3
              have hq := decide_st h5 1 rfl HF.out hd st (lc := lc) (fun W h => HL.out.kept h.same) hn
              have HV : Hid ((vdV c st df zs = 2 ∧ nxt c st df zs = df + 1 ∧ c.ta = 2 ∧ c.ba < (j : Int) ∧ df < c.de) ∨ (vdV c st df zs = 3 ∧ nxt c st df zs = df ∧ c.ta = 3 ∧ anyOld st zs = true) ∨
                (vdV c st df zs = 1 ∧ nxt c st df zs = df ∧ (c.ta = 3 → anyOld st zs = false) ∧ (c.ta = 2 → c.ba < (j : Int) → ¬ df < c.de))) := vd_ways HF.out hd st HL.out.1
              have e1 : zs.take j = zs := by rw [HL.out.1]; exact List.take_length
              simp only [e1]
              clear h5 HM e1 r1 r2 r3
              generalize y.drewN q = w5 at *
              generalize vdV c st df zs = V at *
              generalize nxt c st df zs = X at *
              generalize anyOld st zs = ol at *
              go_wp2_with fail
              refine hq.mono ?_
              rintro e w6 ⟨rfl, h6⟩
              clear hq r2' r3'
              have h6 : St w [boxI R #[.bool oo, .bool false, .int .i64 st, .slice la j lc] 41, boxI J (jd c X) 56, boxI B #[.int .i64 c.ce, .int .i64 c.sl, .int .i64 c.bi, .int .i64 c.ta, .int .i64 c.ba, .int .i64 c.de] 23] w6 := h6
              have r3 : w6.cell? ⟨R, 3, none⟩ = some (.slice la j lc) := h6.cell 0 rfl 3
              have q3 : w6.cell? ⟨B, 3, none⟩ = some (.int .i64 c.ta) := h6.cell 2 rfl 3
              have q4 : w6.cell? ⟨B, 4, none⟩ = some (.int .i64 c.ba) := h6.cell 2 rfl 4
              have q5 : w6.cell? ⟨B, 5, none⟩ = some (.int .i64 c.de) := h6.cell 2 rfl 5
              have h7 := h6.pop
              clear h6
              have H7 : Hid (St w [boxI J (jd c X) 56, boxI B #[.int .i64 c.ce, .int .i64 c.sl, .int .i64 c.bi, .int .i64 c.ta, .int .i64 c.ba, .int .i64 c.de] 23] w6) := h7
              clear h7
              rcases HV.out with ⟨rfl, hX, h1, h2, h3⟩ | ⟨rfl, hX, h1, h2⟩ | ⟨rfl, hX, h1, h2⟩
              · subst hX
                have t1 : (c.ta != 2) = false := by simp [h1]
                have h3' : df + 1 ≤ c.de := by omega
                have h64 : df < 1000 := by have := HF.out; simp only [Cfg.fits, Bool.and_eq_true, inR_iff] at this; omega
                clear HV h1
                go_wp2
                go_roundw
                case rel => exact ⟨df + 1, k + 1, by simp, by simp, by omega, by omega, H7.out⟩
                case measure => simp [intOf]; omega
              · subst hX
                have t1 : (c.ta != 3) = false := by simp [h1]
                subst h2
                simp only [Bool.not_true]
                clear HV h1
                go_wp2
                go_roundw
                case rel => exact ⟨X, k + 1, by simp, by simp, by omega, by omega, H7.out⟩
                case measure => simp [intOf]; omega
              · subst hX
                by_cases ht3 : c.ta = 3
                · have t1 : (c.ta == 3) = true := by simp [ht3]
                  have t2 : (c.ta == 2) = false := by simp [ht3]
                  obtain rfl : ol = false := h1 ht3
                  simp only [Bool.not_false]
                  clear HV h1 h2 ht3
                  go_wp2
                  go_roundw
                  case rel => exact ⟨X, k + 1, by simp, by simp, by omega, by omega, H7.out⟩
                  case measure => simp [intOf]; omega
                · have t1 : (c.ta == 3) = false := by simp [ht3]
                  by_cases ht2 : c.ta = 2
                  · have t2 : (c.ta == 2) = true := by simp [ht2]
                    by_cases hb : c.ba < (j : Int)
                    · have hd2 : ¬ X < c.de := by have := h2 ht2 hb; omega
                      clear HV h1 h2 ht3 ht2
                      go_wp2
                      go_roundw
                      case rel => exact ⟨X, k + 1, by simp, by simp, by omega, by omega, H7.out⟩
                      case measure => simp [intOf]; omega
                    · clear HV h1 h2 ht3 ht2
                      go_wp2
                      go_roundw
                      case rel => exact ⟨X, k + 1, by simp, by simp, by omega, by omega, H7.out⟩
                      case measure => simp [intOf]; omega
                  · have t2 : (c.ta == 2) = false := by simp [ht2]
                    clear HV h1 h2 ht3 ht2
                    go_wp2
                    go_roundw
                    case rel => exact ⟨X, k + 1, by simp, by simp, by omega, by omega, H7.out⟩
                    case measure => simp [intOf]; omega
        · have hq := reset_st h4 1 rfl
          clear h4
          go_wp2_with fail
          refine hq.mono ?_
          rintro e w5 ⟨rfl, h5⟩
          have h6 : St w [boxI J (jd c 0) 56, boxI B #[.int .i64 c.ce, .int .i64 c.sl, .int .i64 c.bi, .int .i64 c.ta, .int .i64 c.ba, .int .i64 c.de] 23] w5 := h5.pop
          clear hq h5
          go_wp2
          go_roundw
          case rel => exact ⟨0, k + 1, by simp, by simp, by omega, by omega, h6⟩
          case measure => simp [intOf]; omega
      · have hk1 : ¬ (k : Int) < (len : Int) := by omega
        have hq := defers_st h3 0 rfl
        have hs := h3.same
        clear h3 h2
        go_wp2_with (go_at_call 17; refine hq.mono ?_; rintro e w4 ⟨rfl, rfl⟩)
        go_ret
        exact ⟨rfl, hs⟩
end Go.Proofs.Ytjljipbmbelmgaa
