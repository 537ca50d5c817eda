/- Verdict, by the document. -/
import Derived.Test.YtjljipbmbelmgaaVdt
namespace Go.Proofs.Ytjljipbmbelmgaa
open Go.RowKit
set_option linter.unusedVariables false
set_option linter.unusedSimpArgs false
attribute [local go_sem ↓] Go.wp_at_zero Go.wp_at_succ

set_option maxRecDepth 100000 in
set_option maxHeartbeats 1000000 in
theorem refVerdict_any (c : Cfg) (sp df : Int) (la : Option Addr) (n lc : Nat) (zs : List Vt) (w : World) (hL : VIn w la n zs) (hn : n ≤ 17592186044416) :
    Calls Try.prog 10 #[c.val, .int .i64 sp, .int .i64 df, .slice la n lc] w fun e w' => e = .returned (.tuple #[.int .i64 (vdV c sp df zs), .int .i64 (vdE c df)]) ∧ Kept (fun _ => False) w w' := by
  have HV : Hid (vdOk c df = true → vdV c sp df zs = if c.ta = 2 ∧ c.ba < (n : Int) ∧ df < c.de then 2 else if c.ta = 3 ∧ anyOld sp zs = true then 3 else 1) := fun h => by rw [hL.1]; simp [vdV, h]
  have HV0 : Hid (vdOk c df = false → vdV c sp df zs = 0) := fun h => by simp [vdV, h]
  have HE : Hid (vdOk c df = true → vdE c df = 0) := fun h => by simp [vdE, h]
  have HE0 : Hid (vdOk c df = false → vdE c df = 1) := fun h => by simp [vdE, h]
  generalize vdV c sp df zs = V at *
  generalize vdE c df = E at *
  have h0 := (St.nil w).box #[.int .i64 c.ce, .int .i64 c.sl, .int .i64 c.bi, .int .i64 c.ta, .int .i64 c.ba, .int .i64 c.de] 23
  have HC : Hid (∀ W, Calls Try.prog 13 #[.agg #[.int .i64 c.ce, .int .i64 c.sl, .int .i64 c.bi, .int .i64 c.ta, .int .i64 c.ba, .int .i64 c.de]] W fun e w' => e = .returned (.int .i64 (if c.fits then 0 else 1)) ∧ Kept (fun _ => False) W w') := fun W => refCheck_any c W
  obtain ⟨B, hB⟩ : ∃ B, B = w.heap.size := ⟨_, rfl⟩
  have HF : Hid (∀ W, St w [boxI B #[.int .i64 c.ce, .int .i64 c.sl, .int .i64 c.bi, .int .i64 c.ta, .int .i64 c.ba, .int .i64 c.de] 23] W → W.cell? ⟨B, 0, none⟩ = some (.int .i64 c.ce) ∧ W.cell? ⟨B, 1, none⟩ = some (.int .i64 c.sl) ∧ W.cell? ⟨B, 2, none⟩ = some (.int .i64 c.bi) ∧ W.cell? ⟨B, 3, none⟩ = some (.int .i64 c.ta) ∧ W.cell? ⟨B, 4, none⟩ = some (.int .i64 c.ba) ∧ W.cell? ⟨B, 5, none⟩ = some (.int .i64 c.de)) := fun W h => ⟨h.cell 0 rfl 0, h.cell 0 rfl 1, h.cell 0 rfl 2, h.cell 0 rfl 3, h.cell 0 rfl 4, h.cell 0 rfl 5⟩
  unfold Cfg.val
  go_enter Try.func10, Try.ntmps10
  go_upto_region 1 with fail
  rw [← hB] at h0 ⊢
  clear hB
  generalize w.alloc (.cells #[.int .i64 c.ce, .int .i64 c.sl, .int .i64 c.bi, .int .i64 c.ta, .int .i64 c.ba, .int .i64 c.de] 23) = W0 at *
  obtain ⟨c0, c1, c2, c3, c4, c5⟩ := HF.out _ h0
  go_wp2_with fail
  refine (HC.out _).mono ?_
  rintro e w1 ⟨rfl, k1⟩
  have h1 := h0.calm k1
  clear h0 k1 c0 c1 c2 c3 c4 c5 HC
  have HK : Hid (Kept (fun _ => False) w w1) := h1.same
  cases hf : c.fits
  · obtain rfl : V = 0 := HV0.out (by simp [vdOk, hf])
    obtain rfl : E = 1 := HE0.out (by simp [vdOk, hf])
    clear h1 HV HV0 HE HE0 HF hL
    simp only [Bool.false_eq_true, if_false]
    go_wp2
    go_ret2
    exact ⟨rfl, HK.out⟩
  · simp only [if_true]
    by_cases hd : df < 0
    · obtain rfl : V = 0 := HV0.out (by simp [vdOk, hf]; omega)
      obtain rfl : E = 1 := HE0.out (by simp [vdOk, hf]; omega)
      clear h1 HV HV0 HE HE0 HF hL
      go_wp2
      go_ret2
      exact ⟨rfl, HK.out⟩
    · have hok : vdOk c df = true := by simp [vdOk, hf]; omega
      have hV := HV.out hok
      obtain rfl : E = 0 := HE.out hok
      clear HV0 HE HE0 HV hok
      have HV : Hid (V = if c.ta = 2 ∧ c.ba < (n : Int) ∧ df < c.de then 2 else if c.ta = 3 ∧ anyOld sp zs = true then 3 else 1) := hV
      clear hV
      obtain ⟨c0, c1, c2, c3, c4, c5⟩ := HF.out _ h1
      clear HF
      have HL : Hid (VIn w1 la n zs) := hL.kept HK.out
      clear hL h1 hf
      generalize c.ta = ta at *
      generalize c.ba = ba at *
      generalize c.de = de at *
      by_cases ht2 : ta = 2
      · have t2 : (ta == 2) = true := by simp [ht2]
        have t3 : (ta == 3) = false := by simp [ht2]
        by_cases hb : ba < (n : Int)
        · by_cases hde : df < de
          · obtain rfl : V = 2 := by rw [HV.out, if_pos ⟨ht2, hb, hde⟩]
            clear ht2 HV
            go_wp2
            go_ret2
            exact ⟨rfl, HK.out⟩
          · obtain rfl : V = 1 := by rw [HV.out, if_neg (fun h => hde h.2.2), if_neg (fun h => by rw [ht2] at h; omega)]
            clear ht2 HV
            go_wp2
            go_ret2
            exact ⟨rfl, HK.out⟩
        · obtain rfl : V = 1 := by rw [HV.out, if_neg (fun h => hb h.2.1), if_neg (fun h => by rw [ht2] at h; omega)]
          clear ht2 HV
          go_wp2
          go_ret2
          exact ⟨rfl, HK.out⟩
      · have t2 : (ta == 2) = false := by simp [ht2]
        by_cases ht3 : ta = 3
        · have t3 : (ta == 3) = true := by simp [ht3]
          have hV : V = if anyOld sp zs = true then 3 else 1 := by rw [HV.out, if_neg (fun h => ht2 h.1)]; simp [ht3]
          have HV' : Hid (V = if anyOld sp zs = true then 3 else 1) := hV
          clear ht2 ht3 HV hV
          go_wp2_with fail
          go_loopw [10] (fun i wr => ∃ j : Nat, i = .int .i64 j ∧ j ≤ n ∧ (∀ k (h : k < zs.length), k < j → sp ≤ zs[k].sp) ∧ wr = w1) (fun i _ => n - (intOf i).toNat)
          case atStart => exact ⟨0, rfl, Nat.zero_le _, fun k h h0 => by omega, rfl⟩
          case round =>
            obtain ⟨j, rfl, hj, ho, rfl⟩ := hrel
            have HO : Hid (∀ k (h : k < zs.length), k < j → sp ≤ zs[k].sp) := ho
            clear ho
            by_cases hlt : j < n
            · have hz : j < zs.length := by have := HL.out.1; omega
              obtain ⟨g, o, rfl, _⟩ := HL.out.2 (by omega)
              obtain ⟨d0, d1, d2, d3⟩ := HL.out.cells hz
              have HZ : Hid (zs[j].sp < sp → V = 3) := fun h => by rw [HV'.out, if_pos (show anyOld sp zs = true from List.any_eq_true.2 ⟨zs[j], List.getElem_mem hz, decide_eq_true h⟩)]
              have HY : Hid (¬ zs[j].sp < sp → ∀ k (h : k < zs.length), k < j + 1 → sp ≤ zs[k].sp) := fun h k hk1 hk2 => by
                by_cases e : k = j
                · subst e; omega
                · exact HO.out k hk1 (by omega)
              generalize zs[j] = t at *
              generalize t.sp = ts at *
              have hj0 : (0 : Int) ≤ (j : Int) := Int.natCast_nonneg _
              have hj1 : (j : Int) < (n : Int) := by omega
              by_cases hts : ts < sp
              · obtain rfl : V = 3 := HZ.out hts
                clear HV' HZ HY
                go_wp2
                go_ret2
                exact ⟨rfl, HK.out⟩
              · have hy := HY.out hts
                have HY' : Hid (∀ k (h : k < zs.length), k < j + 1 → sp ≤ zs[k].sp) := hy
                clear hy HZ HY HV'
                go_wp2
                go_roundw
                case rel => exact ⟨j + 1, by simp, by omega, HY'.out, by trivial⟩
                case measure => simp [intOf]; omega
            · have h1 : ¬ (j : Int) < (n : Int) := by omega
              have hje : anyOld sp zs = false := by
                cases hh : anyOld sp zs
                · rfl
                · obtain ⟨t, ht, hl⟩ := List.any_eq_true.1 hh
                  obtain ⟨i, hi, rfl⟩ := List.getElem_of_mem ht
                  exact absurd (of_decide_eq_true hl) (Int.not_lt.2 (HO.out i hi (by have := HL.out.1; omega)))
              obtain rfl : V = 1 := by rw [HV'.out, hje]; rfl
              clear hje HV'
              go_wp2
              go_ret2
              exact ⟨rfl, HK.out⟩
        · have t3 : (ta == 3) = false := by simp [ht3]
          obtain rfl : V = 1 := by rw [HV.out, if_neg (fun h => ht2 h.1), if_neg (fun h => ht3 h.1)]
          clear ht2 ht3 HV
          go_wp2
          go_ret2
          exact ⟨rfl, HK.out⟩
end Go.Proofs.Ytjljipbmbelmgaa
