/- The law PolicyVerdicts, step by step. -/
import Derived.Test.YtjljipbmbelmgaaLent
import Derived.Test.YtjljipbmbelmgaaUp
namespace Go.Proofs.Ytjljipbmbelmgaa
open Go.RowKit
set_option linter.unusedVariables false
set_option linter.unusedSimpArgs false
attribute [local go_sem ↓] Go.wp_at_zero Go.wp_at_succ

set_option maxRecDepth 100000 in
set_option maxHeartbeats 2000000 in
theorem verdicts_walk (c : Cfg) (sp df : Int) (la : Option Addr) (n lc : Nat) (zs : List Vt) (w : World) (hL : VIn w la n zs) (hR : n ≤ lc ∧ lc * 32 ≤ 140737488351232 ∧ (la = none → n = 0 ∧ lc = 0)) :
    Calls Try.prog 3 #[c.val, .int .i64 sp, .int .i64 df, .slice la n lc] w fun e w' => e = .returned (.bool true) ∧ Kept (fun _ => False) w w' := by
  have h0 := (St.nil w).box #[.int .i64 c.ce, .int .i64 c.sl, .int .i64 c.bi, .int .i64 c.ta, .int .i64 c.ba, .int .i64 c.de] 23
  have HL : Hid (VIn w la n zs) := hL
  have hn : n ≤ 17592186044416 := by omega
  have HR : Hid (n ≤ lc ∧ lc * 32 ≤ 140737488351232 ∧ (la = none → n = 0 ∧ lc = 0)) := hR
  clear hL hR
  unfold Cfg.val
  go_enter Try.func3, Try.ntmps3
  go_upto_region 1 with fail
  generalize w.alloc (.cells #[.int .i64 c.ce, .int .i64 c.sl, .int .i64 c.bi, .int .i64 c.ta, .int .i64 c.ba, .int .i64 c.de] 23) = W0 at *
  generalize w.heap.size = B at *
  go_wp2_with fail
  refine (up_any _).mono ?_
  rintro e w1 ⟨rfl, k1⟩
  have h1 := h0.calm k1
  clear h0 k1
  have hq := lent_st h1 (HL.out.kept h1.same) HR.out
  go_wp2_with fail
  refine hq.mono ?_
  rintro e w2 ⟨g, cap, rfl, h2⟩
  clear hq h1
  have c0 : w2.cell? ⟨B, 0, none⟩ = some (.int .i64 c.ce) := h2.cell 1 rfl 0
  have c1 : w2.cell? ⟨B, 1, none⟩ = some (.int .i64 c.sl) := h2.cell 1 rfl 1
  have c2 : w2.cell? ⟨B, 2, none⟩ = some (.int .i64 c.bi) := h2.cell 1 rfl 2
  have c3 : w2.cell? ⟨B, 3, none⟩ = some (.int .i64 c.ta) := h2.cell 1 rfl 3
  have c4 : w2.cell? ⟨B, 4, none⟩ = some (.int .i64 c.ba) := h2.cell 1 rfl 4
  have c5 : w2.cell? ⟨B, 5, none⟩ = some (.int .i64 c.de) := h2.cell 1 rfl 5
  have hg : VIn w2 (some ⟨g, 0, none⟩) n zs := by
    have := own_vin (h2.get 0 rfl) zs [mark] rfl
    rwa [← HL.out.1] at this
  have hq : Calls Try.prog 9 #[.agg #[.int .i64 c.ce, .int .i64 c.sl, .int .i64 c.bi, .int .i64 c.ta, .int .i64 c.ba, .int .i64 c.de], .int .i64 sp, .int .i64 df, .slice (some ⟨g, 0, none⟩) n cap] w2 _ := verdict_any c sp df _ n cap zs w2 hg hn
  clear hg
  go_wp2_with fail
  refine hq.mono ?_
  rintro e w3 ⟨rfl, k3⟩
  have h3 := h2.calm k3
  clear hq h2 k3 c0 c1 c2 c3 c4 c5
  have c0 : w3.cell? ⟨B, 0, none⟩ = some (.int .i64 c.ce) := h3.cell 1 rfl 0
  have c1 : w3.cell? ⟨B, 1, none⟩ = some (.int .i64 c.sl) := h3.cell 1 rfl 1
  have c2 : w3.cell? ⟨B, 2, none⟩ = some (.int .i64 c.bi) := h3.cell 1 rfl 2
  have c3 : w3.cell? ⟨B, 3, none⟩ = some (.int .i64 c.ta) := h3.cell 1 rfl 3
  have c4 : w3.cell? ⟨B, 4, none⟩ = some (.int .i64 c.ba) := h3.cell 1 rfl 4
  have c5 : w3.cell? ⟨B, 5, none⟩ = some (.int .i64 c.de) := h3.cell 1 rfl 5
  have hq : Calls Try.prog 10 #[.agg #[.int .i64 c.ce, .int .i64 c.sl, .int .i64 c.bi, .int .i64 c.ta, .int .i64 c.ba, .int .i64 c.de], .int .i64 sp, .int .i64 df, .slice la n lc] w3 _ := refVerdict_any c sp df la n lc zs w3 (HL.out.kept h3.same) hn
  go_wp2_with fail
  refine hq.mono ?_
  rintro e w4 ⟨rfl, k4⟩
  have h4 := h3.calm k4
  clear hq h3 k4 c0 c1 c2 c3 c4 c5
  have hq := whole_st h4 0 rfl (lc := lc) (HL.out.kept h4.same) hn
  clear h4
  generalize vdV c sp df zs = V at *
  generalize vdE c df = E at *
  go_wp2_with (go_at_call 11; refine hq.mono ?_; rintro e w5 ⟨rfl, h5⟩)
  go_ret
  exact ⟨rfl, h5.same⟩
end Go.Proofs.Ytjljipbmbelmgaa
