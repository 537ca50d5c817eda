/- The document's begin: how it lies in memory, and what its calls do. -/
import Derived.Test.YtpjhljfcoejndaaGreatRg
import Derived.BigQuiet
namespace Go.Proofs.YtpjhljfcoejndaaGreat
open Go.RowKit
set_option linter.unusedVariables false
set_option linter.unusedSimpArgs false
attribute [local go_sem ↓] Go.wp_at_zero Go.wp_at_succ

section
variable {o w : World} {its : List It} {B : Bd} {c : Cfg} {z : SSt} {v u : Value} {k s : Nat} {b : Bg}
set_option maxRecDepth 100000 in
set_option maxHeartbeats 2000000 in
theorem rgStep2 (h : St o its w) (i j : Nat) (hij : i ≠ j) (hi : its[i]? = some (rpI B c z v u)) (hj : its[j]? = some (rgI k B.sp b)) {n : Nat} (ok : z.ok c n) (hn : n ≤ 4611686018427) (hb : BFit z.hs.length b) (a : b.st = 2) (g0 : 1 ≤ b.gn) (g2 : b.wd = 2) :
    Calls Tryz.prog 12 #[.pointer (some ⟨k, 0, none⟩)] w fun r w' => r = .returned (.int .i64 b.ans) ∧ ∃ v', St o ((its.set i (rpI B c (z.goes b) v' u)).set j (rgI k B.sp (b.next z))) w' := by
  have c0 : w.cell? ⟨k, 0, none⟩ = some (.pointer (some ⟨B.sp, 0, none⟩)) := rgCell h j hj 0
  have c1 : w.cell? ⟨k, 1, none⟩ = some (.int .i64 b.th) := rgCell h j hj 1
  have c2 : w.cell? ⟨k, 2, none⟩ = some (.int .i64 b.sp) := rgCell h j hj 2
  have c3 : w.cell? ⟨k, 3, none⟩ = some (.int .i64 b.sl) := rgCell h j hj 3
  have c4 : w.cell? ⟨k, 4, none⟩ = some (.int .i64 b.wd) := rgCell h j hj 4
  have c5 : w.cell? ⟨k, 5, none⟩ = some (.int .i64 b.gn) := rgCell h j hj 5
  have c6 : w.cell? ⟨k, 6, none⟩ = some (.bool (b.st == 3)) := rgCell h j hj 6
  have p9 : w.cell? ⟨B.sp, 9, none⟩ = some (.pointer (some ⟨B.y, 0, none⟩)) := rpCell h i hi 9
  have hfine := hb.fine ok.h8
  obtain ⟨s0, s1, w0, w1⟩ := hfine
  unfold Bg.ans SSt.goes Bg.next
  have n0 : ¬ b.st = 0 := by omega
  have n1 : ¬ b.st = 1 := by omega
  rw [if_pos (.inr (.inr a)), if_neg n0, if_neg n0, if_neg n1, if_neg n1, if_pos a, if_pos a]
  rw [show (b.st == 3) = false from by simp [a]] at c6
  rw [g2] at c4
  have hg : (b.gn == 0) = false := by simp; omega
  have hq : Calls Tryz.prog 39 #[.pointer (some ⟨B.y, 0, none⟩), .int .i64 b.sl, .int .i64 b.gn, .int .i64 b.sp] w.drew fun e w' => e = .returned (.int .i64 ((readyOp b.gn b.sp).E z.hs b.sl)) ∧ ∃ v', w'.cell? ⟨k, 0, none⟩ = some (.pointer (some ⟨B.sp, 0, none⟩)) ∧ w'.cell? ⟨B.sp, 9, none⟩ = some (.pointer (some ⟨B.y, 0, none⟩)) ∧ w'.cell? ⟨k, 3, none⟩ = some (.int .i64 b.sl) ∧ w'.cell? ⟨k, 5, none⟩ = some (.int .i64 b.gn) ∧ w'.cell? ⟨k, 2, none⟩ = some (.int .i64 b.sp) ∧ w'.cell? ⟨k, 7, none⟩ = some (.int .i64 b.e) ∧ w'.frozen? ⟨k, 7, none⟩ = false ∧ w'.cell? ⟨k, 6, none⟩ = some (.bool false) ∧ w'.frozen? ⟨k, 6, none⟩ = false ∧ Hid (St o ((its.set i (rpI B c (z.op (readyOp b.gn b.sp) b.sl) v' u)).set j (rgI k B.sp (b.over ((readyOp b.gn b.sp).E z.hs b.sl)))) ((w'.setCell ⟨k, 7, none⟩ (.int .i64 ((readyOp b.gn b.sp).E z.hs b.sl))).setCell ⟨k, 6, none⟩ (.bool true))) := by
    refine (rpReady h.drew i hi ok hn b.sl b.gn b.sp).mono ?_
    rintro e w' ⟨he, v', h'⟩
    have hj' := set_other (A := rpI B c (z.op (readyOp b.gn b.sp) b.sl) v' u) hj hij
    refine ⟨he, v', rgCell h' j hj' 0, rpCell h' i (set_self hi) 9, rgCell h' j hj' 3, rgCell h' j hj' 5, rgCell h' j hj' 2, rgCell h' j hj' 7, rgFrozen h' j hj' 7, ?_, rgFrozen h' j hj' 6, ?_⟩
    · have := rgCell h' j hj' 6
      rw [show (b.st == 3) = false from by simp [a]] at this
      exact this
    · have h4 := (h'.write j hj' 7 (.int .i64 ((readyOp b.gn b.sp).E z.hs b.sl))).write j (set_self hj') 6 (.bool true)
      rw [set_same] at h4
      exact h4
  have k0 : w.drew.cell? ⟨k, 0, none⟩ = some (.pointer (some ⟨B.sp, 0, none⟩)) := c0
  have c7 : w.cell? ⟨k, 7, none⟩ = some (.int .i64 b.e) := rgCell h j hj 7
  have f7 : w.frozen? ⟨k, 7, none⟩ = false := rgFrozen h j hj 7
  clear h hi hj ok hij n0 n1
  generalize (readyOp b.gn b.sp).E z.hs b.sl = E at *
  generalize z.op (readyOp b.gn b.sp) b.sl = z' at *
  generalize b.over E = b' at *
  obtain ⟨th, sp, st, sl, gn, wd, er⟩ := b
  simp only at *
  subst a
  go_enter Tryz.func12, Tryz.ntmps12
  go_upto_region 1 with fail
  go_region_with (go_at_call 39; refine hq.mono ?_; rintro e w2 ⟨rfl, v', d0, d9, d3, d5, d2, d7, f7', d6, f6', HS⟩)
  all_goals
    clear hq
    go_wp2
    go_ret
    exact ⟨rfl, v', HS.out⟩


set_option maxRecDepth 100000 in
set_option maxHeartbeats 2000000 in
theorem rgStep (h : St o its w) (i j : Nat) (hij : i ≠ j) (hi : its[i]? = some (rpI B c z v u)) (hj : its[j]? = some (rgI k B.sp b)) {n : Nat} (ok : z.ok c n) (hn : n ≤ 4611686018427) (hb : BFit z.hs.length b) :
    Calls Tryz.prog 12 #[.pointer (some ⟨k, 0, none⟩)] w fun r w' => r = .returned (.int .i64 b.ans) ∧ ∃ v', St o ((its.set i (rpI B c (z.goes b) v' u)).set j (rgI k B.sp (b.next z))) w' := by
  have hb' := hb
  rcases hb with ⟨a, g0, _⟩ | ⟨a, g0, _, g2, _⟩ | ⟨a, g0, g2, _⟩ | ⟨a, _⟩
  · exact rgStep0 h i j hij hi hj ok hn hb' a g0
  · exact rgStep1 h i j hij hi hj ok hn hb' a g0 g2
  · exact rgStep2 h i j hij hi hj ok hn hb' a g0 g2
  · exact rgStep3 h i j hij hi hj ok hn hb' a
end
end Go.Proofs.YtpjhljfcoejndaaGreat
