/- Package dict: rise, mayBe, put, done. -/
import Derived.Test.YtbpilhjomfkpaaaGreatDoorDiB
import Derived.Laws.StructEq
import Derived.Deep.RegionWith
import Derived.Deep.Cut
namespace Go.Proofs.YtbpilhjomfkpaaaGreatDoor
open Go.RowKit
set_option linter.unusedVariables false
set_option linter.unusedSimpArgs false
attribute [local go_sem ↓] Go.wp_at_zero Go.wp_at_succ

theorem rises_step {l : List Pr} {q : Nat} (h : q + 1 < l.length) : risesP (l.drop q) = (decide ((l.getD q (0, 0)).1 < (l.getD (q + 1) (0, 0)).1) && risesP (l.drop (q + 1))) := by
  rw [List.drop_eq_getElem_cons (by omega : q < l.length), List.drop_eq_getElem_cons h]
  simp [risesP, List.getD_eq_getElem?_getD, h, (by omega : q < l.length)]
theorem rises_last {l : List Pr} {q : Nat} (h : l.length ≤ q + 1) : risesP (l.drop q) = true := by
  have hl : (l.drop q).length ≤ 1 := by rw [List.length_drop]; omega
  match hd : l.drop q, hl with
  | [], _ => rfl
  | [p], _ => rfl
  | _ :: _ :: _, h2 => simp [hd] at h2
set_option maxHeartbeats 1000000 in
theorem rise_any (la : Option Addr) (m lc : Nat) (l : List Pr) (w : World) (hE : EIn w la m l) (hm : m ≤ 4611686018427387904) :
    Calls Tryz.prog 40 #[.slice la m lc] w fun e w' => e = .returned (.bool (risesP l)) ∧ Kept (fun _ => False) w w' := by
  have HE := hid hE
  have hml := hid hE.1
  clear hE
  have hm9 : (m : Int) ≤ 4611686018427387904 := by omega
  go_enter Tryz.func40, Tryz.ntmps40
  go_wp2
  go_loopw [3] (fun v wr => ∃ q : Nat, v = .int .i64 ((q : Int) + 1) ∧ q ≤ m ∧ Kept (fun _ => False) w wr ∧ risesP l = risesP (l.drop q)) (fun v _ => m + 1 - (intOf v).toNat)
  case atStart => exact ⟨0, rfl, Nat.zero_le _, Kept.refl _ _, rfl⟩
  case round =>
    obtain ⟨q, rfl, hq, hk, hr⟩ := hrel
    by_cases hlt : q + 1 < m
    · obtain ⟨g, o, rfl⟩ := HE.out.addr (by omega)
      have hE2 := HE.out.kept (hk.trans (kept_drew wr) (fun _ _ f => f))
      obtain ⟨x0, -⟩ := hE2.cells (j := q) (by omega)
      obtain ⟨x1, -⟩ := hE2.cells (j := q + 1) (by omega)
      rw [rises_step (by rw [← hml.out]; exact hlt)] at hr
      generalize (l.getD q (0, 0)).1 = a at *
      generalize (l.getD (q + 1) (0, 0)).1 = b at *
      have t1 : (q : Int) + 1 < (m : Int) := by omega
      have t2 : (q : Int) < (m : Int) := by omega
      have t3 : (0 : Int) ≤ (q : Int) := by omega
      have HK := hid (hk.trans (kept_drew wr) (fun _ _ f => f))
      have HL := hid hlt
      clear hE2 hk hlt
      by_cases hab : a < b
      · have tt : decide (b ≤ a) = false := by simp; omega
        simp only [hab, decide_true, Bool.true_and] at hr
        have HR := hid hr
        clear hr hab
        go_upto_region 4 with fail
        go_region
        all_goals go_wp2
        all_goals go_roundw
        case rel => exact ⟨q + 1, by push_cast; rfl, by have := HL.out; omega, HK.out, HR.out⟩
        case measure => have := HL.out; simp [intOf]; omega
      · have tt : decide (b ≤ a) = true := by simp; omega
        simp only [hab, decide_false, Bool.false_and] at hr
        have HR := hid hr
        clear hr hab
        go_upto_region 4 with fail
        go_region
        all_goals go_wp2
        all_goals go_ret
        all_goals exact ⟨by rw [HR.out]; rfl, HK.out⟩
    · have t1 : ¬ (q : Int) + 1 < (m : Int) := by omega
      rw [rises_last (by rw [← hml.out]; omega)] at hr
      have HR := hid hr
      clear hr
      go_wp2
      go_ret
      exact ⟨by rw [HR.out]; rfl, hk⟩
set_option maxRecDepth 100000 in
theorem eqDd (a b c d e b' c' d' e' : Int) (w : World) : (binOp .eql 45 (.agg #[.int .i64 a, .int .i64 b, .int .i64 c, .int .i64 d, .int .i64 e]) (.agg #[.int .i64 a, .int .i64 b', .int .i64 c', .int .i64 d', .int .i64 e'])).run Tryz.prog w = .ok (.bool (decide (b = b') && (decide (c = c') && (decide (d = d') && decide (e = e'))))) w := by
  rw [run_eql_struct, run_equalIn_struct w 9999 45 _ _ (by kernel_rfl) (by kernel_rfl)]
  have hi0 : ∀ (x y : Int) (w : World), (Op.equalIn 9999 3 (.int .i64 x) (.int .i64 y)).run Tryz.prog w = .ok (x == y) w := fun x y w => run_equalIn_int w 9998 3 .i64 .i64 x y Tryz.underlying3
  have hi1 : ∀ (x y : Int) (w : World), (Op.equalIn 9999 2 (.int .i64 x) (.int .i64 y)).run Tryz.prog w = .ok (x == y) w := fun x y w => run_equalIn_int w 9998 2 .i64 .i64 x y Tryz.underlying2
  have p0 : ∀ (a b c d e : Int) w, (part 3 #[.int .i64 a, .int .i64 b, .int .i64 c, .int .i64 d, .int .i64 e] 0).run Tryz.prog w = .ok (.int .i64 a) w := fun a b c d e w => run_part_plain (P := Tryz.prog) w (by kernel_rfl) rfl
  have p1 : ∀ (a b c d e : Int) w, (part 3 #[.int .i64 a, .int .i64 b, .int .i64 c, .int .i64 d, .int .i64 e] 1).run Tryz.prog w = .ok (.int .i64 b) w := fun a b c d e w => run_part_plain (P := Tryz.prog) w (by kernel_rfl) rfl
  have p2 : ∀ (a b c d e : Int) w, (part 3 #[.int .i64 a, .int .i64 b, .int .i64 c, .int .i64 d, .int .i64 e] 2).run Tryz.prog w = .ok (.int .i64 c) w := fun a b c d e w => run_part_plain (P := Tryz.prog) w (by kernel_rfl) rfl
  have p3 : ∀ (a b c d e : Int) w, (part 2 #[.int .i64 a, .int .i64 b, .int .i64 c, .int .i64 d, .int .i64 e] 3).run Tryz.prog w = .ok (.int .i64 d) w := fun a b c d e w => run_part_plain (P := Tryz.prog) w (by kernel_rfl) rfl
  have p4 : ∀ (a b c d e : Int) w, (part 2 #[.int .i64 a, .int .i64 b, .int .i64 c, .int .i64 d, .int .i64 e] 4).run Tryz.prog w = .ok (.int .i64 e) w := fun a b c d e w => run_part_plain (P := Tryz.prog) w (by kernel_rfl) rfl
  by_cases h1 : b = b'
  · by_cases h2 : c = c'
    · by_cases h3 : d = d'
      · by_cases h4 : e = e' <;> simp [Program.fieldsOf, Tryz.underlying45, Op.eqFields, Sem.run_bind, p0, p1, p2, p3, p4, hi0, hi1, h1, h2, h3, h4]
      · simp [Program.fieldsOf, Tryz.underlying45, Op.eqFields, Sem.run_bind, p0, p1, p2, p3, p4, hi0, hi1, h1, h2, h3]
    · simp [Program.fieldsOf, Tryz.underlying45, Op.eqFields, Sem.run_bind, p0, p1, p2, p3, p4, hi0, hi1, h1, h2]
  · simp [Program.fieldsOf, Tryz.underlying45, Op.eqFields, Sem.run_bind, p0, p1, p2, p3, p4, hi0, hi1, h1]
theorem guardDd (x y : Operand) (xs ys : Array Value) (w : World) : (eqGuard .eql 45 x y (.agg xs) (.agg ys)).run Tryz.prog w = .ok () w := by kernel_rfl
theorem may_is (op a b x y : Int) : mayS ⟨op, a, b, x, y⟩ = if op = 1 ∨ op = 4 then (decide (a = 0) && (decide (b = 0) && (decide (x = x) && decide (y = y)))) else if op = 2 ∨ op = 3 then (decide (a = 0) && (decide (b = 0) && (decide (x = x) && decide (y = 0)))) else if op = 5 then (decide (a = 0) && (decide (b = 0) && (decide (x = 0) && decide (y = 0)))) else false := by
  unfold mayS
  by_cases h1 : op = 1 ∨ op = 4
  · rw [if_pos h1]
    rcases h1 with rfl | rfl <;> simp
  · rw [if_neg h1]
    by_cases h2 : op = 2 ∨ op = 3
    · rw [if_pos h2]
      rcases h2 with rfl | rfl <;> simp
    · rw [if_neg h2]
      by_cases h3 : op = 5
      · subst h3; simp
      · rw [if_neg h3]
        simp only [not_or] at h1 h2
        simp [h1, h2, h3]
set_option maxRecDepth 100000 in
set_option maxHeartbeats 4000000 in
theorem smay_any (d : Dd) (w : World) : Calls Tryz.prog 41 #[d.val] w fun e w' => e = .returned (.bool (mayS d)) ∧ Kept (fun _ => False) w w' := by
  obtain ⟨op, a, b, x, y⟩ := d
  show Calls _ _ #[.agg #[.int .i64 op, .int .i64 a, .int .i64 b, .int .i64 x, .int .i64 y]] _ _
  rw [may_is]
  have heq := eqDd op a b x y
  have hgd := guardDd
  have hM : (w.alloc (.cells #[.int .i64 op, .int .i64 a, .int .i64 b, .int .i64 x, .int .i64 y] 45)).heap.size = w.heap.size + 1 := by simp
  have s1 := ((St.nil w).box #[.int .i64 op, .int .i64 a, .int .i64 b, .int .i64 x, .int .i64 y] 45).box #[.int .i64 op, .int .i64 0, .int .i64 0, .int .i64 0, .int .i64 0] 45
  rw [hM] at s1
  by_cases h1 : op = 1 ∨ op = 4
  · rw [if_pos h1]
    have HK : Hid (∀ zz : Array Value, Kept (fun _ => False) w ((w.alloc (.cells #[.int .i64 op, .int .i64 a, .int .i64 b, .int .i64 x, .int .i64 y] 45)).alloc (.cells zz 45)).drew) := hid (fun zz => ((kept_alloc w _).alloc _).drew)
    rcases h1 with rfl | rfl
    · have HQ : Hid (∀ W, Kept (fun _ => False) w W → Kept (fun _ => False) w W) := hid (fun W k => k)
      go_enter Tryz.func41, Tryz.ntmps41
      go_upto_region 6 with fail
      generalize (w.alloc (.cells #[.int .i64 1, .int .i64 a, .int .i64 b, .int .i64 x, .int .i64 y] 45)).alloc (.cells #[.int .i64 1, .int .i64 0, .int .i64 0, .int .i64 0, .int .i64 0] 45) = w2 at *
      clear hM HK
      generalize hM1 : w.heap.size = M at *
      have s2 := s1
      have g3 : w2.cell? ⟨M, 3, none⟩ = some (.int .i64 x) := s1.cell 1 rfl 3
      have g4 : w2.cell? ⟨M, 4, none⟩ = some (.int .i64 y) := s1.cell 1 rfl 4
      have o3 : w2.cell? ⟨M + 1, 3, none⟩ = some (.int .i64 0) := s1.cell 0 rfl 3
      have f3 : w2.frozen? ⟨M + 1, 3, none⟩ = false := s1.frozen 0 rfl 3
      have o4 : w2.cell? ⟨M + 1, 4, none⟩ = some (.int .i64 0) := s1.cell 0 rfl 4
      have f4 : w2.frozen? ⟨M + 1, 4, none⟩ = false := s1.frozen 0 rfl 4
      have s3 := s2.write 0 rfl 3 (.int .i64 x)
      have s4 := (s3.write 0 rfl 4 (.int .i64 y)).drew
      have HS4 := hid s4
      clear s1 s2 s3 s4
      go_region
      all_goals
        generalize ((w2.setCell ⟨M + 1, 3, none⟩ (.int .i64 x)).setCell ⟨M + 1, 4, none⟩ (.int .i64 y)).drew = w4 at *
        have s4 := HS4.out
        have a0 : w4.cell? ⟨M, 0, none⟩ = some (.int .i64 1) := s4.cell 1 rfl 0
        have a1 : w4.cell? ⟨M, 1, none⟩ = some (.int .i64 a) := s4.cell 1 rfl 1
        have a2 : w4.cell? ⟨M, 2, none⟩ = some (.int .i64 b) := s4.cell 1 rfl 2
        have a3 : w4.cell? ⟨M, 3, none⟩ = some (.int .i64 x) := s4.cell 1 rfl 3
        have a4 : w4.cell? ⟨M, 4, none⟩ = some (.int .i64 y) := s4.cell 1 rfl 4
        have b0 : w4.cell? ⟨M + 1, 0, none⟩ = some (.int .i64 1) := s4.cell 0 rfl 0
        have b1 : w4.cell? ⟨M + 1, 1, none⟩ = some (.int .i64 0) := s4.cell 0 rfl 1
        have b2 : w4.cell? ⟨M + 1, 2, none⟩ = some (.int .i64 0) := s4.cell 0 rfl 2
        have b3 : w4.cell? ⟨M + 1, 3, none⟩ = some (.int .i64 x) := s4.cell 0 rfl 3
        have b4 : w4.cell? ⟨M + 1, 4, none⟩ = some (.int .i64 y) := s4.cell 0 rfl 4
        have HK4 := hid s4.same
        clear s4 g3 g4 o3 f3 o4 f4
        go_wp2_with (simp only [heq, hgd])
        go_ret
        exact ⟨by simp, HK4.out⟩
    · have HQ : Hid (∀ W, Kept (fun _ => False) w W → Kept (fun _ => False) w W) := hid (fun W k => k)
      go_enter Tryz.func41, Tryz.ntmps41
      go_upto_region 6 with fail
      generalize (w.alloc (.cells #[.int .i64 4, .int .i64 a, .int .i64 b, .int .i64 x, .int .i64 y] 45)).alloc (.cells #[.int .i64 4, .int .i64 0, .int .i64 0, .int .i64 0, .int .i64 0] 45) = w2 at *
      clear hM HK
      generalize hM1 : w.heap.size = M at *
      have s2 := s1
      have g3 : w2.cell? ⟨M, 3, none⟩ = some (.int .i64 x) := s1.cell 1 rfl 3
      have g4 : w2.cell? ⟨M, 4, none⟩ = some (.int .i64 y) := s1.cell 1 rfl 4
      have o3 : w2.cell? ⟨M + 1, 3, none⟩ = some (.int .i64 0) := s1.cell 0 rfl 3
      have f3 : w2.frozen? ⟨M + 1, 3, none⟩ = false := s1.frozen 0 rfl 3
      have o4 : w2.cell? ⟨M + 1, 4, none⟩ = some (.int .i64 0) := s1.cell 0 rfl 4
      have f4 : w2.frozen? ⟨M + 1, 4, none⟩ = false := s1.frozen 0 rfl 4
      have s3 := s2.write 0 rfl 3 (.int .i64 x)
      have s4 := (s3.write 0 rfl 4 (.int .i64 y)).drew
      have HS4 := hid s4
      clear s1 s2 s3 s4
      go_region
      all_goals
        generalize ((w2.setCell ⟨M + 1, 3, none⟩ (.int .i64 x)).setCell ⟨M + 1, 4, none⟩ (.int .i64 y)).drew = w4 at *
        have s4 := HS4.out
        have a0 : w4.cell? ⟨M, 0, none⟩ = some (.int .i64 4) := s4.cell 1 rfl 0
        have a1 : w4.cell? ⟨M, 1, none⟩ = some (.int .i64 a) := s4.cell 1 rfl 1
        have a2 : w4.cell? ⟨M, 2, none⟩ = some (.int .i64 b) := s4.cell 1 rfl 2
        have a3 : w4.cell? ⟨M, 3, none⟩ = some (.int .i64 x) := s4.cell 1 rfl 3
        have a4 : w4.cell? ⟨M, 4, none⟩ = some (.int .i64 y) := s4.cell 1 rfl 4
        have b0 : w4.cell? ⟨M + 1, 0, none⟩ = some (.int .i64 4) := s4.cell 0 rfl 0
        have b1 : w4.cell? ⟨M + 1, 1, none⟩ = some (.int .i64 0) := s4.cell 0 rfl 1
        have b2 : w4.cell? ⟨M + 1, 2, none⟩ = some (.int .i64 0) := s4.cell 0 rfl 2
        have b3 : w4.cell? ⟨M + 1, 3, none⟩ = some (.int .i64 x) := s4.cell 0 rfl 3
        have b4 : w4.cell? ⟨M + 1, 4, none⟩ = some (.int .i64 y) := s4.cell 0 rfl 4
        have HK4 := hid s4.same
        clear s4 g3 g4 o3 f3 o4 f4
        go_wp2_with (simp only [heq, hgd])
        go_ret
        exact ⟨by simp, HK4.out⟩
  · rw [if_neg h1]
    have HK : Hid (∀ zz : Array Value, Kept (fun _ => False) w ((w.alloc (.cells #[.int .i64 op, .int .i64 a, .int .i64 b, .int .i64 x, .int .i64 y] 45)).alloc (.cells zz 45))) := hid (fun zz => (kept_alloc w _).alloc _)
    clear s1
    by_cases h2 : op = 2 ∨ op = 3
    · rw [if_pos h2]
      rcases h2 with rfl | rfl
      · go_enter Tryz.func41, Tryz.ntmps41
        go_wp2_with (simp only [heq, hgd])
        go_ret
        exact ⟨rfl, HK.out _⟩
      · go_enter Tryz.func41, Tryz.ntmps41
        go_wp2_with (simp only [heq, hgd])
        go_ret
        exact ⟨rfl, HK.out _⟩
    · rw [if_neg h2]
      by_cases h3 : op = 5
      · rw [if_pos h3]
        subst h3
        go_enter Tryz.func41, Tryz.ntmps41
        go_wp2_with (simp only [heq, hgd])
        go_ret
        exact ⟨rfl, HK.out _⟩
      · rw [if_neg h3]
        have t1 : (op == 1) = false := by simp; omega
        have t2 : (op == 2) = false := by simp; omega
        have t3 : (op == 3) = false := by simp; omega
        have t4 : (op == 4) = false := by simp; omega
        have t5 : (op == 5) = false := by simp; omega
        clear h1 h2 h3
        go_enter Tryz.func41, Tryz.ntmps41
        go_wp2_with (simp only [heq, hgd])
        go_ret
        exact ⟨rfl, HK.out _⟩
end Go.Proofs.YtbpilhjomfkpaaaGreatDoor
