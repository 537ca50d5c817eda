/- Deeds: what may be, what is done; package set's mayBe. -/
import Derived.Test.YtdfefjalamohjaaGreatDoorSeA
import Derived.Laws.StructEq
namespace Go.Proofs.YtdfefjalamohjaaGreatDoor
open Go.RowKit
set_option linter.unusedVariables false
set_option linter.unusedSimpArgs false
attribute [local go_sem ↓] Go.wp_at_zero Go.wp_at_succ

structure Dd where
  op : Int
  a : Int
  b : Int
  x : Int
  y : Int
deriving DecidableEq
def Dd.cells (d : Dd) : List Value := [.int .i64 d.op, .int .i64 d.a, .int .i64 d.b, .int .i64 d.x, .int .i64 d.y]
def Dd.val (d : Dd) : Value := .agg #[.int .i64 d.op, .int .i64 d.a, .int .i64 d.b, .int .i64 d.x, .int .i64 d.y]
def Dd.zero : Dd := ⟨0, 0, 0, 0, 0⟩
def mayS (d : Dd) : Bool :=
  if d.op = 1 ∨ d.op = 2 ∨ d.op = 3 then decide (d.a = 0) && (decide (d.b = 0) && decide (d.y = 0))
  else if d.op = 4 ∨ d.op = 5 then decide (d.a = 0) && (decide (d.b = 0) && (decide (d.x = 0) && decide (d.y = 0)))
  else false
/-- How many keys stand ahead of x. -/
def atS (l : List Int) (x : Int) : Nat := l.countP (· < x)
def doS (l : List Int) (n : Int) (d : Dd) : List Int × List Int :=
  if d.op = 1 then (if l.contains d.x = true then (l, [0]) else if (l.length : Int) = n then (l, [2]) else (l.take (atS l d.x) ++ d.x :: l.drop (atS l d.x), [1]))
  else if d.op = 2 then (if l.contains d.x = true then (l.take (atS l d.x) ++ l.drop (atS l d.x + 1), [1]) else (l, [0]))
  else if d.op = 3 then (if l.contains d.x = true then (l, [1]) else (l, [0]))
  else if d.op = 4 then (if l = [] then (l, [0]) else (l, [1, l.getD 0 0]))
  else (l, [(l.length : Int)])
theorem may_op {d : Dd} (h : mayS d = true) : d.op = 1 ∨ d.op = 2 ∨ d.op = 3 ∨ d.op = 4 ∨ d.op = 5 := by
  unfold mayS at h
  split at h
  · omega
  · split at h
    · omega
    · cases h
set_option maxRecDepth 100000 in
theorem eqDd (a b c d e b' c' d' e' : Int) (w : World) : (binOp .eql 40 (.agg #[.int .i64 a, .int .i64 b, .int .i64 c, .int .i64 d, .int .i64 e]) (.agg #[.int .i64 a, .int .i64 b', .int .i64 c', .int .i64 d', .int .i64 e'])).run Tryz.prog w = .ok (.bool (decide (b = b') && (decide (c = c') && (decide (d = d') && decide (e = e'))))) w := by
  rw [run_eql_struct, run_equalIn_struct w 9999 40 _ _ (by kernel_rfl) (by kernel_rfl)]
  have hi0 : ∀ (x y : Int) (w : World), (Op.equalIn 9999 3 (.int .i64 x) (.int .i64 y)).run Tryz.prog w = .ok (x == y) w := fun x y w => run_equalIn_int w 9998 3 .i64 .i64 x y Tryz.underlying3
  have hi1 : ∀ (x y : Int) (w : World), (Op.equalIn 9999 2 (.int .i64 x) (.int .i64 y)).run Tryz.prog w = .ok (x == y) w := fun x y w => run_equalIn_int w 9998 2 .i64 .i64 x y Tryz.underlying2
  have p0 : ∀ (a b c d e : Int) w, (part 3 #[.int .i64 a, .int .i64 b, .int .i64 c, .int .i64 d, .int .i64 e] 0).run Tryz.prog w = .ok (.int .i64 a) w := fun a b c d e w => run_part_plain (P := Tryz.prog) w (by kernel_rfl) rfl
  have p1 : ∀ (a b c d e : Int) w, (part 3 #[.int .i64 a, .int .i64 b, .int .i64 c, .int .i64 d, .int .i64 e] 1).run Tryz.prog w = .ok (.int .i64 b) w := fun a b c d e w => run_part_plain (P := Tryz.prog) w (by kernel_rfl) rfl
  have p2 : ∀ (a b c d e : Int) w, (part 3 #[.int .i64 a, .int .i64 b, .int .i64 c, .int .i64 d, .int .i64 e] 2).run Tryz.prog w = .ok (.int .i64 c) w := fun a b c d e w => run_part_plain (P := Tryz.prog) w (by kernel_rfl) rfl
  have p3 : ∀ (a b c d e : Int) w, (part 2 #[.int .i64 a, .int .i64 b, .int .i64 c, .int .i64 d, .int .i64 e] 3).run Tryz.prog w = .ok (.int .i64 d) w := fun a b c d e w => run_part_plain (P := Tryz.prog) w (by kernel_rfl) rfl
  have p4 : ∀ (a b c d e : Int) w, (part 2 #[.int .i64 a, .int .i64 b, .int .i64 c, .int .i64 d, .int .i64 e] 4).run Tryz.prog w = .ok (.int .i64 e) w := fun a b c d e w => run_part_plain (P := Tryz.prog) w (by kernel_rfl) rfl
  by_cases h1 : b = b'
  · by_cases h2 : c = c'
    · by_cases h3 : d = d'
      · by_cases h4 : e = e' <;> simp [Program.fieldsOf, Tryz.underlying40, Op.eqFields, Sem.run_bind, p0, p1, p2, p3, p4, hi0, hi1, h1, h2, h3, h4]
      · simp [Program.fieldsOf, Tryz.underlying40, Op.eqFields, Sem.run_bind, p0, p1, p2, p3, p4, hi0, hi1, h1, h2, h3]
    · simp [Program.fieldsOf, Tryz.underlying40, Op.eqFields, Sem.run_bind, p0, p1, p2, p3, p4, hi0, hi1, h1, h2]
  · simp [Program.fieldsOf, Tryz.underlying40, Op.eqFields, Sem.run_bind, p0, p1, p2, p3, p4, hi0, hi1, h1]
theorem guardDd (x y : Operand) (xs ys : Array Value) (w : World) : (eqGuard .eql 40 x y (.agg xs) (.agg ys)).run Tryz.prog w = .ok () w := by kernel_rfl
set_option maxRecDepth 100000 in
set_option maxHeartbeats 4000000 in
theorem smay_any (d : Dd) (w : World) : Calls Tryz.prog 37 #[d.val] w fun e w' => e = .returned (.bool (mayS d)) ∧ Kept (fun _ => False) w w' := by
  obtain ⟨op, a, b, x, y⟩ := d
  have s1 := ((St.nil w).box #[.int .i64 op, .int .i64 a, .int .i64 b, .int .i64 x, .int .i64 y] 40).box #[.int .i64 op, .int .i64 0, .int .i64 0, .int .i64 0, .int .i64 0] 40
  rw [alloc_size] at s1
  show Calls _ _ #[.agg #[.int .i64 op, .int .i64 a, .int .i64 b, .int .i64 x, .int .i64 y]] _ _
  have heq := eqDd op a b x y
  have hgd := guardDd
  have HK : Hid (∀ zz : Array Value, Kept (fun _ => False) w ((w.alloc (.cells #[.int .i64 op, .int .i64 a, .int .i64 b, .int .i64 x, .int .i64 y] 40)).alloc (.cells zz 40))) := hid (fun zz => (kept_alloc w _).alloc _)
  clear s1
  by_cases hop : op = 1 ∨ op = 2 ∨ op = 3
  · have hm : Hid (mayS ⟨op, a, b, x, y⟩ = (decide (a = 0) && (decide (b = 0) && decide (y = 0)))) := hid (by unfold mayS; rw [if_pos hop])
    rw [hm.out]
    rcases hop with rfl | rfl | rfl
    · go_enter Tryz.func37, Tryz.ntmps37
      go_wp2_with (simp only [heq, hgd])
      go_ret
      exact ⟨rfl, HK.out _⟩
    · go_enter Tryz.func37, Tryz.ntmps37
      go_wp2_with (simp only [heq, hgd])
      go_ret
      exact ⟨rfl, HK.out _⟩
    · go_enter Tryz.func37, Tryz.ntmps37
      go_wp2_with (simp only [heq, hgd])
      go_ret
      exact ⟨rfl, HK.out _⟩
  · by_cases hop2 : op = 4 ∨ op = 5
    · have hm : Hid (mayS ⟨op, a, b, x, y⟩ = (decide (a = 0) && (decide (b = 0) && (decide (x = 0) && decide (y = 0))))) := hid (by unfold mayS; rw [if_neg hop, if_pos hop2])
      rw [hm.out]
      rcases hop2 with rfl | rfl
      · go_enter Tryz.func37, Tryz.ntmps37
        go_wp2_with (simp only [heq, hgd])
        go_ret
        exact ⟨rfl, HK.out _⟩
      · go_enter Tryz.func37, Tryz.ntmps37
        go_wp2_with (simp only [heq, hgd])
        go_ret
        exact ⟨rfl, HK.out _⟩
    · have hm : Hid (mayS ⟨op, a, b, x, y⟩ = false) := hid (by unfold mayS; rw [if_neg hop, if_neg hop2])
      rw [hm.out]
      have t1 : (op == 1) = false := by simp; omega
      have t2 : (op == 2) = false := by simp; omega
      have t3 : (op == 3) = false := by simp; omega
      have t4 : (op == 4) = false := by simp; omega
      have t5 : (op == 5) = false := by simp; omega
      clear hop hop2
      go_enter Tryz.func37, Tryz.ntmps37
      go_wp2_with (simp only [heq, hgd])
      go_ret
      exact ⟨rfl, HK.out _⟩
end Go.Proofs.YtdfefjalamohjaaGreatDoor
