/- A slot is the same as itself; a signature is the same as itself. -/
import Derived.Test.YtajfjkhbimehbaaGreatSl
import Derived.ChangeKeysEq
namespace Go.Proofs.YtajfjkhbimehbaaGreat
open Go.RowKit
set_option linter.unusedVariables false
set_option linter.unusedSimpArgs false

set_option maxRecDepth 100000 in
theorem eqWords (d : Nat) (a b : Int) (w : World) : (Op.equalIn (d + 2) 48 (.agg #[.int .u64 a, .int .u64 b]) (.agg #[.int .u64 a, .int .u64 b])).run Tryz.prog w = .ok true w := by
  obtain ⟨i0, hi0, hz0, hz1, hz2⟩ := info_parts (show (Tryz.prog.info? 46).map (fun i => (i.zero, i.size, i.bytes)) = some (some (.int .u64 0), 1, 8) from by kernel_rfl)
  rw [run_equalIn_array (d := d + 1) w _ _ Tryz.underlying48 hi0, show Tryz.prog.cellsOf 46 = 1 from by kernel_rfl]
  show (Op.eqItems (d + 1) 46 1 _ _ [0, 1]).run Tryz.prog w = _
  have hp : ∀ (x y : Int) (w : World), (part 46 #[.int .u64 x, .int .u64 y] 0).run Tryz.prog w = .ok (.int .u64 x) w := fun x y w => run_part_plain (P := Tryz.prog) w (by kernel_rfl) rfl
  have hq : ∀ (x y : Int) (w : World), (part 46 #[.int .u64 x, .int .u64 y] 1).run Tryz.prog w = .ok (.int .u64 y) w := fun x y w => run_part_plain (P := Tryz.prog) w (by kernel_rfl) rfl
  have he : ∀ (x : Int) (w : World), (Op.equalIn (d + 1) 46 (.int .u64 x) (.int .u64 x)).run Tryz.prog w = .ok (x == x) w := fun x w => run_equalIn_int w d 46 .u64 .u64 x x Tryz.underlying46
  simp only [Op.eqItems, Sem.run_bind, Nat.zero_mul, Nat.one_mul, hp, hq, he, beq_self_eq_true, Result.andThen_ok, Bool.not_true, Bool.false_eq_true, if_false, Sem.run_pure]
set_option maxRecDepth 100000 in
theorem eqHead (d : Nat) (a b c e : Int) (f : Bool) (g : Int) (w : World) : (Op.equalIn (d + 2) 105 (.agg #[.int .i64 a, .int .i64 b, .int .i64 c, .int .i64 e, .bool f, .int .i64 g]) (.agg #[.int .i64 a, .int .i64 b, .int .i64 c, .int .i64 e, .bool f, .int .i64 g])).run Tryz.prog w = .ok true w := by
  rw [run_equalIn_struct w (d + 1) 105 _ _ (by kernel_rfl) (by kernel_rfl)]
  have hi : ∀ (x : Int) (w : World), (Op.equalIn (d + 1) 3 (.int .i64 x) (.int .i64 x)).run Tryz.prog w = .ok (x == x) w := fun x w => run_equalIn_int w d 3 .i64 .i64 x x Tryz.underlying3
  have hb : ∀ (x : Bool) (w : World), (Op.equalIn (d + 1) 4 (.bool x) (.bool x)).run Tryz.prog w = .ok (x == x) w := fun x w => run_equalIn_bool' w d 4 x x Tryz.underlying4
  have p0 : ∀ w, (part 3 #[.int .i64 a, .int .i64 b, .int .i64 c, .int .i64 e, .bool f, .int .i64 g] 0).run Tryz.prog w = .ok (.int .i64 a) w := fun w => run_part_plain (P := Tryz.prog) w (by kernel_rfl) rfl
  have p1 : ∀ w, (part 3 #[.int .i64 a, .int .i64 b, .int .i64 c, .int .i64 e, .bool f, .int .i64 g] 1).run Tryz.prog w = .ok (.int .i64 b) w := fun w => run_part_plain (P := Tryz.prog) w (by kernel_rfl) rfl
  have p2 : ∀ w, (part 3 #[.int .i64 a, .int .i64 b, .int .i64 c, .int .i64 e, .bool f, .int .i64 g] 2).run Tryz.prog w = .ok (.int .i64 c) w := fun w => run_part_plain (P := Tryz.prog) w (by kernel_rfl) rfl
  have p3 : ∀ w, (part 3 #[.int .i64 a, .int .i64 b, .int .i64 c, .int .i64 e, .bool f, .int .i64 g] 3).run Tryz.prog w = .ok (.int .i64 e) w := fun w => run_part_plain (P := Tryz.prog) w (by kernel_rfl) rfl
  have p4 : ∀ w, (part 4 #[.int .i64 a, .int .i64 b, .int .i64 c, .int .i64 e, .bool f, .int .i64 g] 4).run Tryz.prog w = .ok (.bool f) w := fun w => run_part_plain (P := Tryz.prog) w (by kernel_rfl) rfl
  have p5 : ∀ w, (part 3 #[.int .i64 a, .int .i64 b, .int .i64 c, .int .i64 e, .bool f, .int .i64 g] 5).run Tryz.prog w = .ok (.int .i64 g) w := fun w => run_part_plain (P := Tryz.prog) w (by kernel_rfl) rfl
  simp [Program.fieldsOf, Tryz.underlying105, Op.eqFields, Sem.run_bind, p0, p1, p2, p3, p4, p5, hi, hb]
set_option maxRecDepth 100000 in
theorem eqSlot (a b c e : Int) (f : Bool) (g x y : Int) (w : World) : (binOp .neq 156 (.agg #[.int .i64 a, .int .i64 b, .int .i64 c, .int .i64 e, .bool f, .int .i64 g, .int .u64 x, .int .u64 y]) (.agg #[.int .i64 a, .int .i64 b, .int .i64 c, .int .i64 e, .bool f, .int .i64 g, .int .u64 x, .int .u64 y])).run Tryz.prog w = .ok (.bool false) w := by
  rw [run_neq_struct, run_equalIn_struct w 9999 156 _ _ (by kernel_rfl) (by kernel_rfl)]
  have p0 : ∀ w, (part 105 #[.int .i64 a, .int .i64 b, .int .i64 c, .int .i64 e, .bool f, .int .i64 g, .int .u64 x, .int .u64 y] 0).run Tryz.prog w = .ok (.agg #[.int .i64 a, .int .i64 b, .int .i64 c, .int .i64 e, .bool f, .int .i64 g]) w := fun w => by kernel_rfl
  have p1 : ∀ w, (part 48 #[.int .i64 a, .int .i64 b, .int .i64 c, .int .i64 e, .bool f, .int .i64 g, .int .u64 x, .int .u64 y] 6).run Tryz.prog w = .ok (.agg #[.int .u64 x, .int .u64 y]) w := fun w => by kernel_rfl
  have h0 := eqHead 9997 a b c e f g
  have h1 := eqWords 9997 x y
  simp [Program.fieldsOf, Tryz.underlying156, Op.eqFields, Sem.run_bind, p0, p1, h0, h1]
set_option maxRecDepth 100000 in
theorem eqSig (x y : Int) (w : World) : (binOp .neq 48 (.agg #[.int .u64 x, .int .u64 y]) (.agg #[.int .u64 x, .int .u64 y])).run Tryz.prog w = .ok (.bool false) w := by
  rw [run_neq_struct, eqWords 9998 x y w]
  rfl
end Go.Proofs.YtajfjkhbimehbaaGreat
