/- A config is the same as itself; so is an event. -/
import Derived.Test.YtpojkkdmlpjfeaaSpE
import Derived.Test.YtpojkkdmlpjfeaaEq
namespace Go.Proofs.Ytpojkkdmlpjfeaa
open Go.RowKit
set_option linter.unusedVariables false
set_option linter.unusedSimpArgs false
attribute [local go_sem ↓] Go.wp_at_zero Go.wp_at_succ

set_option maxRecDepth 100000 in
theorem eqCfg (a : Int) (b : Int) (c : Int) (d : Int) (e : Int) (f : Int) (w : World) : (binOp .eql 75 (.agg #[.int .i64 a, .int .i64 b, .int .i64 c, .int .i64 d, .int .i64 e, .int .i64 f]) (.agg #[.int .i64 a, .int .i64 b, .int .i64 c, .int .i64 d, .int .i64 e, .int .i64 f])).run Try.prog w = .ok (.bool true) w := by
  rw [run_eql_struct, run_equalIn_struct w 9999 75 _ _ (by kernel_rfl) (by kernel_rfl)]
  have hi0 : ∀ (x : Int) (w : World), (Op.equalIn 9999 3 (.int .i64 x) (.int .i64 x)).run Try.prog w = .ok (x == x) w := fun x w => run_equalIn_int w 9998 3 .i64 .i64 x x Try.underlying3
  have p0 : ∀ w, (part 3 #[.int .i64 a, .int .i64 b, .int .i64 c, .int .i64 d, .int .i64 e, .int .i64 f] 0).run Try.prog w = .ok (.int .i64 a) w := fun w => run_part_plain (P := Try.prog) w (by kernel_rfl) rfl
  have p1 : ∀ w, (part 3 #[.int .i64 a, .int .i64 b, .int .i64 c, .int .i64 d, .int .i64 e, .int .i64 f] 1).run Try.prog w = .ok (.int .i64 b) w := fun w => run_part_plain (P := Try.prog) w (by kernel_rfl) rfl
  have p2 : ∀ w, (part 3 #[.int .i64 a, .int .i64 b, .int .i64 c, .int .i64 d, .int .i64 e, .int .i64 f] 2).run Try.prog w = .ok (.int .i64 c) w := fun w => run_part_plain (P := Try.prog) w (by kernel_rfl) rfl
  have p3 : ∀ w, (part 3 #[.int .i64 a, .int .i64 b, .int .i64 c, .int .i64 d, .int .i64 e, .int .i64 f] 3).run Try.prog w = .ok (.int .i64 d) w := fun w => run_part_plain (P := Try.prog) w (by kernel_rfl) rfl
  have p4 : ∀ w, (part 3 #[.int .i64 a, .int .i64 b, .int .i64 c, .int .i64 d, .int .i64 e, .int .i64 f] 4).run Try.prog w = .ok (.int .i64 e) w := fun w => run_part_plain (P := Try.prog) w (by kernel_rfl) rfl
  have p5 : ∀ w, (part 3 #[.int .i64 a, .int .i64 b, .int .i64 c, .int .i64 d, .int .i64 e, .int .i64 f] 5).run Try.prog w = .ok (.int .i64 f) w := fun w => run_part_plain (P := Try.prog) w (by kernel_rfl) rfl
  simp [Program.fieldsOf, Try.underlying75, Op.eqFields, Sem.run_bind, p0, p1, p2, p3, p4, p5, hi0]

set_option maxRecDepth 100000 in
theorem neEv (a : Int) (b : Int) (c : Int) (d : Int) (e : Int) (f : Int) (g : Bool) (h : Int) (i : Int) (j : Int) (w : World) : (binOp .neq 175 (.agg #[.int .i64 a, .int .i64 b, .int .i64 c, .int .i64 d, .int .i64 e, .int .i64 f, .bool g, .int .i64 h, .int .i64 i, .int .i64 j]) (.agg #[.int .i64 a, .int .i64 b, .int .i64 c, .int .i64 d, .int .i64 e, .int .i64 f, .bool g, .int .i64 h, .int .i64 i, .int .i64 j])).run Try.prog w = .ok (.bool false) w := by
  rw [run_neq_struct, run_equalIn_struct w 9999 175 _ _ (by kernel_rfl) (by kernel_rfl)]
  have hi0 : ∀ (x : Int) (w : World), (Op.equalIn 9999 3 (.int .i64 x) (.int .i64 x)).run Try.prog w = .ok (x == x) w := fun x w => run_equalIn_int w 9998 3 .i64 .i64 x x Try.underlying3
  have hi1 : ∀ (x : Int) (w : World), (Op.equalIn 9999 2 (.int .i64 x) (.int .i64 x)).run Try.prog w = .ok (x == x) w := fun x w => run_equalIn_int w 9998 2 .i64 .i64 x x Try.underlying2
  have hi2 : ∀ (x : Bool) (w : World), (Op.equalIn 9999 4 (.bool x) (.bool x)).run Try.prog w = .ok (x == x) w := fun x w => run_equalIn_bool' w 9998 4 x x Try.underlying4
  have hi3 : ∀ (x : Int) (w : World), (Op.equalIn 9999 32 (.int .i64 x) (.int .i64 x)).run Try.prog w = .ok (x == x) w := fun x w => run_equalIn_int w 9998 32 .i64 .i64 x x Try.underlying32
  have p0 : ∀ w, (part 3 #[.int .i64 a, .int .i64 b, .int .i64 c, .int .i64 d, .int .i64 e, .int .i64 f, .bool g, .int .i64 h, .int .i64 i, .int .i64 j] 0).run Try.prog w = .ok (.int .i64 a) w := fun w => run_part_plain (P := Try.prog) w (by kernel_rfl) rfl
  have p1 : ∀ w, (part 3 #[.int .i64 a, .int .i64 b, .int .i64 c, .int .i64 d, .int .i64 e, .int .i64 f, .bool g, .int .i64 h, .int .i64 i, .int .i64 j] 1).run Try.prog w = .ok (.int .i64 b) w := fun w => run_part_plain (P := Try.prog) w (by kernel_rfl) rfl
  have p2 : ∀ w, (part 3 #[.int .i64 a, .int .i64 b, .int .i64 c, .int .i64 d, .int .i64 e, .int .i64 f, .bool g, .int .i64 h, .int .i64 i, .int .i64 j] 2).run Try.prog w = .ok (.int .i64 c) w := fun w => run_part_plain (P := Try.prog) w (by kernel_rfl) rfl
  have p3 : ∀ w, (part 3 #[.int .i64 a, .int .i64 b, .int .i64 c, .int .i64 d, .int .i64 e, .int .i64 f, .bool g, .int .i64 h, .int .i64 i, .int .i64 j] 3).run Try.prog w = .ok (.int .i64 d) w := fun w => run_part_plain (P := Try.prog) w (by kernel_rfl) rfl
  have p4 : ∀ w, (part 3 #[.int .i64 a, .int .i64 b, .int .i64 c, .int .i64 d, .int .i64 e, .int .i64 f, .bool g, .int .i64 h, .int .i64 i, .int .i64 j] 4).run Try.prog w = .ok (.int .i64 e) w := fun w => run_part_plain (P := Try.prog) w (by kernel_rfl) rfl
  have p5 : ∀ w, (part 2 #[.int .i64 a, .int .i64 b, .int .i64 c, .int .i64 d, .int .i64 e, .int .i64 f, .bool g, .int .i64 h, .int .i64 i, .int .i64 j] 5).run Try.prog w = .ok (.int .i64 f) w := fun w => run_part_plain (P := Try.prog) w (by kernel_rfl) rfl
  have p6 : ∀ w, (part 4 #[.int .i64 a, .int .i64 b, .int .i64 c, .int .i64 d, .int .i64 e, .int .i64 f, .bool g, .int .i64 h, .int .i64 i, .int .i64 j] 6).run Try.prog w = .ok (.bool g) w := fun w => run_part_plain (P := Try.prog) w (by kernel_rfl) rfl
  have p7 : ∀ w, (part 3 #[.int .i64 a, .int .i64 b, .int .i64 c, .int .i64 d, .int .i64 e, .int .i64 f, .bool g, .int .i64 h, .int .i64 i, .int .i64 j] 7).run Try.prog w = .ok (.int .i64 h) w := fun w => run_part_plain (P := Try.prog) w (by kernel_rfl) rfl
  have p8 : ∀ w, (part 32 #[.int .i64 a, .int .i64 b, .int .i64 c, .int .i64 d, .int .i64 e, .int .i64 f, .bool g, .int .i64 h, .int .i64 i, .int .i64 j] 8).run Try.prog w = .ok (.int .i64 i) w := fun w => run_part_plain (P := Try.prog) w (by kernel_rfl) rfl
  have p9 : ∀ w, (part 3 #[.int .i64 a, .int .i64 b, .int .i64 c, .int .i64 d, .int .i64 e, .int .i64 f, .bool g, .int .i64 h, .int .i64 i, .int .i64 j] 9).run Try.prog w = .ok (.int .i64 j) w := fun w => run_part_plain (P := Try.prog) w (by kernel_rfl) rfl
  simp [Program.fieldsOf, Try.underlying175, Op.eqFields, Sem.run_bind, p0, p1, p2, p3, p4, p5, p6, p7, p8, p9, hi0, hi1, hi2, hi3]

set_option maxRecDepth 100000 in
theorem neGt (a : Int) (b : Int) (w : World) : (binOp .neq 37 (.agg #[.int .i64 a, .int .i64 b]) (.agg #[.int .i64 a, .int .i64 b])).run Try.prog w = .ok (.bool false) w := by
  rw [run_neq_struct, run_equalIn_struct w 9999 37 _ _ (by kernel_rfl) (by kernel_rfl)]
  have hi0 : ∀ (x : Int) (w : World), (Op.equalIn 9999 3 (.int .i64 x) (.int .i64 x)).run Try.prog w = .ok (x == x) w := fun x w => run_equalIn_int w 9998 3 .i64 .i64 x x Try.underlying3
  have p0 : ∀ w, (part 3 #[.int .i64 a, .int .i64 b] 0).run Try.prog w = .ok (.int .i64 a) w := fun w => run_part_plain (P := Try.prog) w (by kernel_rfl) rfl
  have p1 : ∀ w, (part 3 #[.int .i64 a, .int .i64 b] 1).run Try.prog w = .ok (.int .i64 b) w := fun w => run_part_plain (P := Try.prog) w (by kernel_rfl) rfl
  simp [Program.fieldsOf, Try.underlying37, Op.eqFields, Sem.run_bind, p0, p1, hi0]

set_option maxRecDepth 100000 in
theorem eqGt (a : Int) (b : Int) (w : World) : (binOp .eql 37 (.agg #[.int .i64 a, .int .i64 b]) (.agg #[.int .i64 a, .int .i64 b])).run Try.prog w = .ok (.bool true) w := by
  rw [run_eql_struct, run_equalIn_struct w 9999 37 _ _ (by kernel_rfl) (by kernel_rfl)]
  have hi0 : ∀ (x : Int) (w : World), (Op.equalIn 9999 3 (.int .i64 x) (.int .i64 x)).run Try.prog w = .ok (x == x) w := fun x w => run_equalIn_int w 9998 3 .i64 .i64 x x Try.underlying3
  have p0 : ∀ w, (part 3 #[.int .i64 a, .int .i64 b] 0).run Try.prog w = .ok (.int .i64 a) w := fun w => run_part_plain (P := Try.prog) w (by kernel_rfl) rfl
  have p1 : ∀ w, (part 3 #[.int .i64 a, .int .i64 b] 1).run Try.prog w = .ok (.int .i64 b) w := fun w => run_part_plain (P := Try.prog) w (by kernel_rfl) rfl
  simp [Program.fieldsOf, Try.underlying37, Op.eqFields, Sem.run_bind, p0, p1, hi0]

end Go.Proofs.Ytpojkkdmlpjfeaa
