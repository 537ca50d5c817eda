/- A config is the same as itself; so is an event. -/
import Derived.Test.YtajfjkhbimehbaaGreatSpE
import Derived.Test.YtajfjkhbimehbaaGreatEq
namespace Go.Proofs.YtajfjkhbimehbaaGreat
open Go.RowKit
set_option linter.unusedVariables false
set_option linter.unusedSimpArgs false
attribute [local go_sem ↓] Go.wp_at_zero Go.wp_at_succ

set_option maxRecDepth 100000 in
theorem eqCfg (a : Int) (b : Int) (c : Int) (d : Int) (e : Int) (f : Int) (w : World) : (binOp .eql 23 (.agg #[.int .i64 a, .int .i64 b, .int .i64 c, .int .i64 d, .int .i64 e, .int .i64 f]) (.agg #[.int .i64 a, .int .i64 b, .int .i64 c, .int .i64 d, .int .i64 e, .int .i64 f])).run Tryz.prog w = .ok (.bool true) w := by
  rw [run_eql_struct, run_equalIn_struct w 9999 23 _ _ (by kernel_rfl) (by kernel_rfl)]
  have hi0 : ∀ (x : Int) (w : World), (Op.equalIn 9999 3 (.int .i64 x) (.int .i64 x)).run Tryz.prog w = .ok (x == x) w := fun x w => run_equalIn_int w 9998 3 .i64 .i64 x x Tryz.underlying3
  have p0 : ∀ w, (part 3 #[.int .i64 a, .int .i64 b, .int .i64 c, .int .i64 d, .int .i64 e, .int .i64 f] 0).run Tryz.prog w = .ok (.int .i64 a) w := fun w => run_part_plain (P := Tryz.prog) w (by kernel_rfl) rfl
  have p1 : ∀ w, (part 3 #[.int .i64 a, .int .i64 b, .int .i64 c, .int .i64 d, .int .i64 e, .int .i64 f] 1).run Tryz.prog w = .ok (.int .i64 b) w := fun w => run_part_plain (P := Tryz.prog) w (by kernel_rfl) rfl
  have p2 : ∀ w, (part 3 #[.int .i64 a, .int .i64 b, .int .i64 c, .int .i64 d, .int .i64 e, .int .i64 f] 2).run Tryz.prog w = .ok (.int .i64 c) w := fun w => run_part_plain (P := Tryz.prog) w (by kernel_rfl) rfl
  have p3 : ∀ w, (part 3 #[.int .i64 a, .int .i64 b, .int .i64 c, .int .i64 d, .int .i64 e, .int .i64 f] 3).run Tryz.prog w = .ok (.int .i64 d) w := fun w => run_part_plain (P := Tryz.prog) w (by kernel_rfl) rfl
  have p4 : ∀ w, (part 3 #[.int .i64 a, .int .i64 b, .int .i64 c, .int .i64 d, .int .i64 e, .int .i64 f] 4).run Tryz.prog w = .ok (.int .i64 e) w := fun w => run_part_plain (P := Tryz.prog) w (by kernel_rfl) rfl
  have p5 : ∀ w, (part 3 #[.int .i64 a, .int .i64 b, .int .i64 c, .int .i64 d, .int .i64 e, .int .i64 f] 5).run Tryz.prog w = .ok (.int .i64 f) w := fun w => run_part_plain (P := Tryz.prog) w (by kernel_rfl) rfl
  simp [Program.fieldsOf, Tryz.underlying23, Op.eqFields, Sem.run_bind, p0, p1, p2, p3, p4, p5, hi0]

set_option maxRecDepth 100000 in
theorem neEv (a : Int) (b : Int) (c : Int) (d : Int) (e : Int) (f : Int) (g : Bool) (h : Int) (i : Int) (j : Int) (w : World) : (binOp .neq 209 (.agg #[.int .i64 a, .int .i64 b, .int .i64 c, .int .i64 d, .int .i64 e, .int .i64 f, .bool g, .int .i64 h, .int .i64 i, .int .i64 j]) (.agg #[.int .i64 a, .int .i64 b, .int .i64 c, .int .i64 d, .int .i64 e, .int .i64 f, .bool g, .int .i64 h, .int .i64 i, .int .i64 j])).run Tryz.prog w = .ok (.bool false) w := by
  rw [run_neq_struct, run_equalIn_struct w 9999 209 _ _ (by kernel_rfl) (by kernel_rfl)]
  have hi0 : ∀ (x : Int) (w : World), (Op.equalIn 9999 3 (.int .i64 x) (.int .i64 x)).run Tryz.prog w = .ok (x == x) w := fun x w => run_equalIn_int w 9998 3 .i64 .i64 x x Tryz.underlying3
  have hi1 : ∀ (x : Int) (w : World), (Op.equalIn 9999 2 (.int .i64 x) (.int .i64 x)).run Tryz.prog w = .ok (x == x) w := fun x w => run_equalIn_int w 9998 2 .i64 .i64 x x Tryz.underlying2
  have hi2 : ∀ (x : Bool) (w : World), (Op.equalIn 9999 4 (.bool x) (.bool x)).run Tryz.prog w = .ok (x == x) w := fun x w => run_equalIn_bool' w 9998 4 x x Tryz.underlying4
  have hi3 : ∀ (x : Int) (w : World), (Op.equalIn 9999 28 (.int .i64 x) (.int .i64 x)).run Tryz.prog w = .ok (x == x) w := fun x w => run_equalIn_int w 9998 28 .i64 .i64 x x Tryz.underlying28
  have p0 : ∀ w, (part 3 #[.int .i64 a, .int .i64 b, .int .i64 c, .int .i64 d, .int .i64 e, .int .i64 f, .bool g, .int .i64 h, .int .i64 i, .int .i64 j] 0).run Tryz.prog w = .ok (.int .i64 a) w := fun w => run_part_plain (P := Tryz.prog) w (by kernel_rfl) rfl
  have p1 : ∀ w, (part 3 #[.int .i64 a, .int .i64 b, .int .i64 c, .int .i64 d, .int .i64 e, .int .i64 f, .bool g, .int .i64 h, .int .i64 i, .int .i64 j] 1).run Tryz.prog w = .ok (.int .i64 b) w := fun w => run_part_plain (P := Tryz.prog) w (by kernel_rfl) rfl
  have p2 : ∀ w, (part 3 #[.int .i64 a, .int .i64 b, .int .i64 c, .int .i64 d, .int .i64 e, .int .i64 f, .bool g, .int .i64 h, .int .i64 i, .int .i64 j] 2).run Tryz.prog w = .ok (.int .i64 c) w := fun w => run_part_plain (P := Tryz.prog) w (by kernel_rfl) rfl
  have p3 : ∀ w, (part 3 #[.int .i64 a, .int .i64 b, .int .i64 c, .int .i64 d, .int .i64 e, .int .i64 f, .bool g, .int .i64 h, .int .i64 i, .int .i64 j] 3).run Tryz.prog w = .ok (.int .i64 d) w := fun w => run_part_plain (P := Tryz.prog) w (by kernel_rfl) rfl
  have p4 : ∀ w, (part 3 #[.int .i64 a, .int .i64 b, .int .i64 c, .int .i64 d, .int .i64 e, .int .i64 f, .bool g, .int .i64 h, .int .i64 i, .int .i64 j] 4).run Tryz.prog w = .ok (.int .i64 e) w := fun w => run_part_plain (P := Tryz.prog) w (by kernel_rfl) rfl
  have p5 : ∀ w, (part 2 #[.int .i64 a, .int .i64 b, .int .i64 c, .int .i64 d, .int .i64 e, .int .i64 f, .bool g, .int .i64 h, .int .i64 i, .int .i64 j] 5).run Tryz.prog w = .ok (.int .i64 f) w := fun w => run_part_plain (P := Tryz.prog) w (by kernel_rfl) rfl
  have p6 : ∀ w, (part 4 #[.int .i64 a, .int .i64 b, .int .i64 c, .int .i64 d, .int .i64 e, .int .i64 f, .bool g, .int .i64 h, .int .i64 i, .int .i64 j] 6).run Tryz.prog w = .ok (.bool g) w := fun w => run_part_plain (P := Tryz.prog) w (by kernel_rfl) rfl
  have p7 : ∀ w, (part 3 #[.int .i64 a, .int .i64 b, .int .i64 c, .int .i64 d, .int .i64 e, .int .i64 f, .bool g, .int .i64 h, .int .i64 i, .int .i64 j] 7).run Tryz.prog w = .ok (.int .i64 h) w := fun w => run_part_plain (P := Tryz.prog) w (by kernel_rfl) rfl
  have p8 : ∀ w, (part 28 #[.int .i64 a, .int .i64 b, .int .i64 c, .int .i64 d, .int .i64 e, .int .i64 f, .bool g, .int .i64 h, .int .i64 i, .int .i64 j] 8).run Tryz.prog w = .ok (.int .i64 i) w := fun w => run_part_plain (P := Tryz.prog) w (by kernel_rfl) rfl
  have p9 : ∀ w, (part 3 #[.int .i64 a, .int .i64 b, .int .i64 c, .int .i64 d, .int .i64 e, .int .i64 f, .bool g, .int .i64 h, .int .i64 i, .int .i64 j] 9).run Tryz.prog w = .ok (.int .i64 j) w := fun w => run_part_plain (P := Tryz.prog) w (by kernel_rfl) rfl
  simp [Program.fieldsOf, Tryz.underlying209, Op.eqFields, Sem.run_bind, p0, p1, p2, p3, p4, p5, p6, p7, p8, p9, hi0, hi1, hi2, hi3]

set_option maxRecDepth 100000 in
theorem neGt (a : Int) (b : Int) (w : World) : (binOp .neq 88 (.agg #[.int .i64 a, .int .i64 b]) (.agg #[.int .i64 a, .int .i64 b])).run Tryz.prog w = .ok (.bool false) w := by
  rw [run_neq_struct, run_equalIn_struct w 9999 88 _ _ (by kernel_rfl) (by kernel_rfl)]
  have hi0 : ∀ (x : Int) (w : World), (Op.equalIn 9999 3 (.int .i64 x) (.int .i64 x)).run Tryz.prog w = .ok (x == x) w := fun x w => run_equalIn_int w 9998 3 .i64 .i64 x x Tryz.underlying3
  have p0 : ∀ w, (part 3 #[.int .i64 a, .int .i64 b] 0).run Tryz.prog w = .ok (.int .i64 a) w := fun w => run_part_plain (P := Tryz.prog) w (by kernel_rfl) rfl
  have p1 : ∀ w, (part 3 #[.int .i64 a, .int .i64 b] 1).run Tryz.prog w = .ok (.int .i64 b) w := fun w => run_part_plain (P := Tryz.prog) w (by kernel_rfl) rfl
  simp [Program.fieldsOf, Tryz.underlying88, Op.eqFields, Sem.run_bind, p0, p1, hi0]

set_option maxRecDepth 100000 in
theorem eqGt (a : Int) (b : Int) (w : World) : (binOp .eql 88 (.agg #[.int .i64 a, .int .i64 b]) (.agg #[.int .i64 a, .int .i64 b])).run Tryz.prog w = .ok (.bool true) w := by
  rw [run_eql_struct, run_equalIn_struct w 9999 88 _ _ (by kernel_rfl) (by kernel_rfl)]
  have hi0 : ∀ (x : Int) (w : World), (Op.equalIn 9999 3 (.int .i64 x) (.int .i64 x)).run Tryz.prog w = .ok (x == x) w := fun x w => run_equalIn_int w 9998 3 .i64 .i64 x x Tryz.underlying3
  have p0 : ∀ w, (part 3 #[.int .i64 a, .int .i64 b] 0).run Tryz.prog w = .ok (.int .i64 a) w := fun w => run_part_plain (P := Tryz.prog) w (by kernel_rfl) rfl
  have p1 : ∀ w, (part 3 #[.int .i64 a, .int .i64 b] 1).run Tryz.prog w = .ok (.int .i64 b) w := fun w => run_part_plain (P := Tryz.prog) w (by kernel_rfl) rfl
  simp [Program.fieldsOf, Tryz.underlying88, Op.eqFields, Sem.run_bind, p0, p1, hi0]

set_option maxRecDepth 100000 in
theorem spConfig {o w : World} {its : List It} {A : Ad} {c : Cfg} {z : SSt} {v u : Value} (h : St o its w) (i : Nat) (hi : its[i]? = some (spI A c z v u)) :
    Calls Tryz.prog 33 #[spp A] w fun e w' => e = .returned c.val ∧ St o its w' := by
  have h0 := h.box #[.int .i64 0, .int .i64 0, .int .i64 0, .int .i64 0, .int .i64 0, .int .i64 0] 23
  obtain ⟨ce, sl, bi, ta, ba, de⟩ := c
  clear h
  unfold spp Cfg.val
  simp only
  go_enter Tryz.func33, Tryz.ntmps33
  go_upto_region 1 with fail
  generalize w.alloc (.cells #[.int .i64 0, .int .i64 0, .int .i64 0, .int .i64 0, .int .i64 0, .int .i64 0] 23) = W0 at *
  generalize w.heap.size = B at *
  have c1 : W0.cell? ⟨A.sp, 1, none⟩ = some (.int .i64 ce) := spCell h0 (i + 1) hi 1
  have c2 : W0.cell? ⟨A.sp, 2, none⟩ = some (.int .i64 sl) := spCell h0 (i + 1) hi 2
  have c3 : W0.cell? ⟨A.sp, 3, none⟩ = some (.int .i64 bi) := spCell h0 (i + 1) hi 3
  have c4 : W0.cell? ⟨A.sp, 4, none⟩ = some (.int .i64 ta) := spCell h0 (i + 1) hi 4
  have c5 : W0.cell? ⟨A.sp, 5, none⟩ = some (.int .i64 ba) := spCell h0 (i + 1) hi 5
  have c6 : W0.cell? ⟨A.sp, 6, none⟩ = some (.int .i64 de) := spCell h0 (i + 1) hi 6
  have b0 : W0.cell? ⟨B, 0, none⟩ = some (.int .i64 0) := h0.cell 0 rfl 0
  have b1 : W0.cell? ⟨B, 1, none⟩ = some (.int .i64 0) := h0.cell 0 rfl 1
  have b2 : W0.cell? ⟨B, 2, none⟩ = some (.int .i64 0) := h0.cell 0 rfl 2
  have b3 : W0.cell? ⟨B, 3, none⟩ = some (.int .i64 0) := h0.cell 0 rfl 3
  have b4 : W0.cell? ⟨B, 4, none⟩ = some (.int .i64 0) := h0.cell 0 rfl 4
  have b5 : W0.cell? ⟨B, 5, none⟩ = some (.int .i64 0) := h0.cell 0 rfl 5
  have f0 : W0.frozen? ⟨B, 0, none⟩ = false := h0.frozen 0 rfl 0
  have f1 : W0.frozen? ⟨B, 1, none⟩ = false := h0.frozen 0 rfl 1
  have f2 : W0.frozen? ⟨B, 2, none⟩ = false := h0.frozen 0 rfl 2
  have f3 : W0.frozen? ⟨B, 3, none⟩ = false := h0.frozen 0 rfl 3
  have f4 : W0.frozen? ⟨B, 4, none⟩ = false := h0.frozen 0 rfl 4
  have f5 : W0.frozen? ⟨B, 5, none⟩ = false := h0.frozen 0 rfl 5
  have HS : Hid (∀ u0 u1 u2 u3 u4 u5, St o its ((((((W0.setCell ⟨B, 0, none⟩ u0).setCell ⟨B, 1, none⟩ u1).setCell ⟨B, 2, none⟩ u2).setCell ⟨B, 3, none⟩ u3).setCell ⟨B, 4, none⟩ u4).setCell ⟨B, 5, none⟩ u5)) := fun u0 u1 u2 u3 u4 u5 => ((((((h0.write 0 rfl 0 u0).write 0 rfl 1 u1).write 0 rfl 2 u2).write 0 rfl 3 u3).write 0 rfl 4 u4).write 0 rfl 5 u5).pop
  clear h0 hi
  go_wp2
  exact bodyPost_ret (v := .agg #[.int .i64 ce, .int .i64 sl, .int .i64 bi, .int .i64 ta, .int .i64 ba, .int .i64 de]) (by simp [results, Tryz.results33, go_sem, b0, b1, b2, b3, b4, b5]) rfl ⟨rfl, HS.out _ _ _ _ _ _⟩
end Go.Proofs.YtajfjkhbimehbaaGreat
