/- Package ghost: put, where a story begins. -/
import Derived.Test.YtnmlnjljmikmpaaGc

namespace Go.Proofs.Ytnmlnjljmikmpaa
open Go.RowKit Go.MapKept
open Go.Maps (Keyed)
set_option linter.unusedVariables false
set_option linter.unusedSimpArgs false
attribute [local go_sem ↓] Go.wp_at_zero Go.wp_at_succ

theorem buildS (W : World) (a b c d : Int) : (Instr.buildSlice 23 1 #[(0, .agg #[.int .i64 a, .int .i64 b, .int .i64 c, .int .i64 0, .int .i64 0, .int .i64 0, .int .i64 0, .int .i64 d, .int .i64 0, .slice none 0 0])]).run Try.prog W = .ok (.slice (some ⟨W.heap.size, 0, none⟩) 1 1) (W.alloc (.cells #[.int .i64 a, .int .i64 b, .int .i64 c, .int .i64 0, .int .i64 0, .int .i64 0, .int .i64 0, .int .i64 d, .int .i64 0, .slice none 0 0] 44)) := by kernel_rfl
theorem alloc_cell {w : World} {a : Addr} {u : Value} (h : w.cell? a = some u) (x : Obj) : (w.alloc x).cell? a = some u := by
  rw [World.cell?_of_block (Below.heap_alloc w _ a.block (World.block_lt_of_cell? w _ h))]; exact h
theorem perm5 (a b c d e : It) (M R : List It) : (a :: b :: c :: d :: e :: (M ++ R)).Perm (d :: c :: e :: b :: ((M ++ [a]) ++ R)) := by
  have h1 : (d :: c :: e :: b :: ((M ++ [a]) ++ R)).Perm (a :: (d :: c :: e :: b :: (M ++ R))) := by
    have := List.perm_middle (l₁ := d :: c :: e :: b :: M) (a := a) (l₂ := R)
    simpa using this
  have h2 : (d :: c :: e :: b :: (M ++ R)).Perm (b :: d :: c :: e :: (M ++ R)) := List.perm_middle (l₁ := [d, c, e]) (a := b) (l₂ := M ++ R)
  exact (h1.trans ((h2.trans ((List.Perm.swap _ _ _).cons b)).cons a)).symm
end Go.Proofs.Ytnmlnjljmikmpaa
