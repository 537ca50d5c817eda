/- A slot is the same as itself; a signature is the same as itself. Own lists that are written and grown. A config is the same as itself; so is an event. -/
import Derived.Test.YthbcbjkgjgmegaaGreatTabN
import Derived.ChangeKeysEq
import Derived.Test.YthbcbjkgjgmegaaGreatSpE
namespace Go.Proofs.YthbcbjkgjgmegaaGreat
open Go.RowKit
set_option linter.unusedVariables false
set_option linter.unusedSimpArgs false

set_option maxRecDepth 100000 in
theorem eqWords (d : Nat) (a b : Int) (w : World) : (Op.equalIn (d + 2) 130 (.agg #[.int .u64 a, .int .u64 b]) (.agg #[.int .u64 a, .int .u64 b])).run Tryz.prog w = .ok true w := by
  obtain ⟨i0, hi0, hz0, hz1, hz2⟩ := info_parts (show (Tryz.prog.info? 128).map (fun i => (i.zero, i.size, i.bytes)) = some (some (.int .u64 0), 1, 8) from by kernel_rfl)
  rw [run_equalIn_array (d := d + 1) w _ _ Tryz.underlying130 hi0, show Tryz.prog.cellsOf 128 = 1 from by kernel_rfl]
  show (Op.eqItems (d + 1) 128 1 _ _ [0, 1]).run Tryz.prog w = _
  have hp : ∀ (x y : Int) (w : World), (part 128 #[.int .u64 x, .int .u64 y] 0).run Tryz.prog w = .ok (.int .u64 x) w := fun x y w => run_part_plain (P := Tryz.prog) w (by kernel_rfl) rfl
  have hq : ∀ (x y : Int) (w : World), (part 128 #[.int .u64 x, .int .u64 y] 1).run Tryz.prog w = .ok (.int .u64 y) w := fun x y w => run_part_plain (P := Tryz.prog) w (by kernel_rfl) rfl
  have he : ∀ (x : Int) (w : World), (Op.equalIn (d + 1) 128 (.int .u64 x) (.int .u64 x)).run Tryz.prog w = .ok (x == x) w := fun x w => run_equalIn_int w d 128 .u64 .u64 x x Tryz.underlying128
  simp only [Op.eqItems, Sem.run_bind, Nat.zero_mul, Nat.one_mul, hp, hq, he, beq_self_eq_true, Result.andThen_ok, Bool.not_true, Bool.false_eq_true, if_false, Sem.run_pure]
set_option maxRecDepth 100000 in
theorem eqHead (d : Nat) (a b c e : Int) (f : Bool) (g : Int) (w : World) : (Op.equalIn (d + 2) 181 (.agg #[.int .i64 a, .int .i64 b, .int .i64 c, .int .i64 e, .bool f, .int .i64 g]) (.agg #[.int .i64 a, .int .i64 b, .int .i64 c, .int .i64 e, .bool f, .int .i64 g])).run Tryz.prog w = .ok true w := by
  rw [run_equalIn_struct w (d + 1) 181 _ _ (by kernel_rfl) (by kernel_rfl)]
  have hi : ∀ (x : Int) (w : World), (Op.equalIn (d + 1) 3 (.int .i64 x) (.int .i64 x)).run Tryz.prog w = .ok (x == x) w := fun x w => run_equalIn_int w d 3 .i64 .i64 x x Tryz.underlying3
  have hb : ∀ (x : Bool) (w : World), (Op.equalIn (d + 1) 4 (.bool x) (.bool x)).run Tryz.prog w = .ok (x == x) w := fun x w => run_equalIn_bool' w d 4 x x Tryz.underlying4
  have p0 : ∀ w, (part 3 #[.int .i64 a, .int .i64 b, .int .i64 c, .int .i64 e, .bool f, .int .i64 g] 0).run Tryz.prog w = .ok (.int .i64 a) w := fun w => run_part_plain (P := Tryz.prog) w (by kernel_rfl) rfl
  have p1 : ∀ w, (part 3 #[.int .i64 a, .int .i64 b, .int .i64 c, .int .i64 e, .bool f, .int .i64 g] 1).run Tryz.prog w = .ok (.int .i64 b) w := fun w => run_part_plain (P := Tryz.prog) w (by kernel_rfl) rfl
  have p2 : ∀ w, (part 3 #[.int .i64 a, .int .i64 b, .int .i64 c, .int .i64 e, .bool f, .int .i64 g] 2).run Tryz.prog w = .ok (.int .i64 c) w := fun w => run_part_plain (P := Tryz.prog) w (by kernel_rfl) rfl
  have p3 : ∀ w, (part 3 #[.int .i64 a, .int .i64 b, .int .i64 c, .int .i64 e, .bool f, .int .i64 g] 3).run Tryz.prog w = .ok (.int .i64 e) w := fun w => run_part_plain (P := Tryz.prog) w (by kernel_rfl) rfl
  have p4 : ∀ w, (part 4 #[.int .i64 a, .int .i64 b, .int .i64 c, .int .i64 e, .bool f, .int .i64 g] 4).run Tryz.prog w = .ok (.bool f) w := fun w => run_part_plain (P := Tryz.prog) w (by kernel_rfl) rfl
  have p5 : ∀ w, (part 3 #[.int .i64 a, .int .i64 b, .int .i64 c, .int .i64 e, .bool f, .int .i64 g] 5).run Tryz.prog w = .ok (.int .i64 g) w := fun w => run_part_plain (P := Tryz.prog) w (by kernel_rfl) rfl
  simp [Program.fieldsOf, Tryz.underlying181, Op.eqFields, Sem.run_bind, p0, p1, p2, p3, p4, p5, hi, hb]
set_option maxRecDepth 100000 in
theorem eqSlot (a b c e : Int) (f : Bool) (g x y : Int) (w : World) : (binOp .neq 249 (.agg #[.int .i64 a, .int .i64 b, .int .i64 c, .int .i64 e, .bool f, .int .i64 g, .int .u64 x, .int .u64 y]) (.agg #[.int .i64 a, .int .i64 b, .int .i64 c, .int .i64 e, .bool f, .int .i64 g, .int .u64 x, .int .u64 y])).run Tryz.prog w = .ok (.bool false) w := by
  rw [run_neq_struct, run_equalIn_struct w 9999 249 _ _ (by kernel_rfl) (by kernel_rfl)]
  have p0 : ∀ w, (part 181 #[.int .i64 a, .int .i64 b, .int .i64 c, .int .i64 e, .bool f, .int .i64 g, .int .u64 x, .int .u64 y] 0).run Tryz.prog w = .ok (.agg #[.int .i64 a, .int .i64 b, .int .i64 c, .int .i64 e, .bool f, .int .i64 g]) w := fun w => by kernel_rfl
  have p1 : ∀ w, (part 130 #[.int .i64 a, .int .i64 b, .int .i64 c, .int .i64 e, .bool f, .int .i64 g, .int .u64 x, .int .u64 y] 6).run Tryz.prog w = .ok (.agg #[.int .u64 x, .int .u64 y]) w := fun w => by kernel_rfl
  have h0 := eqHead 9997 a b c e f g
  have h1 := eqWords 9997 x y
  simp [Program.fieldsOf, Tryz.underlying249, Op.eqFields, Sem.run_bind, p0, p1, h0, h1]
set_option maxRecDepth 100000 in
theorem eqSig (x y : Int) (w : World) : (binOp .neq 130 (.agg #[.int .u64 x, .int .u64 y]) (.agg #[.int .u64 x, .int .u64 y])).run Tryz.prog w = .ok (.bool false) w := by
  rw [run_neq_struct, eqWords 9998 x y w]
  rfl
end Go.Proofs.YthbcbjkgjgmegaaGreat

namespace Go.Proofs.YthbcbjkgjgmegaaGreat
open Go.RowKit
set_option linter.unusedVariables false
set_option linter.unusedSimpArgs false

theorem own_set {w : World} {b e z g n cap : Nat} {xs : List Value} (h : w.ownsRow b e z (.slice (some ⟨g, 0, none⟩) n cap) n xs) (j : Nat) (hj : j < n * z) (x : Value) : (w.setCell ⟨g, j, none⟩ x).ownsRow b e z (.slice (some ⟨g, 0, none⟩) n cap) n (xs.set j x) := by
  obtain ⟨h1, h2⟩ := h
  refine ⟨by simpa using h1, ?_⟩
  rcases h2 with ⟨hv, _⟩ | ⟨g', cap', cur, hv, hb, hg, hn, hc, hs, ht⟩
  · cases hv
  · simp only [Value.slice.injEq, Option.some.injEq, Addr.mk.injEq, true_and, and_true] at hv
    obtain ⟨rfl, rfl⟩ := hv
    refine .inr ⟨g, cap, cur.setIfInBounds j x, rfl, hb, heap_setCell_at hg x, hn, hc, by simpa using hs, ?_⟩
    rw [Array.toList_setIfInBounds, List.take_set, ht]
theorem St.ownSet {o w : World} {its : List It} (h : St o its w) (i : Nat) {e : TypeId} {z g n cap : Nat} {xs : List Value} (hi : its[i]? = some (ownI e z (.slice (some ⟨g, 0, none⟩) n cap) n xs)) (j : Nat) (hj : j < n * z) (x : Value) : St o (its.set i (ownI e z (.slice (some ⟨g, 0, none⟩) n cap) n (xs.set j x))) (w.setCell ⟨g, j, none⟩ x) :=
  h.set i hi ((Kept.refl _ w).setCell x (.inl (by simp [ownI, Value.ownBlock]))) (own_set (show w.ownsRow 0 e z (.slice (some ⟨g, 0, none⟩) n cap) n xs from h.get i hi) j hj x) (own_nodup (.slice (some ⟨g, 0, none⟩) n cap)) (fun b hb => .inl hb)
/-- An own list grown: what lay beside it stays. -/
theorem St.ownGrow {o w w' : World} {its : List It} (h : St o its w) (i : Nat) {e : TypeId} {z n n' : Nat} {v v' : Value} {xs xs' : List Value} (hi : its[i]? = some (ownI e z v n xs)) (p : w'.ownsRow 0 e z v' n' xs') (k : Kept (fun b => v.ownBlock = some b) w w') (hf : v'.ownBlock = v.ownBlock ∨ ∃ g, v'.ownBlock = some g ∧ w.heap.size ≤ g) : St o (its.set i (ownI e z v' n' xs')) w' := by
  refine h.set i hi (k.mono (fun b _ hb => by simp [ownI, hb])) p (own_nodup v') (fun b hb => ?_)
  simp only [ownI] at hb ⊢
  rcases hf with hf | ⟨g, hg, hlt⟩
  · rw [hf] at hb; exact .inl hb
  · rw [hg] at hb
    right
    simp at hb
    omega
theorem St.form {o w : World} {its : List It} (h : St o its w) (i : Nat) {e : TypeId} {z n : Nat} {v : Value} {xs : List Value} (hi : its[i]? = some (ownI e z v n xs)) (h0 : 0 < n) : ∃ g cap, v = .slice (some ⟨g, 0, none⟩) n cap := by
  have p : w.ownsRow 0 e z v n xs := h.get i hi
  obtain ⟨g, cap, e, _, _⟩ := p.form h0
  exact ⟨g, cap, e⟩
theorem St.ownCell {o w : World} {its : List It} (h : St o its w) (i : Nat) {e : TypeId} {z g n cap : Nat} {xs : List Value} (hi : its[i]? = some (ownI e z (.slice (some ⟨g, 0, none⟩) n cap) n xs)) (j : Nat) (hj : j < n * z) : w.cell? ⟨g, j, none⟩ = xs[j]? := by
  have p : w.ownsRow 0 e z (.slice (some ⟨g, 0, none⟩) n cap) n xs := h.get i hi
  exact p.cellAt j hj
theorem St.ownFrozen {o w : World} {its : List It} (h : St o its w) (i : Nat) {e : TypeId} {z g n cap : Nat} {xs : List Value} (hi : its[i]? = some (ownI e z (.slice (some ⟨g, 0, none⟩) n cap) n xs)) (j : Nat) : w.frozen? ⟨g, j, none⟩ = false := by
  have p : w.ownsRow 0 e z (.slice (some ⟨g, 0, none⟩) n cap) n xs := h.get i hi
  exact p.frozenAt j
theorem St.ownCap {o w : World} {its : List It} (h : St o its w) (i : Nat) {e : TypeId} {z g n cap : Nat} {xs : List Value} (hi : its[i]? = some (ownI e z (.slice (some ⟨g, 0, none⟩) n cap) n xs)) : xs.length = n * z := by
  have p : w.ownsRow 0 e z (.slice (some ⟨g, 0, none⟩) n cap) n xs := h.get i hi
  exact p.1
end Go.Proofs.YthbcbjkgjgmegaaGreat

namespace Go.Proofs.YthbcbjkgjgmegaaGreat
open Go.RowKit
set_option linter.unusedVariables false
set_option linter.unusedSimpArgs false
attribute [local go_sem ↓] Go.wp_at_zero Go.wp_at_succ

set_option maxRecDepth 100000 in
theorem eqCfg (a : Int) (b : Int) (c : Int) (d : Int) (e : Int) (f : Int) (w : World) : (binOp .eql 24 (.agg #[.int .i64 a, .int .i64 b, .int .i64 c, .int .i64 d, .int .i64 e, .int .i64 f]) (.agg #[.int .i64 a, .int .i64 b, .int .i64 c, .int .i64 d, .int .i64 e, .int .i64 f])).run Tryz.prog w = .ok (.bool true) w := by
  rw [run_eql_struct, run_equalIn_struct w 9999 24 _ _ (by kernel_rfl) (by kernel_rfl)]
  have hi0 : ∀ (x : Int) (w : World), (Op.equalIn 9999 3 (.int .i64 x) (.int .i64 x)).run Tryz.prog w = .ok (x == x) w := fun x w => run_equalIn_int w 9998 3 .i64 .i64 x x Tryz.underlying3
  have p0 : ∀ w, (part 3 #[.int .i64 a, .int .i64 b, .int .i64 c, .int .i64 d, .int .i64 e, .int .i64 f] 0).run Tryz.prog w = .ok (.int .i64 a) w := fun w => run_part_plain (P := Tryz.prog) w (by kernel_rfl) rfl
  have p1 : ∀ w, (part 3 #[.int .i64 a, .int .i64 b, .int .i64 c, .int .i64 d, .int .i64 e, .int .i64 f] 1).run Tryz.prog w = .ok (.int .i64 b) w := fun w => run_part_plain (P := Tryz.prog) w (by kernel_rfl) rfl
  have p2 : ∀ w, (part 3 #[.int .i64 a, .int .i64 b, .int .i64 c, .int .i64 d, .int .i64 e, .int .i64 f] 2).run Tryz.prog w = .ok (.int .i64 c) w := fun w => run_part_plain (P := Tryz.prog) w (by kernel_rfl) rfl
  have p3 : ∀ w, (part 3 #[.int .i64 a, .int .i64 b, .int .i64 c, .int .i64 d, .int .i64 e, .int .i64 f] 3).run Tryz.prog w = .ok (.int .i64 d) w := fun w => run_part_plain (P := Tryz.prog) w (by kernel_rfl) rfl
  have p4 : ∀ w, (part 3 #[.int .i64 a, .int .i64 b, .int .i64 c, .int .i64 d, .int .i64 e, .int .i64 f] 4).run Tryz.prog w = .ok (.int .i64 e) w := fun w => run_part_plain (P := Tryz.prog) w (by kernel_rfl) rfl
  have p5 : ∀ w, (part 3 #[.int .i64 a, .int .i64 b, .int .i64 c, .int .i64 d, .int .i64 e, .int .i64 f] 5).run Tryz.prog w = .ok (.int .i64 f) w := fun w => run_part_plain (P := Tryz.prog) w (by kernel_rfl) rfl
  simp [Program.fieldsOf, Tryz.underlying24, Op.eqFields, Sem.run_bind, p0, p1, p2, p3, p4, p5, hi0]

set_option maxRecDepth 100000 in
theorem neEv (a : Int) (b : Int) (c : Int) (d : Int) (e : Int) (f : Int) (g : Bool) (h : Int) (i : Int) (j : Int) (w : World) : (binOp .neq 145 (.agg #[.int .i64 a, .int .i64 b, .int .i64 c, .int .i64 d, .int .i64 e, .int .i64 f, .bool g, .int .i64 h, .int .i64 i, .int .i64 j]) (.agg #[.int .i64 a, .int .i64 b, .int .i64 c, .int .i64 d, .int .i64 e, .int .i64 f, .bool g, .int .i64 h, .int .i64 i, .int .i64 j])).run Tryz.prog w = .ok (.bool false) w := by
  rw [run_neq_struct, run_equalIn_struct w 9999 145 _ _ (by kernel_rfl) (by kernel_rfl)]
  have hi0 : ∀ (x : Int) (w : World), (Op.equalIn 9999 3 (.int .i64 x) (.int .i64 x)).run Tryz.prog w = .ok (x == x) w := fun x w => run_equalIn_int w 9998 3 .i64 .i64 x x Tryz.underlying3
  have hi1 : ∀ (x : Int) (w : World), (Op.equalIn 9999 2 (.int .i64 x) (.int .i64 x)).run Tryz.prog w = .ok (x == x) w := fun x w => run_equalIn_int w 9998 2 .i64 .i64 x x Tryz.underlying2
  have hi2 : ∀ (x : Bool) (w : World), (Op.equalIn 9999 4 (.bool x) (.bool x)).run Tryz.prog w = .ok (x == x) w := fun x w => run_equalIn_bool' w 9998 4 x x Tryz.underlying4
  have hi3 : ∀ (x : Int) (w : World), (Op.equalIn 9999 27 (.int .i64 x) (.int .i64 x)).run Tryz.prog w = .ok (x == x) w := fun x w => run_equalIn_int w 9998 27 .i64 .i64 x x Tryz.underlying27
  have p0 : ∀ w, (part 3 #[.int .i64 a, .int .i64 b, .int .i64 c, .int .i64 d, .int .i64 e, .int .i64 f, .bool g, .int .i64 h, .int .i64 i, .int .i64 j] 0).run Tryz.prog w = .ok (.int .i64 a) w := fun w => run_part_plain (P := Tryz.prog) w (by kernel_rfl) rfl
  have p1 : ∀ w, (part 3 #[.int .i64 a, .int .i64 b, .int .i64 c, .int .i64 d, .int .i64 e, .int .i64 f, .bool g, .int .i64 h, .int .i64 i, .int .i64 j] 1).run Tryz.prog w = .ok (.int .i64 b) w := fun w => run_part_plain (P := Tryz.prog) w (by kernel_rfl) rfl
  have p2 : ∀ w, (part 3 #[.int .i64 a, .int .i64 b, .int .i64 c, .int .i64 d, .int .i64 e, .int .i64 f, .bool g, .int .i64 h, .int .i64 i, .int .i64 j] 2).run Tryz.prog w = .ok (.int .i64 c) w := fun w => run_part_plain (P := Tryz.prog) w (by kernel_rfl) rfl
  have p3 : ∀ w, (part 3 #[.int .i64 a, .int .i64 b, .int .i64 c, .int .i64 d, .int .i64 e, .int .i64 f, .bool g, .int .i64 h, .int .i64 i, .int .i64 j] 3).run Tryz.prog w = .ok (.int .i64 d) w := fun w => run_part_plain (P := Tryz.prog) w (by kernel_rfl) rfl
  have p4 : ∀ w, (part 3 #[.int .i64 a, .int .i64 b, .int .i64 c, .int .i64 d, .int .i64 e, .int .i64 f, .bool g, .int .i64 h, .int .i64 i, .int .i64 j] 4).run Tryz.prog w = .ok (.int .i64 e) w := fun w => run_part_plain (P := Tryz.prog) w (by kernel_rfl) rfl
  have p5 : ∀ w, (part 2 #[.int .i64 a, .int .i64 b, .int .i64 c, .int .i64 d, .int .i64 e, .int .i64 f, .bool g, .int .i64 h, .int .i64 i, .int .i64 j] 5).run Tryz.prog w = .ok (.int .i64 f) w := fun w => run_part_plain (P := Tryz.prog) w (by kernel_rfl) rfl
  have p6 : ∀ w, (part 4 #[.int .i64 a, .int .i64 b, .int .i64 c, .int .i64 d, .int .i64 e, .int .i64 f, .bool g, .int .i64 h, .int .i64 i, .int .i64 j] 6).run Tryz.prog w = .ok (.bool g) w := fun w => run_part_plain (P := Tryz.prog) w (by kernel_rfl) rfl
  have p7 : ∀ w, (part 3 #[.int .i64 a, .int .i64 b, .int .i64 c, .int .i64 d, .int .i64 e, .int .i64 f, .bool g, .int .i64 h, .int .i64 i, .int .i64 j] 7).run Tryz.prog w = .ok (.int .i64 h) w := fun w => run_part_plain (P := Tryz.prog) w (by kernel_rfl) rfl
  have p8 : ∀ w, (part 27 #[.int .i64 a, .int .i64 b, .int .i64 c, .int .i64 d, .int .i64 e, .int .i64 f, .bool g, .int .i64 h, .int .i64 i, .int .i64 j] 8).run Tryz.prog w = .ok (.int .i64 i) w := fun w => run_part_plain (P := Tryz.prog) w (by kernel_rfl) rfl
  have p9 : ∀ w, (part 3 #[.int .i64 a, .int .i64 b, .int .i64 c, .int .i64 d, .int .i64 e, .int .i64 f, .bool g, .int .i64 h, .int .i64 i, .int .i64 j] 9).run Tryz.prog w = .ok (.int .i64 j) w := fun w => run_part_plain (P := Tryz.prog) w (by kernel_rfl) rfl
  simp [Program.fieldsOf, Tryz.underlying145, Op.eqFields, Sem.run_bind, p0, p1, p2, p3, p4, p5, p6, p7, p8, p9, hi0, hi1, hi2, hi3]

set_option maxRecDepth 100000 in
theorem neGt (a : Int) (b : Int) (w : World) : (binOp .neq 70 (.agg #[.int .i64 a, .int .i64 b]) (.agg #[.int .i64 a, .int .i64 b])).run Tryz.prog w = .ok (.bool false) w := by
  rw [run_neq_struct, run_equalIn_struct w 9999 70 _ _ (by kernel_rfl) (by kernel_rfl)]
  have hi0 : ∀ (x : Int) (w : World), (Op.equalIn 9999 3 (.int .i64 x) (.int .i64 x)).run Tryz.prog w = .ok (x == x) w := fun x w => run_equalIn_int w 9998 3 .i64 .i64 x x Tryz.underlying3
  have p0 : ∀ w, (part 3 #[.int .i64 a, .int .i64 b] 0).run Tryz.prog w = .ok (.int .i64 a) w := fun w => run_part_plain (P := Tryz.prog) w (by kernel_rfl) rfl
  have p1 : ∀ w, (part 3 #[.int .i64 a, .int .i64 b] 1).run Tryz.prog w = .ok (.int .i64 b) w := fun w => run_part_plain (P := Tryz.prog) w (by kernel_rfl) rfl
  simp [Program.fieldsOf, Tryz.underlying70, Op.eqFields, Sem.run_bind, p0, p1, hi0]

set_option maxRecDepth 100000 in
theorem eqGt (a : Int) (b : Int) (w : World) : (binOp .eql 70 (.agg #[.int .i64 a, .int .i64 b]) (.agg #[.int .i64 a, .int .i64 b])).run Tryz.prog w = .ok (.bool true) w := by
  rw [run_eql_struct, run_equalIn_struct w 9999 70 _ _ (by kernel_rfl) (by kernel_rfl)]
  have hi0 : ∀ (x : Int) (w : World), (Op.equalIn 9999 3 (.int .i64 x) (.int .i64 x)).run Tryz.prog w = .ok (x == x) w := fun x w => run_equalIn_int w 9998 3 .i64 .i64 x x Tryz.underlying3
  have p0 : ∀ w, (part 3 #[.int .i64 a, .int .i64 b] 0).run Tryz.prog w = .ok (.int .i64 a) w := fun w => run_part_plain (P := Tryz.prog) w (by kernel_rfl) rfl
  have p1 : ∀ w, (part 3 #[.int .i64 a, .int .i64 b] 1).run Tryz.prog w = .ok (.int .i64 b) w := fun w => run_part_plain (P := Tryz.prog) w (by kernel_rfl) rfl
  simp [Program.fieldsOf, Tryz.underlying70, Op.eqFields, Sem.run_bind, p0, p1, hi0]

set_option maxRecDepth 100000 in
theorem spConfig {o w : World} {its : List It} {A : Ad} {c : Cfg} {z : SSt} {v u : Value} (h : St o its w) (i : Nat) (hi : its[i]? = some (spI A c z v u)) :
    Calls Tryz.prog 85 #[spp A] w fun e w' => e = .returned c.val ∧ St o its w' := by
  have h0 := h.box #[.int .i64 0, .int .i64 0, .int .i64 0, .int .i64 0, .int .i64 0, .int .i64 0] 24
  obtain ⟨ce, sl, bi, ta, ba, de⟩ := c
  clear h
  unfold spp Cfg.val
  simp only
  go_enter Tryz.func85, Tryz.ntmps85
  go_upto_region 1 with fail
  generalize w.alloc (.cells #[.int .i64 0, .int .i64 0, .int .i64 0, .int .i64 0, .int .i64 0, .int .i64 0] 24) = W0 at *
  generalize w.heap.size = B at *
  have c1 : W0.cell? ⟨A.sp, 1, none⟩ = some (.int .i64 ce) := spCell h0 (i + 1) hi 1
  have c2 : W0.cell? ⟨A.sp, 2, none⟩ = some (.int .i64 sl) := spCell h0 (i + 1) hi 2
  have c3 : W0.cell? ⟨A.sp, 3, none⟩ = some (.int .i64 bi) := spCell h0 (i + 1) hi 3
  have c4 : W0.cell? ⟨A.sp, 4, none⟩ = some (.int .i64 ta) := spCell h0 (i + 1) hi 4
  have c5 : W0.cell? ⟨A.sp, 5, none⟩ = some (.int .i64 ba) := spCell h0 (i + 1) hi 5
  have c6 : W0.cell? ⟨A.sp, 6, none⟩ = some (.int .i64 de) := spCell h0 (i + 1) hi 6
  have b0 : W0.cell? ⟨B, 0, none⟩ = some (.int .i64 0) := h0.cell 0 rfl 0
  have b1 : W0.cell? ⟨B, 1, none⟩ = some (.int .i64 0) := h0.cell 0 rfl 1
  have b2 : W0.cell? ⟨B, 2, none⟩ = some (.int .i64 0) := h0.cell 0 rfl 2
  have b3 : W0.cell? ⟨B, 3, none⟩ = some (.int .i64 0) := h0.cell 0 rfl 3
  have b4 : W0.cell? ⟨B, 4, none⟩ = some (.int .i64 0) := h0.cell 0 rfl 4
  have b5 : W0.cell? ⟨B, 5, none⟩ = some (.int .i64 0) := h0.cell 0 rfl 5
  have f0 : W0.frozen? ⟨B, 0, none⟩ = false := h0.frozen 0 rfl 0
  have f1 : W0.frozen? ⟨B, 1, none⟩ = false := h0.frozen 0 rfl 1
  have f2 : W0.frozen? ⟨B, 2, none⟩ = false := h0.frozen 0 rfl 2
  have f3 : W0.frozen? ⟨B, 3, none⟩ = false := h0.frozen 0 rfl 3
  have f4 : W0.frozen? ⟨B, 4, none⟩ = false := h0.frozen 0 rfl 4
  have f5 : W0.frozen? ⟨B, 5, none⟩ = false := h0.frozen 0 rfl 5
  have HS : Hid (∀ u0 u1 u2 u3 u4 u5, St o its ((((((W0.setCell ⟨B, 0, none⟩ u0).setCell ⟨B, 1, none⟩ u1).setCell ⟨B, 2, none⟩ u2).setCell ⟨B, 3, none⟩ u3).setCell ⟨B, 4, none⟩ u4).setCell ⟨B, 5, none⟩ u5)) := fun u0 u1 u2 u3 u4 u5 => ((((((h0.write 0 rfl 0 u0).write 0 rfl 1 u1).write 0 rfl 2 u2).write 0 rfl 3 u3).write 0 rfl 4 u4).write 0 rfl 5 u5).pop
  clear h0 hi
  go_wp2
  exact bodyPost_ret (v := .agg #[.int .i64 ce, .int .i64 sl, .int .i64 bi, .int .i64 ta, .int .i64 ba, .int .i64 de]) (by simp [results, Tryz.results85, go_sem, b0, b1, b2, b3, b4, b5]) rfl ⟨rfl, HS.out _ _ _ _ _ _⟩
end Go.Proofs.YthbcbjkgjgmegaaGreat
