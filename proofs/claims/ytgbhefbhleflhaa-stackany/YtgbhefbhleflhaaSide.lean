/- Stacks of texts and of things side by side: what holds of them; Cut in one contract; equality of things. -/
import Derived.Test.YtgbhefbhleflhaaApart
import Derived.Test.YtgbhefbhleflhaaStkS
import Derived.Test.YtgbhefbhleflhaaThingsB
import Derived.ChangeKeysEq
namespace Go.Proofs.Ytgbhefbhleflhaa
open Go.RowKit
set_option linter.unusedVariables false
set_option linter.unusedSimpArgs false

/-- A list of texts in memory, of n elements. -/
def StrsIn (w : World) (la : Option Addr) (n : Nat) (ss : List ByteArray) : Prop :=
  n = ss.length ∧ (0 < n → ∃ g o, la = some ⟨g, o, none⟩ ∧ ∀ j, j < n → w.cell? ⟨g, o + j, none⟩ = some (.string (ss.getD j ByteArray.empty)))
theorem StrsIn.kept {w w' : World} {la : Option Addr} {n : Nat} {ss : List ByteArray} (h : StrsIn w la n ss) (k : Kept (fun _ => False) w w') : StrsIn w' la n ss := by
  refine ⟨h.1, fun hn => ?_⟩
  obtain ⟨g, o, hla, hc⟩ := h.2 hn
  exact ⟨g, o, hla, fun j hj => k.cell (hc j hj) (fun f => f)⟩

theorem eqN (d : Nat) (a1 b1 a2 b2 : Int) (w : World) : (Op.equalIn (d + 2) 54 (.agg #[.int .i64 a1, .int .i64 b1]) (.agg #[.int .i64 a2, .int .i64 b2])).run Try.prog w = .ok ((a1 == a2) && (b1 == b2)) w := by
  obtain ⟨i0, hi0, hz0, hz1, hz2⟩ := info_parts Try.info3
  rw [run_equalIn_array (d := d + 1) w _ _ Try.underlying54 hi0, show Try.prog.cellsOf 3 = 1 from by kernel_rfl]
  show (Op.eqItems (d + 1) 3 1 _ _ [0, 1]).run Try.prog w = _
  have hp : ∀ (x y : Int) (w : World), (part 3 #[.int .i64 x, .int .i64 y] 0).run Try.prog w = .ok (.int .i64 x) w := fun x y w => run_part_plain (P := Try.prog) w (by kernel_rfl) rfl
  have hq : ∀ (x y : Int) (w : World), (part 3 #[.int .i64 x, .int .i64 y] 1).run Try.prog w = .ok (.int .i64 y) w := fun x y w => run_part_plain (P := Try.prog) w (by kernel_rfl) rfl
  have he : ∀ (x y : Int) (w : World), (Op.equalIn (d + 1) 3 (.int .i64 x) (.int .i64 y)).run Try.prog w = .ok (x == y) w := fun x y w => run_equalIn_int w d 3 .i64 .i64 x y Try.underlying3
  cases h1 : (a1 == a2) <;> cases h2 : (b1 == b2) <;> simp only [Op.eqItems, Sem.run_bind, Nat.zero_mul, Nat.one_mul, hp, hq, he, h1, h2, Result.andThen_ok, Bool.not_true, Bool.not_false, Bool.false_eq_true, if_true, if_false, Sem.run_pure, Bool.and_true, Bool.and_false, Bool.true_and, Bool.false_and]

/-- The n lowest things and texts. -/
def thOf (ss : List ByteArray) (i : Nat) : Th := ⟨ss.getD i ByteArray.empty, i, 7⟩
def ths (ss : List ByteArray) (n : Nat) : List Th := (List.range n).map (thOf ss)
def strs (ss : List ByteArray) (n : Nat) : List Value := (List.range n).map fun i => Value.string (ss.getD i ByteArray.empty)
theorem strs_succ (ss : List ByteArray) (n : Nat) : strs ss (n + 1) = strs ss n ++ [.string (ss.getD n ByteArray.empty)] := by
  simp [strs, List.range_succ]
theorem ths_succ (ss : List ByteArray) (n : Nat) : thCells (ths ss (n + 1)) = thCells (ths ss n) ++ (thOf ss n).cells := by
  rw [ths, List.range_succ, List.map_append, thCells_append]
  simp [thCells, ths]
theorem strs_take (ss : List ByteArray) {m n : Nat} (h : m ≤ n) : (strs ss n).take m = strs ss m := by
  rw [strs, strs, ← List.map_take, List.take_range, Nat.min_eq_left h]
theorem ths_take (ss : List ByteArray) {m n : Nat} (h : m ≤ n) : (thCells (ths ss n)).take (m * 3) = thCells (ths ss m) := by
  rw [thCells_take, ths, ths, ← List.map_take, List.take_range, Nat.min_eq_left h]
theorem strs_at (ss : List ByteArray) {i n : Nat} (h : i < n) : (strs ss n).getD i undef = .string (ss.getD i ByteArray.empty) := by
  simp [strs, h]
theorem ths_at (ss : List ByteArray) {i n : Nat} (h : i < n) : (ths ss n)[i]? = some (thOf ss i) := by
  simp [ths, h]

structure Side (w0 w : World) (p q : Nat) (v u : Value) (n : Nat) (ss : List ByteArray) : Prop where
  s : StackAt 71 9 1 w0.heap.size w p 256 v n (strs ss n)
  t : StackAt 74 56 3 w0.heap.size w q 256 u n (thCells (ths ss n))
  ap : Apart p v q u
  kept : Kept (fun _ => False) w0 w
section
variable {w0 w w1 w2 : World} {p q : Nat} {v u : Value} {n m : Nat} {ss : List ByteArray}
theorem Side.calm (h : Side w0 w p q v u n ss) (k : Kept (fun _ => False) w w1) : Side w0 w1 p q v u n ss :=
  ⟨h.s.calm k, h.t.calm k, h.ap, h.kept.trans k (fun _ _ f => f)⟩
/-- The second one, behind the first one's call. -/
theorem Side.second (h : Side w0 w p q v u n ss) {xs : List Value} (t1 : Turned 71 9 1 w0.heap.size w w1 p 256 v m xs) : StackAt 74 56 3 w0.heap.size w1 q 256 u n (thCells (ths ss n)) ∧ Kept (fun _ => False) w0 w1 := by
  obtain ⟨v', a1, a2, a3⟩ := t1
  refine ⟨h.t.other h.ap a2, h.kept.trans a2 (fun i hi f => ?_)⟩
  have := (h.s.foot f).1
  omega
theorem Side.both (h : Side w0 w p q v u n ss) (t1 : Turned 71 9 1 w0.heap.size w w1 p 256 v m (strs ss m)) (t2 : Turned 74 56 3 w0.heap.size w1 w2 q 256 u m (thCells (ths ss m))) : ∃ v' u', Side w0 w2 p q v' u' m ss := by
  have h2 := h.second t1
  obtain ⟨v', a1, a2, a3⟩ := t1
  obtain ⟨u', x1, x2, x3⟩ := t2
  have ap1 := h.ap.fresh a3 h.t
  refine ⟨v', u', a1.other ap1.symm x2, x1, (ap1.symm.fresh x3 a1).symm, h2.2.trans x2 (fun i hi f => ?_)⟩
  have := (h2.1.foot f).1
  omega
end

/-- What Cut answers, and what is left. -/
def cutE (n : Nat) (k : Int) : Int := if k < 0 then 1 else if (n : Int) < k then 12 else 0
def cutL (n : Nat) (k : Int) : Nat := if k < 0 then n else if (n : Int) < k then n else n - k.toNat
theorem cutL_le (n : Nat) (k : Int) : cutL n k ≤ n := by
  unfold cutL
  split
  · omega
  · split <;> omega
section
variable {B : Nat} {w : World} {p : Nat} {most : Int} {v : Value} {n : Nat} {xs : List Value}
theorem cutS_any (k : Int) (h : StackAt 71 9 1 B w p most v n xs) (hx : xs.length = n) :
    Calls Try.prog 22 #[.pointer (some ⟨p, 0, none⟩), .int .i64 k] w fun e w' => e = .returned (.int .i64 (cutE n k)) ∧ Turned 71 9 1 B w w' p most v (cutL n k) (xs.take (cutL n k * 1)) := by
  unfold cutE cutL
  by_cases h0 : k < 0
  · rw [if_pos h0, if_pos h0]
    refine (cutS_neg k h0).mono ?_
    rintro e w' ⟨rfl, rfl⟩
    exact ⟨rfl, by rw [List.take_of_length_le (by omega)]; exact Turned.same h (Kept.refl _ _)⟩
  · rw [if_neg h0, if_neg h0]
    by_cases h1 : (n : Int) < k
    · rw [if_pos h1, if_pos h1]
      refine (cutS_over k h1 h).mono ?_
      rintro e w' ⟨rfl, rfl⟩
      exact ⟨rfl, by rw [List.take_of_length_le (by omega)]; exact Turned.same h (Kept.refl _ _)⟩
    · rw [if_neg h1, if_neg h1]
      exact cutS_ok (n - k.toNat) (by omega) h k (by omega)
theorem cutT_any (k : Int) (h : StackAt 74 56 3 B w p most v n xs) (hx : xs.length = n * 3) :
    Calls Try.prog 23 #[.pointer (some ⟨p, 0, none⟩), .int .i64 k] w fun e w' => e = .returned (.int .i64 (cutE n k)) ∧ Turned 74 56 3 B w w' p most v (cutL n k) (xs.take (cutL n k * 3)) := by
  unfold cutE cutL
  by_cases h0 : k < 0
  · rw [if_pos h0, if_pos h0]
    refine (cutT_neg k h0).mono ?_
    rintro e w' ⟨rfl, rfl⟩
    exact ⟨rfl, by rw [List.take_of_length_le (by omega)]; exact Turned.same h (Kept.refl _ _)⟩
  · rw [if_neg h0, if_neg h0]
    by_cases h1 : (n : Int) < k
    · rw [if_pos h1, if_pos h1]
      refine (cutT_over k h1 h).mono ?_
      rintro e w' ⟨rfl, rfl⟩
      exact ⟨rfl, by rw [List.take_of_length_le (by omega)]; exact Turned.same h (Kept.refl _ _)⟩
    · rw [if_neg h1, if_neg h1]
      exact cutT_ok (n - k.toNat) (by omega) h k (by omega)
end
end Go.Proofs.Ytgbhefbhleflhaa
