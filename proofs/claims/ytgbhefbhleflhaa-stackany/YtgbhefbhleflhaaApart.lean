/- Stacks that have no block in common; a byte of a number. No walk here. -/
import Derived.Test.YtgbhefbhleflhaaUp
namespace Go.Proofs.Ytgbhefbhleflhaa
open Go.RowKit
set_option linter.unusedVariables false
set_option linter.unusedSimpArgs false

theorem and_mask (z : Int) (k : Nat) (hk : k < 63) : bits .and .i64 z ((2 ^ k - 1 : Nat) : Int) = z % ((2 ^ k : Nat) : Int) := by
  show IntKind.i64.wrap ((BitVec.ofInt 64 z &&& BitVec.ofInt 64 ((2 ^ k - 1 : Nat) : Int)).toNat : Int) = _
  have hp : 2 ^ k < 2 ^ 63 := Nat.pow_lt_pow_right (by decide) hk
  have h2 : (BitVec.ofInt 64 ((2 ^ k - 1 : Nat) : Int)).toNat = 2 ^ k - 1 := by
    rw [BitVec.ofInt_natCast, BitVec.toNat_ofNat]; exact Nat.mod_eq_of_lt (by omega)
  rw [BitVec.toNat_and, h2, Nat.and_two_pow_sub_one_eq_mod, BitVec.toNat_ofInt]
  have hpos : 0 < 2 ^ k := Nat.two_pow_pos k
  have hz0 : 0 ≤ z % ((2 ^ k : Nat) : Int) := Int.emod_nonneg _ (by omega)
  have hz1 : z % ((2 ^ k : Nat) : Int) < ((2 ^ k : Nat) : Int) := Int.emod_lt_of_pos _ (by omega)
  have hd : ((2 ^ k : Nat) : Int) ∣ ((2 ^ 64 : Nat) : Int) := Int.natCast_dvd_natCast.2 (Nat.pow_dvd_pow 2 (by omega))
  have e : (((z % ((2 ^ 64 : Nat) : Int)).toNat % 2 ^ k : Nat) : Int) = z % ((2 ^ k : Nat) : Int) := by
    rw [Int.natCast_emod, Int.toNat_of_nonneg (Int.emod_nonneg _ (by decide)), Int.emod_emod_of_dvd _ hd]
  have e2 : (((z % (2 ^ 64 : Nat)).toNat % 2 ^ k : Nat) : Int) = z % ((2 ^ k : Nat) : Int) := e
  rw [e2, IntKind.wrap_i64]
  generalize z % ((2 ^ k : Nat) : Int) = r at hz0 hz1
  generalize 2 ^ k = P at *
  omega
theorem and255 (z : Int) : bits .and .i64 z 255 = z % 256 := and_mask z 8 (by decide)

theorem min_run {P : Program} (a b : Nat) (ats : Array TypeId) (ty : TypeId) (w : World) : (Builtin.min_ ats ty #[.int .i64 a, .int .i64 b]).run P w = .ok (.int .i64 (min b a : Nat)) w := by
  rcases Nat.lt_or_ge b a with h | h
  · have h1 : (b : Int) < a := by omega
    simp [Builtin.min_, Builtin.min2, h1, h, Nat.min_eq_left (Nat.le_of_lt h)]
  · have h1 : ¬ (b : Int) < a := by omega
    simp [Builtin.min_, Builtin.min2, h1, Nat.min_eq_right h]

/-- Two stacks have no block in common. -/
def Apart (p : Nat) (v : Value) (q : Nat) (u : Value) : Prop := ∀ k, Foot p v k → ¬ Foot q u k
theorem Apart.symm {p q : Nat} {v u : Value} (h : Apart p v q u) : Apart q u p v := fun k f g => h k g f
/-- One of them was turned. -/
theorem Apart.fresh {p q : Nat} {v u v' : Value} {w : World} {t e : TypeId} {z B : Nat} {most : Int} {n : Nat} {xs : List Value} (h : Apart p v q u) (hf : Fresh w v v') (ho : StackAt t e z B w q most u n xs) : Apart p v' q u := by
  intro k f g
  rcases Foot.fresh hf f with x | x
  · exact h k x g
  · have := (ho.foot g).2
    omega
/-- The other one stays. -/
theorem StackAt.other {p q : Nat} {v u : Value} {w w' : World} {t e : TypeId} {z B : Nat} {most : Int} {n : Nat} {xs : List Value} (ho : StackAt t e z B w q most u n xs) (h : Apart p v q u) (k : Kept (Foot p v) w w') : StackAt t e z B w' q most u n xs :=
  ho.kept k (fun i f g => h i g f)
/-- A stack that was made later. -/
theorem Apart.later {p q : Nat} {v u : Value} {w w' : World} {t e t2 e2 : TypeId} {z z2 B : Nat} {most m2 : Int} {n n2 : Nat} {xs ys : List Value} (h : StackAt t e z B w p most v n xs) (h2 : StackAt t2 e2 z2 w.heap.size w' q m2 u n2 ys) : Apart p v q u := by
  intro k f g
  have := (h.foot f).2
  have := (h2.foot g).1
  omega
end Go.Proofs.Ytgbhefbhleflhaa
