/- Deques as plain data. No program is named here. -/
import Derived.Test.YtahokdgodhhchaaGreatDoorKit
namespace Go.Proofs.YtahokdgodhhchaaGreatDoor
open Go.RowKit
set_option linter.unusedVariables false
set_option linter.unusedSimpArgs false

def roomS (n : Int) : Int := if 1 ≤ n ∧ n ≤ 100 then 2 + n else 0
theorem roomS_pos {n : Int} (h : 0 < roomS n) : 1 ≤ n ∧ n ≤ 100 ∧ roomS n = 2 + n := by
  unfold roomS at *
  split at h
  · rename_i h'; rw [if_pos h']; exact ⟨h'.1, h'.2, rfl⟩
  · omega
theorem roomS_zero {n : Int} (h : ¬ 0 < roomS n) : roomS n = 0 := by
  unfold roomS at *
  split at h
  · omega
  · rename_i h'; rw [if_neg h']
theorem roomS_le (n : Int) : 0 ≤ roomS n ∧ roomS n ≤ 102 := by unfold roomS; split <;> omega
def fitsS (base n cells : Int) : Bool := decide (0 < roomS n) && (decide (0 ≤ base) && decide (base ≤ cells - roomS n))
/-- Do a front and a size stand there that a deque of size n may have? -/
def ringB (P : List Int) (n : Nat) : Bool := decide (0 ≤ P.getD 0 0) && (decide (P.getD 0 0 < (n : Int)) && (decide (0 ≤ P.getD 1 0) && decide (P.getD 1 0 ≤ (n : Int))))
/-- The first k values from the front f on. -/
def valsM (P : List Int) (n f k : Nat) : List Int := (List.range k).map fun i => P.getD (2 + (f + i) % n) 0
theorem valsM_length (P : List Int) (n f k : Nat) : (valsM P n f k).length = k := by simp [valsM]
theorem valsM_succ (P : List Int) (n f k : Nat) : valsM P n f (k + 1) = valsM P n f k ++ [P.getD (2 + (f + k) % n) 0] := by simp [valsM, List.range_succ]
def readM (P : List Int) (n : Nat) : Option (List Int) :=
  if ringB P n = true then some (valsM P n (P.getD 0 0).toNat (P.getD 1 0).toNat) else none
structure Dd where
  op : Int
  a : Int
  b : Int
  x : Int
  y : Int
deriving DecidableEq
def Dd.cells (d : Dd) : List Value := [.int .i64 d.op, .int .i64 d.a, .int .i64 d.b, .int .i64 d.x, .int .i64 d.y]
def Dd.val (d : Dd) : Value := .agg #[.int .i64 d.op, .int .i64 d.a, .int .i64 d.b, .int .i64 d.x, .int .i64 d.y]
def Dd.zero : Dd := ⟨0, 0, 0, 0, 0⟩
def mayS (d : Dd) : Bool :=
  if d.op = 1 ∨ d.op = 2 then decide (d.a = 0) && (decide (d.b = 0) && decide (d.y = 0))
  else if d.op = 3 ∨ d.op = 4 ∨ d.op = 5 then decide (d.a = 0) && (decide (d.b = 0) && (decide (d.x = 0) && decide (d.y = 0)))
  else false
theorem may_op {d : Dd} (h : mayS d = true) : d.op = 1 ∨ d.op = 2 ∨ d.op = 3 ∨ d.op = 4 ∨ d.op = 5 := by
  unfold mayS at h
  split at h
  · omega
  · split at h
    · omega
    · cases h
/-- What a deed leaves, and tells. -/
def doS (l : List Int) (n : Int) (d : Dd) : List Int × List Int :=
  if d.op = 1 then (if (l.length : Int) = n then (l, [0]) else (l ++ [d.x], [1]))
  else if d.op = 2 then (if (l.length : Int) = n then (l, [0]) else (d.x :: l, [1]))
  else if d.op = 3 then (if l = [] then ([], [0]) else (l.take (l.length - 1), [1, l.getD (l.length - 1) 0]))
  else if d.op = 4 then (if l = [] then ([], [0]) else (l.drop 1, [1, l.getD 0 0]))
  else (l, [(l.length : Int)])
def okS (l : List Int) (n : Int) (d : Dd) : Bool := decide (0 < roomS n) && (decide ((l.length : Int) ≤ n) && mayS d)
end Go.Proofs.YtahokdgodhhchaaGreatDoor
