/- A plain model of meters and rows, and how it lies in memory. No program is named here. -/
import Derived.Test.YtebhjfoggogmaaaKit
namespace Go.Proofs.Ytebhjfoggogmaaa
open Go.RowKit
set_option linter.unusedVariables false
set_option linter.unusedSimpArgs false

/-- What a meter has counted and noted. -/
structure Mt where
  st : Int
  th : Int
  dn : Int
  mo : Int
  l : List Acc
def Mt.zero : Mt := ⟨0, 0, 0, 0, []⟩
def Mt.start (s : Mt) (t : Int) : Mt := ⟨s.st + 1, t, 0, s.mo, s.l⟩
def Mt.note (s : Mt) (kind i op : Int) (ok : Bool) : Mt := ⟨s.st, s.th, s.dn + 1, max s.mo (s.dn + 1), s.l ++ [⟨s.st, s.th, kind, i, op, ok⟩]⟩
structure Mt.within (s : Mt) (n : Nat) : Prop where
  st0 : 0 ≤ s.st
  st1 : s.st ≤ n
  dn0 : 0 ≤ s.dn
  dn1 : s.dn ≤ n
  len : s.l.length ≤ n
theorem Mt.within_zero (n : Nat) : Mt.zero.within n := ⟨Int.le_refl _, Int.natCast_nonneg _, Int.le_refl _, Int.natCast_nonneg _, Nat.zero_le _⟩
theorem Mt.within.more {s : Mt} {n k : Nat} (h : s.within n) (hk : n ≤ k) : s.within k := by
  obtain ⟨a, b, c, d, e⟩ := h
  exact ⟨a, by omega, c, by omega, by omega⟩
theorem Mt.within.start {s : Mt} {n : Nat} (h : s.within n) (t : Int) : (s.start t).within (n + 1) := by
  obtain ⟨a, b, c, d, e⟩ := h
  exact ⟨by simp only [Mt.start]; omega, by simp only [Mt.start]; omega, by simp only [Mt.start]; omega, by simp only [Mt.start]; omega, by simp only [Mt.start]; omega⟩
theorem Mt.within.note {s : Mt} {n : Nat} (h : s.within n) (kind i op : Int) (ok : Bool) : (s.note kind i op ok).within (n + 1) := by
  obtain ⟨a, b, c, d, e⟩ := h
  exact ⟨by simp only [Mt.note]; omega, by simp only [Mt.note]; omega, by simp only [Mt.note]; omega, by simp only [Mt.note]; omega, by simp only [Mt.note, List.length_append, List.length_singleton]; omega⟩

/-- A meter of type t in block m, its log from block b on. -/
def MeterS (t e : TypeId) (b : Nat) (w : World) (m : Nat) (s : Mt) (v : Value) : Prop := MeterAt t e b w m s.st s.th s.dn s.mo v s.l
theorem MeterS.kept {t e : TypeId} {b : Nat} {w w' : World} {m : Nat} {s : Mt} {v : Value} {F : Nat → Prop} (h : MeterS t e b w m s v) (k : Kept F w w') (h1 : ¬ F m) (h2 : ∀ g, v.ownBlock = some g → ¬ F g) : MeterS t e b w' m s v := MeterAt.kept h k h1 h2

def ints (xs : List Int) : Array Value := (xs.map (Value.int .i64)).toArray
theorem ints_size (xs : List Int) : (ints xs).size = xs.length := by simp [ints]
theorem ints_at (xs : List Int) (k : Nat) (h : k < xs.length) : (ints xs)[k]? = some (.int .i64 (xs.getD k 0)) := by simp [ints, h]
theorem ints_set (xs : List Int) (k : Nat) (x : Int) : (ints xs).setIfInBounds k (.int .i64 x) = ints (xs.set k x) := by simp [ints]

/-- A row of type t in block r, its cells in block c, its meter in block m. -/
structure RowIn (t : TypeId) (b : Nat) (w : World) (r c m : Nat) (kind : Int) (xs : List Int) : Prop where
  row : w.heap[r]? = some (.cells #[.pointer (some ⟨m, 0, none⟩), .int .i64 kind, .slice (some ⟨c, 0, none⟩) xs.length xs.length] t (0, 0))
  cells : w.heap[c]? = some (.cells (ints xs) 2 (0, 0))
  small : xs.length ≤ 4096
  rb : r < b
  cb : c < b
  rc : r ≠ c
  rm : r ≠ m
  cm : c ≠ m
theorem RowIn.kept {t : TypeId} {b : Nat} {w w' : World} {r c m : Nat} {kind : Int} {xs : List Int} {F : Nat → Prop} (h : RowIn t b w r c m kind xs) (k : Kept F w w') (h1 : ¬ F r) (h2 : ¬ F c) : RowIn t b w' r c m kind xs :=
  ⟨(k.block r (lt_of_heap h.row) h1).trans h.row, (k.block c (lt_of_heap h.cells) h2).trans h.cells, h.small, h.rb, h.cb, h.rc, h.rm, h.cm⟩
theorem RowIn.stored {t : TypeId} {b : Nat} {w : World} {r c m : Nat} {kind : Int} {xs : List Int} (h : RowIn t b w r c m kind xs) (k : Nat) (x : Int) : RowIn t b (w.setCell ⟨c, k, none⟩ (.int .i64 x)) r c m kind (xs.set k x) := by
  refine ⟨?_, ?_, by simpa using h.small, h.rb, h.cb, h.rc, h.rm, h.cm⟩
  · rw [heap_setCell_far (by simpa using h.rc)]; simpa using h.row
  · rw [heap_setCell_at h.cells, ints_set]

theorem Kept.ofDrew {F : Nat → Prop} {w w' : World} (h : Kept F w.drew w') : Kept F w w' := ⟨h.os, h.tape, h.output, h.size, h.block⟩
theorem MeterS.drew {t e : TypeId} {b : Nat} {w : World} {m : Nat} {s : Mt} {v : Value} (h : MeterS t e b w m s v) : MeterS t e b w.drew m s v := ⟨h.heap, h.own, h.low, h.high⟩
theorem RowIn.drew {t : TypeId} {b : Nat} {w : World} {r c m : Nat} {kind : Int} {xs : List Int} (h : RowIn t b w r c m kind xs) : RowIn t b w.drew r c m kind xs := ⟨h.row, h.cells, h.small, h.rb, h.cb, h.rc, h.rm, h.cm⟩

/-- Is there such a cell? -/
def hasB (xs : List Int) (i : Int) : Bool := decide (0 ≤ i) && decide (i < xs.length)
theorem hasB_nat {xs : List Int} {i : Int} (h : hasB xs i = true) : ∃ k : Nat, i = k ∧ k < xs.length := by
  simp only [hasB, Bool.and_eq_true, decide_eq_true_eq] at h
  exact ⟨i.toNat, by omega, by omega⟩
theorem hasB_no {xs : List Int} {i : Int} (h : hasB xs i = false) : ¬ (0 ≤ i ∧ i < xs.length) := by
  intro c
  simp [hasB, c.1, c.2] at h
def rowNote (s : Mt) (xs : List Int) (kind i op : Int) (ok : Bool) : Mt := if hasB xs i then s.note kind i op ok else s
def rowLoad (xs : List Int) (i : Int) : Int := if hasB xs i then xs.getD i.toNat 0 else 0
def rowErr (xs : List Int) (i : Int) : Int := if hasB xs i then 0 else 2
def rowStore (xs : List Int) (i x : Int) : List Int := if hasB xs i then xs.set i.toNat x else xs
def rowHit (xs : List Int) (i old : Int) : Bool := hasB xs i && (xs.getD i.toNat 0 == old)
def rowTrade (xs : List Int) (i old x : Int) : List Int := if rowHit xs i old then xs.set i.toNat x else xs
theorem rowStore_length (xs : List Int) (i x : Int) : (rowStore xs i x).length = xs.length := by unfold rowStore; split <;> simp
theorem rowTrade_length (xs : List Int) (i old x : Int) : (rowTrade xs i old x).length = xs.length := by unfold rowTrade; split <;> simp
theorem rowNote_within {s : Mt} {n : Nat} (h : s.within n) (xs : List Int) (kind i op : Int) (ok : Bool) : (rowNote s xs kind i op ok).within (n + 1) := by
  unfold rowNote
  split
  · exact h.note _ _ _ _
  · exact h.more (Nat.le_succ _)

/-- What one call of a row with a meter may turn. -/
def rowFoot (m c : Nat) (v : Value) : Nat → Prop := fun k => k = m ∨ v.ownBlock = some k ∨ k = c
end Go.Proofs.Ytebhjfoggogmaaa
