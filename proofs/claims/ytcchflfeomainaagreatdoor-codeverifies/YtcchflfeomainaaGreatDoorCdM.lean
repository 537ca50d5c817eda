/- Instructions as plain data: which lists may be, how programs are looked through. No program is named here. -/
import Derived.Test.YtcchflfeomainaaGreatDoorCdT
import Derived.BigQuiet
namespace Go.Proofs.YtcchflfeomainaaGreatDoor
open Go.RowKit
set_option linter.unusedVariables false
set_option linter.unusedSimpArgs false
theorem Kept.drewN {F : Nat → Prop} {a w : World} (h : Kept F a w) (n : Nat) : Kept F a (w.drewN n) := ⟨h.os, h.tape, h.output, h.size, h.block⟩
def knownB (op : Int) : Bool := decide (0 < op) && decide (op < 23)
/-- May a be such an operand, in a program with that end? -/
def mayB (takes a e : Int) : Bool :=
  if takes == 1 then true else if takes == 2 then decide (0 ≤ a) && decide (a < 8) else if takes == 3 then decide (0 ≤ a) && decide (a ≤ e) else a == 0

structure Ins where
  op : Int
  a : Int
deriving DecidableEq
def Ins.zero : Ins := ⟨0, 0⟩
def Ins.cells (x : Ins) : List Value := [.int .i64 x.op, .int .i64 x.a]
def insCells : List Ins → List Value
  | [] => []
  | x :: l => .int .i64 x.op :: .int .i64 x.a :: insCells l
theorem insCells_length (l : List Ins) : (insCells l).length = l.length * 2 := by
  induction l with
  | nil => rfl
  | cons x l ih => simp only [insCells, List.length_cons, ih]; omega
theorem insCells_append (a b : List Ins) : insCells (a ++ b) = insCells a ++ insCells b := by
  induction a with
  | nil => rfl
  | cons x l ih => simp [insCells, ih]
theorem insCells_at (l : List Ins) (j : Nat) (hj : j < l.length) : (insCells l)[j * 2]? = some (.int .i64 (l.getD j Ins.zero).op) ∧ (insCells l)[j * 2 + 1]? = some (.int .i64 (l.getD j Ins.zero).a) := by
  induction l generalizing j with
  | nil => simp at hj
  | cons x l ih =>
    cases j with
    | zero => exact ⟨rfl, rfl⟩
    | succ j =>
      have h := ih j (by simpa using hj)
      have e1 : (j + 1) * 2 = j * 2 + 1 + 1 := by omega
      rw [e1]
      exact ⟨by simpa [insCells] using h.1, by simpa [insCells] using h.2⟩
theorem insCells_one (l : List Ins) : ∀ u ∈ insCells l, u.oneCell' = true := by
  induction l with
  | nil => intro u h; cases h
  | cons t l ih =>
    intro u h
    simp only [insCells, List.mem_cons] at h
    rcases h with h | h | h
    · subst h; rfl
    · subst h; rfl
    · exact ih u h

/-- What is not right of one instruction: 0, or the error. -/
def wrongAt (x : Ins) (e : Int) : Int := if knownB x.op = false then 151 else if mayB (rowOf x.op).takes x.a e = false then 152 else 0
def checkFrom (e : Int) : Nat → List Ins → Int × Int
  | _, [] => (0, 0)
  | i, x :: l => if wrongAt x e = 0 then checkFrom e (i + 1) l else (wrongAt x e, i)
def checkM (l : List Ins) : Int × Int := if l.length = 0 ∨ 400 < l.length then (150, 0) else checkFrom l.length 0 l
theorem checkFrom_drop {e : Int} {l : List Ins} {i : Nat} (hi : i < l.length) : checkFrom e i (l.drop i) = if wrongAt (l.getD i Ins.zero) e = 0 then checkFrom e (i + 1) (l.drop (i + 1)) else (wrongAt (l.getD i Ins.zero) e, (i : Int)) := by
  rw [List.drop_eq_getElem_cons hi]
  simp [checkFrom, List.getD_eq_getElem?_getD, hi]
/-- A list of instructions in memory. -/
def IIn (w : World) (la : Option Addr) (n : Nat) (ps : List Ins) : Prop :=
  n = ps.length ∧ (0 < n → ∃ g o, la = some ⟨g, o, none⟩ ∧ ∀ j u, (insCells ps)[j]? = some u → w.cell? ⟨g, o + j, none⟩ = some u)
theorem IIn.kept {w w' : World} {la : Option Addr} {n : Nat} {ps : List Ins} (h : IIn w la n ps) (k : Kept (fun _ => False) w w') : IIn w' la n ps := by
  refine ⟨h.1, fun h0 => ?_⟩
  obtain ⟨g, o, rfl, hc⟩ := h.2 h0
  refine ⟨g, o, rfl, fun j u hj => ?_⟩
  have := hc j u hj
  rw [World.cell?_of_block (k.block g (World.block_lt_of_cell? w _ this) (fun f => f))]
  exact this
theorem IIn.drew {w : World} {la : Option Addr} {n : Nat} {ps : List Ins} (h : IIn w la n ps) : IIn w.drew la n ps := h
theorem IIn.cells {w : World} {g o n : Nat} {ps : List Ins} (h : IIn w (some ⟨g, o, none⟩) n ps) {j : Nat} (hj : j < ps.length) :
    w.cell? ⟨g, o + j * 2, none⟩ = some (.int .i64 (ps.getD j Ins.zero).op) ∧ w.cell? ⟨g, o + j * 2 + 1, none⟩ = some (.int .i64 (ps.getD j Ins.zero).a) := by
  obtain ⟨g', o', e, hc⟩ := h.2 (by have := h.1; omega)
  simp only [Option.some.injEq, Addr.mk.injEq, and_true] at e
  obtain ⟨rfl, rfl⟩ := e
  obtain ⟨h0, h1⟩ := insCells_at ps j hj
  exact ⟨hc _ _ h0, by simpa [Nat.add_assoc] using hc _ _ h1⟩
theorem IIn.addr {w : World} {la : Option Addr} {n : Nat} {ps : List Ins} (h : IIn w la n ps) (hn : 0 < n) : ∃ g o, la = some ⟨g, o, none⟩ := by
  obtain ⟨g, o, rfl, _⟩ := h.2 hn
  exact ⟨g, o, rfl⟩
theorem own_iin {w : World} {base t : Nat} {v : Value} {ys : List Ins} (h : w.ownsRow base t 2 v ys.length (insCells ys)) : ∃ la lc, v = .slice la ys.length lc ∧ IIn w la ys.length ys ∧ ys.length ≤ lc ∧ (la = none → ys.length = 0 ∧ lc = 0) := by
  rcases h.2 with ⟨rfl, hn⟩ | ⟨g, cap, cur, rfl, _, _, hc, _⟩
  · exact ⟨none, 0, by rw [hn], ⟨rfl, fun h0 => by omega⟩, by omega, fun _ => ⟨hn, rfl⟩⟩
  · refine ⟨_, _, rfl, ⟨rfl, fun _ => ⟨g, 0, rfl, fun j u hu => ?_⟩⟩, by omega, fun e => by cases e⟩
    have hl := h.1
    have hj := (List.getElem?_eq_some_iff.1 hu).1
    rw [Nat.zero_add, h.cellAt j (by omega)]
    exact hu
/-- The table in memory. -/
def TabAt (t : TypeId) (b : Nat) (w : World) : Prop := w.heap[b]? = some (.cells tabC t (0, 0))
theorem TabAt.kept {t : TypeId} {b : Nat} {w w' : World} (h : TabAt t b w) (k : Kept (fun _ => False) w w') : TabAt t b w' := (k.block b (lt_of_heap h) (fun f => f)).trans h
theorem TabAt.word {t : TypeId} {b : Nat} {w : World} (h : TabAt t b w) {n : Nat} (hn : n < 23) : w.cell? ⟨b, n * 5, none⟩ = some (.string (rowOf (n : Nat)).word) := (cell_of_heap h).trans (tab_word n hn)
theorem TabAt.takes {t : TypeId} {b : Nat} {w : World} (h : TabAt t b w) {n : Nat} (hn : n < 23) : w.cell? ⟨b, n * 5 + 1, none⟩ = some (.int .i64 (rowOf (n : Nat)).takes) := (cell_of_heap h).trans (tab_takes n hn)
theorem TabAt.pops {t : TypeId} {b : Nat} {w : World} (h : TabAt t b w) {n : Nat} (hn : n < 23) : w.cell? ⟨b, n * 5 + 2, none⟩ = some (.int .i64 (rowOf (n : Nat)).pops) := (cell_of_heap h).trans (tab_pops n hn)
theorem TabAt.pushes {t : TypeId} {b : Nat} {w : World} (h : TabAt t b w) {n : Nat} (hn : n < 23) : w.cell? ⟨b, n * 5 + 3, none⟩ = some (.int .i64 (rowOf (n : Nat)).pushes) := (cell_of_heap h).trans (tab_pushes n hn)
theorem TabAt.whr {t : TypeId} {b : Nat} {w : World} (h : TabAt t b w) {n : Nat} (hn : n < 23) : w.cell? ⟨b, n * 5 + 4, none⟩ = some (.int .i64 (rowOf (n : Nat)).whr) := (cell_of_heap h).trans (tab_whr n hn)
theorem known_nat {op : Int} (h : knownB op = true) : ∃ n : Nat, op = n ∧ 0 < n ∧ n < 23 := by
  simp only [knownB, Bool.and_eq_true, decide_eq_true_eq] at h
  exact ⟨op.toNat, by omega, by omega, by omega⟩
end Go.Proofs.YtcchflfeomainaaGreatDoor
