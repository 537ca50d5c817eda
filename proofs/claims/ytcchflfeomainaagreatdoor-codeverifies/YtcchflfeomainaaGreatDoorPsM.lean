/- Texts of programs as plain data: what is read of a line, of a text. No program is named here. -/
import Derived.Test.YtcchflfeomainaaGreatDoorCdM
import Derived.Lib.SplitLaws
import Derived.Lib.SlTrimSet
import Derived.Lib.IndexAny
import Derived.Lib.AtoiAll
import Derived.Lib.ItoaNum
import Derived.Lib.CutLaws
namespace Go.Proofs.YtcchflfeomainaaGreatDoor
open Go.RowKit
set_option linter.unusedVariables false
set_option linter.unusedSimpArgs false

theorem hid {p : Prop} (h : p) : Hid p := h
/-- A text out of bytes. -/
abbrev bs (l : List UInt8) : ByteArray := ⟨l.toArray⟩
theorem bs_data (s : ByteArray) : bs s.data.toList = s := by
  obtain ⟨d⟩ := s
  simp [bs]
def lttI (c : Int) : Bool := decide (97 ≤ c) && decide (c ≤ 122)
def restI (c : Int) : Bool := lttI c || (decide (48 ≤ c) && decide (c ≤ 57)) || c == 45
def letB (c : UInt8) : Bool := lttI c.toNat
def restB (c : UInt8) : Bool := restI c.toNat
def nameB : List UInt8 → Bool
  | [] => false
  | c :: r => decide (r.length < 16) && letB c && r.all restB
/-- What a line says. -/
def saidM (l : List UInt8) : List UInt8 := Lib.trimS (Lib.cut l [59]).1 [32, 9]
def opFrom : Nat → Nat → List UInt8 → Option Nat
  | 0, _, _ => none
  | k + 1, n, x => if (rowOf (n : Nat)).word = bs x then some n else opFrom k (n + 1) x
def opM (x : List UInt8) : Option Nat := opFrom 23 0 x
def numM (x : List UInt8) : Option Int :=
  match Lib.atoiAll x with
  | .ok v => if Lib.itoa v = x then some v else none
  | _ => none
/-- An instruction that was read; its place may be that of a label. -/
structure Dr where
  line : Int
  x : Ins
  lab : List UInt8
deriving DecidableEq
def Dr.cells (d : Dr) : List Value := [.int .i64 d.line, .int .i64 d.x.op, .int .i64 d.x.a, .string (bs d.lab)]
def drCells : List Dr → List Value
  | [] => []
  | d :: l => d.cells ++ drCells l
def wordOf (s : List UInt8) : List UInt8 := if 0 ≤ Lib.indexAny s [32, 9] then s.take (Lib.indexAny s [32, 9]).toNat else s
def tailOf (s : List UInt8) : List UInt8 := if 0 ≤ Lib.indexAny s [32, 9] then Lib.trimLeftS (s.drop (Lib.indexAny s [32, 9]).toNat) [32, 9] else []
/-- What stands behind the word: none, a label, or a number. -/
def operM (line : Int) (op : Nat) (r : List UInt8) : Except (Int × Int) Dr :=
  if ((rowOf (op : Nat)).takes == 0) = true then (if r = [] then .ok ⟨line, ⟨op, 0⟩, []⟩ else .error (line, 153))
  else if ((rowOf (op : Nat)).takes == 3) = true ∧ nameB r = true then .ok ⟨line, ⟨op, 0⟩, r⟩
  else match numM r with
    | none => .error (line, 153)
    | some v => if mayB (rowOf (op : Nat)).takes v v = true then .ok ⟨line, ⟨op, v⟩, []⟩ else .error (line, 153)
def instrM (line : Int) (s : List UInt8) : Except (Int × Int) Dr :=
  match opM (wordOf s) with
  | none => .error (line, 153)
  | some op => operM line op (tailOf s)
abbrev Lab := List UInt8 × Int
def findM (ls : List Lab) (x : List UInt8) : Option Int := (ls.find? (fun p => p.1 == x)).map (·.2)
structure Pst where
  ls : List Lab
  ds : List Dr
def labelM (line : Int) (x : List UInt8) (p : Pst) : Except (Int × Int) Pst :=
  if nameB x = false then .error (line, 153) else if (findM p.ls x).isSome = true then .error (line, 154) else if p.ls.length = 400 then .error (line, 150) else .ok ⟨p.ls ++ [(x, (p.ds.length : Int))], p.ds⟩
def takeM (line : Int) (s : List UInt8) (p : Pst) : Except (Int × Int) Pst :=
  if s = [] then .ok p
  else if Lib.hasSuffix s [58] = true then labelM line (Lib.trimSuffix s [58]) p
  else match instrM line s with
    | .error e => .error e
    | .ok d => if p.ds.length = 400 then .error (line, 150) else .ok ⟨p.ls, p.ds ++ [d]⟩
def takeAll : Int → List ByteArray → Pst → Except (Int × Int) Pst
  | _, [], p => .ok p
  | i, s :: l, p =>
    match takeM (i + 1) (saidM s.data.toList) p with
    | .error e => .error e
    | .ok p' => takeAll (i + 1) l p'
/-- An instruction with its place in the stead of its label. -/
def setM (p : Pst) (d : Dr) : Except (Int × Int) Ins :=
  if d.lab = [] then (if mayB (rowOf d.x.op).takes d.x.a p.ds.length = true then .ok d.x else .error (d.line, 152))
  else match findM p.ls d.lab with
    | none => .error (d.line, 154)
    | some v => if mayB (rowOf d.x.op).takes v p.ds.length = true then .ok ⟨d.x.op, v⟩ else .error (d.line, 152)
def setAll (p : Pst) : List Dr → List Ins → Except (Int × Int) (List Ins)
  | [], acc => .ok acc
  | d :: l, acc =>
    match setM p d with
    | .error e => .error e
    | .ok x => setAll p l (acc ++ [x])
def linesM (s : ByteArray) : List ByteArray := Lib.splitB ⟨#[10]⟩ 0 (Lib.countB s ⟨#[10]⟩) s
def parseM (s : ByteArray) : Except (Int × Int) (List Ins) :=
  if 65536 < s.size then .error (0, 150)
  else match takeAll 0 (linesM s) ⟨[], []⟩ with
    | .error e => .error e
    | .ok p =>
      match setAll p p.ds [] with
      | .error e => .error e
      | .ok l => if l = [] then .error (0, 150) else .ok l

/-- How a call that may give a text up ends. -/
def Res {α : Type} (T : TypeId) (o : World) (P : α → Ending → World → Prop) : Except (Int × Int) α → Ending → World → Prop
  | .error (l, e), x, w' => x = .panicked [{ v := .iface T (.agg #[.int .i64 l, .int .i64 e]), recovered := false }] ∧ Kept (fun _ => False) o w'
  | .ok a, x, w' => P a x w'

theorem drCells_length (l : List Dr) : (drCells l).length = l.length * 4 := by
  induction l with
  | nil => rfl
  | cons x l ih => simp only [drCells, List.length_append, Dr.cells, List.length_cons, List.length_nil, ih]; omega
theorem drCells_append (a b : List Dr) : drCells (a ++ b) = drCells a ++ drCells b := by
  induction a with
  | nil => rfl
  | cons x l ih => simp [drCells, ih]
theorem drCells_one (l : List Dr) : ∀ u ∈ drCells l, u.oneCell' = true := by
  induction l with
  | nil => intro u h; cases h
  | cons t l ih =>
    intro u h
    simp only [drCells, List.mem_append, Dr.cells, List.mem_cons, List.not_mem_nil, or_false] at h
    rcases h with (h | h | h | h) | h
    · subst h; rfl
    · subst h; rfl
    · subst h; rfl
    · subst h; rfl
    · exact ih u h
def Dr.zero : Dr := ⟨0, Ins.zero, []⟩
theorem drCells_at (l : List Dr) (j : Nat) (hj : j < l.length) : (drCells l)[j * 4]? = some (.int .i64 (l.getD j Dr.zero).line) ∧ (drCells l)[j * 4 + 1]? = some (.int .i64 (l.getD j Dr.zero).x.op) ∧ (drCells l)[j * 4 + 2]? = some (.int .i64 (l.getD j Dr.zero).x.a) ∧ (drCells l)[j * 4 + 3]? = some (.string (bs (l.getD j Dr.zero).lab)) := by
  induction l generalizing j with
  | nil => simp at hj
  | cons x l ih =>
    cases j with
    | zero => exact ⟨rfl, rfl, rfl, rfl⟩
    | succ j =>
      have h := ih j (by simpa using hj)
      have e1 : (j + 1) * 4 = j * 4 + 1 + 1 + 1 + 1 := by omega
      rw [e1]
      refine ⟨by simpa [drCells, Dr.cells] using h.1, by simpa [drCells, Dr.cells] using h.2.1, by simpa [drCells, Dr.cells] using h.2.2.1, by simpa [drCells, Dr.cells] using h.2.2.2⟩
end Go.Proofs.YtcchflfeomainaaGreatDoor
