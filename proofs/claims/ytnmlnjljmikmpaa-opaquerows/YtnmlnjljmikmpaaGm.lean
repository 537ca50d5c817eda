/- Events, moves, stories and how stories are put together, as plain data; their cells. -/
import Derived.Test.YtnmlnjljmikmpaaGr
import Derived.Test.YtnmlnjljmikmpaaMp
import Derived.Test.YtnmlnjljmikmpaaProg
namespace Go.Proofs.Ytnmlnjljmikmpaa
open Go.RowKit
set_option linter.unusedVariables false
set_option linter.unusedSimpArgs false

structure Ev where
  kd : Int
  st : Int
  th : Int
  sp : Int
  ce : Int
  x : Int
  ow : Bool
  ga : Int
  e : Int
  by_ : Int
structure Mv where
  st : Int
  wr : Bool
  ce : Int
  x : Int
  ow : Bool
  ga : Int
structure Sy where
  th : Int
  sp : Int
  bg : Int
  en : Int
  ft : Int
  e : Int
  by_ : Int
  op : Int
  ga : Int
  ms : List Mv
/-- A story in memory: its moves lie at la, with room for lc. -/
structure Sm where
  s : Sy
  la : Option Addr
  lc : Nat
def Sy.zero : Sy := ⟨0, 0, 0, 0, 0, 0, 0, 0, 0, []⟩
def Mv.zero : Mv := ⟨0, false, 0, 0, false, 0⟩
def Ev.zero : Ev := ⟨0, 0, 0, 0, 0, 0, false, 0, 0, 0⟩
def Sm.zero : Sm := ⟨Sy.zero, none, 0⟩
def eC (v : Ev) : List Value := [.int .i64 v.kd, .int .i64 v.st, .int .i64 v.th, .int .i64 v.sp, .int .i64 v.ce, .int .i64 v.x, .bool v.ow, .int .i64 v.ga, .int .i64 v.e, .int .i64 v.by_]
def mC (m : Mv) : List Value := [.int .i64 m.st, .bool m.wr, .int .i64 m.ce, .int .i64 m.x, .bool m.ow, .int .i64 m.ga]
def pC (p : Pr) : List Value := [.int .i64 p.1, .int .i64 p.2]
def sC (m : Sm) : List Value := [.int .i64 m.s.th, .int .i64 m.s.sp, .int .i64 m.s.bg, .int .i64 m.s.en, .int .i64 m.s.ft, .int .i64 m.s.e, .int .i64 m.s.by_, .int .i64 m.s.op, .int .i64 m.s.ga, .slice m.la m.s.ms.length m.lc]
abbrev evV (v : Ev) : Value := .agg #[.int .i64 v.kd, .int .i64 v.st, .int .i64 v.th, .int .i64 v.sp, .int .i64 v.ce, .int .i64 v.x, .bool v.ow, .int .i64 v.ga, .int .i64 v.e, .int .i64 v.by_]
abbrev mvV (m : Mv) : Value := .agg #[.int .i64 m.st, .bool m.wr, .int .i64 m.ce, .int .i64 m.x, .bool m.ow, .int .i64 m.ga]
abbrev syV (m : Sm) : Value := .agg #[.int .i64 m.s.th, .int .i64 m.s.sp, .int .i64 m.s.bg, .int .i64 m.s.en, .int .i64 m.s.ft, .int .i64 m.s.e, .int .i64 m.s.by_, .int .i64 m.s.op, .int .i64 m.s.ga, .slice m.la m.s.ms.length m.lc]
theorem Try.infoM : (Try.prog.info? 46).map (fun i => (i.zero, i.size, i.bytes)) = some (some (mvV Mv.zero), 6, 48) := by kernel_rfl
theorem Try.infoP : (Try.prog.info? 86).map (fun i => (i.zero, i.size, i.bytes)) = some (some (.agg #[.int .i64 0, .int .i64 0]), 2, 16) := by kernel_rfl
theorem Try.infoS : (Try.prog.info? 44).map (fun i => (i.zero, i.size, i.bytes)) = some (some (syV Sm.zero), 10, 96) := by kernel_rfl
theorem Try.infoI : (Try.prog.info? 3).map (fun i => (i.zero, i.size, i.bytes)) = some (some (.int .i64 0), 1, 8) := by kernel_rfl
theorem Try.infoX : (Try.prog.info? 2).map (fun i => (i.zero, i.size, i.bytes)) = some (some (.int .i64 0), 1, 8) := by kernel_rfl
def iC (x : Int) : List Value := [.int .i64 x]
theorem row_of {α : Type} {P : Program} {t sl : TypeId} {k b : Nat} {f : α → List Value} {z : Value} (h1 : ∀ a, (f a).length = k) (h2 : ∀ a, ∀ u ∈ f a, u.oneCell' = true) (h3 : P.underlying sl = some (.slice t)) (h4 : 0 < k) (h5 : 0 < b) (h6 : (P.info? t).map (fun i => (i.zero, i.size, i.bytes)) = some (some z, k, b)) (h7 : z.cells.size = k) : RowT P t sl k b f := by
  obtain ⟨i0, hi0, hz0, hz1, hz2⟩ := info_parts h6
  exact ⟨h1, h2, h3, h4, h5, i0, z, hi0, hz0, hz1, hz2, h7⟩
theorem Try.rowM : RowT Try.prog 46 42 6 48 mC := row_of (fun _ => rfl) (fun a u hu => by simp only [mC, List.mem_cons, List.not_mem_nil, or_false] at hu; rcases hu with rfl | rfl | rfl | rfl | rfl | rfl <;> rfl) Try.underlying42 (by omega) (by omega) Try.infoM rfl
theorem Try.rowP : RowT Try.prog 86 65 2 16 pC := row_of (fun _ => rfl) (fun a u hu => by simp only [pC, List.mem_cons, List.not_mem_nil, or_false] at hu; rcases hu with rfl | rfl <;> rfl) Try.underlying65 (by omega) (by omega) Try.infoP rfl
theorem Try.rowS : RowT Try.prog 44 23 10 96 sC := row_of (fun _ => rfl) (fun a u hu => by simp only [sC, List.mem_cons, List.not_mem_nil, or_false] at hu; rcases hu with rfl | rfl | rfl | rfl | rfl | rfl | rfl | rfl | rfl | rfl <;> rfl) Try.underlying23 (by omega) (by omega) Try.infoS rfl
theorem Try.rowI : RowT Try.prog 3 24 1 8 iC := row_of (fun _ => rfl) (fun a u hu => by simp only [iC, List.mem_cons, List.not_mem_nil, or_false] at hu; rcases hu with rfl <;> rfl) Try.underlying24 (by omega) (by omega) Try.infoI rfl
theorem Try.rowX : RowT Try.prog 2 28 1 8 iC := row_of (fun _ => rfl) (fun a u hu => by simp only [iC, List.mem_cons, List.not_mem_nil, or_false] at hu; rcases hu with rfl <;> rfl) Try.underlying28 (by omega) (by omega) Try.infoX rfl

/-- May an event be at all? -/
def Ev.may (v : Ev) : Bool := decide (1 ≤ v.kd) && decide (v.kd ≤ 6) && decide (1 ≤ v.th) && decide (v.th ≤ 8) && decide (1 ≤ v.sp) && decide (v.sp ≤ v.st)
def Ev.first (v : Ev) : Bool := v.kd == 1 || v.kd == 6
/-- How far the stories have come. -/
structure Bk where
  ss : List Sy
  op : Int → Option Nat
  st : Int
def Bk.zero : Bk := ⟨[], fun _ => none, 0⟩
/-- Does the open story, if there is one, go with the event? -/
def Bk.goes (b : Bk) (v : Ev) : Bool :=
  match b.op v.th with
  | none => v.first
  | some p => !v.first && ((b.ss.getD p Sy.zero).sp == v.sp)
def Bk.takes (b : Bk) (v : Ev) : Bool := v.may && !decide (v.st < b.st) && b.goes v
def Ev.move (v : Ev) : Mv := if v.kd = 3 then ⟨v.st, true, v.ce, v.x, false, 0⟩ else if v.ow then ⟨v.st, false, v.ce, v.x, true, 0⟩ else ⟨v.st, false, v.ce, v.x, false, v.ga⟩
def Ev.opens (v : Ev) : Sy := ⟨v.th, v.sp, v.st, 0, 0, 0, 0, v.ga, 0, []⟩
def Sy.ended (s : Sy) (v : Ev) : Sy := if v.kd = 4 then { s with en := v.st, ft := 1, ga := v.ga } else { s with en := v.st, ft := 2, e := v.e, by_ := if v.e = 7 then v.by_ else s.by_ }
def Sy.moved (s : Sy) (v : Ev) : Sy := { s with ms := s.ms ++ [v.move] }
def opSet (op : Int → Option Nat) (x : Int) (r : Option Nat) : Int → Option Nat := fun y => if y = x then r else op y
def Bk.put (b : Bk) (v : Ev) : Bk :=
  if v.kd = 1 then ⟨b.ss ++ [v.opens], opSet b.op v.th (some b.ss.length), v.st⟩
  else match b.op v.th with
    | none => { b with st := v.st }
    | some p => if v.kd = 2 ∨ v.kd = 3 then ⟨b.ss.set p ((b.ss.getD p Sy.zero).moved v), b.op, v.st⟩ else ⟨b.ss.set p ((b.ss.getD p Sy.zero).ended v), opSet b.op v.th none, v.st⟩
/-- The stories, and the place of the first event that is wrong. -/
def runB : Bk → List Ev → Nat → Bk × Option Nat
  | b, [], _ => (b, none)
  | b, v :: r, i => if b.takes v then runB (b.put v) r (i + 1) else (b, some i)
def outR (l : List Ev) : Bk × Option Nat := runB Bk.zero l 0
def outS (l : List Ev) : List Sy := match (outR l).2 with | none => (outR l).1.ss | some _ => []
def outP (l : List Ev) : Int := (((outR l).2.getD 0 : Nat) : Int)
def outE (l : List Ev) : Int := match (outR l).2 with | none => 0 | some _ => 210
/-- How many threads have an open story. -/
def one? (r : Option Nat) : Nat := if r.isSome then 1 else 0
def opens (op : Int → Option Nat) : Nat := one? (op 1) + one? (op 2) + one? (op 3) + one? (op 4) + one? (op 5) + one? (op 6) + one? (op 7) + one? (op 8)
theorem one_le (r : Option Nat) : one? r ≤ 1 := by unfold one?; split <;> omega
theorem opens_le (op : Int → Option Nat) : opens op ≤ 8 := by
  unfold opens
  have := one_le (op 1); have := one_le (op 2); have := one_le (op 3); have := one_le (op 4)
  have := one_le (op 5); have := one_le (op 6); have := one_le (op 7); have := one_le (op 8)
  omega
theorem opens_set {op : Int → Option Nat} {x : Int} (h1 : 1 ≤ x) (h2 : x ≤ 8) (r : Option Nat) : opens (opSet op x r) + one? (op x) = opens op + one? r := by
  have : x = 1 ∨ x = 2 ∨ x = 3 ∨ x = 4 ∨ x = 5 ∨ x = 6 ∨ x = 7 ∨ x = 8 := by omega
  rcases this with rfl | rfl | rfl | rfl | rfl | rfl | rfl | rfl <;> simp [opens, opSet] <;> omega
/-- What stands of a book behind i events. -/
structure Bk.ok (b : Bk) (i : Nat) : Prop where
  place : ∀ x p, b.op x = some p → p < b.ss.length ∧ 1 ≤ x ∧ x ≤ 8
  apart : ∀ x y p, b.op x = some p → b.op y = some p → x = y
  many : 2 * b.ss.length ≤ i + opens b.op
  moves : ∀ s ∈ b.ss, s.ms.length ≤ i
theorem Bk.ok_zero : Bk.zero.ok 0 := ⟨fun x p h => by simp [Bk.zero] at h, fun x y p h => by simp [Bk.zero] at h, by simp [Bk.zero], fun s hs => by simp [Bk.zero] at hs⟩
theorem may_parts {v : Ev} (h : v.may = true) : 1 ≤ v.kd ∧ v.kd ≤ 6 ∧ 1 ≤ v.th ∧ v.th ≤ 8 ∧ 1 ≤ v.sp ∧ v.sp ≤ v.st := by
  simp only [Ev.may, Bool.and_eq_true, decide_eq_true_eq] at h
  obtain ⟨⟨⟨⟨⟨a, b⟩, c⟩, d⟩, e⟩, f⟩ := h
  exact ⟨a, b, c, d, e, f⟩
theorem takes_parts {b : Bk} {v : Ev} (h : b.takes v = true) : v.may = true ∧ ¬ v.st < b.st ∧ b.goes v = true := by
  simp only [Bk.takes, Bool.and_eq_true, Bool.not_eq_true', decide_eq_false_iff_not] at h
  exact ⟨h.1.1, h.1.2, h.2⟩
theorem first_iff {v : Ev} : v.first = true ↔ v.kd = 1 ∨ v.kd = 6 := by simp [Ev.first]
theorem mem_set_or {α : Type} {l : List α} {p : Nat} {a s : α} (h : s ∈ l.set p a) : s ∈ l ∨ s = a := by
  rcases List.mem_or_eq_of_mem_set h with h | h
  · exact .inl h
  · exact .inr h
theorem getD_len {b : Bk} {i p : Nat} (h : b.ok i) (hp : p < b.ss.length) : (b.ss.getD p Sy.zero).ms.length ≤ i := by
  refine h.moves _ ?_
  rw [List.getD_eq_getElem?_getD, List.getElem?_eq_getElem hp]
  exact List.getElem_mem hp
theorem Bk.ok_put {b : Bk} {i : Nat} {v : Ev} (h : b.ok i) (ht : b.takes v = true) : (b.put v).ok (i + 1) := by
  obtain ⟨hm, _, hg⟩ := takes_parts ht
  obtain ⟨k1, k2, t1, t2, _, _⟩ := may_parts hm
  unfold Bk.put
  by_cases h1 : v.kd = 1
  · rw [if_pos h1]
    have hn : b.op v.th = none := by
      unfold Bk.goes at hg
      cases ho : b.op v.th with
      | none => rfl
      | some p =>
        rw [ho] at hg
        have : v.first = true := first_iff.2 (.inl h1)
        simp [this] at hg
    refine ⟨fun x p hx => ?_, fun x y p hx hy => ?_, ?_, fun s hs => ?_⟩
    · simp only [opSet] at hx
      simp only [List.length_append, List.length_cons, List.length_nil]
      split at hx
      · rename_i e
        simp only [Option.some.injEq] at hx
        subst e
        omega
      · have := h.place x p hx
        omega
    · simp only [opSet] at hx hy
      split at hx <;> split at hy
      · rename_i e e'; rw [e, e']
      · simp only [Option.some.injEq] at hx
        have := (h.place y p hy).1
        omega
      · simp only [Option.some.injEq] at hy
        have := (h.place x p hx).1
        omega
      · exact h.apart x y p hx hy
    · have h2 := h.many
      have h3 := opens_set (op := b.op) t1 t2 (some b.ss.length)
      rw [hn] at h3
      simp only [one?, Option.isSome_none, Option.isSome_some, if_true, Bool.false_eq_true, if_false] at h3
      simp only [List.length_append, List.length_cons, List.length_nil]
      omega
    · rcases List.mem_append.1 hs with hs | hs
      · have := h.moves s hs; omega
      · rw [List.mem_singleton.1 hs]; simp [Ev.opens]
  · rw [if_neg h1]
    cases ho : b.op v.th with
    | none => exact ⟨h.place, h.apart, by have := h.many; show _ ≤ _; simp only; omega, fun s hs => by have := h.moves s hs; omega⟩
    | some p =>
      have hp := (h.place _ _ ho).1
      have hl := getD_len h hp
      simp only
      by_cases h2 : v.kd = 2 ∨ v.kd = 3
      · rw [if_pos h2]
        refine ⟨fun x q hx => ?_, h.apart, ?_, fun s hs => ?_⟩
        · have := h.place x q hx
          simpa using this
        · have := h.many
          simp only [List.length_set]
          omega
        · rcases mem_set_or hs with hs | hs
          · have := h.moves s hs; omega
          · rw [hs]
            simp only [Sy.moved, List.length_append, List.length_cons, List.length_nil]
            omega
      · rw [if_neg h2]
        refine ⟨fun x q hx => ?_, fun x y q hx hy => ?_, ?_, fun s hs => ?_⟩
        · simp only [opSet] at hx
          split at hx
          · cases hx
          · have := h.place x q hx
            simpa using this
        · simp only [opSet] at hx hy
          split at hx
          · cases hx
          · split at hy
            · cases hy
            · exact h.apart x y q hx hy
        · have h4 := h.many
          have h3 := opens_set (op := b.op) t1 t2 none
          rw [ho] at h3
          simp only [one?, Option.isSome_none, Option.isSome_some, if_true, Bool.false_eq_true, if_false] at h3
          simp only [List.length_set]
          omega
        · rcases mem_set_or hs with hs | hs
          · have := h.moves s hs; omega
          · rw [hs]
            have : ((b.ss.getD p Sy.zero).ended v).ms = (b.ss.getD p Sy.zero).ms := by unfold Sy.ended; split <;> rfl
            rw [this]
            omega
end Go.Proofs.Ytnmlnjljmikmpaa
