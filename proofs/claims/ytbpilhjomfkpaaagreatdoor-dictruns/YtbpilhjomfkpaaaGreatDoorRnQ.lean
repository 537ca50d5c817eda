/- Programs, run by the document's own machine, as plain data. No program is named here. A dict in cells, and the search for a key by a deed's program, as plain data. No program is named here. A deed's program is the deed: the dict's five. No program is named here. A deed's program is the deed: the dict's five, run. No program is named here. A dict in cells: what is read of it; cells that are laid. No program is named here. -/
import Derived.Test.YtbpilhjomfkpaaaGreatDoorOwB
import Derived.Test.YtbpilhjomfkpaaaGreatDoorDiM
import Derived.Test.YtbpilhjomfkpaaaGreatDoorCoB
namespace Go.Proofs.YtbpilhjomfkpaaaGreatDoor
open Go.RowKit
set_option linter.unusedVariables false
set_option linter.unusedSimpArgs false

/-- What each step asks, beside that nothing is amiss. -/
def Ow.fit (o : Ow) (x : Ins) : Prop :=
  o.may x ∧ (x.op = 16 → o.cells.length ≤ 1000) ∧ (x.op = 18 → o.wrote.length ≤ 16) ∧ (x.op = 19 → 0 < o.held.length ∧ o.told.length + o.held.length ≤ 100000) ∧ (x.op = 21 → o.inside = true ∧ o.held.length ≤ 100000) ∧
  (x.op = 10 → -1000000 ≤ o.top 1 ∧ o.top 1 ≤ 1000000 ∧ 1 ≤ o.top 0 ∧ o.top 0 ≤ 1000000) ∧ (x.op = 1 ∨ x.op = 3 ∨ x.op = 5 ∨ x.op = 6 ∨ x.op = 7 ∨ x.op = 8 ∨ x.op = 9 ∨ x.op = 10 ∨ x.op = 11 ∨ x.op = 12 ∨ x.op = 13 ∨ x.op = 14 ∨ x.op = 15 ∨ x.op = 16 ∨ x.op = 17 ∨ x.op = 18 ∨ x.op = 19 ∨ x.op = 21)
/-- From one state to another in so many steps. -/
inductive Ow.To (l : List Ins) : Nat → Ow → Ow → Prop
  | here (o : Ow) : Ow.To l 0 o o
  | step {k : Nat} {o o' : Ow} (p : Nat) (x : Ins) (hp : o.place = p) (hx : l[p]? = some x) (hf : o.fit x) (h : Ow.To l k (o.go x) o') : Ow.To l (k + 1) o o'
/-- A state between begin and commit: its place, stack, locals, what it holds, wrote, its cells. -/
def owS (cells : List Int) (p : Int) (st : List Int) (lc : List Int) (held wrote : List Int) (tr : Int) : Ow := ⟨cells, p, st, lc, [], held, true, false, 0, tr, wrote⟩
def owB (cells : List Int) (lc : List Int) (tr : Int) : Ow := ⟨cells, 0, [7, -7], lc, [], [], false, false, 0, tr, []⟩
def owE (cells : List Int) (p : Int) (lc : List Int) (told wrote : List Int) (tr : Int) : Ow := ⟨cells, p, [7, -7], lc, told, [], false, false, 0, tr, wrote⟩
section
variable {l : List Ins} {k : Nat} {cells st lc held wrote : List Int} {p tr x y : Int} {o' : Ow}
theorem top0 : (owS cells p (st ++ [x]) lc held wrote tr).top 0 = x := by
  simp [Ow.top, owS, List.getD_eq_getElem?_getD]
theorem less1 : (owS cells p (st ++ [x]) lc held wrote tr).less 1 = st := by
  simp [Ow.less, owS]
theorem top1 : (owS cells p (st ++ [y] ++ [x]) lc held wrote tr).top 1 = y := by
  simp [Ow.top, owS, List.getD_eq_getElem?_getD]
theorem less2 : (owS cells p (st ++ [y] ++ [x]) lc held wrote tr).less 2 = st := by
  simp [Ow.less, owS]
theorem to_begin {n : Nat} (hx : l[0]? = some ⟨16, 0⟩) (hc : cells.length ≤ 1000) (h : Ow.To l n (owS cells 1 [7, -7] lc [] [] tr) o') : Ow.To l (n + 1) (owB cells lc tr) o' := by
  refine .step 0 ⟨16, 0⟩ rfl hx ?_ ?_
  · refine ⟨⟨rfl, (by decide : knownB 16 = true), (by decide : (rowOf 16).pops ≤ ((2 : Nat) : Int)), (by decide : ((2 : Nat) : Int) - (rowOf 16).pops + (rowOf 16).pushes ≤ 32), fun _ => rfl, fun h => ?_, fun h => ?_, fun h => ?_, fun h => ?_, fun h => ?_⟩, fun _ => hc, fun h => ?_, fun h => ?_, fun h => ?_, fun h => ?_, by simp⟩
    all_goals simp at h
  · simpa [Ow.go, owB, owS] using h
theorem to_push {n q : Nat} {a : Int} (hx : l[q]? = some ⟨1, a⟩) (hs : st.length ≤ 30) (h : Ow.To l n (owS cells ((q : Int) + 1) (st ++ [a]) lc held wrote tr) o') : Ow.To l (n + 1) (owS cells q st lc held wrote tr) o' := by
  refine .step q ⟨1, a⟩ rfl hx ?_ ?_
  · refine ⟨⟨rfl, (by decide : knownB 1 = true), (show (rowOf 1).pops ≤ (st.length : Int) by rw [show (rowOf 1).pops = 0 by decide]; omega), (show (st.length : Int) - (rowOf 1).pops + (rowOf 1).pushes ≤ 32 by rw [show (rowOf 1).pops = 0 by decide, show (rowOf 1).pushes = 1 by decide]; omega), fun h => ?_, fun h => ?_, fun h => ?_, fun h => ?_, fun h => ?_, fun h => ?_⟩, fun h => ?_, fun h => ?_, fun h => ?_, fun h => ?_, fun h => ?_, by simp⟩
    all_goals simp at h
  · simpa [Ow.go, owS] using h
theorem to_dup {n q : Nat} (hx : l[q]? = some ⟨3, 0⟩) (hs : st.length ≤ 28) (h : Ow.To l n (owS cells ((q : Int) + 1) (st ++ [x] ++ [x]) lc held wrote tr) o') : Ow.To l (n + 1) (owS cells q (st ++ [x]) lc held wrote tr) o' := by
  refine .step q ⟨3, 0⟩ rfl hx ?_ ?_
  · refine ⟨⟨rfl, (by decide : knownB 3 = true), ((show (rowOf 3).pops ≤ ((st ++ [x]).length : Int) by rw [show (rowOf 3).pops = 1 by decide, List.length_append]; simp; omega)), ((show ((st ++ [x]).length : Int) - (rowOf 3).pops + (rowOf 3).pushes ≤ 32 by rw [show (rowOf 3).pops = 1 by decide, show (rowOf 3).pushes = 2 by decide, List.length_append]; simp; omega)), fun h => ?_, fun h => ?_, fun h => ?_, fun h => ?_, fun h => ?_, fun h => ?_⟩, fun h => ?_, fun h => ?_, fun h => ?_, fun h => ?_, fun h => ?_, by simp⟩
    all_goals simp at h
  · have e : (owS cells q (st ++ [x]) lc held wrote tr).go ⟨3, 0⟩ = owS cells ((q : Int) + 1) (st ++ [x] ++ [x]) lc held wrote tr := by
      simp only [Ow.go, top0, Int.reduceEq, if_false, if_true]
      rfl
    rw [e]; exact h
theorem to_get {n q i : Nat} (hx : l[q]? = some ⟨5, (i : Int)⟩) (hi : i < 8) (hs : st.length ≤ 30) (h : Ow.To l n (owS cells ((q : Int) + 1) (st ++ [lc.getD i 0]) lc held wrote tr) o') : Ow.To l (n + 1) (owS cells q st lc held wrote tr) o' := by
  refine .step q ⟨5, (i : Int)⟩ rfl hx ?_ ?_
  · refine ⟨⟨rfl, (by decide : knownB 5 = true), (show (rowOf 5).pops ≤ (st.length : Int) by rw [show (rowOf 5).pops = 0 by decide]; omega), (show (st.length : Int) - (rowOf 5).pops + (rowOf 5).pushes ≤ 32 by rw [show (rowOf 5).pops = 0 by decide, show (rowOf 5).pushes = 1 by decide]; omega), fun h => ?_, fun h => ?_, fun h => ?_, fun _ => ⟨by show (0 : Int) ≤ (i : Int); omega, by show (i : Int) < 8; omega⟩, fun h => ?_, fun h => ?_⟩, fun h => ?_, fun h => ?_, fun h => ?_, fun h => ?_, fun h => ?_, by simp⟩
    all_goals simp at h
  · simpa [Ow.go, owS] using h
theorem to_set {n q i : Nat} (hx : l[q]? = some ⟨6, (i : Int)⟩) (hi : i < 8) (hs : st.length ≤ 28) (h : Ow.To l n (owS cells ((q : Int) + 1) st (lc.set i x) held wrote tr) o') : Ow.To l (n + 1) (owS cells q (st ++ [x]) lc held wrote tr) o' := by
  refine .step q ⟨6, (i : Int)⟩ rfl hx ?_ ?_
  · refine ⟨⟨rfl, (by decide : knownB 6 = true), ((show (rowOf 6).pops ≤ ((st ++ [x]).length : Int) by rw [show (rowOf 6).pops = 1 by decide, List.length_append]; simp; omega)), ((show ((st ++ [x]).length : Int) - (rowOf 6).pops + (rowOf 6).pushes ≤ 32 by rw [show (rowOf 6).pops = 1 by decide, show (rowOf 6).pushes = 0 by decide, List.length_append]; simp; omega)), fun h => ?_, fun h => ?_, fun h => ?_, fun _ => ⟨by show (0 : Int) ≤ (i : Int); omega, by show (i : Int) < 8; omega⟩, fun h => ?_, fun h => ?_⟩, fun h => ?_, fun h => ?_, fun h => ?_, fun h => ?_, fun h => ?_, by simp⟩
    all_goals simp at h
  · have e : (owS cells q (st ++ [x]) lc held wrote tr).go ⟨6, (i : Int)⟩ = owS cells ((q : Int) + 1) st (lc.set i x) held wrote tr := by
      simp only [Ow.go, top0, less1, Int.reduceEq, if_false, if_true, Int.toNat_natCast]
      rfl
    rw [e]; exact h
theorem to_sum7 {n q : Nat} (hx : l[q]? = some ⟨7, 0⟩) (hs : st.length ≤ 26) (h : Ow.To l n (owS cells ((q : Int) + 1) (st ++ [sumO 7 y x]) lc held wrote tr) o') : Ow.To l (n + 1) (owS cells q (st ++ [y] ++ [x]) lc held wrote tr) o' := by
  refine .step q ⟨7, 0⟩ rfl hx ?_ ?_
  · refine ⟨⟨rfl, (by decide : knownB 7 = true), (show (rowOf 7).pops ≤ ((st ++ [y] ++ [x]).length : Int) by rw [show (rowOf 7).pops = 2 by decide, List.length_append, List.length_append]; simp; omega), (show ((st ++ [y] ++ [x]).length : Int) - (rowOf 7).pops + (rowOf 7).pushes ≤ 32 by rw [show (rowOf 7).pops = 2 by decide, show (rowOf 7).pushes = 1 by decide, List.length_append, List.length_append]; simp; omega), fun h => ?_, fun h => ?_, fun h => ?_, fun h => ?_, fun h => ?_, fun h => ?_⟩, fun h => ?_, fun h => ?_, fun h => ?_, fun h => ?_, fun h => ?_, by simp⟩
    all_goals simp at h
  · have e : (owS cells q (st ++ [y] ++ [x]) lc held wrote tr).go ⟨7, 0⟩ = owS cells ((q : Int) + 1) (st ++ [sumO 7 y x]) lc held wrote tr := by
      simp only [Ow.go, top0, top1, less2, Int.reduceEq, if_false, if_true, or_true, true_or, or_false, false_or]
      rfl
    rw [e]; exact h
theorem to_sum8 {n q : Nat} (hx : l[q]? = some ⟨8, 0⟩) (hs : st.length ≤ 26) (h : Ow.To l n (owS cells ((q : Int) + 1) (st ++ [sumO 8 y x]) lc held wrote tr) o') : Ow.To l (n + 1) (owS cells q (st ++ [y] ++ [x]) lc held wrote tr) o' := by
  refine .step q ⟨8, 0⟩ rfl hx ?_ ?_
  · refine ⟨⟨rfl, (by decide : knownB 8 = true), (show (rowOf 8).pops ≤ ((st ++ [y] ++ [x]).length : Int) by rw [show (rowOf 8).pops = 2 by decide, List.length_append, List.length_append]; simp; omega), (show ((st ++ [y] ++ [x]).length : Int) - (rowOf 8).pops + (rowOf 8).pushes ≤ 32 by rw [show (rowOf 8).pops = 2 by decide, show (rowOf 8).pushes = 1 by decide, List.length_append, List.length_append]; simp; omega), fun h => ?_, fun h => ?_, fun h => ?_, fun h => ?_, fun h => ?_, fun h => ?_⟩, fun h => ?_, fun h => ?_, fun h => ?_, fun h => ?_, fun h => ?_, by simp⟩
    all_goals simp at h
  · have e : (owS cells q (st ++ [y] ++ [x]) lc held wrote tr).go ⟨8, 0⟩ = owS cells ((q : Int) + 1) (st ++ [sumO 8 y x]) lc held wrote tr := by
      simp only [Ow.go, top0, top1, less2, Int.reduceEq, if_false, if_true, or_true, true_or, or_false, false_or]
      rfl
    rw [e]; exact h
theorem to_sum10 {n q : Nat} (hx : l[q]? = some ⟨10, 0⟩) (hs : st.length ≤ 26) (hr : -1000000 ≤ y ∧ y ≤ 1000000 ∧ 1 ≤ x ∧ x ≤ 1000000) (h : Ow.To l n (owS cells ((q : Int) + 1) (st ++ [sumO 10 y x]) lc held wrote tr) o') : Ow.To l (n + 1) (owS cells q (st ++ [y] ++ [x]) lc held wrote tr) o' := by
  refine .step q ⟨10, 0⟩ rfl hx ?_ ?_
  · refine ⟨⟨rfl, (by decide : knownB 10 = true), (show (rowOf 10).pops ≤ ((st ++ [y] ++ [x]).length : Int) by rw [show (rowOf 10).pops = 2 by decide, List.length_append, List.length_append]; simp; omega), (show ((st ++ [y] ++ [x]).length : Int) - (rowOf 10).pops + (rowOf 10).pushes ≤ 32 by rw [show (rowOf 10).pops = 2 by decide, show (rowOf 10).pushes = 1 by decide, List.length_append, List.length_append]; simp; omega), fun h => ?_, fun h => ?_, fun h => ?_, fun h => ?_, fun h => ?_, fun h => ?_⟩, fun h => ?_, fun h => ?_, fun h => ?_, fun h => ?_, fun _ => by rw [top1, top0]; exact hr, by simp⟩
    all_goals simp at h
  · have e : (owS cells q (st ++ [y] ++ [x]) lc held wrote tr).go ⟨10, 0⟩ = owS cells ((q : Int) + 1) (st ++ [sumO 10 y x]) lc held wrote tr := by
      simp only [Ow.go, top0, top1, less2, Int.reduceEq, if_false, if_true, or_true, true_or, or_false, false_or]
      rfl
    rw [e]; exact h
theorem to_sum11 {n q : Nat} (hx : l[q]? = some ⟨11, 0⟩) (hs : st.length ≤ 26) (h : Ow.To l n (owS cells ((q : Int) + 1) (st ++ [sumO 11 y x]) lc held wrote tr) o') : Ow.To l (n + 1) (owS cells q (st ++ [y] ++ [x]) lc held wrote tr) o' := by
  refine .step q ⟨11, 0⟩ rfl hx ?_ ?_
  · refine ⟨⟨rfl, (by decide : knownB 11 = true), (show (rowOf 11).pops ≤ ((st ++ [y] ++ [x]).length : Int) by rw [show (rowOf 11).pops = 2 by decide, List.length_append, List.length_append]; simp; omega), (show ((st ++ [y] ++ [x]).length : Int) - (rowOf 11).pops + (rowOf 11).pushes ≤ 32 by rw [show (rowOf 11).pops = 2 by decide, show (rowOf 11).pushes = 1 by decide, List.length_append, List.length_append]; simp; omega), fun h => ?_, fun h => ?_, fun h => ?_, fun h => ?_, fun h => ?_, fun h => ?_⟩, fun h => ?_, fun h => ?_, fun h => ?_, fun h => ?_, fun h => ?_, by simp⟩
    all_goals simp at h
  · have e : (owS cells q (st ++ [y] ++ [x]) lc held wrote tr).go ⟨11, 0⟩ = owS cells ((q : Int) + 1) (st ++ [sumO 11 y x]) lc held wrote tr := by
      simp only [Ow.go, top0, top1, less2, Int.reduceEq, if_false, if_true, or_true, true_or, or_false, false_or]
      rfl
    rw [e]; exact h
theorem to_sum9 {n q : Nat} (hx : l[q]? = some ⟨9, 0⟩) (hs : st.length ≤ 26) (h : Ow.To l n (owS cells ((q : Int) + 1) (st ++ [sumO 9 y x]) lc held wrote tr) o') : Ow.To l (n + 1) (owS cells q (st ++ [y] ++ [x]) lc held wrote tr) o' := by
  refine .step q ⟨9, 0⟩ rfl hx ?_ ?_
  · refine ⟨⟨rfl, (by decide : knownB 9 = true), (show (rowOf 9).pops ≤ ((st ++ [y] ++ [x]).length : Int) by rw [show (rowOf 9).pops = 2 by decide, List.length_append, List.length_append]; simp; omega), (show ((st ++ [y] ++ [x]).length : Int) - (rowOf 9).pops + (rowOf 9).pushes ≤ 32 by rw [show (rowOf 9).pops = 2 by decide, show (rowOf 9).pushes = 1 by decide, List.length_append, List.length_append]; simp; omega), fun h => ?_, fun h => ?_, fun h => ?_, fun h => ?_, fun h => ?_, fun h => ?_⟩, fun h => ?_, fun h => ?_, fun h => ?_, fun h => ?_, fun h => ?_, by simp⟩
    all_goals simp at h
  · have e : (owS cells q (st ++ [y] ++ [x]) lc held wrote tr).go ⟨9, 0⟩ = owS cells ((q : Int) + 1) (st ++ [sumO 9 y x]) lc held wrote tr := by
      simp only [Ow.go, top0, top1, less2, Int.reduceEq, if_false, if_true, or_true, true_or, or_false, false_or]
      rfl
    rw [e]; exact h
theorem to_sum12 {n q : Nat} (hx : l[q]? = some ⟨12, 0⟩) (hs : st.length ≤ 26) (h : Ow.To l n (owS cells ((q : Int) + 1) (st ++ [sumO 12 y x]) lc held wrote tr) o') : Ow.To l (n + 1) (owS cells q (st ++ [y] ++ [x]) lc held wrote tr) o' := by
  refine .step q ⟨12, 0⟩ rfl hx ?_ ?_
  · refine ⟨⟨rfl, (by decide : knownB 12 = true), (show (rowOf 12).pops ≤ ((st ++ [y] ++ [x]).length : Int) by rw [show (rowOf 12).pops = 2 by decide, List.length_append, List.length_append]; simp; omega), (show ((st ++ [y] ++ [x]).length : Int) - (rowOf 12).pops + (rowOf 12).pushes ≤ 32 by rw [show (rowOf 12).pops = 2 by decide, show (rowOf 12).pushes = 1 by decide, List.length_append, List.length_append]; simp; omega), fun h => ?_, fun h => ?_, fun h => ?_, fun h => ?_, fun h => ?_, fun h => ?_⟩, fun h => ?_, fun h => ?_, fun h => ?_, fun h => ?_, fun h => ?_, by simp⟩
    all_goals simp at h
  · have e : (owS cells q (st ++ [y] ++ [x]) lc held wrote tr).go ⟨12, 0⟩ = owS cells ((q : Int) + 1) (st ++ [sumO 12 y x]) lc held wrote tr := by
      simp only [Ow.go, top0, top1, less2, Int.reduceEq, if_false, if_true, or_true, true_or, or_false, false_or]
      rfl
    rw [e]; exact h
theorem to_not {n q : Nat} (hx : l[q]? = some ⟨13, 0⟩) (hs : st.length ≤ 28) (h : Ow.To l n (owS cells ((q : Int) + 1) (st ++ [sumO 12 x 0]) lc held wrote tr) o') : Ow.To l (n + 1) (owS cells q (st ++ [x]) lc held wrote tr) o' := by
  refine .step q ⟨13, 0⟩ rfl hx ?_ ?_
  · refine ⟨⟨rfl, (by decide : knownB 13 = true), ((show (rowOf 13).pops ≤ ((st ++ [x]).length : Int) by rw [show (rowOf 13).pops = 1 by decide, List.length_append]; simp; omega)), ((show ((st ++ [x]).length : Int) - (rowOf 13).pops + (rowOf 13).pushes ≤ 32 by rw [show (rowOf 13).pops = 1 by decide, show (rowOf 13).pushes = 1 by decide, List.length_append]; simp; omega)), fun h => ?_, fun h => ?_, fun h => ?_, fun h => ?_, fun h => ?_, fun h => ?_⟩, fun h => ?_, fun h => ?_, fun h => ?_, fun h => ?_, fun h => ?_, by simp⟩
    all_goals simp at h
  · have e : (owS cells q (st ++ [x]) lc held wrote tr).go ⟨13, 0⟩ = owS cells ((q : Int) + 1) (st ++ [sumO 12 x 0]) lc held wrote tr := by
      simp only [Ow.go, top0, less1, Int.reduceEq, if_false, if_true, or_true, true_or, or_false, false_or]
      rfl
    rw [e]; exact h
theorem to_jump {n q : Nat} {a : Int} (hx : l[q]? = some ⟨14, a⟩) (hs : st.length ≤ 30) (h : Ow.To l n (owS cells a st lc held wrote tr) o') : Ow.To l (n + 1) (owS cells q st lc held wrote tr) o' := by
  refine .step q ⟨14, a⟩ rfl hx ?_ ?_
  · refine ⟨⟨rfl, (by decide : knownB 14 = true), (show (rowOf 14).pops ≤ (st.length : Int) by rw [show (rowOf 14).pops = 0 by decide]; omega), (show (st.length : Int) - (rowOf 14).pops + (rowOf 14).pushes ≤ 32 by rw [show (rowOf 14).pops = 0 by decide, show (rowOf 14).pushes = 0 by decide]; omega), fun h => ?_, fun h => ?_, fun h => ?_, fun h => ?_, fun h => ?_, fun h => ?_⟩, fun h => ?_, fun h => ?_, fun h => ?_, fun h => ?_, fun h => ?_, by simp⟩
    all_goals simp at h
  · simpa [Ow.go, owS] using h
theorem to_zero {n q : Nat} {a : Int} (hx : l[q]? = some ⟨15, a⟩) (hs : st.length ≤ 28) (h : Ow.To l n (owS cells (if x = 0 then a else (q : Int) + 1) st lc held wrote tr) o') : Ow.To l (n + 1) (owS cells q (st ++ [x]) lc held wrote tr) o' := by
  refine .step q ⟨15, a⟩ rfl hx ?_ ?_
  · refine ⟨⟨rfl, (by decide : knownB 15 = true), ((show (rowOf 15).pops ≤ ((st ++ [x]).length : Int) by rw [show (rowOf 15).pops = 1 by decide, List.length_append]; simp; omega)), ((show ((st ++ [x]).length : Int) - (rowOf 15).pops + (rowOf 15).pushes ≤ 32 by rw [show (rowOf 15).pops = 1 by decide, show (rowOf 15).pushes = 0 by decide, List.length_append]; simp; omega)), fun h => ?_, fun h => ?_, fun h => ?_, fun h => ?_, fun h => ?_, fun h => ?_⟩, fun h => ?_, fun h => ?_, fun h => ?_, fun h => ?_, fun h => ?_, by simp⟩
    all_goals simp at h
  · have e : (owS cells q (st ++ [x]) lc held wrote tr).go ⟨15, a⟩ = owS cells (if x = 0 then a else (q : Int) + 1) st lc held wrote tr := by
      simp only [Ow.go, top0, less1, Int.reduceEq, if_false, if_true]
      rfl
    rw [e]; exact h
theorem to_tell {n q : Nat} (hx : l[q]? = some ⟨21, 0⟩) (hs : st.length ≤ 28) (hh : held.length ≤ 100) (h : Ow.To l n (owS cells ((q : Int) + 1) st lc (held ++ [x]) wrote tr) o') : Ow.To l (n + 1) (owS cells q (st ++ [x]) lc held wrote tr) o' := by
  refine .step q ⟨21, 0⟩ rfl hx ?_ ?_
  · refine ⟨⟨rfl, (by decide : knownB 21 = true), (show (rowOf 21).pops ≤ ((st ++ [x]).length : Int) by rw [show (rowOf 21).pops = 1 by decide, List.length_append]; simp; omega), (show ((st ++ [x]).length : Int) - (rowOf 21).pops + (rowOf 21).pushes ≤ 32 by rw [show (rowOf 21).pops = 1 by decide, show (rowOf 21).pushes = 0 by decide, List.length_append]; simp; omega), fun h => ?_, fun h => ?_, fun h => ?_, fun h => ?_, fun h => ?_, fun h => ?_⟩, fun h => ?_, fun h => ?_, fun h => ?_, fun _ => ⟨rfl, by show held.length ≤ 100000; omega⟩, fun h => ?_, by simp⟩
    all_goals simp at h
  · have e : (owS cells q (st ++ [x]) lc held wrote tr).go ⟨21, 0⟩ = owS cells ((q : Int) + 1) st lc (held ++ [x]) wrote tr := by
      simp only [Ow.go, top0, less1, Int.reduceEq, if_false, if_true]
      rfl
    rw [e]; exact h
theorem to_load {n q j : Nat} (hx : l[q]? = some ⟨17, 0⟩) (hs : st.length ≤ 28) (hj : x = (j : Int)) (hc : j < cells.length) (h : Ow.To l n (owS cells ((q : Int) + 1) (st ++ [cells.getD j 0]) lc held wrote tr) o') : Ow.To l (n + 1) (owS cells q (st ++ [x]) lc held wrote tr) o' := by
  refine .step q ⟨17, 0⟩ rfl hx ?_ ?_
  · refine ⟨⟨rfl, (by decide : knownB 17 = true), (show (rowOf 17).pops ≤ ((st ++ [x]).length : Int) by rw [show (rowOf 17).pops = 1 by decide, List.length_append]; simp; omega), (show ((st ++ [x]).length : Int) - (rowOf 17).pops + (rowOf 17).pushes ≤ 32 by rw [show (rowOf 17).pops = 1 by decide, show (rowOf 17).pushes = 1 by decide, List.length_append]; simp; omega), fun h => ?_, fun _ => rfl, fun h => ?_, fun h => ?_, fun _ => by rw [top0, hj]; exact ⟨by omega, by show (j : Int) < (cells.length : Int); omega⟩, fun h => ?_⟩, fun h => ?_, fun h => ?_, fun h => ?_, fun h => ?_, fun h => ?_, by simp⟩
    all_goals simp at h
  · have e : (owS cells q (st ++ [x]) lc held wrote tr).go ⟨17, 0⟩ = owS cells ((q : Int) + 1) (st ++ [cells.getD j 0]) lc held wrote tr := by
      simp only [Ow.go, top0, less1, Int.reduceEq, if_false, if_true, hj, Int.toNat_natCast]
      simp [owS]
    rw [e]; exact h
theorem to_store {n q j : Nat} (hx : l[q]? = some ⟨18, 0⟩) (hs : st.length ≤ 26) (hj : y = (j : Int)) (hc : j < cells.length) (hw : wrote.length < 16) (h : Ow.To l n (owS (cells.set j x) ((q : Int) + 1) st lc held (if y ∈ wrote then wrote else wrote ++ [y]) tr) o') : Ow.To l (n + 1) (owS cells q (st ++ [y] ++ [x]) lc held wrote tr) o' := by
  refine .step q ⟨18, 0⟩ rfl hx ?_ ?_
  · refine ⟨⟨rfl, (by decide : knownB 18 = true), (show (rowOf 18).pops ≤ ((st ++ [y] ++ [x]).length : Int) by rw [show (rowOf 18).pops = 2 by decide, List.length_append, List.length_append]; simp; omega), (show ((st ++ [y] ++ [x]).length : Int) - (rowOf 18).pops + (rowOf 18).pushes ≤ 32 by rw [show (rowOf 18).pops = 2 by decide, show (rowOf 18).pushes = 0 by decide, List.length_append, List.length_append]; simp; omega), fun h => ?_, fun _ => rfl, fun h => ?_, fun h => ?_, fun h => ?_, fun _ => by rw [top1, hj]; exact ⟨by omega, by show (j : Int) < (cells.length : Int); omega, .inr hw⟩⟩, fun h => ?_, fun _ => by show wrote.length ≤ 16; omega, fun h => ?_, fun h => ?_, fun h => ?_, by simp⟩
    all_goals simp at h
  · have e : (owS cells q (st ++ [y] ++ [x]) lc held wrote tr).go ⟨18, 0⟩ = owS (cells.set j x) ((q : Int) + 1) st lc held (if y ∈ wrote then wrote else wrote ++ [y]) tr := by
      simp only [Ow.go, top0, top1, less2, Int.reduceEq, if_false, if_true, hj, Int.toNat_natCast]
      simp [owS]
    rw [e]; exact h
theorem to_commit {q : Nat} (hx : l[q]? = some ⟨19, 0⟩) (hh : 0 < held.length) (hh2 : held.length ≤ 100) : Ow.To l 1 (owS cells q [7, -7] lc held wrote tr) (owE cells ((q : Int) + 1) lc held wrote tr) := by
  refine .step q ⟨19, 0⟩ rfl hx ?_ ?_
  · refine ⟨⟨rfl, (by decide : knownB 19 = true), (by decide : (rowOf 19).pops ≤ ((2 : Nat) : Int)), (by decide : ((2 : Nat) : Int) - (rowOf 19).pops + (rowOf 19).pushes ≤ 32), fun h => ?_, fun _ => rfl, fun h => ?_, fun h => ?_, fun h => ?_, fun h => ?_⟩, fun h => ?_, fun h => ?_, fun _ => ⟨hh, by show 0 + held.length ≤ 100000; omega⟩, fun h => ?_, fun h => ?_, by simp⟩
    all_goals simp at h
  · have e : (owS cells q [7, -7] lc held wrote tr).go ⟨19, 0⟩ = owE cells ((q : Int) + 1) lc held wrote tr := by
      simp [Ow.go, owS, owE]
    rw [e]; exact .here _
end
theorem so_add {a b : Int} (h1 : -1000000 ≤ a + b) (h2 : a + b ≤ 1000000) : sumO 7 a b = a + b := by
  unfold sumO wrap64
  simp only [if_true]
  omega
theorem so_sub {a b : Int} (h1 : -1000000 ≤ a - b) (h2 : a - b ≤ 1000000) : sumO 8 a b = a - b := by
  unfold sumO wrap64
  simp only [if_true, Int.reduceEq, if_false]
  omega
theorem so_mul {a b : Int} (h1 : -1000000 ≤ a * b) (h2 : a * b ≤ 1000000) : sumO 9 a b = a * b := by
  unfold sumO wrap64
  simp only [if_true, Int.reduceEq, if_false]
  generalize a * b = c at *
  omega
theorem so_less {a b : Int} (h : a < b) : sumO 11 a b = 1 := by
  unfold sumO
  simp [h]
theorem so_nless {a b : Int} (h : ¬ a < b) : sumO 11 a b = 0 := by
  unfold sumO
  simp [h]
theorem so_same {a b : Int} (h : a = b) : sumO 12 a b = 1 := by
  unfold sumO
  simp [h]
theorem so_nsame {a b : Int} (h : ¬ a = b) : sumO 12 a b = 0 := by
  unfold sumO
  simp [h]
theorem lc_same {lc : List Int} (h : lc.length = 8) (i : Nat) (hi : i < 8) (x : Int) : (lc.set i x).getD i 0 = x := by
  simp [List.getD_eq_getElem?_getD, h, hi]
theorem lc_other {lc : List Int} {i j : Nat} (hi : i ≠ j) (x : Int) : (lc.set i x).getD j 0 = lc.getD j 0 := by
  simp [List.getD_eq_getElem?_getD, hi]
theorem at_same {cs : List Int} {i : Nat} (h : i < cs.length) (x : Int) : (cs.set i x).getD i 0 = x := by
  simp [List.getD_eq_getElem?_getD, h]
theorem at_other {cs : List Int} {i j : Nat} (hi : i ≠ j) (x : Int) : (cs.set i x).getD j 0 = cs.getD j 0 := by
  simp [List.getD_eq_getElem?_getD, hi]
/-- A cell that is written is told once. -/
def addW (w : List Int) (y : Int) : List Int := if y ∈ w then w else w ++ [y]
theorem addW_le (w : List Int) (y : Int) : (addW w y).length ≤ w.length + 1 := by
  unfold addW
  split
  · omega
  · simp
theorem to_storeW {l : List Ins} {cells st lc held wrote : List Int} {tr x y : Int} {o' : Ow} {n q j : Nat} (hx : l[q]? = some ⟨18, 0⟩) (hs : st.length ≤ 26) (hj : y = (j : Int)) (hc : j < cells.length) (hw : wrote.length < 16) (h : Ow.To l n (owS (cells.set j x) ((q : Int) + 1) st lc held (addW wrote y) tr) o') : Ow.To l (n + 1) (owS cells q (st ++ [y] ++ [x]) lc held wrote tr) o' := to_store hx hs hj hc hw h
/-- Two rows of steps are one. -/
theorem Ow.To.then {l : List Ins} {k1 k2 : Nat} {o1 o2 o3 : Ow} (a : Ow.To l k1 o1 o2) (b : Ow.To l k2 o2 o3) : Ow.To l (k1 + k2) o1 o3 := by
  induction a with
  | here => rw [Nat.zero_add]; exact b
  | step p x hp hx hf h ih => rw [Nat.add_right_comm]; exact .step p x hp hx hf (ih b)
end Go.Proofs.YtbpilhjomfkpaaaGreatDoor

namespace Go.Proofs.YtbpilhjomfkpaaaGreatDoor
open Go.RowKit
set_option linter.unusedVariables false
set_option linter.unusedSimpArgs false

theorem so_mod {a b : Int} (ha : 0 ≤ a) (hb : 1 ≤ b) : sumO 10 a b = a % b := by
  have e : sumO 10 a b = modO a b := by simp [sumO]
  have h1 := Int.tmod_nonneg b ha
  rw [e]
  unfold modO
  rw [if_neg (by omega), if_neg (by omega), Int.tmod_eq_emod_of_nonneg ha]
theorem mod_two {n a : Nat} (h : a < 2 * n) : a % n = if a < n then a else a - n := by
  split
  · rename_i h1; exact Nat.mod_eq_of_lt h1
  · rename_i h1
    rw [Nat.mod_eq_sub_mod (by omega), Nat.mod_eq_of_lt (by omega)]
theorem way_lt {n h i : Nat} (hh : h < n) (hi : i < n) : wayM n h i < n := by
  unfold wayM
  split <;> omega
theorem way_at {n h i : Nat} (hh : h < n) (hi : i < n) : (h + wayM n h i) % n = i := by
  rw [mod_two (by have := way_lt hh hi; omega)]
  unfold wayM
  split <;> split <;> omega
theorem way_of {n h k : Nat} (hh : h < n) (hk : k < n) : wayM n h ((h + k) % n) = k := by
  rw [mod_two (by omega)]
  unfold wayM
  split <;> split <;> omega
/-- A place's state, key, value, where its cells stand from b on. -/
def stC (cells : List Int) (b i : Nat) : Int := cells.getD (b + (1 + 3 * i)) 0
def keyC (cells : List Int) (b i : Nat) : Int := cells.getD (b + (2 + 3 * i)) 0
def valC (cells : List Int) (b i : Nat) : Int := cells.getD (b + (3 + 3 * i)) 0
def plA (b i : Nat) : Nat := b + (1 + 3 * i)
/-- A dict that has l, from b on. -/
structure DcIn (cells : List Int) (b n : Nat) (l : List Pr) : Prop where
  len : b + (1 + 3 * n) ≤ cells.length
  top : cells.length ≤ 256
  n0 : 0 < n
  n1 : n ≤ 60
  cnt : cells.getD b 0 = (l.length : Int)
  st : ∀ i, i < n → stC cells b i = 0 ∨ stC cells b i = 1 ∨ stC cells b i = 2
  ris : Rises l
  has : ∀ p, p ∈ l → ∃ i, i < n ∧ stC cells b i = 1 ∧ keyC cells b i = p.1 ∧ valC cells b i = p.2
  all : ∀ i, i < n → stC cells b i = 1 → (keyC cells b i, valC cells b i) ∈ l
  inj : ∀ i j, i < n → j < n → stC cells b i = 1 → stC cells b j = 1 → keyC cells b i = keyC cells b j → i = j
  rch : ∀ i, i < n → stC cells b i = 1 → ∀ k, k < wayM n (homeM (keyC cells b i) n) i → stC cells b ((homeM (keyC cells b i) n + k) % n) ≠ 0
def findD (b n hm : Nat) (x F : Int) : List Ins := [⟨16, 0⟩, ⟨1, (b : Int) + ((1 + 3 * hm : Nat) : Int)⟩, ⟨6, 0⟩, ⟨1, 0⟩, ⟨6, 1⟩, ⟨5, 0⟩, ⟨17, 0⟩, ⟨3, 0⟩, ⟨6, 2⟩, ⟨1, 1⟩, ⟨12, 0⟩, ⟨15, 20⟩, ⟨5, 0⟩, ⟨1, 1⟩, ⟨7, 0⟩, ⟨17, 0⟩, ⟨1, x⟩, ⟨12, 0⟩, ⟨15, 30⟩, ⟨14, F⟩, ⟨5, 1⟩, ⟨15, 23⟩, ⟨14, 25⟩, ⟨5, 0⟩, ⟨6, 1⟩, ⟨5, 2⟩, ⟨1, 0⟩, ⟨12, 0⟩, ⟨15, 30⟩, ⟨14, 42⟩, ⟨5, 0⟩, ⟨1, 3 - ((b : Int) + 1)⟩, ⟨7, 0⟩, ⟨1, 3 * (n : Int)⟩, ⟨10, 0⟩, ⟨1, (b : Int) + 1⟩, ⟨7, 0⟩, ⟨3, 0⟩, ⟨6, 0⟩, ⟨1, (b : Int) + ((1 + 3 * hm : Nat) : Int)⟩, ⟨12, 0⟩, ⟨15, 5⟩]
section
variable {cells : List Int} {b n : Nat} {l : List Pr} {x tr F : Int} {R : List Ins} {lc : List Int}
theorem adv (hlen : b + (1 + 3 * n) ≤ cells.length) (htop : cells.length ≤ 256) (hn1 : n ≤ 60) {p hm : Nat} (hp : p < n) (hh : hm < n) (hl : lc.length = 8) (h0 : lc.getD 0 0 = ((plA b p : Nat) : Int)) :
    Ow.To (findD b n hm x F ++ R) 12 (owS cells 30 [7, -7] lc [] [] tr) (owS cells (if (p + 1) % n = hm then 42 else 5) [7, -7] (lc.set 0 ((plA b ((p + 1) % n) : Nat) : Int)) [] [] tr) := by
  have hq : (p + 1) % n < n := Nat.mod_lt _ (by omega)
  have e : (((plA b p : Nat) : Int) + (3 - ((b : Int) + 1))) % (3 * (n : Int)) = ((3 * ((p + 1) % n) : Nat) : Int) := by
    rw [← Nat.mul_mod_mul_left, show ((plA b p : Nat) : Int) + (3 - ((b : Int) + 1)) = ((3 * (p + 1) : Nat) : Int) by unfold plA; omega]
    push_cast
    rfl
  generalize (p + 1) % n = q at *
  refine to_get (q := 30) (i := 0) rfl (by decide) (by decide) ?_
  rw [h0]
  refine to_push (q := 31) rfl (by simp) ?_
  refine to_sum7 (q := 32) rfl (by simp) ?_
  rw [so_add (by unfold plA; omega) (by unfold plA; omega)]
  refine to_push (q := 33) rfl (by simp) ?_
  refine to_sum10 (q := 34) rfl (by simp) ⟨by unfold plA; omega, by unfold plA; omega, by omega, by omega⟩ ?_
  rw [so_mod (by unfold plA; omega) (by omega), e]
  refine to_push (q := 35) rfl (by simp) ?_
  refine to_sum7 (q := 36) rfl (by simp) ?_
  rw [so_add (by omega) (by omega), show ((3 * q : Nat) : Int) + ((b : Int) + 1) = ((plA b q : Nat) : Int) by unfold plA; omega]
  refine to_dup (q := 37) rfl (by simp) ?_
  refine to_set (q := 38) (i := 0) rfl (by decide) (by simp) ?_
  refine to_push (q := 39) rfl (by simp) ?_
  refine to_sum12 (q := 40) rfl (by simp) ?_
  by_cases c : q = hm
  · rw [if_pos c, so_same (by unfold plA; omega)]
    refine to_zero (q := 41) rfl (by simp) ?_
    exact .here _
  · rw [if_neg c, so_nsame (by unfold plA; omega)]
    refine to_zero (q := 41) rfl (by simp) ?_
    exact .here _
theorem key_load {p : Nat} (hlen : b + (1 + 3 * n) ≤ cells.length) (hp : p < n) : b + (2 + 3 * p) < cells.length := by omega
/-- The key is here. -/
theorem hit (hlen : b + (1 + 3 * n) ≤ cells.length) (htop : cells.length ≤ 256) {p hm : Nat} (hp : p < n) (hl : lc.length = 8) (h0 : lc.getD 0 0 = ((plA b p : Nat) : Int)) (hs : stC cells b p = 1) (hk : keyC cells b p = x) :
    Ow.To (findD b n hm x F ++ R) 14 (owS cells 5 [7, -7] lc [] [] tr) (owS cells 19 [7, -7] (lc.set 2 1) [] [] tr) := by
  unfold stC at hs
  unfold keyC at hk
  refine to_get (q := 5) (i := 0) rfl (by decide) (by decide) ?_
  rw [h0]
  refine to_load (q := 6) (j := b + (1 + 3 * p)) rfl (by simp) rfl (by omega) ?_
  rw [hs]
  refine to_dup (q := 7) rfl (by simp) ?_
  refine to_set (q := 8) (i := 2) rfl (by decide) (by simp) ?_
  refine to_push (q := 9) rfl (by simp) ?_
  refine to_sum12 (q := 10) rfl (by simp) ?_
  rw [so_same rfl]
  refine to_zero (q := 11) rfl (by simp) ?_
  refine to_get (q := 12) (i := 0) rfl (by decide) (by simp) ?_
  rw [lc_other (by decide), h0]
  refine to_push (q := 13) rfl (by simp) ?_
  refine to_sum7 (q := 14) rfl (by simp) ?_
  rw [so_add (by unfold plA; omega) (by unfold plA; omega), show ((plA b p : Nat) : Int) + 1 = ((b + (2 + 3 * p) : Nat) : Int) by unfold plA; omega]
  refine to_load (q := 15) (j := b + (2 + 3 * p)) rfl (by simp) rfl (by omega) ?_
  rw [hk]
  refine to_push (q := 16) rfl (by simp) ?_
  refine to_sum12 (q := 17) rfl (by simp) ?_
  rw [so_same rfl]
  refine to_zero (q := 18) rfl (by simp) ?_
  exact .here _
/-- Another key is here, or none. -/
theorem srMiss (hlen : b + (1 + 3 * n) ≤ cells.length) (htop : cells.length ≤ 256) {p hm : Nat} (hp : p < n) (hl : lc.length = 8) (h0 : lc.getD 0 0 = ((plA b p : Nat) : Int)) (hs : stC cells b p = 0 ∨ stC cells b p = 1 ∨ stC cells b p = 2) (hk : stC cells b p = 1 → keyC cells b p ≠ x) :
    ∃ k lc', k ≤ 17 ∧ Ow.To (findD b n hm x F ++ R) k (owS cells 5 [7, -7] lc [] [] tr) (owS cells (if stC cells b p = 0 then 42 else 30) [7, -7] lc' [] [] tr) ∧ lc'.length = 8 ∧ lc'.getD 0 0 = ((plA b p : Nat) : Int) ∧ lc'.getD 1 0 = (if stC cells b p = 1 then lc.getD 1 0 else if lc.getD 1 0 = 0 then ((plA b p : Nat) : Int) else lc.getD 1 0) := by
  have hs2 : (lc.set 2 (stC cells b p)).length = 8 := by rw [List.length_set]; exact hl
  have g0 : (lc.set 2 (stC cells b p)).getD 0 0 = ((plA b p : Nat) : Int) := by rw [lc_other (by decide)]; exact h0
  have g1 : (lc.set 2 (stC cells b p)).getD 1 0 = lc.getD 1 0 := lc_other (by decide) _
  have g2 : (lc.set 2 (stC cells b p)).getD 2 0 = stC cells b p := lc_same hl 2 (by decide) _
  have head : ∀ (m : Nat) (o' : Ow), Ow.To (findD b n hm x F ++ R) m (owS cells 11 ([7, -7] ++ [sumO 12 (stC cells b p) 1]) (lc.set 2 (stC cells b p)) [] [] tr) o' → Ow.To (findD b n hm x F ++ R) (m + 6) (owS cells 5 [7, -7] lc [] [] tr) o' := by
    intro m o' ht
    refine to_get (q := 5) (i := 0) rfl (by decide) (by decide) ?_
    rw [h0]
    refine to_load (q := 6) (j := b + (1 + 3 * p)) rfl (by simp) rfl (by omega) ?_
    rw [show cells.getD (b + (1 + 3 * p)) 0 = stC cells b p from rfl]
    refine to_dup (q := 7) rfl (by simp) ?_
    refine to_set (q := 8) (i := 2) rfl (by decide) (by simp) ?_
    refine to_push (q := 9) rfl (by simp) ?_
    refine to_sum12 (q := 10) rfl (by simp) ?_
    exact ht
  by_cases c1 : stC cells b p = 1
  · have hk := hk c1
    refine ⟨8 + 6, _, by omega, head _ _ ?_, hs2, g0, by rw [g1, if_pos c1]⟩
    rw [so_same c1, if_neg (by omega)]
    refine to_zero (q := 11) rfl (by simp) ?_
    refine to_get (q := 12) (i := 0) rfl (by decide) (by simp) ?_
    rw [g0]
    refine to_push (q := 13) rfl (by simp) ?_
    refine to_sum7 (q := 14) rfl (by simp) ?_
    rw [so_add (by unfold plA; omega) (by unfold plA; omega), show ((plA b p : Nat) : Int) + 1 = ((b + (2 + 3 * p) : Nat) : Int) by unfold plA; omega]
    refine to_load (q := 15) (j := b + (2 + 3 * p)) rfl (by simp) rfl (by omega) ?_
    rw [show cells.getD (b + (2 + 3 * p)) 0 = keyC cells b p from rfl]
    refine to_push (q := 16) rfl (by simp) ?_
    refine to_sum12 (q := 17) rfl (by simp) ?_
    rw [so_nsame hk]
    refine to_zero (q := 18) rfl (by simp) ?_
    exact .here _
  · have tail : ∀ (lc' : List Int), lc'.getD 2 0 = stC cells b p → ∃ k, k ≤ 5 ∧ Ow.To (findD b n hm x F ++ R) k (owS cells 25 [7, -7] lc' [] [] tr) (owS cells (if stC cells b p = 0 then 42 else 30) [7, -7] lc' [] [] tr) := by
      intro lc' h2
      by_cases c0 : stC cells b p = 0
      · refine ⟨5, by omega, ?_⟩
        rw [if_pos c0]
        refine to_get (q := 25) (i := 2) rfl (by decide) (by decide) ?_
        rw [h2]
        refine to_push (q := 26) rfl (by simp) ?_
        refine to_sum12 (q := 27) rfl (by simp) ?_
        rw [so_same c0]
        refine to_zero (q := 28) rfl (by simp) ?_
        refine to_jump (q := 29) rfl (by simp) ?_
        exact .here _
      · refine ⟨4, by omega, ?_⟩
        rw [if_neg c0]
        refine to_get (q := 25) (i := 2) rfl (by decide) (by decide) ?_
        rw [h2]
        refine to_push (q := 26) rfl (by simp) ?_
        refine to_sum12 (q := 27) rfl (by simp) ?_
        rw [so_nsame c0]
        refine to_zero (q := 28) rfl (by simp) ?_
        exact .here _
    by_cases cf : lc.getD 1 0 = 0
    · obtain ⟨k, hk5, ht⟩ := tail ((lc.set 2 (stC cells b p)).set 1 ((plA b p : Nat) : Int)) ((lc_other (i := 1) (j := 2) (by decide) _).trans g2)
      refine ⟨(k + 5) + 6, (lc.set 2 (stC cells b p)).set 1 ((plA b p : Nat) : Int), by omega, head _ _ ?_, by rw [List.length_set]; exact hs2, by rw [lc_other (by decide)]; exact g0, by rw [lc_same hs2 1 (by decide), if_neg c1, if_pos cf]⟩
      rw [so_nsame c1]
      refine to_zero (q := 11) rfl (by simp) ?_
      refine to_get (q := 20) (i := 1) rfl (by decide) (by decide) ?_
      rw [g1, cf]
      refine to_zero (q := 21) rfl (by simp) ?_
      refine to_get (q := 23) (i := 0) rfl (by decide) (by decide) ?_
      rw [g0]
      refine to_set (q := 24) (i := 1) rfl (by decide) (by simp) ?_
      exact ht
    · obtain ⟨k, hk5, ht⟩ := tail (lc.set 2 (stC cells b p)) g2
      refine ⟨(k + 4) + 6, _, by omega, head _ _ ?_, hs2, g0, by rw [g1, if_neg c1, if_neg cf]⟩
      rw [so_nsame c1]
      refine to_zero (q := 11) rfl (by simp) ?_
      refine to_get (q := 20) (i := 1) rfl (by decide) (by decide) ?_
      rw [g1]
      refine to_zero (q := 21) rfl (by simp) ?_
      rw [if_neg cf]
      refine to_jump (q := 22) rfl (by simp) ?_
      exact ht
/-- The search for a key that is there, from the k-th place of its way on. -/
theorem find_yes (h : DcIn cells b n l) {i : Nat} (hi : i < n) (hs : stC cells b i = 1) (hx : keyC cells b i = x) : ∀ (d k : Nat) (lc : List Int), k + d = wayM n (homeM x n) i → lc.length = 8 → lc.getD 0 0 = ((plA b ((homeM x n + k) % n) : Nat) : Int) →
    ∃ m lc', m ≤ 29 * (d + 1) ∧ Ow.To (findD b n (homeM x n) x F ++ R) m (owS cells 5 [7, -7] lc [] [] tr) (owS cells 19 [7, -7] lc' [] [] tr) ∧ lc'.length = 8 ∧ lc'.getD 0 0 = ((plA b i : Nat) : Int)
  | d, k, lc, hd, hl, h0 => by
    have hlen := h.len
    have htop := h.top
    have hn0 := h.n0
    have hh := home_lt x hn0
    have hw := way_lt hh hi
    have hpk : (homeM x n + k) % n < n := Nat.mod_lt _ hn0
    match d, hd with
    | 0, hd =>
      have e : (homeM x n + k) % n = i := by rw [show k = wayM n (homeM x n) i by omega]; exact way_at hh hi
      rw [e] at h0
      exact ⟨14, lc.set 2 1, by omega, hit hlen htop hi hl h0 hs hx, by rw [List.length_set]; exact hl, by rw [lc_other (by decide)]; exact h0⟩
    | d + 1, hd =>
      have hwk : wayM n (homeM x n) ((homeM x n + k) % n) = k := way_of hh (by omega)
      have hne : (homeM x n + k) % n ≠ i := fun e => by rw [e] at hwk; omega
      have hr := h.rch i hi hs k (by rw [hx]; omega)
      rw [hx] at hr
      obtain ⟨m1, lc1, hm1, hto1, l1, l2, -⟩ := srMiss (F := F) (R := R) (x := x) (tr := tr) (hm := homeM x n) hlen htop hpk hl h0 (h.st _ hpk) (fun hs1 e => hne (h.inj _ _ hpk hi hs1 hs (by rw [e, hx])))
      rw [if_neg hr] at hto1
      have hadv := adv (F := F) (R := R) (x := x) (tr := tr) hlen htop h.n1 hpk hh l1 l2
      have en : ((homeM x n + k) % n + 1) % n = (homeM x n + (k + 1)) % n := by rw [Nat.mod_add_mod]; rfl
      have hwn : wayM n (homeM x n) ((homeM x n + (k + 1)) % n) = k + 1 := way_of hh (by omega)
      rw [en, if_neg (fun e => by rw [e, way_zero] at hwn; omega)] at hadv
      obtain ⟨m2, lc2, hm2, hto2, r1, r2⟩ := find_yes h hi hs hx d (k + 1) _ (by omega) (by rw [List.length_set]; exact l1) (lc_same l1 0 (by decide) _)
      exact ⟨m1 + (12 + m2), lc2, by omega, hto1.then (hadv.then hto2), r1, r2⟩
/-- The first place that is not used, of the first k of the way: where it stands; 0: none. -/
def Fst (cells : List Int) (b n hm k : Nat) (f : Int) : Prop := (f = 0 ∧ ∀ q, q < k → stC cells b ((hm + q) % n) = 1) ∨ ∃ q, q < k ∧ f = ((plA b ((hm + q) % n) : Nat) : Int) ∧ stC cells b ((hm + q) % n) ≠ 1 ∧ ∀ r, r < q → stC cells b ((hm + r) % n) = 1
theorem Fst.next {hm k : Nat} {f : Int} (h : Fst cells b n hm k f) : Fst cells b n hm (k + 1) (if stC cells b ((hm + k) % n) = 1 then f else if f = 0 then ((plA b ((hm + k) % n) : Nat) : Int) else f) := by
  rcases h with ⟨rfl, ha⟩ | ⟨q, hq, rfl, h1, h2⟩
  · by_cases c : stC cells b ((hm + k) % n) = 1
    · rw [if_pos c]
      refine .inl ⟨rfl, fun q hq => ?_⟩
      by_cases e : q = k
      · rw [e]; exact c
      · exact ha q (by omega)
    · rw [if_neg c, if_pos rfl]
      exact .inr ⟨k, by omega, rfl, c, ha⟩
  · have hne : ((plA b ((hm + q) % n) : Nat) : Int) ≠ 0 := by unfold plA; omega
    rw [if_neg hne]
    have : Fst cells b n hm (k + 1) ((plA b ((hm + q) % n) : Nat) : Int) := .inr ⟨q, by omega, rfl, h1, h2⟩
    split <;> exact this
/-- The search for a key that is not there. -/
theorem find_no (h : DcIn cells b n l) (hno : ∀ i, i < n → stC cells b i = 1 → keyC cells b i ≠ x) : ∀ (d k : Nat) (lc : List Int), k + d + 1 = n → lc.length = 8 → lc.getD 0 0 = ((plA b ((homeM x n + k) % n) : Nat) : Int) → Fst cells b n (homeM x n) k (lc.getD 1 0) →
    ∃ m lc' k', m ≤ 29 * (d + 1) ∧ Ow.To (findD b n (homeM x n) x F ++ R) m (owS cells 5 [7, -7] lc [] [] tr) (owS cells 42 [7, -7] lc' [] [] tr) ∧ lc'.length = 8 ∧ k' ≤ n ∧ Fst cells b n (homeM x n) k' (lc'.getD 1 0) ∧ (k' = n ∨ lc'.getD 1 0 ≠ 0)
  | d, k, lc, hd, hl, h0, hf => by
    have hlen := h.len
    have htop := h.top
    have hn0 := h.n0
    have hh := home_lt x hn0
    have hpk : (homeM x n + k) % n < n := Nat.mod_lt _ hn0
    obtain ⟨m1, lc1, hm1, hto1, l1, l2, l3⟩ := srMiss (F := F) (R := R) (x := x) (tr := tr) (hm := homeM x n) hlen htop hpk hl h0 (h.st _ hpk) (hno _ hpk)
    have hf1 := hf.next
    rw [← l3] at hf1
    by_cases c0 : stC cells b ((homeM x n + k) % n) = 0
    · rw [if_pos c0] at hto1
      refine ⟨m1, lc1, k + 1, by omega, hto1, l1, by omega, hf1, .inr ?_⟩
      rw [l3, if_neg (by omega)]
      split
      · unfold plA; omega
      · assumption
    · rw [if_neg c0] at hto1
      have hadv := adv (F := F) (R := R) (x := x) (tr := tr) hlen htop h.n1 hpk hh l1 l2
      have en : ((homeM x n + k) % n + 1) % n = (homeM x n + (k + 1)) % n := by rw [Nat.mod_add_mod]; rfl
      rw [en] at hadv
      match d, hd with
      | 0, hd =>
        rw [if_pos (by rw [show homeM x n + (k + 1) = homeM x n + n by omega, Nat.add_mod_right, Nat.mod_eq_of_lt hh])] at hadv
        exact ⟨m1 + 12, _, k + 1, by omega, hto1.then hadv, by rw [List.length_set]; exact l1, by omega, by rw [lc_other (by decide)]; exact hf1, .inl (by omega)⟩
      | d + 1, hd =>
        have hwn : wayM n (homeM x n) ((homeM x n + (k + 1)) % n) = k + 1 := way_of hh (by omega)
        rw [if_neg (fun e => by rw [e, way_zero] at hwn; omega)] at hadv
        obtain ⟨m2, lc2, k2, hm2, hto2, r1, r2, r3, r4⟩ := find_no h hno d (k + 1) _ (by omega) (by rw [List.length_set]; exact l1) (lc_same l1 0 (by decide) _) (by rw [lc_other (by decide)]; exact hf1)
        exact ⟨m1 + (12 + m2), lc2, k2, by omega, hto1.then (hadv.then hto2), r1, r2, r3, r4⟩
end
end Go.Proofs.YtbpilhjomfkpaaaGreatDoor

namespace Go.Proofs.YtbpilhjomfkpaaaGreatDoor
open Go.RowKit
set_option linter.unusedVariables false
set_option linter.unusedSimpArgs false

/-- All other cells are as they were. -/
def Same (cells cells' : List Int) (b n : Nat) : Prop := cells'.length = cells.length ∧ ∀ i, i < b ∨ b + (1 + 3 * n) ≤ i → cells'.getD i 0 = cells.getD i 0
theorem Same.refl (cells : List Int) (b n : Nat) : Same cells cells b n := ⟨rfl, fun _ _ => rfl⟩
theorem Same.put {cells cells' : List Int} {b n j : Nat} (h : Same cells cells' b n) (h1 : b ≤ j) (h2 : j < b + (1 + 3 * n)) (x : Int) : Same cells (cells'.set j x) b n :=
  ⟨by rw [List.length_set]; exact h.1, fun i hi => by rw [at_other (by omega)]; exact h.2 i hi⟩
theorem rises_nodup {l : List Pr} (h : Rises l) : l.Nodup := h.imp (fun {p q} hlt e => by rw [e] at hlt; omega)
theorem rises_key {l : List Pr} (h : Rises l) {p q : Pr} (hp : p ∈ l) (hq : q ∈ l) (e : p.1 = q.1) : p = q := by
  obtain ⟨i, hi, rfl⟩ := List.getElem_of_mem hp
  obtain ⟨j, hj, rfl⟩ := List.getElem_of_mem hq
  rcases Nat.lt_trichotomy i j with hlt | heq | hgt
  · have := List.pairwise_iff_getElem.1 h i j hi hj hlt; omega
  · subst heq; rfl
  · have := List.pairwise_iff_getElem.1 h j i hj hi hgt; omega
theorem mem_turn {l : List Pr} {x y : Int} {p : Pr} : p ∈ turnP l x y ↔ (∃ v, (x, v) ∈ l ∧ p = (x, y)) ∨ (p ∈ l ∧ p.1 ≠ x) := by
  unfold turnP
  rw [List.mem_map]
  constructor
  · rintro ⟨q, hq, e⟩
    by_cases c : q.1 = x
    · rw [if_pos c] at e
      exact .inl ⟨q.2, by rw [← c]; exact hq, e.symm⟩
    · rw [if_neg c] at e
      exact .inr ⟨by rw [← e]; exact hq, by rw [← e]; exact c⟩
  · rintro (⟨v, hv, e⟩ | ⟨hp, hn⟩)
    · exact ⟨(x, v), hv, by rw [if_pos rfl, e]⟩
    · exact ⟨p, hp, if_neg hn⟩
theorem mem_lack {l : List Pr} {x : Int} {p : Pr} : p ∈ lackP l x ↔ p ∈ l ∧ p.1 ≠ x := by
  unfold lackP
  rw [List.mem_filter]
  simp
theorem turn_len (l : List Pr) (x y : Int) : (turnP l x y).length = l.length := by simp [turnP]
theorem lack_perm {l : List Pr} {x v : Int} (h : Rises l) (hm : (x, v) ∈ l) : l.Perm ((x, v) :: lackP l x) := by
  refine (List.perm_ext_iff_of_nodup (rises_nodup h) ?_).2 fun p => ?_
  · refine List.nodup_cons.2 ⟨fun hh => (mem_lack.1 hh).2 rfl, rises_nodup (lackP_rises h x)⟩
  · rw [List.mem_cons, mem_lack]
    constructor
    · intro hp
      by_cases c : p.1 = x
      · exact .inl (rises_key h hp hm c)
      · exact .inr ⟨hp, c⟩
    · rintro (rfl | ⟨hp, _⟩)
      · exact hm
      · exact hp
theorem lack_len {l : List Pr} {x v : Int} (h : Rises l) (hm : (x, v) ∈ l) : l.length = (lackP l x).length + 1 := by
  have := (lack_perm h hm).length_eq
  rwa [List.length_cons] at this
section
variable {cells : List Int} {b n : Nat} {l : List Pr} {x y tr : Int} {lc : List Int}
theorem DcIn.used (h : DcIn cells b n l) : l.Perm (((List.range n).filter fun i => decide (stC cells b i = 1)).map fun i => (keyC cells b i, valC cells b i)) := by
  refine (List.perm_ext_iff_of_nodup (rises_nodup h.ris) ?_).2 fun p => ?_
  · rw [List.Nodup, List.pairwise_map]
    refine List.Pairwise.imp_of_mem (R := fun a c : Nat => a ≠ c) (fun {i j} hi hj hne e => ?_) ((List.nodup_range).filter _)
    rw [List.mem_filter, List.mem_range, decide_eq_true_eq] at hi hj
    simp only [Prod.mk.injEq] at e
    exact hne (h.inj i j hi.1 hj.1 hi.2 hj.2 e.1)
  · rw [List.mem_map]
    constructor
    · intro hp
      obtain ⟨i, hi, h1, h2, h3⟩ := h.has p hp
      exact ⟨i, by rw [List.mem_filter, List.mem_range, decide_eq_true_eq]; exact ⟨hi, h1⟩, by rw [h2, h3]⟩
    · rintro ⟨i, hi, rfl⟩
      rw [List.mem_filter, List.mem_range, decide_eq_true_eq] at hi
      exact h.all i hi.1 hi.2
theorem DcIn.full (h : DcIn cells b n l) (ha : ∀ i, i < n → stC cells b i = 1) : l.length = n := by
  have := h.used.length_eq
  rw [List.length_map, List.length_filter_eq_length_iff.2 (fun i hi => by rw [List.mem_range] at hi; exact decide_eq_true (ha i hi)), List.length_range] at this
  exact this
theorem DcIn.room (h : DcIn cells b n l) {q : Nat} (hq : q < n) (hs : stC cells b q ≠ 1) : l.length < n := by
  have := h.used.length_eq
  rw [List.length_map] at this
  have h2 := (List.length_filter_lt_length_iff_exists (p := fun i => decide (stC cells b i = 1)) (l := List.range n)).2 ⟨q, List.mem_range.2 hq, by simp [hs]⟩
  rw [List.length_range] at h2
  omega
theorem DcIn.at_yes (h : DcIn cells b n l) {i : Nat} (hi : i < n) (hs : stC cells b i = 1) (hx : keyC cells b i = x) : atP l x = some (valC cells b i) := by
  refine atP_of_mem (h.ris.imp (fun {p q} hlt e => by rw [e] at hlt; omega)) ?_
  rw [← hx]
  exact h.all i hi hs
theorem DcIn.find (h : DcIn cells b n l) (x : Int) : (∃ i, i < n ∧ stC cells b i = 1 ∧ keyC cells b i = x ∧ atP l x = some (valC cells b i)) ∨ ((∀ i, i < n → stC cells b i = 1 → keyC cells b i ≠ x) ∧ atP l x = none) := by
  by_cases c : ∃ i, i < n ∧ stC cells b i = 1 ∧ keyC cells b i = x
  · obtain ⟨i, hi, hs, hx⟩ := c
    exact .inl ⟨i, hi, hs, hx, h.at_yes hi hs hx⟩
  · refine .inr ⟨fun i hi hs hx => c ⟨i, hi, hs, hx⟩, atP_of_none fun p hp e => ?_⟩
    obtain ⟨i, hi, h1, h2, _⟩ := h.has p hp
    exact c ⟨i, hi, h1, by rw [h2, e]⟩
/-- Another value. -/
theorem DcIn.turn (h : DcIn cells b n l) {i : Nat} (hi : i < n) (hs : stC cells b i = 1) (hx : keyC cells b i = x) (y : Int) : DcIn (cells.set (b + (3 + 3 * i)) y) b n (turnP l x y) := by
  have hlen := h.len
  have s : ∀ j, stC (cells.set (b + (3 + 3 * i)) y) b j = stC cells b j := fun j => at_other (by omega) _
  have k : ∀ j, keyC (cells.set (b + (3 + 3 * i)) y) b j = keyC cells b j := fun j => at_other (by omega) _
  have v : ∀ j, j ≠ i → valC (cells.set (b + (3 + 3 * i)) y) b j = valC cells b j := fun j hj => at_other (by omega) _
  have v0 : valC (cells.set (b + (3 + 3 * i)) y) b i = y := at_same (by omega) _
  refine ⟨by rw [List.length_set]; exact hlen, by rw [List.length_set]; exact h.top, h.n0, h.n1, by rw [at_other (by omega), turn_len]; exact h.cnt, fun j hj => by rw [s]; exact h.st j hj, turnP_rises h.ris x y, fun p hp => ?_, fun j hj h1 => ?_, fun j q hj hq h1 h2 h3 => ?_, fun j hj h1 q hq => ?_⟩
  · rcases mem_turn.1 hp with ⟨v', hv, rfl⟩ | ⟨hp, hn⟩
    · exact ⟨i, hi, by rw [s]; exact hs, by rw [k]; exact hx, v0⟩
    · obtain ⟨j, hj, h1, h2, h3⟩ := h.has p hp
      exact ⟨j, hj, by rw [s]; exact h1, by rw [k]; exact h2, by rw [v j (fun e => hn (by rw [← h2, e]; exact hx))]; exact h3⟩
  · rw [s] at h1
    rw [k]
    by_cases e : j = i
    · subst e
      rw [v0, hx]
      exact mem_turn.2 (.inl ⟨_, by rw [← hx]; exact h.all j hj h1, rfl⟩)
    · rw [v j e]
      exact mem_turn.2 (.inr ⟨h.all j hj h1, fun e2 => e (h.inj j i hj hi h1 hs (by rw [hx]; exact e2))⟩)
  · rw [s] at h1 h2
    rw [k, k] at h3
    exact h.inj j q hj hq h1 h2 h3
  · rw [s] at h1
    rw [k] at hq ⊢
    rw [s]
    exact h.rch j hj h1 q hq
/-- An entry less. -/
theorem DcIn.drop (h : DcIn cells b n l) {i : Nat} (hi : i < n) (hs : stC cells b i = 1) (hx : keyC cells b i = x) : DcIn ((cells.set (b + (1 + 3 * i)) 2).set b ((l.length : Int) - 1)) b n (lackP l x) := by
  have hlen := h.len
  have hm := h.all i hi hs
  rw [hx] at hm
  have hll := lack_len h.ris hm
  have s : ∀ j, j ≠ i → stC ((cells.set (b + (1 + 3 * i)) 2).set b ((l.length : Int) - 1)) b j = stC cells b j := fun j hj => by
    unfold stC
    rw [at_other (by omega), at_other (by omega)]
  have s0 : stC ((cells.set (b + (1 + 3 * i)) 2).set b ((l.length : Int) - 1)) b i = 2 := by
    unfold stC
    rw [at_other (by omega), at_same (by omega)]
  have k : ∀ j, keyC ((cells.set (b + (1 + 3 * i)) 2).set b ((l.length : Int) - 1)) b j = keyC cells b j := fun j => by
    unfold keyC
    rw [at_other (by omega), at_other (by omega)]
  have v : ∀ j, valC ((cells.set (b + (1 + 3 * i)) 2).set b ((l.length : Int) - 1)) b j = valC cells b j := fun j => by
    unfold valC
    rw [at_other (by omega), at_other (by omega)]
  have u : ∀ j, stC ((cells.set (b + (1 + 3 * i)) 2).set b ((l.length : Int) - 1)) b j = 1 → j ≠ i ∧ stC cells b j = 1 := fun j h1 => by
    by_cases e : j = i
    · rw [e, s0] at h1; omega
    · rw [s j e] at h1; exact ⟨e, h1⟩
  refine ⟨by rw [List.length_set, List.length_set]; exact hlen, by rw [List.length_set, List.length_set]; exact h.top, h.n0, h.n1, by rw [at_same (by rw [List.length_set]; omega)]; omega, fun j hj => ?_, lackP_rises h.ris x, fun p hp => ?_, fun j hj h1 => ?_, fun j q hj hq h1 h2 h3 => ?_, fun j hj h1 q hq => ?_⟩
  · by_cases e : j = i
    · rw [e, s0]; exact .inr (.inr rfl)
    · rw [s j e]; exact h.st j hj
  · obtain ⟨hp, hn⟩ := mem_lack.1 hp
    obtain ⟨j, hj, h1, h2, h3⟩ := h.has p hp
    have hne : j ≠ i := fun e => hn (by rw [← h2, e]; exact hx)
    exact ⟨j, hj, by rw [s j hne]; exact h1, by rw [k]; exact h2, by rw [v]; exact h3⟩
  · obtain ⟨hne, h1⟩ := u j h1
    rw [k, v]
    exact mem_lack.2 ⟨h.all j hj h1, fun e => hne (h.inj j i hj hi h1 hs (by rw [hx]; exact e))⟩
  · rw [k, k] at h3
    exact h.inj j q hj hq (u j h1).2 (u q h2).2 h3
  · rw [k] at hq ⊢
    have := h.rch j hj (u j h1).2 q hq
    by_cases e : (homeM (keyC cells b j) n + q) % n = i
    · rw [e, s0]; omega
    · rw [s _ e]; exact this
/-- An entry more, at the first place of its way that is not used. -/
theorem DcIn.more (h : DcIn cells b n l) (hno : ∀ i, i < n → stC cells b i = 1 → keyC cells b i ≠ x) {q : Nat} (hq : q < n) (hs : stC cells b ((homeM x n + q) % n) ≠ 1) (hw : ∀ r, r < q → stC cells b ((homeM x n + r) % n) = 1) (y : Int) :
    DcIn ((((cells.set (b + (1 + 3 * ((homeM x n + q) % n))) 1).set (b + (2 + 3 * ((homeM x n + q) % n))) x).set (b + (3 + 3 * ((homeM x n + q) % n))) y).set b ((l.length : Int) + 1)) b n (insP (x, y) l) := by
  have hlen := h.len
  have hn0 := h.n0
  have hh := home_lt x hn0
  have hi : (homeM x n + q) % n < n := Nat.mod_lt _ hn0
  have hwq : wayM n (homeM x n) ((homeM x n + q) % n) = q := way_of hh hq
  generalize hie : (homeM x n + q) % n = i at *
  obtain ⟨C, hC⟩ : ∃ C, C = (((cells.set (b + (1 + 3 * i)) 1).set (b + (2 + 3 * i)) x).set (b + (3 + 3 * i)) y).set b ((l.length : Int) + 1) := ⟨_, rfl⟩
  have hCl : C.length = cells.length := by rw [hC]; simp
  have c0 : C.getD b 0 = (l.length : Int) + 1 := by rw [hC]; exact at_same (by simp; omega) _
  have s : ∀ j, j ≠ i → stC C b j = stC cells b j := fun j hj => by
    rw [hC]; unfold stC
    rw [at_other (by omega), at_other (by omega), at_other (by omega), at_other (by omega)]
  have s0 : stC C b i = 1 := by
    rw [hC]; unfold stC
    rw [at_other (by omega), at_other (by omega), at_other (by omega), at_same (by omega)]
  have k : ∀ j, j ≠ i → keyC C b j = keyC cells b j := fun j hj => by
    rw [hC]; unfold keyC
    rw [at_other (by omega), at_other (by omega), at_other (by omega), at_other (by omega)]
  have k0 : keyC C b i = x := by
    rw [hC]; unfold keyC
    rw [at_other (by omega), at_other (by omega), at_same (by simp; omega)]
  have v : ∀ j, j ≠ i → valC C b j = valC cells b j := fun j hj => by
    rw [hC]; unfold valC
    rw [at_other (by omega), at_other (by omega), at_other (by omega), at_other (by omega)]
  have v0 : valC C b i = y := by
    rw [hC]; unfold valC
    rw [at_other (by omega), at_same (by simp; omega)]
  rw [← hC]
  have hkeys : ∀ p ∈ l, p.1 ≠ x := fun p hp e => by
    obtain ⟨j, hj, h1, h2, _⟩ := h.has p hp
    exact hno j hj h1 (by rw [h2, e])
  have hmem : ∀ p, p ∈ insP (x, y) l ↔ p = (x, y) ∨ p ∈ l := fun p => by rw [(insP_perm (x, y) l).mem_iff, List.mem_cons]
  refine ⟨by rw [hCl]; exact hlen, by rw [hCl]; exact h.top, h.n0, h.n1, by rw [c0, (insP_perm (x, y) l).length_eq, List.length_cons]; omega, fun j hj => ?_, insP_rises h.ris (fun p hp => hkeys p hp), fun p hp => ?_, fun j hj h1 => ?_, fun j r hj hr h1 h2 h3 => ?_, fun j hj h1 r hr => ?_⟩
  · by_cases e : j = i
    · rw [e, s0]; exact .inr (.inl rfl)
    · rw [s j e]; exact h.st j hj
  · rcases (hmem p).1 hp with rfl | hp
    · exact ⟨i, hi, s0, k0, v0⟩
    · obtain ⟨j, hj, h1, h2, h3⟩ := h.has p hp
      have hne : j ≠ i := fun e => by rw [e] at h1; exact hs h1
      exact ⟨j, hj, by rw [s j hne]; exact h1, by rw [k j hne]; exact h2, by rw [v j hne]; exact h3⟩
  · by_cases e : j = i
    · rw [e, k0, v0]; exact (hmem _).2 (.inl rfl)
    · rw [s j e] at h1
      rw [k j e, v j e]
      exact (hmem _).2 (.inr (h.all j hj h1))
  · by_cases e1 : j = i
    · by_cases e2 : r = i
      · rw [e1, e2]
      · rw [s r e2] at h2
        rw [e1, k0, k r e2] at h3
        exact absurd h3.symm (hno r hr h2)
    · rw [s j e1] at h1
      by_cases e2 : r = i
      · rw [e2, k0, k j e1] at h3
        exact absurd h3 (hno j hj h1)
      · rw [s r e2] at h2
        rw [k j e1, k r e2] at h3
        exact h.inj j r hj hr h1 h2 h3
  · by_cases e : j = i
    · subst e
      rw [k0] at hr ⊢
      rw [hwq] at hr
      have := hw r hr
      by_cases e2 : (homeM x n + r) % n = j
      · rw [e2, s0]; omega
      · rw [s _ e2, this]; omega
    · rw [s j e] at h1
      rw [k j e] at hr ⊢
      have := h.rch j hj h1 r hr
      by_cases e2 : (homeM (keyC cells b j) n + r) % n = i
      · rw [e2, s0]; omega
      · rw [s _ e2]; exact this
end
end Go.Proofs.YtbpilhjomfkpaaaGreatDoor

namespace Go.Proofs.YtbpilhjomfkpaaaGreatDoor
open Go.RowKit
set_option linter.unusedVariables false
set_option linter.unusedSimpArgs false

/-- What a deed's program does. -/
def Runs (P : List Ins) (cells lc : List Int) (b n : Nat) (tr : Int) (l' : List Pr) (tells : List Int) : Prop :=
  ∃ k cells' lc' wrote, k ≤ 5000 ∧ Ow.To P k (owB cells lc tr) (owE cells' (P.length : Nat) lc' tells wrote tr) ∧ DcIn cells' b n l' ∧ Same cells cells' b n ∧ wrote.length ≤ 8
def putR (b : Nat) (x y : Int) : List Ins := [⟨5, 1⟩, ⟨15, 65⟩, ⟨5, 1⟩, ⟨1, 1⟩, ⟨18, 0⟩, ⟨5, 1⟩, ⟨1, 1⟩, ⟨7, 0⟩, ⟨1, x⟩, ⟨18, 0⟩, ⟨5, 1⟩, ⟨1, 2⟩, ⟨7, 0⟩, ⟨1, y⟩, ⟨18, 0⟩, ⟨1, (b : Int)⟩, ⟨1, (b : Int)⟩, ⟨17, 0⟩, ⟨1, 1⟩, ⟨7, 0⟩, ⟨18, 0⟩, ⟨1, 1⟩, ⟨14, 73⟩, ⟨1, 2⟩, ⟨14, 73⟩, ⟨5, 0⟩, ⟨1, 2⟩, ⟨7, 0⟩, ⟨1, y⟩, ⟨18, 0⟩, ⟨1, 0⟩, ⟨21, 0⟩, ⟨19, 0⟩]
def gttR : List Ins := [⟨1, 0⟩, ⟨14, 50⟩, ⟨1, 1⟩, ⟨21, 0⟩, ⟨5, 0⟩, ⟨1, 2⟩, ⟨7, 0⟩, ⟨17, 0⟩, ⟨21, 0⟩, ⟨19, 0⟩]
def drpR (b : Nat) : List Ins := [⟨1, 0⟩, ⟨14, 54⟩, ⟨5, 0⟩, ⟨1, 2⟩, ⟨18, 0⟩, ⟨1, (b : Int)⟩, ⟨1, (b : Int)⟩, ⟨17, 0⟩, ⟨1, 1⟩, ⟨8, 0⟩, ⟨18, 0⟩, ⟨1, 1⟩, ⟨21, 0⟩, ⟨19, 0⟩]
def addR (y : Int) : List Ins := [⟨1, 0⟩, ⟨14, 57⟩, ⟨1, 1⟩, ⟨21, 0⟩, ⟨5, 0⟩, ⟨1, 2⟩, ⟨7, 0⟩, ⟨3, 0⟩, ⟨17, 0⟩, ⟨1, y⟩, ⟨7, 0⟩, ⟨3, 0⟩, ⟨6, 3⟩, ⟨18, 0⟩, ⟨5, 3⟩, ⟨21, 0⟩, ⟨19, 0⟩]
section
variable {cells : List Int} {b n : Nat} {l : List Pr} {x y tr F : Int} {R : List Ins} {lc : List Int}
theorem put_is : putC (nvD (b : Int) n x y) = findD b n (homeM x n) x 67 ++ putR b x y := rfl
theorem gtt_is : gttC (nvD (b : Int) n x y) = findD b n (homeM x n) x 44 ++ gttR := rfl
theorem drp_is : drpC (nvD (b : Int) n x y) = findD b n (homeM x n) x 44 ++ drpR b := rfl
theorem add_is : addC (nvD (b : Int) n x y) = findD b n (homeM x n) x 44 ++ addR y := rfl
theorem siz_is : sizC (nvD (b : Int) n x y) = [⟨16, 0⟩, ⟨1, (b : Int)⟩, ⟨17, 0⟩, ⟨21, 0⟩, ⟨19, 0⟩] := rfl
/-- The search, from the program's first instruction on. -/
theorem search (h : DcIn cells b n l) (hl : lc.length = 8) (x F : Int) (R : List Ins) (tr : Int) :
    (∃ i m lc', i < n ∧ stC cells b i = 1 ∧ keyC cells b i = x ∧ atP l x = some (valC cells b i) ∧ m ≤ 1800 ∧ Ow.To (findD b n (homeM x n) x F ++ R) m (owB cells lc tr) (owS cells 19 [7, -7] lc' [] [] tr) ∧ lc'.length = 8 ∧ lc'.getD 0 0 = ((plA b i : Nat) : Int)) ∨
    ((∀ i, i < n → stC cells b i = 1 → keyC cells b i ≠ x) ∧ atP l x = none ∧ ∃ m lc' k', m ≤ 1800 ∧ Ow.To (findD b n (homeM x n) x F ++ R) m (owB cells lc tr) (owS cells 42 [7, -7] lc' [] [] tr) ∧ lc'.length = 8 ∧ k' ≤ n ∧ Fst cells b n (homeM x n) k' (lc'.getD 1 0) ∧ (k' = n ∨ lc'.getD 1 0 ≠ 0)) := by
  have hn0 := h.n0
  have hn1 := h.n1
  have ht := h.top
  have hlen := h.len
  have hh := home_lt x hn0
  have hl2 : ((lc.set 0 ((plA b (homeM x n) : Nat) : Int)).set 1 0).length = 8 := by simp; exact hl
  have g0 : ((lc.set 0 ((plA b (homeM x n) : Nat) : Int)).set 1 0).getD 0 0 = ((plA b ((homeM x n + 0) % n) : Nat) : Int) := by
    rw [lc_other (by decide), lc_same hl 0 (by decide), Nat.add_zero, Nat.mod_eq_of_lt hh]
  have g1 : ((lc.set 0 ((plA b (homeM x n) : Nat) : Int)).set 1 0).getD 1 0 = 0 := lc_same (by simp; exact hl) 1 (by decide) _
  have h5 : Ow.To (findD b n (homeM x n) x F ++ R) 5 (owB cells lc tr) (owS cells 5 [7, -7] ((lc.set 0 ((plA b (homeM x n) : Nat) : Int)).set 1 0) [] [] tr) := by
    refine to_begin rfl (by omega) ?_
    refine to_push (q := 1) rfl (by decide) ?_
    rw [show (b : Int) + ((1 + 3 * homeM x n : Nat) : Int) = ((plA b (homeM x n) : Nat) : Int) by unfold plA; omega]
    refine to_set (q := 2) (i := 0) rfl (by decide) (by decide) ?_
    refine to_push (q := 3) rfl (by decide) ?_
    refine to_set (q := 4) (i := 1) rfl (by decide) (by decide) ?_
    exact .here _
  rcases h.find x with ⟨i, hi, hs, hx, ha⟩ | ⟨hno, ha⟩
  · have hw := way_lt hh hi
    obtain ⟨m, lc', hm, hto, r1, r2⟩ := find_yes (F := F) (R := R) (tr := tr) h hi hs hx (wayM n (homeM x n) i) 0 _ (by omega) hl2 g0
    refine .inl ⟨i, 5 + m, lc', hi, hs, hx, ha, ?_, h5.then hto, r1, r2⟩
    have : 29 * (wayM n (homeM x n) i + 1) ≤ 29 * 60 := by omega
    omega
  · obtain ⟨m, lc', k', hm, hto, r1, r2, r3, r4⟩ := find_no (F := F) (R := R) (tr := tr) h hno (n - 1) 0 _ (by omega) hl2 g0 (by rw [g1]; exact .inl ⟨rfl, fun q hq => by omega⟩)
    refine .inr ⟨hno, ha, 5 + m, lc', k', ?_, h5.then hto, r1, r2, r3, r4⟩
    have : 29 * (n - 1 + 1) ≤ 29 * 60 := by omega
    omega
theorem run_siz (h : DcIn cells b n l) (hl : lc.length = 8) : Runs (sizC (nvD (b : Int) n x y)) cells lc b n tr l [(l.length : Int)] := by
  have ht := h.top
  have hlen := h.len
  rw [siz_is]
  refine ⟨5, cells, lc, [], by omega, ?_, h, Same.refl _ _ _, by simp⟩
  refine to_begin rfl (by omega) ?_
  refine to_push (q := 1) rfl (by decide) ?_
  refine to_load (q := 2) (j := b) rfl (by simp) rfl (by omega) ?_
  rw [h.cnt]
  refine to_tell (q := 3) rfl (by simp) (by simp) ?_
  exact to_commit (q := 4) rfl (by simp) (by simp)
theorem run_gtt (h : DcIn cells b n l) (hl : lc.length = 8) : Runs (gttC (nvD (b : Int) n x y)) cells lc b n tr l (match atP l x with | some v => [1, v] | none => [0]) := by
  have ht := h.top
  have hlen := h.len
  rw [gtt_is]
  rcases search h hl x 44 gttR tr with ⟨i, m, lc', hi, hs, hx, ha, hm, hto, r1, r2⟩ | ⟨hno, ha, m, lc', k', hm, hto, r1, r2, r3, r4⟩
  · rw [ha]
    refine ⟨m + 9, cells, lc', [], by omega, ?_, h, Same.refl _ _ _, by simp⟩
    refine hto.then ?_
    refine to_jump (q := 19) rfl (by simp) ?_
    refine to_push (q := 44) rfl (by simp) ?_
    refine to_tell (q := 45) rfl (by simp) (by simp) ?_
    refine to_get (q := 46) (i := 0) rfl (by decide) (by simp) ?_
    rw [r2]
    refine to_push (q := 47) rfl (by simp) ?_
    refine to_sum7 (q := 48) rfl (by simp) ?_
    rw [so_add (by unfold plA; omega) (by unfold plA; omega), show ((plA b i : Nat) : Int) + 2 = ((b + (3 + 3 * i) : Nat) : Int) by unfold plA; omega]
    refine to_load (q := 49) (j := b + (3 + 3 * i)) rfl (by simp) rfl (by omega) ?_
    rw [show cells.getD (b + (3 + 3 * i)) 0 = valC cells b i from rfl]
    refine to_tell (q := 50) rfl (by simp) (by simp) ?_
    exact to_commit (q := 51) rfl (by simp) (by simp)
  · rw [ha]
    refine ⟨m + 4, cells, lc', [], by omega, ?_, h, Same.refl _ _ _, by simp⟩
    refine hto.then ?_
    refine to_push (q := 42) rfl (by simp) ?_
    refine to_jump (q := 43) rfl (by simp) ?_
    refine to_tell (q := 50) rfl (by simp) (by simp) ?_
    exact to_commit (q := 51) rfl (by simp) (by simp)
theorem run_drp (h : DcIn cells b n l) (hl : lc.length = 8) : Runs (drpC (nvD (b : Int) n x y)) cells lc b n tr (match atP l x with | some _ => lackP l x | none => l) (match atP l x with | some _ => [1] | none => [0]) := by
  have ht := h.top
  have hlen := h.len
  rw [drp_is]
  rcases search h hl x 44 (drpR b) tr with ⟨i, m, lc', hi, hs, hx, ha, hm, hto, r1, r2⟩ | ⟨hno, ha, m, lc', k', hm, hto, r1, r2, r3, r4⟩
  · rw [ha]
    have hll := (rises_nodup h.ris)
    have hroom : l.length ≤ 60 := by
      have := h.used.length_eq
      rw [List.length_map] at this
      have h2 := List.length_filter_le (fun i => decide (stC cells b i = 1)) (List.range n)
      rw [List.length_range] at h2
      have := h.n1
      omega
    have w1 := addW_le ([] : List Int) ((plA b i : Nat) : Int)
    have w2 := addW_le (addW [] ((plA b i : Nat) : Int)) (b : Int)
    simp only [List.length_nil] at w1
    refine ⟨m + 13, (cells.set (b + (1 + 3 * i)) 2).set b ((l.length : Int) - 1), lc', addW (addW [] ((plA b i : Nat) : Int)) (b : Int), by omega, ?_, h.drop hi hs hx, ((Same.refl _ _ _).put (by omega) (by omega) _).put (by omega) (by omega) _, by omega⟩
    refine hto.then ?_
    refine to_jump (q := 19) rfl (by simp) ?_
    refine to_get (q := 44) (i := 0) rfl (by decide) (by simp) ?_
    rw [r2]
    refine to_push (q := 45) rfl (by simp) ?_
    refine to_storeW (q := 46) (j := b + (1 + 3 * i)) rfl (by simp) rfl (by omega) (by simp) ?_
    refine to_push (q := 47) rfl (by simp) ?_
    refine to_push (q := 48) rfl (by simp) ?_
    refine to_load (q := 49) (j := b) rfl (by simp) rfl (by rw [List.length_set]; omega) ?_
    rw [at_other (by omega), h.cnt]
    refine to_push (q := 50) rfl (by simp) ?_
    refine to_sum8 (q := 51) rfl (by simp) ?_
    rw [so_sub (by omega) (by omega)]
    refine to_storeW (q := 52) (j := b) rfl (by simp) rfl (by rw [List.length_set]; omega) (by omega) ?_
    refine to_push (q := 53) rfl (by simp) ?_
    refine to_tell (q := 54) rfl (by simp) (by simp) ?_
    exact to_commit (q := 55) rfl (by simp) (by simp)
  · rw [ha]
    refine ⟨m + 4, cells, lc', [], by omega, ?_, h, Same.refl _ _ _, by simp⟩
    refine hto.then ?_
    refine to_push (q := 42) rfl (by simp) ?_
    refine to_jump (q := 43) rfl (by simp) ?_
    refine to_tell (q := 54) rfl (by simp) (by simp) ?_
    exact to_commit (q := 55) rfl (by simp) (by simp)
theorem run_add (h : DcIn cells b n l) (hl : lc.length = 8) : Runs (addC (nvD (b : Int) n x y)) cells lc b n tr (match atP l x with | some v => turnP l x (wrap64 (v + y)) | none => l) (match atP l x with | some v => [1, wrap64 (v + y)] | none => [0]) := by
  have ht := h.top
  have hlen := h.len
  rw [add_is]
  rcases search h hl x 44 (addR y) tr with ⟨i, m, lc', hi, hs, hx, ha, hm, hto, r1, r2⟩ | ⟨hno, ha, m, lc', k', hm, hto, r1, r2, r3, r4⟩
  · rw [ha]
    have w1 := addW_le ([] : List Int) ((b + (3 + 3 * i) : Nat) : Int)
    simp only [List.length_nil] at w1
    refine ⟨m + 16, cells.set (b + (3 + 3 * i)) (wrap64 (valC cells b i + y)), lc'.set 3 (wrap64 (valC cells b i + y)), addW [] ((b + (3 + 3 * i) : Nat) : Int), by omega, ?_, h.turn hi hs hx _, (Same.refl _ _ _).put (by omega) (by omega) _, by omega⟩
    refine hto.then ?_
    refine to_jump (q := 19) rfl (by simp) ?_
    refine to_push (q := 44) rfl (by simp) ?_
    refine to_tell (q := 45) rfl (by simp) (by simp) ?_
    refine to_get (q := 46) (i := 0) rfl (by decide) (by simp) ?_
    rw [r2]
    refine to_push (q := 47) rfl (by simp) ?_
    refine to_sum7 (q := 48) rfl (by simp) ?_
    rw [so_add (by unfold plA; omega) (by unfold plA; omega), show ((plA b i : Nat) : Int) + 2 = ((b + (3 + 3 * i) : Nat) : Int) by unfold plA; omega]
    refine to_dup (q := 49) rfl (by simp) ?_
    refine to_load (q := 50) (j := b + (3 + 3 * i)) rfl (by simp) rfl (by omega) ?_
    rw [show cells.getD (b + (3 + 3 * i)) 0 = valC cells b i from rfl]
    refine to_push (q := 51) rfl (by simp) ?_
    refine to_sum7 (q := 52) rfl (by simp) ?_
    rw [show sumO 7 (valC cells b i) y = wrap64 (valC cells b i + y) from rfl]
    refine to_dup (q := 53) rfl (by simp) ?_
    refine to_set (q := 54) (i := 3) rfl (by decide) (by simp) ?_
    refine to_storeW (q := 55) (j := b + (3 + 3 * i)) rfl (by simp) rfl (by omega) (by simp) ?_
    refine to_get (q := 56) (i := 3) rfl (by decide) (by simp) ?_
    rw [lc_same r1 3 (by decide)]
    refine to_tell (q := 57) rfl (by simp) (by simp) ?_
    exact to_commit (q := 58) rfl (by simp) (by simp)
  · rw [ha]
    refine ⟨m + 4, cells, lc', [], by omega, ?_, h, Same.refl _ _ _, by simp⟩
    refine hto.then ?_
    refine to_push (q := 42) rfl (by simp) ?_
    refine to_jump (q := 43) rfl (by simp) ?_
    refine to_tell (q := 57) rfl (by simp) (by simp) ?_
    exact to_commit (q := 58) rfl (by simp) (by simp)
theorem run_put (h : DcIn cells b n l) (hl : lc.length = 8) : Runs (putC (nvD (b : Int) n x y)) cells lc b n tr (match atP l x with | some _ => turnP l x y | none => if (l.length : Int) = (n : Int) then l else insP (x, y) l) (match atP l x with | some _ => [0] | none => if (l.length : Int) = (n : Int) then [2] else [1]) := by
  have ht := h.top
  have hlen := h.len
  have hn0 := h.n0
  rw [put_is]
  rcases search h hl x 67 (putR b x y) tr with ⟨i, m, lc', hi, hs, hx, ha, hm, hto, r1, r2⟩ | ⟨hno, ha, m, lc', k', hm, hto, r1, r2, r3, r4⟩
  · rw [ha]
    have w1 := addW_le ([] : List Int) ((b + (3 + 3 * i) : Nat) : Int)
    simp only [List.length_nil] at w1
    refine ⟨m + 9, cells.set (b + (3 + 3 * i)) y, lc', addW [] ((b + (3 + 3 * i) : Nat) : Int), by omega, ?_, h.turn hi hs hx y, (Same.refl _ _ _).put (by omega) (by omega) _, by omega⟩
    refine hto.then ?_
    refine to_jump (q := 19) rfl (by simp) ?_
    refine to_get (q := 67) (i := 0) rfl (by decide) (by simp) ?_
    rw [r2]
    refine to_push (q := 68) rfl (by simp) ?_
    refine to_sum7 (q := 69) rfl (by simp) ?_
    rw [so_add (by unfold plA; omega) (by unfold plA; omega), show ((plA b i : Nat) : Int) + 2 = ((b + (3 + 3 * i) : Nat) : Int) by unfold plA; omega]
    refine to_push (q := 70) rfl (by simp) ?_
    refine to_storeW (q := 71) (j := b + (3 + 3 * i)) rfl (by simp) rfl (by omega) (by simp) ?_
    refine to_push (q := 72) rfl (by simp) ?_
    refine to_tell (q := 73) rfl (by simp) (by simp) ?_
    exact to_commit (q := 74) rfl (by simp) (by simp)
  · rw [ha]
    simp only
    rcases r3 with ⟨hf, hall⟩ | ⟨q, hq, hf, hsq, hw⟩
    · have hk : k' = n := by
        rcases r4 with h4 | h4
        · exact h4
        · exact absurd hf h4
      have hfull : l.length = n := h.full fun i hi => by
        have := hall (wayM n (homeM x n) i) (by rw [hk]; exact way_lt (home_lt x hn0) hi)
        rwa [way_at (home_lt x hn0) hi] at this
      rw [if_pos (by omega), if_pos (by omega)]
      refine ⟨m + 6, cells, lc', [], by omega, ?_, h, Same.refl _ _ _, by simp⟩
      refine hto.then ?_
      refine to_get (q := 42) (i := 1) rfl (by decide) (by simp) ?_
      rw [hf]
      refine to_zero (q := 43) rfl (by simp) ?_
      refine to_push (q := 65) rfl (by simp) ?_
      refine to_jump (q := 66) rfl (by simp) ?_
      refine to_tell (q := 73) rfl (by simp) (by simp) ?_
      exact to_commit (q := 74) rfl (by simp) (by simp)
    · have hqn : q < n := by omega
      have hmore := h.more hno hqn hsq hw y
      have hi : (homeM x n + q) % n < n := Nat.mod_lt _ hn0
      have hroom := h.room hi hsq
      rw [if_neg (by omega), if_neg (by omega)]
      generalize (homeM x n + q) % n = i at *
      have w1 := addW_le ([] : List Int) ((plA b i : Nat) : Int)
      have w2 := addW_le (addW [] ((plA b i : Nat) : Int)) ((b + (2 + 3 * i) : Nat) : Int)
      have w3 := addW_le (addW (addW [] ((plA b i : Nat) : Int)) ((b + (2 + 3 * i) : Nat) : Int)) ((b + (3 + 3 * i) : Nat) : Int)
      have w4 := addW_le (addW (addW (addW [] ((plA b i : Nat) : Int)) ((b + (2 + 3 * i) : Nat) : Int)) ((b + (3 + 3 * i) : Nat) : Int)) (b : Int)
      simp only [List.length_nil] at w1
      have hn1 := h.n1
      refine ⟨m + 25, _, lc', addW (addW (addW (addW [] ((plA b i : Nat) : Int)) ((b + (2 + 3 * i) : Nat) : Int)) ((b + (3 + 3 * i) : Nat) : Int)) (b : Int), by omega, ?_, hmore, ((((Same.refl _ _ _).put (by omega) (by omega) _).put (by omega) (by omega) _).put (by omega) (by omega) _).put (by omega) (by omega) _, by omega⟩
      refine hto.then ?_
      refine to_get (q := 42) (i := 1) rfl (by decide) (by simp) ?_
      rw [hf]
      refine to_zero (q := 43) rfl (by simp) ?_
      rw [if_neg (by unfold plA; omega)]
      refine to_get (q := 44) (i := 1) rfl (by decide) (by simp) ?_
      rw [hf]
      refine to_push (q := 45) rfl (by simp) ?_
      refine to_storeW (q := 46) (j := b + (1 + 3 * i)) rfl (by simp) rfl (by omega) (by simp) ?_
      refine to_get (q := 47) (i := 1) rfl (by decide) (by simp) ?_
      rw [hf]
      refine to_push (q := 48) rfl (by simp) ?_
      refine to_sum7 (q := 49) rfl (by simp) ?_
      rw [so_add (by unfold plA; omega) (by unfold plA; omega), show ((plA b i : Nat) : Int) + 1 = ((b + (2 + 3 * i) : Nat) : Int) by unfold plA; omega]
      refine to_push (q := 50) rfl (by simp) ?_
      refine to_storeW (q := 51) (j := b + (2 + 3 * i)) rfl (by simp) rfl (by rw [List.length_set]; omega) (by omega) ?_
      refine to_get (q := 52) (i := 1) rfl (by decide) (by simp) ?_
      rw [hf]
      refine to_push (q := 53) rfl (by simp) ?_
      refine to_sum7 (q := 54) rfl (by simp) ?_
      rw [so_add (by unfold plA; omega) (by unfold plA; omega), show ((plA b i : Nat) : Int) + 2 = ((b + (3 + 3 * i) : Nat) : Int) by unfold plA; omega]
      refine to_push (q := 55) rfl (by simp) ?_
      refine to_storeW (q := 56) (j := b + (3 + 3 * i)) rfl (by simp) rfl (by rw [List.length_set, List.length_set]; omega) (by omega) ?_
      refine to_push (q := 57) rfl (by simp) ?_
      refine to_push (q := 58) rfl (by simp) ?_
      refine to_load (q := 59) (j := b) rfl (by simp) rfl (by rw [List.length_set, List.length_set, List.length_set]; omega) ?_
      rw [at_other (by omega), at_other (by omega), at_other (by omega), h.cnt]
      refine to_push (q := 60) rfl (by simp) ?_
      refine to_sum7 (q := 61) rfl (by simp) ?_
      rw [so_add (by omega) (by omega)]
      refine to_storeW (q := 62) (j := b) rfl (by simp) rfl (by rw [List.length_set, List.length_set, List.length_set]; omega) (by omega) ?_
      refine to_push (q := 63) rfl (by simp) ?_
      refine to_jump (q := 64) rfl (by simp) ?_
      refine to_tell (q := 73) rfl (by simp) (by simp) ?_
      exact to_commit (q := 74) rfl (by simp) (by simp)
end
/-- The program of a deed that may be does the deed. -/
theorem deed_runs {cells lc : List Int} {l : List Pr} {b n : Nat} {d : Dd} {tr : Int} (h : DcIn cells b n l) (hl : lc.length = 8) (hd : mayS d = true) : Runs (codeS (nvD (b : Int) n d.x d.y) d.op) cells lc b n tr (doS l (n : Int) d).1 (doS l (n : Int) d).2 := by
  have ho := may_op hd
  obtain ⟨op, a, b', x, y⟩ := d
  simp only at ho ⊢
  unfold doS codeS
  rcases ho with rfl | rfl | rfl | rfl | rfl
  · simp only [Int.reduceEq, if_false, if_true]
    have := run_put (x := x) (y := y) (tr := tr) h hl
    cases ha : atP l x with
    | none =>
      rw [ha] at this
      simp only at this ⊢
      by_cases c : (l.length : Int) = (n : Int)
      · simp only [if_pos c] at this ⊢; exact this
      · simp only [if_neg c] at this ⊢; exact this
    | some v => rw [ha] at this; exact this
  · simp only [Int.reduceEq, if_false, if_true]
    have := run_gtt (x := x) (y := y) (tr := tr) h hl
    cases ha : atP l x with
    | none => rw [ha] at this; exact this
    | some v => rw [ha] at this; exact this
  · simp only [Int.reduceEq, if_false, if_true]
    have := run_drp (x := x) (y := y) (tr := tr) h hl
    cases ha : atP l x with
    | none => rw [ha] at this; exact this
    | some v => rw [ha] at this; exact this
  · simp only [Int.reduceEq, if_false, if_true]
    have := run_add (x := x) (y := y) (tr := tr) h hl
    cases ha : atP l x with
    | none => rw [ha] at this; exact this
    | some v => rw [ha] at this; exact this
  · simp only [Int.reduceEq, if_false, if_true]
    exact run_siz h hl
end Go.Proofs.YtbpilhjomfkpaaaGreatDoor

namespace Go.Proofs.YtbpilhjomfkpaaaGreatDoor
open Go.RowKit
set_option linter.unusedVariables false
set_option linter.unusedSimpArgs false

theorem getD_part {cells : List Int} {b k j : Nat} (hj : j < k) : ((cells.drop b).take k).getD j 0 = cells.getD (b + j) 0 := by
  simp only [List.getD_eq_getElem?_getD]
  rw [List.getElem?_take_of_lt hj, List.getElem?_drop]
theorem noFree_iff {c : List Int} {n : Nat} (hn : 0 < n) : ∀ (k a : Nat), a < n → (noFree c n a k = true ↔ ∀ j, j < k → stA c ((a + j) % n) ≠ 0)
  | 0, a, _ => by simp [noFree]
  | k + 1, a, ha => by
    have ih := noFree_iff (c := c) hn k ((a + 1) % n) (Nat.mod_lt _ hn)
    simp only [noFree, Bool.and_eq_true, decide_eq_true_eq, ih]
    have em : ∀ j, ((a + 1) % n + j) % n = (a + (j + 1)) % n := fun j => by rw [Nat.mod_add_mod, show a + 1 + j = a + (j + 1) by omega]
    constructor
    · rintro ⟨h0, h1⟩ j hj
      cases j with
      | zero => rw [Nat.add_zero, Nat.mod_eq_of_lt ha]; exact h0
      | succ j =>
        have := h1 j (by omega)
        rwa [em] at this
    · intro h
      refine ⟨?_, fun j hj => ?_⟩
      · have := h 0 (by omega)
        rwa [Nat.add_zero, Nat.mod_eq_of_lt ha] at this
      · rw [em]
        exact h (j + 1) (by omega)
theorem used_ok {c : List Int} {n : Nat} (hst : ∀ i, i < n → stA c i = 0 ∨ stA c i = 1 ∨ stA c i = 2) (hinj : ∀ i j, i < n → j < n → stA c i = 1 → stA c j = 1 → keyA c i = keyA c j → i = j) :
    ∀ i, i ≤ n → ∃ ls, usedM c i = some ls ∧ ls.Pairwise (fun p q => p.1 ≠ q.1) ∧ ∀ p, p ∈ ls ↔ ∃ k, k < i ∧ stA c k = 1 ∧ p = (keyA c k, (k : Int))
  | 0, _ => ⟨[], rfl, List.Pairwise.nil, fun p => by simp⟩
  | i + 1, hi => by
    obtain ⟨ls, e, hp, hm⟩ := used_ok hst hinj i (by omega)
    by_cases c1 : stA c i = 1
    · have hn : ∀ p ∈ ls, p.1 ≠ keyA c i := fun p hpm e2 => by
        obtain ⟨k, hk, h1, rfl⟩ := (hm p).1 hpm
        have := hinj k i (by omega) (by omega) h1 c1 e2
        omega
      refine ⟨(keyA c i, (i : Int)) :: ls, ?_, List.pairwise_cons.2 ⟨fun p hpm e2 => hn p hpm e2.symm, hp⟩, fun p => ?_⟩
      · rw [usedM, e]
        simp only
        rw [if_neg (by omega), if_pos c1, atP_of_none hn]
      · rw [List.mem_cons, hm]
        constructor
        · rintro (rfl | ⟨k, hk, r⟩)
          · exact ⟨i, by omega, c1, rfl⟩
          · exact ⟨k, by omega, r⟩
        · rintro ⟨k, hk, h1, h2⟩
          by_cases e2 : k = i
          · subst e2; exact .inl h2
          · exact .inr ⟨k, by omega, h1, h2⟩
    · have h02 : stA c i = 0 ∨ stA c i = 2 := by
        have := hst i (by omega)
        omega
      refine ⟨ls, ?_, hp, fun p => ?_⟩
      · rw [usedM, e]
        simp only
        rw [if_pos h02]
      · rw [hm]
        constructor
        · rintro ⟨k, hk, r⟩
          exact ⟨k, by omega, r⟩
        · rintro ⟨k, hk, h1, h2⟩
          by_cases e2 : k = i
          · subst e2; exact absurd h1 c1
          · exact ⟨k, by omega, h1, h2⟩
section
variable {cells : List Int} {b n : Nat} {l : List Pr}
theorem DcIn.read (h : DcIn cells b n l) : readS ((cells.drop b).take (1 + 3 * n)) n = some l := by
  have hn0 := h.n0
  have p : ∀ j, j < 1 + 3 * n → ((cells.drop b).take (1 + 3 * n)).getD j 0 = cells.getD (b + j) 0 := fun j hj => getD_part hj
  generalize (cells.drop b).take (1 + 3 * n) = P at *
  have s : ∀ i, i < n → stA P i = stC cells b i := fun i hi => p _ (by omega)
  have k : ∀ i, i < n → keyA P i = keyC cells b i := fun i hi => p _ (by omega)
  have v : ∀ i, i < n → valA P i = valC cells b i := fun i hi => p _ (by omega)
  obtain ⟨ls, e, hp, hm⟩ := used_ok (c := P) (n := n) (fun i hi => by rw [s i hi]; exact h.st i hi) (fun i j hi hj h1 h2 h3 => by
    rw [s i hi] at h1
    rw [s j hj] at h2
    rw [k i hi, k j hj] at h3
    exact h.inj i j hi hj h1 h2 h3) n (Nat.le_refl n)
  have hpm : l.Perm (ls.map fun q => (q.1, valA P q.2.toNat)) := by
    refine (List.perm_ext_iff_of_nodup (rises_nodup h.ris) ?_).2 fun q => ?_
    · rw [List.Nodup, List.pairwise_map]
      exact hp.imp (fun {p q} hne e => hne (by simpa using congrArg Prod.fst e))
    · rw [List.mem_map]
      constructor
      · intro hq
        obtain ⟨i, hi, h1, h2, h3⟩ := h.has q hq
        refine ⟨(keyA P i, (i : Int)), (hm _).2 ⟨i, hi, by rw [s i hi]; exact h1, rfl⟩, ?_⟩
        simp only [Int.toNat_natCast]
        rw [k i hi, v i hi, h2, h3]
      · rintro ⟨r, hr, rfl⟩
        obtain ⟨i, hi, h1, rfl⟩ := (hm r).1 hr
        simp only [Int.toNat_natCast]
        rw [k i hi, v i hi]
        rw [s i hi] at h1
        exact h.all i hi h1
  have hsort : sortP (ls.map fun q => (q.1, valA P q.2.toNat)) = l := by
    refine rises_eq (sortP_rises ?_) h.ris ((sortP_perm _).trans hpm.symm)
    rw [List.pairwise_map]
    exact hp
  unfold readS
  rw [e]
  simp only
  rw [if_pos, hsort]
  refine ⟨?_, List.all_eq_true.2 fun q hq => ?_⟩
  · rw [p 0 (by omega), Nat.add_zero, h.cnt, hpm.length_eq, List.length_map]
  · obtain ⟨i, hi, h1, rfl⟩ := (hm q).1 hq
    rw [s i hi] at h1
    simp only [Int.toNat_natCast, reachM]
    rw [k i hi]
    refine (noFree_iff hn0 _ _ (home_lt _ hn0)).2 fun j hj => ?_
    rw [s _ (Nat.mod_lt _ hn0)]
    exact h.rch i hi h1 j hj
theorem DcIn.room_le (h : DcIn cells b n l) : l.length ≤ n := by
  have := h.used.length_eq
  rw [List.length_map] at this
  have h2 := List.length_filter_le (fun i => decide (stC cells b i = 1)) (List.range n)
  rw [List.length_range] at h2
  omega
end
/-- Entries in cells that are being laid. -/
structure LyP (c : List Int) (n : Nat) (S : List Pr) : Prop where
  len : c.length = 1 + 3 * n
  st : ∀ i, i < n → stC c 0 i = 0 ∨ stC c 0 i = 1 ∨ stC c 0 i = 2
  has : ∀ p, p ∈ S → ∃ i, i < n ∧ stC c 0 i = 1 ∧ keyC c 0 i = p.1 ∧ valC c 0 i = p.2
  all : ∀ i, i < n → stC c 0 i = 1 → (keyC c 0 i, valC c 0 i) ∈ S
  inj : ∀ i j, i < n → j < n → stC c 0 i = 1 → stC c 0 j = 1 → keyC c 0 i = keyC c 0 j → i = j
  rch : ∀ i, i < n → stC c 0 i = 1 → ∀ k, k < wayM n (homeM (keyC c 0 i) n) i → stC c 0 ((homeM (keyC c 0 i) n + k) % n) ≠ 0
section
variable {c : List Int} {n : Nat} {S : List Pr} {x y : Int}
theorem LyP.start (n : Nat) (m : Int) : LyP ((List.replicate (1 + 3 * n) 0).set 0 m) n [] := by
  have z : ∀ i, stC ((List.replicate (1 + 3 * n) 0).set 0 m) 0 i = 0 := fun i => by
    unfold stC
    rw [at_other (by omega), List.getD_eq_getElem?_getD, List.getElem?_replicate]
    split <;> rfl
  refine ⟨by simp, fun i hi => .inl (z i), fun p hp => by simp at hp, fun i hi h1 => ?_, fun i j hi hj h1 => ?_, fun i hi h1 => ?_⟩
  all_goals
    rw [z i] at h1
    omega
theorem LyP.put (h : LyP c n S) (hn0 : 0 < n) (hno : ∀ p ∈ S, p.1 ≠ x) {a : Nat} (ha : a < n) (hs : stC c 0 a ≠ 1) (hw : ∀ r, r < wayM n (homeM x n) a → stC c 0 ((homeM x n + r) % n) = 1) (y : Int) :
    LyP (((c.set (1 + 3 * a) 1).set (2 + 3 * a) x).set (3 + 3 * a) y) n ((x, y) :: S) := by
  have hlen := h.len
  have hkeys : ∀ i, i < n → stC c 0 i = 1 → keyC c 0 i ≠ x := fun i hi h1 e => hno _ (h.all i hi h1) e
  obtain ⟨C, hC⟩ : ∃ C, C = ((c.set (1 + 3 * a) 1).set (2 + 3 * a) x).set (3 + 3 * a) y := ⟨_, rfl⟩
  have hCl : C.length = c.length := by rw [hC]; simp
  have s : ∀ j, j ≠ a → stC C 0 j = stC c 0 j := fun j hj => by
    rw [hC]; unfold stC
    rw [at_other (by omega), at_other (by omega), at_other (by omega)]
  have s0 : stC C 0 a = 1 := by
    rw [hC]; unfold stC
    rw [at_other (by omega), at_other (by omega), Nat.zero_add, at_same (by omega)]
  have k : ∀ j, j ≠ a → keyC C 0 j = keyC c 0 j := fun j hj => by
    rw [hC]; unfold keyC
    rw [at_other (by omega), at_other (by omega), at_other (by omega)]
  have k0 : keyC C 0 a = x := by
    rw [hC]; unfold keyC
    rw [at_other (by omega), Nat.zero_add, at_same (by simp; omega)]
  have v : ∀ j, j ≠ a → valC C 0 j = valC c 0 j := fun j hj => by
    rw [hC]; unfold valC
    rw [at_other (by omega), at_other (by omega), at_other (by omega)]
  have v0 : valC C 0 a = y := by
    rw [hC]; unfold valC
    rw [Nat.zero_add, at_same (by simp; omega)]
  rw [← hC]
  refine ⟨by rw [hCl]; exact hlen, fun j hj => ?_, fun p hp => ?_, fun j hj h1 => ?_, fun j r hj hr h1 h2 h3 => ?_, fun j hj h1 r hr => ?_⟩
  · by_cases e : j = a
    · rw [e, s0]; exact .inr (.inl rfl)
    · rw [s j e]; exact h.st j hj
  · rcases List.mem_cons.1 hp with rfl | hp
    · exact ⟨a, ha, s0, k0, v0⟩
    · obtain ⟨j, hj, h1, h2, h3⟩ := h.has p hp
      have hne : j ≠ a := fun e => by rw [e] at h1; exact hs h1
      exact ⟨j, hj, by rw [s j hne]; exact h1, by rw [k j hne]; exact h2, by rw [v j hne]; exact h3⟩
  · by_cases e : j = a
    · rw [e, k0, v0]; exact List.mem_cons_self
    · rw [s j e] at h1
      rw [k j e, v j e]
      exact List.mem_cons_of_mem _ (h.all j hj h1)
  · by_cases e1 : j = a
    · by_cases e2 : r = a
      · rw [e1, e2]
      · rw [s r e2] at h2
        rw [e1, k0, k r e2] at h3
        exact absurd h3.symm (hkeys r hr h2)
    · rw [s j e1] at h1
      by_cases e2 : r = a
      · rw [e2, k0, k j e1] at h3
        exact absurd h3 (hkeys j hj h1)
      · rw [s r e2] at h2
        rw [k j e1, k r e2] at h3
        exact h.inj j r hj hr h1 h2 h3
  · by_cases e : j = a
    · subst e
      rw [k0] at hr ⊢
      have := hw r hr
      by_cases e2 : (homeM x n + r) % n = j
      · rw [e2, s0]; omega
      · rw [s _ e2, this]; omega
    · rw [s j e] at h1
      rw [k j e] at hr ⊢
      have := h.rch j hj h1 r hr
      by_cases e2 : (homeM (keyC c 0 j) n + r) % n = a
      · rw [e2, s0]; omega
      · rw [s _ e2]; exact this
/-- A place that is gone. -/
theorem LyP.gone (h : LyP c n S) {a : Nat} (ha : a < n) (hs : stC c 0 a = 0) (u w : Int) : LyP (((c.set (1 + 3 * a) 2).set (2 + 3 * a) u).set (3 + 3 * a) w) n S := by
  have hlen := h.len
  obtain ⟨C, hC⟩ : ∃ C, C = ((c.set (1 + 3 * a) 2).set (2 + 3 * a) u).set (3 + 3 * a) w := ⟨_, rfl⟩
  have hCl : C.length = c.length := by rw [hC]; simp
  have s : ∀ j, j ≠ a → stC C 0 j = stC c 0 j := fun j hj => by
    rw [hC]; unfold stC
    rw [at_other (by omega), at_other (by omega), at_other (by omega)]
  have s0 : stC C 0 a = 2 := by
    rw [hC]; unfold stC
    rw [at_other (by omega), at_other (by omega), Nat.zero_add, at_same (by omega)]
  have k : ∀ j, j ≠ a → keyC C 0 j = keyC c 0 j := fun j hj => by
    rw [hC]; unfold keyC
    rw [at_other (by omega), at_other (by omega), at_other (by omega)]
  have v : ∀ j, j ≠ a → valC C 0 j = valC c 0 j := fun j hj => by
    rw [hC]; unfold valC
    rw [at_other (by omega), at_other (by omega), at_other (by omega)]
  have g : ∀ j, stC C 0 j = 1 → j ≠ a ∧ stC c 0 j = 1 := fun j h1 => by
    by_cases e : j = a
    · rw [e, s0] at h1; omega
    · rw [s j e] at h1; exact ⟨e, h1⟩
  rw [← hC]
  refine ⟨by rw [hCl]; exact hlen, fun j hj => ?_, fun p hp => ?_, fun j hj h1 => ?_, fun j r hj hr h1 h2 h3 => ?_, fun j hj h1 r hr => ?_⟩
  · by_cases e : j = a
    · rw [e, s0]; exact .inr (.inr rfl)
    · rw [s j e]; exact h.st j hj
  · obtain ⟨j, hj, h1, h2, h3⟩ := h.has p hp
    have hne : j ≠ a := fun e => by rw [e, hs] at h1; omega
    exact ⟨j, hj, by rw [s j hne]; exact h1, by rw [k j hne]; exact h2, by rw [v j hne]; exact h3⟩
  · obtain ⟨e, h1⟩ := g j h1
    rw [k j e, v j e]
    exact h.all j hj h1
  · obtain ⟨e1, h1⟩ := g j h1
    obtain ⟨e2, h2⟩ := g r h2
    rw [k j e1, k r e2] at h3
    exact h.inj j r hj hr h1 h2 h3
  · obtain ⟨e, h1⟩ := g j h1
    rw [k j e] at hr ⊢
    have := h.rch j hj h1 r hr
    by_cases e2 : (homeM (keyC c 0 j) n + r) % n = a
    · rw [e2, s0]; omega
    · rw [s _ e2]; exact this
theorem LyP.first (h : LyP c n S) {a : Nat} (ha : a < n) (hs : stC c 0 a ≠ 1) (u w z : Int) : (((c.set (1 + 3 * a) u).set (2 + 3 * a) w).set (3 + 3 * a) z).getD 0 0 = c.getD 0 0 := by
  rw [at_other (by omega), at_other (by omega), at_other (by omega)]
end
/-- The entries in the order in which they are laid. -/
def layS (ps : List Pr) (s t : Nat) : List Pr := (List.range t).map fun i => ps.getD ((i + s) % ps.length) (0, 0)
theorem layS_mem {ps : List Pr} {s t : Nat} {p : Pr} : p ∈ layS ps s t ↔ ∃ i, i < t ∧ p = ps.getD ((i + s) % ps.length) (0, 0) := by
  unfold layS
  rw [List.mem_map]
  constructor
  · rintro ⟨i, hi, e⟩
    exact ⟨i, List.mem_range.1 hi, e.symm⟩
  · rintro ⟨i, hi, e⟩
    exact ⟨i, List.mem_range.2 hi, e.symm⟩
theorem mod_rot {m s i j : Nat} (hi : i < m) (hj : j < m) (h : (i + s) % m = (j + s) % m) : i = j := by
  have e1 : (i + s) % m = (i + s % m) % m := by rw [Nat.add_mod_mod]
  have e2 : (j + s) % m = (j + s % m) % m := by rw [Nat.add_mod_mod]
  have hs : s % m < m := Nat.mod_lt _ (by omega)
  have f1 := mod_two (n := m) (a := i + s % m) (by omega)
  have f2 := mod_two (n := m) (a := j + s % m) (by omega)
  rw [e1, e2, f1, f2] at h
  generalize s % m = r at *
  clear e1 e2 f1 f2
  split at h <;> split at h <;> omega
theorem idx_getD {ps : List Pr} {i : Nat} (hi : i < ps.length) : ps.getD i (0, 0) = ps[i] := by simp [List.getD_eq_getElem?_getD, hi]
theorem layS_new {ps : List Pr} (hr : Rises ps) {s t : Nat} (ht : t < ps.length) : ∀ p ∈ layS ps s t, p.1 ≠ (ps.getD ((t + s) % ps.length) (0, 0)).1 := fun p hp e => by
  obtain ⟨i, hi, rfl⟩ := layS_mem.1 hp
  have h1 : (i + s) % ps.length < ps.length := Nat.mod_lt _ (by omega)
  have h2 : (t + s) % ps.length < ps.length := Nat.mod_lt _ (by omega)
  rw [idx_getD h1, idx_getD h2] at e
  have := rises_key hr (List.getElem_mem h1) (List.getElem_mem h2) e
  have hn := rises_nodup hr
  have e3 : (i + s) % ps.length = (t + s) % ps.length := (List.getElem_inj hn).1 this
  have := mod_rot (by omega) ht e3
  omega
theorem layS_succ (ps : List Pr) (s t : Nat) : (layS ps s (t + 1)).Perm (ps.getD ((t + s) % ps.length) (0, 0) :: layS ps s t) := by
  unfold layS
  rw [List.range_succ, List.map_append]
  exact List.perm_append_comm
theorem layS_all {ps : List Pr} {s : Nat} : ∀ p, p ∈ layS ps s ps.length ↔ p ∈ ps := fun p => by
  rw [layS_mem]
  constructor
  · rintro ⟨i, hi, rfl⟩
    have h1 : (i + s) % ps.length < ps.length := Nat.mod_lt _ (by omega)
    rw [idx_getD h1]
    exact List.getElem_mem h1
  · intro hp
    obtain ⟨d, hd, rfl⟩ := List.getElem_of_mem hp
    have hs : s % ps.length < ps.length := Nat.mod_lt _ (by omega)
    refine ⟨(d + (ps.length - s % ps.length)) % ps.length, Nat.mod_lt _ (by omega), ?_⟩
    have e : ((d + (ps.length - s % ps.length)) % ps.length + s) % ps.length = d := by
      rw [← Nat.add_mod_mod]
      generalize s % ps.length = r at *
      have e1 : (d + (ps.length - r)) % ps.length = if d + (ps.length - r) < ps.length then d + (ps.length - r) else d + (ps.length - r) - ps.length := mod_two (by omega)
      rw [e1]
      split
      · rw [show d + (ps.length - r) + r = d + ps.length by omega, Nat.add_mod_right, Nat.mod_eq_of_lt hd]
      · rw [show d + (ps.length - r) - ps.length + r = d by omega, Nat.mod_eq_of_lt hd]
    rw [e, idx_getD hd]
theorem rises_endE {l : List Pr} {p : Pr} (h : Rises l) (hx : l = [] ∨ (l.getD (l.length - 1) (0, 0)).1 < p.1) : Rises (l ++ [p]) := by
  refine List.pairwise_append.2 ⟨h, by simp, fun a ha c hc => ?_⟩
  rw [List.mem_singleton.1 hc]
  rcases hx with rfl | hx
  · simp at ha
  · obtain ⟨i, hi, rfl⟩ := List.getElem_of_mem ha
    rw [idx_getD (by omega)] at hx
    by_cases e : i = l.length - 1
    · subst e; exact hx
    · have := List.pairwise_iff_getElem.1 h i (l.length - 1) hi (by omega) (by omega)
      omega
theorem stC_zero (c : List Int) (i : Nat) : stC c 0 i = stA c i := by unfold stC stA; rw [Nat.zero_add]
theorem LyP.free {c : List Int} {n : Nat} {S : List Pr} (h : LyP c n S) (hl : S.length < n) : ∃ p, p < n ∧ stA c p ≠ 1 := by
  apply Classical.byContradiction
  intro hno
  have hall : ∀ q, q < n → stC c 0 q = 1 := fun q hq => Classical.byContradiction fun hh => hno ⟨q, hq, by rw [← stC_zero]; exact hh⟩
  have hn : ((List.range n).map fun i => (keyC c 0 i, valC c 0 i)).Nodup := by
    rw [List.Nodup, List.pairwise_map]
    refine List.Pairwise.imp_of_mem (R := fun a c : Nat => a ≠ c) (fun {i j} hi hj hne e => ?_) (List.nodup_range)
    rw [List.mem_range] at hi hj
    simp only [Prod.mk.injEq] at e
    exact hne (h.inj i j hi hj (hall i hi) (hall j hj) e.1)
  have := List.Nodup.length_le_of_subset hn (fun p hp => by
    obtain ⟨i, hi, rfl⟩ := List.mem_map.1 hp
    rw [List.mem_range] at hi
    exact h.all i hi (hall i hi))
  rw [List.length_map, List.length_range] at this
  omega
theorem way_step {n h a : Nat} (hh : h < n) (ha : a < n) : wayM n h ((a + 1) % n) ≤ wayM n h a + 1 := by
  rw [mod_two (by omega)]
  unfold wayM
  split <;> split <;> split <;> omega
theorem layS_len (ps : List Pr) (s t : Nat) : (layS ps s t).length = t := by simp [layS]
theorem LyP.perm {c : List Int} {n : Nat} {S T : List Pr} (h : LyP c n S) (hm : ∀ p, p ∈ T ↔ p ∈ S) : LyP c n T :=
  ⟨h.len, h.st, fun p hp => h.has p ((hm p).1 hp), fun i hi h1 => (hm _).2 (h.all i hi h1), h.inj, h.rch⟩
/-- Cells that were laid, among others. -/
theorem LyP.moved {own cells : List Int} {b n : Nat} {l : List Pr} (h : LyP own n l) (hr : Rises l) (h0 : own.getD 0 0 = (l.length : Int)) (hn0 : 0 < n) (hn1 : n ≤ 60) (hlen : b + (1 + 3 * n) ≤ cells.length) (htop : cells.length ≤ 256) (hp : ∀ i, i < 1 + 3 * n → cells.getD (b + i) 0 = own.getD i 0) : DcIn cells b n l := by
  have s : ∀ i, i < n → stC cells b i = stC own 0 i := fun i hi => by unfold stC; rw [hp _ (by omega), Nat.zero_add]
  have k : ∀ i, i < n → keyC cells b i = keyC own 0 i := fun i hi => by unfold keyC; rw [hp _ (by omega), Nat.zero_add]
  have v : ∀ i, i < n → valC cells b i = valC own 0 i := fun i hi => by unfold valC; rw [hp _ (by omega), Nat.zero_add]
  refine ⟨hlen, htop, hn0, hn1, by have := hp 0 (by omega); rw [Nat.add_zero] at this; rw [this]; exact h0, fun i hi => by rw [s i hi]; exact h.st i hi, hr, fun p hpm => ?_, fun i hi h1 => ?_, fun i j hi hj h1 h2 h3 => ?_, fun i hi h1 q hq => ?_⟩
  · obtain ⟨i, hi, h1, h2, h3⟩ := h.has p hpm
    exact ⟨i, hi, by rw [s i hi]; exact h1, by rw [k i hi]; exact h2, by rw [v i hi]; exact h3⟩
  · rw [s i hi] at h1
    rw [k i hi, v i hi]
    exact h.all i hi h1
  · rw [s i hi] at h1
    rw [s j hj] at h2
    rw [k i hi, k j hj] at h3
    exact h.inj i j hi hj h1 h2 h3
  · rw [s i hi] at h1
    rw [k i hi] at hq ⊢
    rw [s _ (Nat.mod_lt _ hn0)]
    exact h.rch i hi h1 q hq
end Go.Proofs.YtbpilhjomfkpaaaGreatDoor
