/- Programs, run by the document's own machine, as plain data. No program is named here. A deed's program is the deed, as plain data: the bank's. No program is named here. A bank in cells, as plain data; what its deeds leave and tell as two lists. -/
import Derived.Test.YtmoekoilcdkhfaaGreatDoorOwB
import Derived.Test.YtmoekoilcdkhfaaGreatDoorBkM
import Derived.Test.YtmoekoilcdkhfaaGreatDoorBkW
namespace Go.Proofs.YtmoekoilcdkhfaaGreatDoor
open Go.RowKit
set_option linter.unusedVariables false
set_option linter.unusedSimpArgs false

/-- What each step asks, beside that nothing is amiss. -/
def Ow.fit (o : Ow) (x : Ins) : Prop :=
  o.may x ∧ (x.op = 16 → o.cells.length ≤ 1000) ∧ (x.op = 18 → o.wrote.length ≤ 16) ∧ (x.op = 19 → 0 < o.held.length ∧ o.told.length + o.held.length ≤ 100000) ∧ (x.op = 21 → o.inside = true ∧ o.held.length ≤ 100000) ∧
  (x.op = 10 → -1000000 ≤ o.top 1 ∧ o.top 1 ≤ 1000000 ∧ 1 ≤ o.top 0 ∧ o.top 0 ≤ 1000000) ∧ (x.op = 1 ∨ x.op = 3 ∨ x.op = 5 ∨ x.op = 6 ∨ x.op = 7 ∨ x.op = 8 ∨ x.op = 9 ∨ x.op = 10 ∨ x.op = 11 ∨ x.op = 12 ∨ x.op = 13 ∨ x.op = 14 ∨ x.op = 15 ∨ x.op = 16 ∨ x.op = 17 ∨ x.op = 18 ∨ x.op = 19 ∨ x.op = 21)
/-- From one state to another in so many steps. -/
inductive Ow.To (l : List Ins) : Nat → Ow → Ow → Prop
  | here (o : Ow) : Ow.To l 0 o o
  | step {k : Nat} {o o' : Ow} (p : Nat) (x : Ins) (hp : o.place = p) (hx : l[p]? = some x) (hf : o.fit x) (h : Ow.To l k (o.go x) o') : Ow.To l (k + 1) o o'
/-- A state between begin and commit: its place, stack, locals, what it holds, wrote, its cells. -/
def owS (cells : List Int) (p : Int) (st : List Int) (lc : List Int) (held wrote : List Int) (tr : Int) : Ow := ⟨cells, p, st, lc, [], held, true, false, 0, tr, wrote⟩
def owB (cells : List Int) (lc : List Int) (tr : Int) : Ow := ⟨cells, 0, [7, -7], lc, [], [], false, false, 0, tr, []⟩
def owE (cells : List Int) (p : Int) (lc : List Int) (told wrote : List Int) (tr : Int) : Ow := ⟨cells, p, [7, -7], lc, told, [], false, false, 0, tr, wrote⟩
section
variable {l : List Ins} {k : Nat} {cells st lc held wrote : List Int} {p tr x y : Int} {o' : Ow}
theorem top0 : (owS cells p (st ++ [x]) lc held wrote tr).top 0 = x := by
  simp [Ow.top, owS, List.getD_eq_getElem?_getD]
theorem less1 : (owS cells p (st ++ [x]) lc held wrote tr).less 1 = st := by
  simp [Ow.less, owS]
theorem top1 : (owS cells p (st ++ [y] ++ [x]) lc held wrote tr).top 1 = y := by
  simp [Ow.top, owS, List.getD_eq_getElem?_getD]
theorem less2 : (owS cells p (st ++ [y] ++ [x]) lc held wrote tr).less 2 = st := by
  simp [Ow.less, owS]
theorem to_begin {n : Nat} (hx : l[0]? = some ⟨16, 0⟩) (hc : cells.length ≤ 1000) (h : Ow.To l n (owS cells 1 [7, -7] lc [] [] tr) o') : Ow.To l (n + 1) (owB cells lc tr) o' := by
  refine .step 0 ⟨16, 0⟩ rfl hx ?_ ?_
  · refine ⟨⟨rfl, (by decide : knownB 16 = true), (by decide : (rowOf 16).pops ≤ ((2 : Nat) : Int)), (by decide : ((2 : Nat) : Int) - (rowOf 16).pops + (rowOf 16).pushes ≤ 32), fun _ => rfl, fun h => ?_, fun h => ?_, fun h => ?_, fun h => ?_, fun h => ?_⟩, fun _ => hc, fun h => ?_, fun h => ?_, fun h => ?_, fun h => ?_, by simp⟩
    all_goals simp at h
  · simpa [Ow.go, owB, owS] using h
theorem to_push {n q : Nat} {a : Int} (hx : l[q]? = some ⟨1, a⟩) (hs : st.length ≤ 30) (h : Ow.To l n (owS cells ((q : Int) + 1) (st ++ [a]) lc held wrote tr) o') : Ow.To l (n + 1) (owS cells q st lc held wrote tr) o' := by
  refine .step q ⟨1, a⟩ rfl hx ?_ ?_
  · refine ⟨⟨rfl, (by decide : knownB 1 = true), (show (rowOf 1).pops ≤ (st.length : Int) by rw [show (rowOf 1).pops = 0 by decide]; omega), (show (st.length : Int) - (rowOf 1).pops + (rowOf 1).pushes ≤ 32 by rw [show (rowOf 1).pops = 0 by decide, show (rowOf 1).pushes = 1 by decide]; omega), fun h => ?_, fun h => ?_, fun h => ?_, fun h => ?_, fun h => ?_, fun h => ?_⟩, fun h => ?_, fun h => ?_, fun h => ?_, fun h => ?_, fun h => ?_, by simp⟩
    all_goals simp at h
  · simpa [Ow.go, owS] using h
theorem to_dup {n q : Nat} (hx : l[q]? = some ⟨3, 0⟩) (hs : st.length ≤ 28) (h : Ow.To l n (owS cells ((q : Int) + 1) (st ++ [x] ++ [x]) lc held wrote tr) o') : Ow.To l (n + 1) (owS cells q (st ++ [x]) lc held wrote tr) o' := by
  refine .step q ⟨3, 0⟩ rfl hx ?_ ?_
  · refine ⟨⟨rfl, (by decide : knownB 3 = true), ((show (rowOf 3).pops ≤ ((st ++ [x]).length : Int) by rw [show (rowOf 3).pops = 1 by decide, List.length_append]; simp; omega)), ((show ((st ++ [x]).length : Int) - (rowOf 3).pops + (rowOf 3).pushes ≤ 32 by rw [show (rowOf 3).pops = 1 by decide, show (rowOf 3).pushes = 2 by decide, List.length_append]; simp; omega)), fun h => ?_, fun h => ?_, fun h => ?_, fun h => ?_, fun h => ?_, fun h => ?_⟩, fun h => ?_, fun h => ?_, fun h => ?_, fun h => ?_, fun h => ?_, by simp⟩
    all_goals simp at h
  · have e : (owS cells q (st ++ [x]) lc held wrote tr).go ⟨3, 0⟩ = owS cells ((q : Int) + 1) (st ++ [x] ++ [x]) lc held wrote tr := by
      simp only [Ow.go, top0, Int.reduceEq, if_false, if_true]
      rfl
    rw [e]; exact h
theorem to_get {n q i : Nat} (hx : l[q]? = some ⟨5, (i : Int)⟩) (hi : i < 8) (hs : st.length ≤ 30) (h : Ow.To l n (owS cells ((q : Int) + 1) (st ++ [lc.getD i 0]) lc held wrote tr) o') : Ow.To l (n + 1) (owS cells q st lc held wrote tr) o' := by
  refine .step q ⟨5, (i : Int)⟩ rfl hx ?_ ?_
  · refine ⟨⟨rfl, (by decide : knownB 5 = true), (show (rowOf 5).pops ≤ (st.length : Int) by rw [show (rowOf 5).pops = 0 by decide]; omega), (show (st.length : Int) - (rowOf 5).pops + (rowOf 5).pushes ≤ 32 by rw [show (rowOf 5).pops = 0 by decide, show (rowOf 5).pushes = 1 by decide]; omega), fun h => ?_, fun h => ?_, fun h => ?_, fun _ => ⟨by show (0 : Int) ≤ (i : Int); omega, by show (i : Int) < 8; omega⟩, fun h => ?_, fun h => ?_⟩, fun h => ?_, fun h => ?_, fun h => ?_, fun h => ?_, fun h => ?_, by simp⟩
    all_goals simp at h
  · simpa [Ow.go, owS] using h
theorem to_set {n q i : Nat} (hx : l[q]? = some ⟨6, (i : Int)⟩) (hi : i < 8) (hs : st.length ≤ 28) (h : Ow.To l n (owS cells ((q : Int) + 1) st (lc.set i x) held wrote tr) o') : Ow.To l (n + 1) (owS cells q (st ++ [x]) lc held wrote tr) o' := by
  refine .step q ⟨6, (i : Int)⟩ rfl hx ?_ ?_
  · refine ⟨⟨rfl, (by decide : knownB 6 = true), ((show (rowOf 6).pops ≤ ((st ++ [x]).length : Int) by rw [show (rowOf 6).pops = 1 by decide, List.length_append]; simp; omega)), ((show ((st ++ [x]).length : Int) - (rowOf 6).pops + (rowOf 6).pushes ≤ 32 by rw [show (rowOf 6).pops = 1 by decide, show (rowOf 6).pushes = 0 by decide, List.length_append]; simp; omega)), fun h => ?_, fun h => ?_, fun h => ?_, fun _ => ⟨by show (0 : Int) ≤ (i : Int); omega, by show (i : Int) < 8; omega⟩, fun h => ?_, fun h => ?_⟩, fun h => ?_, fun h => ?_, fun h => ?_, fun h => ?_, fun h => ?_, by simp⟩
    all_goals simp at h
  · have e : (owS cells q (st ++ [x]) lc held wrote tr).go ⟨6, (i : Int)⟩ = owS cells ((q : Int) + 1) st (lc.set i x) held wrote tr := by
      simp only [Ow.go, top0, less1, Int.reduceEq, if_false, if_true, Int.toNat_natCast]
      rfl
    rw [e]; exact h
theorem to_sum7 {n q : Nat} (hx : l[q]? = some ⟨7, 0⟩) (hs : st.length ≤ 26) (h : Ow.To l n (owS cells ((q : Int) + 1) (st ++ [sumO 7 y x]) lc held wrote tr) o') : Ow.To l (n + 1) (owS cells q (st ++ [y] ++ [x]) lc held wrote tr) o' := by
  refine .step q ⟨7, 0⟩ rfl hx ?_ ?_
  · refine ⟨⟨rfl, (by decide : knownB 7 = true), (show (rowOf 7).pops ≤ ((st ++ [y] ++ [x]).length : Int) by rw [show (rowOf 7).pops = 2 by decide, List.length_append, List.length_append]; simp; omega), (show ((st ++ [y] ++ [x]).length : Int) - (rowOf 7).pops + (rowOf 7).pushes ≤ 32 by rw [show (rowOf 7).pops = 2 by decide, show (rowOf 7).pushes = 1 by decide, List.length_append, List.length_append]; simp; omega), fun h => ?_, fun h => ?_, fun h => ?_, fun h => ?_, fun h => ?_, fun h => ?_⟩, fun h => ?_, fun h => ?_, fun h => ?_, fun h => ?_, fun h => ?_, by simp⟩
    all_goals simp at h
  · have e : (owS cells q (st ++ [y] ++ [x]) lc held wrote tr).go ⟨7, 0⟩ = owS cells ((q : Int) + 1) (st ++ [sumO 7 y x]) lc held wrote tr := by
      simp only [Ow.go, top0, top1, less2, Int.reduceEq, if_false, if_true, or_true, true_or, or_false, false_or]
      rfl
    rw [e]; exact h
theorem to_sum8 {n q : Nat} (hx : l[q]? = some ⟨8, 0⟩) (hs : st.length ≤ 26) (h : Ow.To l n (owS cells ((q : Int) + 1) (st ++ [sumO 8 y x]) lc held wrote tr) o') : Ow.To l (n + 1) (owS cells q (st ++ [y] ++ [x]) lc held wrote tr) o' := by
  refine .step q ⟨8, 0⟩ rfl hx ?_ ?_
  · refine ⟨⟨rfl, (by decide : knownB 8 = true), (show (rowOf 8).pops ≤ ((st ++ [y] ++ [x]).length : Int) by rw [show (rowOf 8).pops = 2 by decide, List.length_append, List.length_append]; simp; omega), (show ((st ++ [y] ++ [x]).length : Int) - (rowOf 8).pops + (rowOf 8).pushes ≤ 32 by rw [show (rowOf 8).pops = 2 by decide, show (rowOf 8).pushes = 1 by decide, List.length_append, List.length_append]; simp; omega), fun h => ?_, fun h => ?_, fun h => ?_, fun h => ?_, fun h => ?_, fun h => ?_⟩, fun h => ?_, fun h => ?_, fun h => ?_, fun h => ?_, fun h => ?_, by simp⟩
    all_goals simp at h
  · have e : (owS cells q (st ++ [y] ++ [x]) lc held wrote tr).go ⟨8, 0⟩ = owS cells ((q : Int) + 1) (st ++ [sumO 8 y x]) lc held wrote tr := by
      simp only [Ow.go, top0, top1, less2, Int.reduceEq, if_false, if_true, or_true, true_or, or_false, false_or]
      rfl
    rw [e]; exact h
theorem to_sum10 {n q : Nat} (hx : l[q]? = some ⟨10, 0⟩) (hs : st.length ≤ 26) (hr : -1000000 ≤ y ∧ y ≤ 1000000 ∧ 1 ≤ x ∧ x ≤ 1000000) (h : Ow.To l n (owS cells ((q : Int) + 1) (st ++ [sumO 10 y x]) lc held wrote tr) o') : Ow.To l (n + 1) (owS cells q (st ++ [y] ++ [x]) lc held wrote tr) o' := by
  refine .step q ⟨10, 0⟩ rfl hx ?_ ?_
  · refine ⟨⟨rfl, (by decide : knownB 10 = true), (show (rowOf 10).pops ≤ ((st ++ [y] ++ [x]).length : Int) by rw [show (rowOf 10).pops = 2 by decide, List.length_append, List.length_append]; simp; omega), (show ((st ++ [y] ++ [x]).length : Int) - (rowOf 10).pops + (rowOf 10).pushes ≤ 32 by rw [show (rowOf 10).pops = 2 by decide, show (rowOf 10).pushes = 1 by decide, List.length_append, List.length_append]; simp; omega), fun h => ?_, fun h => ?_, fun h => ?_, fun h => ?_, fun h => ?_, fun h => ?_⟩, fun h => ?_, fun h => ?_, fun h => ?_, fun h => ?_, fun _ => by rw [top1, top0]; exact hr, by simp⟩
    all_goals simp at h
  · have e : (owS cells q (st ++ [y] ++ [x]) lc held wrote tr).go ⟨10, 0⟩ = owS cells ((q : Int) + 1) (st ++ [sumO 10 y x]) lc held wrote tr := by
      simp only [Ow.go, top0, top1, less2, Int.reduceEq, if_false, if_true, or_true, true_or, or_false, false_or]
      rfl
    rw [e]; exact h
theorem to_sum11 {n q : Nat} (hx : l[q]? = some ⟨11, 0⟩) (hs : st.length ≤ 26) (h : Ow.To l n (owS cells ((q : Int) + 1) (st ++ [sumO 11 y x]) lc held wrote tr) o') : Ow.To l (n + 1) (owS cells q (st ++ [y] ++ [x]) lc held wrote tr) o' := by
  refine .step q ⟨11, 0⟩ rfl hx ?_ ?_
  · refine ⟨⟨rfl, (by decide : knownB 11 = true), (show (rowOf 11).pops ≤ ((st ++ [y] ++ [x]).length : Int) by rw [show (rowOf 11).pops = 2 by decide, List.length_append, List.length_append]; simp; omega), (show ((st ++ [y] ++ [x]).length : Int) - (rowOf 11).pops + (rowOf 11).pushes ≤ 32 by rw [show (rowOf 11).pops = 2 by decide, show (rowOf 11).pushes = 1 by decide, List.length_append, List.length_append]; simp; omega), fun h => ?_, fun h => ?_, fun h => ?_, fun h => ?_, fun h => ?_, fun h => ?_⟩, fun h => ?_, fun h => ?_, fun h => ?_, fun h => ?_, fun h => ?_, by simp⟩
    all_goals simp at h
  · have e : (owS cells q (st ++ [y] ++ [x]) lc held wrote tr).go ⟨11, 0⟩ = owS cells ((q : Int) + 1) (st ++ [sumO 11 y x]) lc held wrote tr := by
      simp only [Ow.go, top0, top1, less2, Int.reduceEq, if_false, if_true, or_true, true_or, or_false, false_or]
      rfl
    rw [e]; exact h
theorem to_sum9 {n q : Nat} (hx : l[q]? = some ⟨9, 0⟩) (hs : st.length ≤ 26) (h : Ow.To l n (owS cells ((q : Int) + 1) (st ++ [sumO 9 y x]) lc held wrote tr) o') : Ow.To l (n + 1) (owS cells q (st ++ [y] ++ [x]) lc held wrote tr) o' := by
  refine .step q ⟨9, 0⟩ rfl hx ?_ ?_
  · refine ⟨⟨rfl, (by decide : knownB 9 = true), (show (rowOf 9).pops ≤ ((st ++ [y] ++ [x]).length : Int) by rw [show (rowOf 9).pops = 2 by decide, List.length_append, List.length_append]; simp; omega), (show ((st ++ [y] ++ [x]).length : Int) - (rowOf 9).pops + (rowOf 9).pushes ≤ 32 by rw [show (rowOf 9).pops = 2 by decide, show (rowOf 9).pushes = 1 by decide, List.length_append, List.length_append]; simp; omega), fun h => ?_, fun h => ?_, fun h => ?_, fun h => ?_, fun h => ?_, fun h => ?_⟩, fun h => ?_, fun h => ?_, fun h => ?_, fun h => ?_, fun h => ?_, by simp⟩
    all_goals simp at h
  · have e : (owS cells q (st ++ [y] ++ [x]) lc held wrote tr).go ⟨9, 0⟩ = owS cells ((q : Int) + 1) (st ++ [sumO 9 y x]) lc held wrote tr := by
      simp only [Ow.go, top0, top1, less2, Int.reduceEq, if_false, if_true, or_true, true_or, or_false, false_or]
      rfl
    rw [e]; exact h
theorem to_sum12 {n q : Nat} (hx : l[q]? = some ⟨12, 0⟩) (hs : st.length ≤ 26) (h : Ow.To l n (owS cells ((q : Int) + 1) (st ++ [sumO 12 y x]) lc held wrote tr) o') : Ow.To l (n + 1) (owS cells q (st ++ [y] ++ [x]) lc held wrote tr) o' := by
  refine .step q ⟨12, 0⟩ rfl hx ?_ ?_
  · refine ⟨⟨rfl, (by decide : knownB 12 = true), (show (rowOf 12).pops ≤ ((st ++ [y] ++ [x]).length : Int) by rw [show (rowOf 12).pops = 2 by decide, List.length_append, List.length_append]; simp; omega), (show ((st ++ [y] ++ [x]).length : Int) - (rowOf 12).pops + (rowOf 12).pushes ≤ 32 by rw [show (rowOf 12).pops = 2 by decide, show (rowOf 12).pushes = 1 by decide, List.length_append, List.length_append]; simp; omega), fun h => ?_, fun h => ?_, fun h => ?_, fun h => ?_, fun h => ?_, fun h => ?_⟩, fun h => ?_, fun h => ?_, fun h => ?_, fun h => ?_, fun h => ?_, by simp⟩
    all_goals simp at h
  · have e : (owS cells q (st ++ [y] ++ [x]) lc held wrote tr).go ⟨12, 0⟩ = owS cells ((q : Int) + 1) (st ++ [sumO 12 y x]) lc held wrote tr := by
      simp only [Ow.go, top0, top1, less2, Int.reduceEq, if_false, if_true, or_true, true_or, or_false, false_or]
      rfl
    rw [e]; exact h
theorem to_not {n q : Nat} (hx : l[q]? = some ⟨13, 0⟩) (hs : st.length ≤ 28) (h : Ow.To l n (owS cells ((q : Int) + 1) (st ++ [sumO 12 x 0]) lc held wrote tr) o') : Ow.To l (n + 1) (owS cells q (st ++ [x]) lc held wrote tr) o' := by
  refine .step q ⟨13, 0⟩ rfl hx ?_ ?_
  · refine ⟨⟨rfl, (by decide : knownB 13 = true), ((show (rowOf 13).pops ≤ ((st ++ [x]).length : Int) by rw [show (rowOf 13).pops = 1 by decide, List.length_append]; simp; omega)), ((show ((st ++ [x]).length : Int) - (rowOf 13).pops + (rowOf 13).pushes ≤ 32 by rw [show (rowOf 13).pops = 1 by decide, show (rowOf 13).pushes = 1 by decide, List.length_append]; simp; omega)), fun h => ?_, fun h => ?_, fun h => ?_, fun h => ?_, fun h => ?_, fun h => ?_⟩, fun h => ?_, fun h => ?_, fun h => ?_, fun h => ?_, fun h => ?_, by simp⟩
    all_goals simp at h
  · have e : (owS cells q (st ++ [x]) lc held wrote tr).go ⟨13, 0⟩ = owS cells ((q : Int) + 1) (st ++ [sumO 12 x 0]) lc held wrote tr := by
      simp only [Ow.go, top0, less1, Int.reduceEq, if_false, if_true, or_true, true_or, or_false, false_or]
      rfl
    rw [e]; exact h
theorem to_jump {n q : Nat} {a : Int} (hx : l[q]? = some ⟨14, a⟩) (hs : st.length ≤ 30) (h : Ow.To l n (owS cells a st lc held wrote tr) o') : Ow.To l (n + 1) (owS cells q st lc held wrote tr) o' := by
  refine .step q ⟨14, a⟩ rfl hx ?_ ?_
  · refine ⟨⟨rfl, (by decide : knownB 14 = true), (show (rowOf 14).pops ≤ (st.length : Int) by rw [show (rowOf 14).pops = 0 by decide]; omega), (show (st.length : Int) - (rowOf 14).pops + (rowOf 14).pushes ≤ 32 by rw [show (rowOf 14).pops = 0 by decide, show (rowOf 14).pushes = 0 by decide]; omega), fun h => ?_, fun h => ?_, fun h => ?_, fun h => ?_, fun h => ?_, fun h => ?_⟩, fun h => ?_, fun h => ?_, fun h => ?_, fun h => ?_, fun h => ?_, by simp⟩
    all_goals simp at h
  · simpa [Ow.go, owS] using h
theorem to_zero {n q : Nat} {a : Int} (hx : l[q]? = some ⟨15, a⟩) (hs : st.length ≤ 28) (h : Ow.To l n (owS cells (if x = 0 then a else (q : Int) + 1) st lc held wrote tr) o') : Ow.To l (n + 1) (owS cells q (st ++ [x]) lc held wrote tr) o' := by
  refine .step q ⟨15, a⟩ rfl hx ?_ ?_
  · refine ⟨⟨rfl, (by decide : knownB 15 = true), ((show (rowOf 15).pops ≤ ((st ++ [x]).length : Int) by rw [show (rowOf 15).pops = 1 by decide, List.length_append]; simp; omega)), ((show ((st ++ [x]).length : Int) - (rowOf 15).pops + (rowOf 15).pushes ≤ 32 by rw [show (rowOf 15).pops = 1 by decide, show (rowOf 15).pushes = 0 by decide, List.length_append]; simp; omega)), fun h => ?_, fun h => ?_, fun h => ?_, fun h => ?_, fun h => ?_, fun h => ?_⟩, fun h => ?_, fun h => ?_, fun h => ?_, fun h => ?_, fun h => ?_, by simp⟩
    all_goals simp at h
  · have e : (owS cells q (st ++ [x]) lc held wrote tr).go ⟨15, a⟩ = owS cells (if x = 0 then a else (q : Int) + 1) st lc held wrote tr := by
      simp only [Ow.go, top0, less1, Int.reduceEq, if_false, if_true]
      rfl
    rw [e]; exact h
theorem to_tell {n q : Nat} (hx : l[q]? = some ⟨21, 0⟩) (hs : st.length ≤ 28) (hh : held.length ≤ 100) (h : Ow.To l n (owS cells ((q : Int) + 1) st lc (held ++ [x]) wrote tr) o') : Ow.To l (n + 1) (owS cells q (st ++ [x]) lc held wrote tr) o' := by
  refine .step q ⟨21, 0⟩ rfl hx ?_ ?_
  · refine ⟨⟨rfl, (by decide : knownB 21 = true), (show (rowOf 21).pops ≤ ((st ++ [x]).length : Int) by rw [show (rowOf 21).pops = 1 by decide, List.length_append]; simp; omega), (show ((st ++ [x]).length : Int) - (rowOf 21).pops + (rowOf 21).pushes ≤ 32 by rw [show (rowOf 21).pops = 1 by decide, show (rowOf 21).pushes = 0 by decide, List.length_append]; simp; omega), fun h => ?_, fun h => ?_, fun h => ?_, fun h => ?_, fun h => ?_, fun h => ?_⟩, fun h => ?_, fun h => ?_, fun h => ?_, fun _ => ⟨rfl, by show held.length ≤ 100000; omega⟩, fun h => ?_, by simp⟩
    all_goals simp at h
  · have e : (owS cells q (st ++ [x]) lc held wrote tr).go ⟨21, 0⟩ = owS cells ((q : Int) + 1) st lc (held ++ [x]) wrote tr := by
      simp only [Ow.go, top0, less1, Int.reduceEq, if_false, if_true]
      rfl
    rw [e]; exact h
theorem to_load {n q j : Nat} (hx : l[q]? = some ⟨17, 0⟩) (hs : st.length ≤ 28) (hj : x = (j : Int)) (hc : j < cells.length) (h : Ow.To l n (owS cells ((q : Int) + 1) (st ++ [cells.getD j 0]) lc held wrote tr) o') : Ow.To l (n + 1) (owS cells q (st ++ [x]) lc held wrote tr) o' := by
  refine .step q ⟨17, 0⟩ rfl hx ?_ ?_
  · refine ⟨⟨rfl, (by decide : knownB 17 = true), (show (rowOf 17).pops ≤ ((st ++ [x]).length : Int) by rw [show (rowOf 17).pops = 1 by decide, List.length_append]; simp; omega), (show ((st ++ [x]).length : Int) - (rowOf 17).pops + (rowOf 17).pushes ≤ 32 by rw [show (rowOf 17).pops = 1 by decide, show (rowOf 17).pushes = 1 by decide, List.length_append]; simp; omega), fun h => ?_, fun _ => rfl, fun h => ?_, fun h => ?_, fun _ => by rw [top0, hj]; exact ⟨by omega, by show (j : Int) < (cells.length : Int); omega⟩, fun h => ?_⟩, fun h => ?_, fun h => ?_, fun h => ?_, fun h => ?_, fun h => ?_, by simp⟩
    all_goals simp at h
  · have e : (owS cells q (st ++ [x]) lc held wrote tr).go ⟨17, 0⟩ = owS cells ((q : Int) + 1) (st ++ [cells.getD j 0]) lc held wrote tr := by
      simp only [Ow.go, top0, less1, Int.reduceEq, if_false, if_true, hj, Int.toNat_natCast]
      simp [owS]
    rw [e]; exact h
theorem to_store {n q j : Nat} (hx : l[q]? = some ⟨18, 0⟩) (hs : st.length ≤ 26) (hj : y = (j : Int)) (hc : j < cells.length) (hw : wrote.length < 16) (h : Ow.To l n (owS (cells.set j x) ((q : Int) + 1) st lc held (if y ∈ wrote then wrote else wrote ++ [y]) tr) o') : Ow.To l (n + 1) (owS cells q (st ++ [y] ++ [x]) lc held wrote tr) o' := by
  refine .step q ⟨18, 0⟩ rfl hx ?_ ?_
  · refine ⟨⟨rfl, (by decide : knownB 18 = true), (show (rowOf 18).pops ≤ ((st ++ [y] ++ [x]).length : Int) by rw [show (rowOf 18).pops = 2 by decide, List.length_append, List.length_append]; simp; omega), (show ((st ++ [y] ++ [x]).length : Int) - (rowOf 18).pops + (rowOf 18).pushes ≤ 32 by rw [show (rowOf 18).pops = 2 by decide, show (rowOf 18).pushes = 0 by decide, List.length_append, List.length_append]; simp; omega), fun h => ?_, fun _ => rfl, fun h => ?_, fun h => ?_, fun h => ?_, fun _ => by rw [top1, hj]; exact ⟨by omega, by show (j : Int) < (cells.length : Int); omega, .inr hw⟩⟩, fun h => ?_, fun _ => by show wrote.length ≤ 16; omega, fun h => ?_, fun h => ?_, fun h => ?_, by simp⟩
    all_goals simp at h
  · have e : (owS cells q (st ++ [y] ++ [x]) lc held wrote tr).go ⟨18, 0⟩ = owS (cells.set j x) ((q : Int) + 1) st lc held (if y ∈ wrote then wrote else wrote ++ [y]) tr := by
      simp only [Ow.go, top0, top1, less2, Int.reduceEq, if_false, if_true, hj, Int.toNat_natCast]
      simp [owS]
    rw [e]; exact h
theorem to_commit {q : Nat} (hx : l[q]? = some ⟨19, 0⟩) (hh : 0 < held.length) (hh2 : held.length ≤ 100) : Ow.To l 1 (owS cells q [7, -7] lc held wrote tr) (owE cells ((q : Int) + 1) lc held wrote tr) := by
  refine .step q ⟨19, 0⟩ rfl hx ?_ ?_
  · refine ⟨⟨rfl, (by decide : knownB 19 = true), (by decide : (rowOf 19).pops ≤ ((2 : Nat) : Int)), (by decide : ((2 : Nat) : Int) - (rowOf 19).pops + (rowOf 19).pushes ≤ 32), fun h => ?_, fun _ => rfl, fun h => ?_, fun h => ?_, fun h => ?_, fun h => ?_⟩, fun h => ?_, fun h => ?_, fun _ => ⟨hh, by show 0 + held.length ≤ 100000; omega⟩, fun h => ?_, fun h => ?_, by simp⟩
    all_goals simp at h
  · have e : (owS cells q [7, -7] lc held wrote tr).go ⟨19, 0⟩ = owE cells ((q : Int) + 1) lc held wrote tr := by
      simp [Ow.go, owS, owE]
    rw [e]; exact .here _
end
theorem so_add {a b : Int} (h1 : -1000000 ≤ a + b) (h2 : a + b ≤ 1000000) : sumO 7 a b = a + b := by
  unfold sumO wrap64
  simp only [if_true]
  omega
theorem so_sub {a b : Int} (h1 : -1000000 ≤ a - b) (h2 : a - b ≤ 1000000) : sumO 8 a b = a - b := by
  unfold sumO wrap64
  simp only [if_true, Int.reduceEq, if_false]
  omega
theorem so_mul {a b : Int} (h1 : -1000000 ≤ a * b) (h2 : a * b ≤ 1000000) : sumO 9 a b = a * b := by
  unfold sumO wrap64
  simp only [if_true, Int.reduceEq, if_false]
  generalize a * b = c at *
  omega
theorem so_less {a b : Int} (h : a < b) : sumO 11 a b = 1 := by
  unfold sumO
  simp [h]
theorem so_nless {a b : Int} (h : ¬ a < b) : sumO 11 a b = 0 := by
  unfold sumO
  simp [h]
theorem so_same {a b : Int} (h : a = b) : sumO 12 a b = 1 := by
  unfold sumO
  simp [h]
theorem so_nsame {a b : Int} (h : ¬ a = b) : sumO 12 a b = 0 := by
  unfold sumO
  simp [h]
theorem lc_same {lc : List Int} (h : lc.length = 8) (i : Nat) (hi : i < 8) (x : Int) : (lc.set i x).getD i 0 = x := by
  simp [List.getD_eq_getElem?_getD, h, hi]
theorem lc_other {lc : List Int} {i j : Nat} (hi : i ≠ j) (x : Int) : (lc.set i x).getD j 0 = lc.getD j 0 := by
  simp [List.getD_eq_getElem?_getD, hi]
theorem at_same {cs : List Int} {i : Nat} (h : i < cs.length) (x : Int) : (cs.set i x).getD i 0 = x := by
  simp [List.getD_eq_getElem?_getD, h]
theorem at_other {cs : List Int} {i j : Nat} (hi : i ≠ j) (x : Int) : (cs.set i x).getD j 0 = cs.getD j 0 := by
  simp [List.getD_eq_getElem?_getD, hi]
/-- A cell that is written is told once. -/
def addW (w : List Int) (y : Int) : List Int := if y ∈ w then w else w ++ [y]
theorem addW_le (w : List Int) (y : Int) : (addW w y).length ≤ w.length + 1 := by
  unfold addW
  split
  · omega
  · simp
theorem to_storeW {l : List Ins} {cells st lc held wrote : List Int} {tr x y : Int} {o' : Ow} {n q j : Nat} (hx : l[q]? = some ⟨18, 0⟩) (hs : st.length ≤ 26) (hj : y = (j : Int)) (hc : j < cells.length) (hw : wrote.length < 16) (h : Ow.To l n (owS (cells.set j x) ((q : Int) + 1) st lc held (addW wrote y) tr) o') : Ow.To l (n + 1) (owS cells q (st ++ [y] ++ [x]) lc held wrote tr) o' := to_store hx hs hj hc hw h
/-- Two rows of steps are one. -/
theorem Ow.To.then {l : List Ins} {k1 k2 : Nat} {o1 o2 o3 : Ow} (a : Ow.To l k1 o1 o2) (b : Ow.To l k2 o2 o3) : Ow.To l (k1 + k2) o1 o3 := by
  induction a with
  | here => rw [Nat.zero_add]; exact b
  | step p x hp hx hf h ih => rw [Nat.add_right_comm]; exact .step p x hp hx hf (ih b)
end Go.Proofs.YtmoekoilcdkhfaaGreatDoor

namespace Go.Proofs.YtmoekoilcdkhfaaGreatDoor
open Go.RowKit
set_option linter.unusedVariables false
set_option linter.unusedSimpArgs false

/-- A bank that has l, from b on. -/
structure BkHas (cells : List Int) (b n : Nat) (l : List Int) : Prop where
  len : b + n ≤ cells.length
  top : cells.length ≤ 256
  n0 : 0 < n
  n1 : n ≤ 64
  ll : l.length = n
  eq : ∀ i, i < n → cells.getD (b + i) 0 = l.getD i 0
theorem BkHas.put {cells l : List Int} {b n : Nat} (h : BkHas cells b n l) {i : Nat} (hi : i < n) (x : Int) : BkHas (cells.set (b + i) x) b n (l.set i x) := by
  refine ⟨by rw [List.length_set]; exact h.len, by rw [List.length_set]; exact h.top, h.n0, h.n1, by rw [List.length_set]; exact h.ll, fun j hj => ?_⟩
  by_cases e : i = j
  · subst e
    rw [at_same (by have := h.len; omega), at_same (by have := h.ll; omega)]
  · rw [at_other (by omega), at_other e]
    exact h.eq j hj
/-- All other cells are as they were. -/
def Same (cells cells' : List Int) (b n : Nat) : Prop := cells'.length = cells.length ∧ ∀ i, i < b ∨ b + n ≤ i → cells'.getD i 0 = cells.getD i 0
theorem Same.refl (cells : List Int) (b n : Nat) : Same cells cells b n := ⟨rfl, fun _ _ => rfl⟩
theorem Same.put {cells cells' : List Int} {b n j : Nat} (h : Same cells cells' b n) (h1 : b ≤ j) (h2 : j < b + n) (x : Int) : Same cells (cells'.set j x) b n :=
  ⟨by rw [List.length_set]; exact h.1, fun i hi => by rw [at_other (by omega)]; exact h.2 i hi⟩
theorem BkHas.read {cells l : List Int} {b n : Nat} (h : BkHas cells b n l) : (cells.drop b).take n = l := by
  have h1 := h.len
  have h2 := h.ll
  apply List.ext_getElem (by rw [List.length_take, List.length_drop]; omega)
  intro i i1 i2
  have := h.eq i (by omega)
  rw [List.getElem_take, List.getElem_drop]
  simp only [List.getD_eq_getElem?_getD] at this
  rw [List.getElem?_eq_getElem (by omega), List.getElem?_eq_getElem i2] at this
  simpa using this
def sumF (l : List Int) : Nat → Int
  | 0 => 0
  | k + 1 => wrap64 (sumF l k + l.getD k 0)
theorem sumF_take (l : List Int) : ∀ k, k ≤ l.length → sumM (l.take k) = sumF l k
  | 0, _ => rfl
  | k + 1, h => by
    have ih := sumF_take l k (by omega)
    have e : l.take (k + 1) = l.take k ++ [l.getD k 0] := by
      rw [List.take_add_one, List.getD_eq_getElem?_getD, List.getElem?_eq_getElem (by omega)]
      rfl
    have e2 : sumM (l.take k ++ [l.getD k 0]) = wrap64 (sumM (l.take k) + l.getD k 0) := by
      unfold sumM
      rw [List.foldl_append]
      rfl
    rw [e, e2, ih]
    rfl
theorem sumF_all (l : List Int) : sumF l l.length = sumM l := by
  rw [← sumF_take l l.length (Nat.le_refl _), List.take_length]
def sumC (b n : Nat) : List Ins := [⟨16, 0⟩, ⟨1, 0⟩, ⟨1, (b : Int)⟩, ⟨6, 0⟩, ⟨5, 0⟩, ⟨17, 0⟩, ⟨7, 0⟩, ⟨5, 0⟩, ⟨1, 1⟩, ⟨7, 0⟩, ⟨3, 0⟩, ⟨6, 0⟩, ⟨1, (b : Int) + (n : Int)⟩, ⟨12, 0⟩, ⟨15, 4⟩, ⟨21, 0⟩, ⟨19, 0⟩]
/-- One round of the sum's loop. -/
theorem sum_round {cells l lc : List Int} {b n k : Nat} {t tr : Int} (h : BkHas cells b n l) (hl : lc.length = 8) (hk : k < n) : Ow.To (sumC b n) 11 (owS cells 4 ([7, -7] ++ [t]) (lc.set 0 ((b + k : Nat) : Int)) [] [] tr) (owS cells (if k + 1 = n then 15 else 4) ([7, -7] ++ [wrap64 (t + l.getD k 0)]) (lc.set 0 ((b + (k + 1) : Nat) : Int)) [] [] tr) := by
  have h1 := h.len
  have h2 := h.top
  refine to_get (q := 4) (i := 0) rfl (by decide) (by simp) ?_
  rw [lc_same hl 0 (by decide)]
  refine to_load (q := 5) (j := b + k) rfl (by simp) rfl (by omega) ?_
  rw [h.eq k hk]
  refine to_sum7 (q := 6) rfl (by simp) ?_
  rw [show sumO 7 t (l.getD k 0) = wrap64 (t + l.getD k 0) from rfl]
  refine to_get (q := 7) (i := 0) rfl (by decide) (by simp) ?_
  rw [lc_same hl 0 (by decide)]
  refine to_push (q := 8) rfl (by simp) ?_
  refine to_sum7 (q := 9) rfl (by simp) ?_
  rw [so_add (by omega) (by omega), show ((b + k : Nat) : Int) + 1 = ((b + (k + 1) : Nat) : Int) by omega]
  refine to_dup (q := 10) rfl (by simp) ?_
  refine to_set (q := 11) (i := 0) rfl (by decide) (by simp) ?_
  rw [List.set_set]
  refine to_push (q := 12) rfl (by simp) ?_
  refine to_sum12 (q := 13) rfl (by simp) ?_
  by_cases e : k + 1 = n
  · rw [if_pos e, so_same (by omega)]
    refine to_zero (q := 14) rfl (by simp) ?_
    exact .here _
  · rw [if_neg e, so_nsame (by omega)]
    refine to_zero (q := 14) rfl (by simp) ?_
    exact .here _
theorem sum_loop {cells l lc : List Int} {b n : Nat} {tr : Int} (h : BkHas cells b n l) (hl : lc.length = 8) : ∀ k, k < n → Ow.To (sumC b n) (11 * (k + 1)) (owS cells 4 ([7, -7] ++ [0]) (lc.set 0 (b : Int)) [] [] tr) (owS cells (if k + 1 = n then 15 else 4) ([7, -7] ++ [sumF l (k + 1)]) (lc.set 0 ((b + (k + 1) : Nat) : Int)) [] [] tr)
  | 0, hk => sum_round (k := 0) h hl hk
  | k + 1, hk => by
    have ih := sum_loop (tr := tr) h hl k (by omega)
    rw [if_neg (show ¬ k + 1 = n by omega)] at ih
    have := ih.then (sum_round (t := sumF l (k + 1)) (tr := tr) h hl hk)
    rw [show 11 * (k + 1) + 11 = 11 * (k + 1 + 1) by omega] at this
    exact this
theorem run_sum {cells l lc : List Int} {b n : Nat} {tr : Int} (h : BkHas cells b n l) (hl : lc.length = 8) : Ow.To (sumC b n) (4 + (11 * n + 2)) (owB cells lc tr) (owE cells 17 (lc.set 0 ((b + n : Nat) : Int)) [sumM l] [] tr) := by
  have h0 := h.n0
  have hlp := sum_loop (tr := tr) h hl (n - 1) (by omega)
  rw [show n - 1 + 1 = n by omega, if_pos rfl] at hlp
  have hlast : sumF l n = sumM l := by rw [← h.ll]; exact sumF_all l
  rw [hlast] at hlp
  have h1 : Ow.To (sumC b n) 4 (owB cells lc tr) (owS cells 4 ([7, -7] ++ [0]) (lc.set 0 (b : Int)) [] [] tr) := by
    refine to_begin rfl (by have := h.top; omega) ?_
    refine to_push (q := 1) rfl (by simp) ?_
    refine to_push (q := 2) rfl (by simp) ?_
    refine to_set (q := 3) (i := 0) rfl (by decide) (by simp) ?_
    exact .here _
  have h2 : Ow.To (sumC b n) 2 (owS cells 15 ([7, -7] ++ [sumM l]) (lc.set 0 ((b + n : Nat) : Int)) [] [] tr) (owE cells 17 (lc.set 0 ((b + n : Nat) : Int)) [sumM l] [] tr) := by
    refine to_tell (q := 15) rfl (by simp) (by simp) ?_
    exact to_commit (q := 16) rfl (by simp) (by simp)
  exact h1.then (hlp.then h2)
theorem fld_yes {v most : Int} (h : fldM true v most = true) : 0 ≤ v ∧ v ≤ most := by
  unfold fldM at h
  simpa using h
/-- The program of a deed that may be does the deed. -/
theorem deed_runs {cells lc l : List Int} {b n : Nat} {d : Dd} {tr : Int} (h : BkHas cells b n l) (hl : lc.length = 8) (hd : mayD (n : Int) d = true) :
    ∃ k cells' lc' wrote, k ≤ 5000 ∧ Ow.To (codeM (b : Int) (n : Int) d) k (owB cells lc tr) (owE cells' ((codeM (b : Int) (n : Int) d).length : Nat) lc' [(doM l d).2] wrote tr) ∧ BkHas cells' b n (doM l d).1 ∧ Same cells cells' b n ∧ wrote.length ≤ 8 := by
  have h1 := h.len
  have h2 := h.top
  have h3 := h.n1
  obtain ⟨op, a, b', x, y⟩ := d
  unfold mayD at hd
  simp only at hd
  have two : ∀ p q : Int, (if q ∈ (if p ∈ ([] : List Int) then ([] : List Int) else [] ++ [p]) then (if p ∈ ([] : List Int) then ([] : List Int) else [] ++ [p]) else (if p ∈ ([] : List Int) then ([] : List Int) else [] ++ [p]) ++ [q]).length ≤ 8 := by
    intro p q
    simp only [List.not_mem_nil, if_false, List.nil_append]
    split <;> simp
  split at hd
  · rename_i ho
    simp only [Bool.and_eq_true] at hd
    obtain ⟨ha, -, hx, -⟩ := hd
    have ha := fld_yes ha
    obtain ⟨A, rfl⟩ : ∃ A : Nat, a = (A : Int) := ⟨a.toNat, by omega⟩
    have hA : A < n := by omega
    have eA : (b : Int) + (A : Int) = ((b + A : Nat) : Int) := by omega
    rcases ho with rfl | rfl
    · simp only [codeM, doM, if_true, Int.toNat_natCast, eA]
      refine ⟨10, cells.set (b + A) (wrap64 (l.getD A 0 + x)), lc, (if ((b + A : Nat) : Int) ∈ ([] : List Int) then ([] : List Int) else [] ++ [((b + A : Nat) : Int)]), by omega, ?_, h.put hA _, (Same.refl _ _ _).put (by omega) (by omega) _, ?_⟩
      · refine to_begin rfl (by omega) ?_
        refine to_push (q := 1) rfl (by simp) ?_
        refine to_push (q := 2) rfl (by simp) ?_
        refine to_load (q := 3) (j := b + A) rfl (by simp) rfl (by omega) ?_
        rw [h.eq A hA]
        refine to_push (q := 4) rfl (by simp) ?_
        refine to_sum7 (q := 5) rfl (by simp) ?_
        rw [show sumO 7 (l.getD A 0) x = wrap64 (l.getD A 0 + x) from rfl]
        refine to_dup (q := 6) rfl (by simp) ?_
        refine to_tell (q := 7) rfl (by simp) (by simp) ?_
        refine to_store (q := 8) (j := b + A) rfl (by simp) rfl (by omega) (by simp) ?_
        exact to_commit (q := 9) rfl (by simp) (by simp)
      · simp
    · simp only [codeM, doM, Int.reduceEq, if_false, if_true, Int.toNat_natCast, eA]
      by_cases hlt : l.getD A 0 < x
      · rw [if_pos hlt]
        refine ⟨12, cells, lc.set 0 (l.getD A 0), [], by omega, ?_, h, Same.refl _ _ _, by simp⟩
        refine to_begin rfl (by omega) ?_
        refine to_push (q := 1) rfl (by simp) ?_
        refine to_load (q := 2) (j := b + A) rfl (by simp) rfl (by omega) ?_
        rw [h.eq A hA]
        refine to_set (q := 3) (i := 0) rfl (by decide) (by simp) ?_
        refine to_get (q := 4) (i := 0) rfl (by decide) (by simp) ?_
        rw [lc_same hl 0 (by decide)]
        refine to_push (q := 5) rfl (by simp) ?_
        refine to_sum11 (q := 6) rfl (by simp) ?_
        rw [so_less hlt]
        refine to_not (q := 7) rfl (by simp) ?_
        rw [so_nsame (by decide)]
        refine to_dup (q := 8) rfl (by simp) ?_
        refine to_tell (q := 9) rfl (by simp) (by simp) ?_
        refine to_zero (q := 10) rfl (by simp) ?_
        exact to_commit (q := 16) rfl (by simp) (by simp)
      · rw [if_neg hlt]
        refine ⟨17, cells.set (b + A) (wrap64 (l.getD A 0 - x)), lc.set 0 (l.getD A 0), (if ((b + A : Nat) : Int) ∈ ([] : List Int) then ([] : List Int) else [] ++ [((b + A : Nat) : Int)]), by omega, ?_, h.put hA _, (Same.refl _ _ _).put (by omega) (by omega) _, ?_⟩
        · refine to_begin rfl (by omega) ?_
          refine to_push (q := 1) rfl (by simp) ?_
          refine to_load (q := 2) (j := b + A) rfl (by simp) rfl (by omega) ?_
          rw [h.eq A hA]
          refine to_set (q := 3) (i := 0) rfl (by decide) (by simp) ?_
          refine to_get (q := 4) (i := 0) rfl (by decide) (by simp) ?_
          rw [lc_same hl 0 (by decide)]
          refine to_push (q := 5) rfl (by simp) ?_
          refine to_sum11 (q := 6) rfl (by simp) ?_
          rw [so_nless hlt]
          refine to_not (q := 7) rfl (by simp) ?_
          rw [so_same rfl]
          refine to_dup (q := 8) rfl (by simp) ?_
          refine to_tell (q := 9) rfl (by simp) (by simp) ?_
          refine to_zero (q := 10) rfl (by simp) ?_
          refine to_push (q := 11) rfl (by simp) ?_
          refine to_get (q := 12) (i := 0) rfl (by decide) (by simp) ?_
          rw [lc_same hl 0 (by decide)]
          refine to_push (q := 13) rfl (by simp) ?_
          refine to_sum8 (q := 14) rfl (by simp) ?_
          rw [show sumO 8 (l.getD A 0) x = wrap64 (l.getD A 0 - x) from rfl]
          refine to_store (q := 15) (j := b + A) rfl (by simp) rfl (by omega) (by simp) ?_
          exact to_commit (q := 16) rfl (by simp) (by simp)
        · simp
  · rename_i ho
    split at hd
    · rename_i ho3
      subst ho3
      simp only [Bool.and_eq_true] at hd
      obtain ⟨ha, hb, hx, -⟩ := hd
      have ha := fld_yes ha
      have hb := fld_yes hb
      obtain ⟨A, rfl⟩ : ∃ A : Nat, a = (A : Int) := ⟨a.toNat, by omega⟩
      obtain ⟨B, rfl⟩ : ∃ B : Nat, b' = (B : Int) := ⟨b'.toNat, by omega⟩
      have hA : A < n := by omega
      have hB : B < n := by omega
      have eA : (b : Int) + (A : Int) = ((b + A : Nat) : Int) := by omega
      have eB : (b : Int) + (B : Int) = ((b + B : Nat) : Int) := by omega
      simp only [codeM, doM, Int.reduceEq, if_false, if_true, Int.toNat_natCast, eA, eB]
      by_cases hlt : l.getD A 0 < x
      · rw [if_pos hlt]
        refine ⟨12, cells, lc.set 0 (l.getD A 0), [], by omega, ?_, h, Same.refl _ _ _, by simp⟩
        refine to_begin rfl (by omega) ?_
        refine to_push (q := 1) rfl (by simp) ?_
        refine to_load (q := 2) (j := b + A) rfl (by simp) rfl (by omega) ?_
        rw [h.eq A hA]
        refine to_set (q := 3) (i := 0) rfl (by decide) (by simp) ?_
        refine to_get (q := 4) (i := 0) rfl (by decide) (by simp) ?_
        rw [lc_same hl 0 (by decide)]
        refine to_push (q := 5) rfl (by simp) ?_
        refine to_sum11 (q := 6) rfl (by simp) ?_
        rw [so_less hlt]
        refine to_not (q := 7) rfl (by simp) ?_
        rw [so_nsame (by decide)]
        refine to_dup (q := 8) rfl (by simp) ?_
        refine to_tell (q := 9) rfl (by simp) (by simp) ?_
        refine to_zero (q := 10) rfl (by simp) ?_
        exact to_commit (q := 22) rfl (by simp) (by simp)
      · rw [if_neg hlt]
        have hp := h.put hA (wrap64 (l.getD A 0 - x))
        refine ⟨23, (cells.set (b + A) (wrap64 (l.getD A 0 - x))).set (b + B) (wrap64 ((l.set A (wrap64 (l.getD A 0 - x))).getD B 0 + x)), lc.set 0 (l.getD A 0), (if ((b + B : Nat) : Int) ∈ (if ((b + A : Nat) : Int) ∈ ([] : List Int) then ([] : List Int) else [] ++ [((b + A : Nat) : Int)]) then (if ((b + A : Nat) : Int) ∈ ([] : List Int) then ([] : List Int) else [] ++ [((b + A : Nat) : Int)]) else (if ((b + A : Nat) : Int) ∈ ([] : List Int) then ([] : List Int) else [] ++ [((b + A : Nat) : Int)]) ++ [((b + B : Nat) : Int)]), by omega, ?_, hp.put hB _, ((Same.refl _ _ _).put (by omega) (by omega) _).put (by omega) (by omega) _, ?_⟩
        · refine to_begin rfl (by omega) ?_
          refine to_push (q := 1) rfl (by simp) ?_
          refine to_load (q := 2) (j := b + A) rfl (by simp) rfl (by omega) ?_
          rw [h.eq A hA]
          refine to_set (q := 3) (i := 0) rfl (by decide) (by simp) ?_
          refine to_get (q := 4) (i := 0) rfl (by decide) (by simp) ?_
          rw [lc_same hl 0 (by decide)]
          refine to_push (q := 5) rfl (by simp) ?_
          refine to_sum11 (q := 6) rfl (by simp) ?_
          rw [so_nless hlt]
          refine to_not (q := 7) rfl (by simp) ?_
          rw [so_same rfl]
          refine to_dup (q := 8) rfl (by simp) ?_
          refine to_tell (q := 9) rfl (by simp) (by simp) ?_
          refine to_zero (q := 10) rfl (by simp) ?_
          refine to_push (q := 11) rfl (by simp) ?_
          refine to_get (q := 12) (i := 0) rfl (by decide) (by simp) ?_
          rw [lc_same hl 0 (by decide)]
          refine to_push (q := 13) rfl (by simp) ?_
          refine to_sum8 (q := 14) rfl (by simp) ?_
          rw [show sumO 8 (l.getD A 0) x = wrap64 (l.getD A 0 - x) from rfl]
          refine to_store (q := 15) (j := b + A) rfl (by simp) rfl (by omega) (by simp) ?_
          refine to_push (q := 16) rfl (by simp) ?_
          refine to_push (q := 17) rfl (by simp) ?_
          refine to_load (q := 18) (j := b + B) rfl (by simp) rfl (by rw [List.length_set]; omega) ?_
          rw [hp.eq B hB]
          refine to_push (q := 19) rfl (by simp) ?_
          refine to_sum7 (q := 20) rfl (by simp) ?_
          rw [show sumO 7 ((l.set A (wrap64 (l.getD A 0 - x))).getD B 0) x = wrap64 ((l.set A (wrap64 (l.getD A 0 - x))).getD B 0 + x) from rfl]
          refine to_store (q := 21) (j := b + B) rfl (by simp) rfl (by rw [List.length_set]; omega) (by simp) ?_
          exact to_commit (q := 22) rfl (by simp) (by simp)
        · exact two _ _
    · rename_i ho3
      split at hd
      · rename_i ho4
        subst ho4
        simp only [Bool.and_eq_true] at hd
        obtain ⟨ha, -, -, -⟩ := hd
        have ha := fld_yes ha
        obtain ⟨A, rfl⟩ : ∃ A : Nat, a = (A : Int) := ⟨a.toNat, by omega⟩
        have hA : A < n := by omega
        have eA : (b : Int) + (A : Int) = ((b + A : Nat) : Int) := by omega
        simp only [codeM, doM, Int.reduceEq, if_false, if_true, Int.toNat_natCast, eA]
        refine ⟨5, cells, lc, [], by omega, ?_, h, Same.refl _ _ _, by simp⟩
        refine to_begin rfl (by omega) ?_
        refine to_push (q := 1) rfl (by simp) ?_
        refine to_load (q := 2) (j := b + A) rfl (by simp) rfl (by omega) ?_
        rw [h.eq A hA]
        refine to_tell (q := 3) rfl (by simp) (by simp) ?_
        exact to_commit (q := 4) rfl (by simp) (by simp)
      · rename_i ho4
        split at hd
        · rename_i ho5
          subst ho5
          simp only [codeM, doM, Int.reduceEq, if_false]
          exact ⟨4 + (11 * n + 2), cells, _, [], by omega, run_sum h hl, h, Same.refl _ _ _, by simp⟩
        · cases hd
end Go.Proofs.YtmoekoilcdkhfaaGreatDoor

namespace Go.Proofs.YtmoekoilcdkhfaaGreatDoor
open Go.RowKit
set_option linter.unusedVariables false
set_option linter.unusedSimpArgs false

def Rg (x : Int) : Prop := -9223372036854775808 ≤ x ∧ x ≤ 9223372036854775807
/-- What a deed leaves, and tells. -/
def doS (l : List Int) (n : Int) (d : Dd) : List Int × List Int := ((doM l d).1, [(doM l d).2])
theorem doM_len (l : List Int) (d : Dd) : (doM l d).1.length = l.length := by
  unfold doM
  repeat' split
  all_goals simp
theorem doS_len (l : List Int) (n : Int) (d : Dd) : (doS l n d).1.length ≤ l.length + 1 ∧ (doS l n d).2.length ≤ 2 := by
  unfold doS
  have := doM_len l d
  refine ⟨by simp only; omega, by simp⟩
theorem BkHas.of {cells own : List Int} {b n : Nat} (hn0 : 0 < n) (hn1 : n ≤ 64) (hlen : b + n ≤ cells.length) (htop : cells.length ≤ 256) (ho : own.length = n) (h : ∀ i, i < n → cells.getD (b + i) 0 = own.getD i 0) : BkHas cells b n own := ⟨hlen, htop, hn0, hn1, ho, h⟩
theorem BkHas.fits {cells : List Int} {b n : Nat} {l : List Int} (h : BkHas cells b n l) : fitsM (b : Int) (n : Int) cells.length = true := by
  have := h.n0
  have := h.n1
  have := h.len
  have hr : roomM (n : Int) = (n : Int) := by unfold roomM; rw [if_pos (by omega)]
  unfold fitsM
  rw [hr]
  simp only [Bool.and_eq_true, decide_eq_true_eq]
  omega
theorem BkHas.ok {cells : List Int} {b n : Nat} {l : List Int} (h : BkHas cells b n l) (d : Dd) : okD l (n : Int) d = mayD (n : Int) d ∧ okC (b : Int) (n : Int) d = mayD (n : Int) d := by
  have := h.ll
  have := h.n0
  have := h.n1
  have := h.len
  have := h.top
  have hr : roomM (n : Int) = (n : Int) := by unfold roomM; rw [if_pos (by omega)]
  constructor
  · unfold okD
    rw [hr, decide_eq_true (by omega), decide_eq_true (by omega), Bool.true_and, Bool.true_and]
  · unfold okC fitsM
    rw [hr, decide_eq_true (by omega), decide_eq_true (by omega), decide_eq_true (by omega), Bool.true_and, Bool.true_and, Bool.true_and]
theorem code_le (b n : Int) (d : Dd) : (codeM b n d).length ≤ 31 := by
  unfold codeM
  repeat' split
  all_goals simp
theorem deed_runsS {cells lc l : List Int} {b n : Nat} {d : Dd} {tr : Int} (h : BkHas cells b n l) (hl : lc.length = 8) (hd : mayD (n : Int) d = true) :
    ∃ k cells' lc' wrote, k ≤ 5000 ∧ Ow.To (codeM (b : Int) (n : Int) d) k (owB cells lc tr) (owE cells' ((codeM (b : Int) (n : Int) d).length : Nat) lc' (doS l (n : Int) d).2 wrote tr) ∧ BkHas cells' b n (doS l (n : Int) d).1 ∧ Same cells cells' b n ∧ wrote.length ≤ 8 := deed_runs h hl hd
end Go.Proofs.YtmoekoilcdkhfaaGreatDoor
