/- The deeds' programs, run by the document's own machine, as plain data. No program is named here. The numbers that go into a text; mod. No program is named here. What each deed's program leaves. No program is named here. A deed's program is the deed, as plain data. No program is named here. -/
import Derived.Test.YtahokdgodhhchaaGreatDoorOwB
import Derived.Test.YtahokdgodhhchaaGreatDoorDqM
import Derived.Test.YtahokdgodhhchaaGreatDoorCoM
import Derived.Test.YtahokdgodhhchaaGreatDoorOwC0
import Derived.Test.YtahokdgodhhchaaGreatDoorCoA
import Derived.Test.YtahokdgodhhchaaGreatDoorLyD
namespace Go.Proofs.YtahokdgodhhchaaGreatDoor
open Go.RowKit
set_option linter.unusedVariables false
set_option linter.unusedSimpArgs false

/-- What each step asks, beside that nothing is amiss. -/
def Ow.fit (o : Ow) (x : Ins) : Prop :=
  o.may x ∧ (x.op = 16 → o.cells.length ≤ 1000) ∧ (x.op = 18 → o.wrote.length ≤ 16) ∧ (x.op = 19 → 0 < o.held.length ∧ o.told.length + o.held.length ≤ 100000) ∧ (x.op = 21 → o.inside = true ∧ o.held.length ≤ 100000) ∧
  (x.op = 10 → -1000000 ≤ o.top 1 ∧ o.top 1 ≤ 1000000 ∧ 1 ≤ o.top 0 ∧ o.top 0 ≤ 1000000) ∧ (x.op = 1 ∨ x.op = 3 ∨ x.op = 5 ∨ x.op = 6 ∨ x.op = 7 ∨ x.op = 8 ∨ x.op = 10 ∨ x.op = 11 ∨ x.op = 15 ∨ x.op = 16 ∨ x.op = 17 ∨ x.op = 18 ∨ x.op = 19 ∨ x.op = 21)
/-- From one state to another in so many steps. -/
inductive Ow.To (l : List Ins) : Nat → Ow → Ow → Prop
  | here (o : Ow) : Ow.To l 0 o o
  | step {k : Nat} {o o' : Ow} (p : Nat) (x : Ins) (hp : o.place = p) (hx : l[p]? = some x) (hf : o.fit x) (h : Ow.To l k (o.go x) o') : Ow.To l (k + 1) o o'
/-- A state between begin and commit: its place, stack, locals, what it holds, wrote, its cells. -/
def owS (cells : List Int) (p : Int) (st : List Int) (lc : List Int) (held wrote : List Int) (tr : Int) : Ow := ⟨cells, p, st, lc, [], held, true, false, 0, tr, wrote⟩
def owB (cells : List Int) (lc : List Int) (tr : Int) : Ow := ⟨cells, 0, [7, -7], lc, [], [], false, false, 0, tr, []⟩
def owE (cells : List Int) (p : Int) (lc : List Int) (told wrote : List Int) (tr : Int) : Ow := ⟨cells, p, [7, -7], lc, told, [], false, false, 0, tr, wrote⟩
section
variable {l : List Ins} {k : Nat} {cells st lc held wrote : List Int} {p tr x y : Int} {o' : Ow}
theorem top0 : (owS cells p (st ++ [x]) lc held wrote tr).top 0 = x := by
  simp [Ow.top, owS, List.getD_eq_getElem?_getD]
theorem less1 : (owS cells p (st ++ [x]) lc held wrote tr).less 1 = st := by
  simp [Ow.less, owS]
theorem top1 : (owS cells p (st ++ [y] ++ [x]) lc held wrote tr).top 1 = y := by
  simp [Ow.top, owS, List.getD_eq_getElem?_getD]
theorem less2 : (owS cells p (st ++ [y] ++ [x]) lc held wrote tr).less 2 = st := by
  simp [Ow.less, owS]
theorem to_begin {n : Nat} (hx : l[0]? = some ⟨16, 0⟩) (hc : cells.length ≤ 1000) (h : Ow.To l n (owS cells 1 [7, -7] lc [] [] tr) o') : Ow.To l (n + 1) (owB cells lc tr) o' := by
  refine .step 0 ⟨16, 0⟩ rfl hx ?_ ?_
  · refine ⟨⟨rfl, (by decide : knownB 16 = true), (by decide : (rowOf 16).pops ≤ ((2 : Nat) : Int)), (by decide : ((2 : Nat) : Int) - (rowOf 16).pops + (rowOf 16).pushes ≤ 32), fun _ => rfl, fun h => ?_, fun h => ?_, fun h => ?_, fun h => ?_, fun h => ?_⟩, fun _ => hc, fun h => ?_, fun h => ?_, fun h => ?_, fun h => ?_, by simp⟩
    all_goals simp at h
  · simpa [Ow.go, owB, owS] using h
theorem to_push {n q : Nat} {a : Int} (hx : l[q]? = some ⟨1, a⟩) (hs : st.length ≤ 30) (h : Ow.To l n (owS cells ((q : Int) + 1) (st ++ [a]) lc held wrote tr) o') : Ow.To l (n + 1) (owS cells q st lc held wrote tr) o' := by
  refine .step q ⟨1, a⟩ rfl hx ?_ ?_
  · refine ⟨⟨rfl, (by decide : knownB 1 = true), (show (rowOf 1).pops ≤ (st.length : Int) by rw [show (rowOf 1).pops = 0 by decide]; omega), (show (st.length : Int) - (rowOf 1).pops + (rowOf 1).pushes ≤ 32 by rw [show (rowOf 1).pops = 0 by decide, show (rowOf 1).pushes = 1 by decide]; omega), fun h => ?_, fun h => ?_, fun h => ?_, fun h => ?_, fun h => ?_, fun h => ?_⟩, fun h => ?_, fun h => ?_, fun h => ?_, fun h => ?_, fun h => ?_, by simp⟩
    all_goals simp at h
  · simpa [Ow.go, owS] using h
theorem to_dup {n q : Nat} (hx : l[q]? = some ⟨3, 0⟩) (hs : st.length ≤ 28) (h : Ow.To l n (owS cells ((q : Int) + 1) (st ++ [x] ++ [x]) lc held wrote tr) o') : Ow.To l (n + 1) (owS cells q (st ++ [x]) lc held wrote tr) o' := by
  refine .step q ⟨3, 0⟩ rfl hx ?_ ?_
  · refine ⟨⟨rfl, (by decide : knownB 3 = true), ((show (rowOf 3).pops ≤ ((st ++ [x]).length : Int) by rw [show (rowOf 3).pops = 1 by decide, List.length_append]; simp; omega)), ((show ((st ++ [x]).length : Int) - (rowOf 3).pops + (rowOf 3).pushes ≤ 32 by rw [show (rowOf 3).pops = 1 by decide, show (rowOf 3).pushes = 2 by decide, List.length_append]; simp; omega)), fun h => ?_, fun h => ?_, fun h => ?_, fun h => ?_, fun h => ?_, fun h => ?_⟩, fun h => ?_, fun h => ?_, fun h => ?_, fun h => ?_, fun h => ?_, by simp⟩
    all_goals simp at h
  · have e : (owS cells q (st ++ [x]) lc held wrote tr).go ⟨3, 0⟩ = owS cells ((q : Int) + 1) (st ++ [x] ++ [x]) lc held wrote tr := by
      simp only [Ow.go, top0, Int.reduceEq, if_false, if_true]
      rfl
    rw [e]; exact h
theorem to_get {n q i : Nat} (hx : l[q]? = some ⟨5, (i : Int)⟩) (hi : i < 8) (hs : st.length ≤ 30) (h : Ow.To l n (owS cells ((q : Int) + 1) (st ++ [lc.getD i 0]) lc held wrote tr) o') : Ow.To l (n + 1) (owS cells q st lc held wrote tr) o' := by
  refine .step q ⟨5, (i : Int)⟩ rfl hx ?_ ?_
  · refine ⟨⟨rfl, (by decide : knownB 5 = true), (show (rowOf 5).pops ≤ (st.length : Int) by rw [show (rowOf 5).pops = 0 by decide]; omega), (show (st.length : Int) - (rowOf 5).pops + (rowOf 5).pushes ≤ 32 by rw [show (rowOf 5).pops = 0 by decide, show (rowOf 5).pushes = 1 by decide]; omega), fun h => ?_, fun h => ?_, fun h => ?_, fun _ => ⟨by show (0 : Int) ≤ (i : Int); omega, by show (i : Int) < 8; omega⟩, fun h => ?_, fun h => ?_⟩, fun h => ?_, fun h => ?_, fun h => ?_, fun h => ?_, fun h => ?_, by simp⟩
    all_goals simp at h
  · simpa [Ow.go, owS] using h
theorem to_set {n q i : Nat} (hx : l[q]? = some ⟨6, (i : Int)⟩) (hi : i < 8) (hs : st.length ≤ 28) (h : Ow.To l n (owS cells ((q : Int) + 1) st (lc.set i x) held wrote tr) o') : Ow.To l (n + 1) (owS cells q (st ++ [x]) lc held wrote tr) o' := by
  refine .step q ⟨6, (i : Int)⟩ rfl hx ?_ ?_
  · refine ⟨⟨rfl, (by decide : knownB 6 = true), ((show (rowOf 6).pops ≤ ((st ++ [x]).length : Int) by rw [show (rowOf 6).pops = 1 by decide, List.length_append]; simp; omega)), ((show ((st ++ [x]).length : Int) - (rowOf 6).pops + (rowOf 6).pushes ≤ 32 by rw [show (rowOf 6).pops = 1 by decide, show (rowOf 6).pushes = 0 by decide, List.length_append]; simp; omega)), fun h => ?_, fun h => ?_, fun h => ?_, fun _ => ⟨by show (0 : Int) ≤ (i : Int); omega, by show (i : Int) < 8; omega⟩, fun h => ?_, fun h => ?_⟩, fun h => ?_, fun h => ?_, fun h => ?_, fun h => ?_, fun h => ?_, by simp⟩
    all_goals simp at h
  · have e : (owS cells q (st ++ [x]) lc held wrote tr).go ⟨6, (i : Int)⟩ = owS cells ((q : Int) + 1) st (lc.set i x) held wrote tr := by
      simp only [Ow.go, top0, less1, Int.reduceEq, if_false, if_true, Int.toNat_natCast]
      rfl
    rw [e]; exact h
theorem to_sum7 {n q : Nat} (hx : l[q]? = some ⟨7, 0⟩) (hs : st.length ≤ 26) (h : Ow.To l n (owS cells ((q : Int) + 1) (st ++ [sumO 7 y x]) lc held wrote tr) o') : Ow.To l (n + 1) (owS cells q (st ++ [y] ++ [x]) lc held wrote tr) o' := by
  refine .step q ⟨7, 0⟩ rfl hx ?_ ?_
  · refine ⟨⟨rfl, (by decide : knownB 7 = true), (show (rowOf 7).pops ≤ ((st ++ [y] ++ [x]).length : Int) by rw [show (rowOf 7).pops = 2 by decide, List.length_append, List.length_append]; simp; omega), (show ((st ++ [y] ++ [x]).length : Int) - (rowOf 7).pops + (rowOf 7).pushes ≤ 32 by rw [show (rowOf 7).pops = 2 by decide, show (rowOf 7).pushes = 1 by decide, List.length_append, List.length_append]; simp; omega), fun h => ?_, fun h => ?_, fun h => ?_, fun h => ?_, fun h => ?_, fun h => ?_⟩, fun h => ?_, fun h => ?_, fun h => ?_, fun h => ?_, fun h => ?_, by simp⟩
    all_goals simp at h
  · have e : (owS cells q (st ++ [y] ++ [x]) lc held wrote tr).go ⟨7, 0⟩ = owS cells ((q : Int) + 1) (st ++ [sumO 7 y x]) lc held wrote tr := by
      simp only [Ow.go, top0, top1, less2, Int.reduceEq, if_false, if_true, or_true, true_or, or_false, false_or]
      rfl
    rw [e]; exact h
theorem to_sum8 {n q : Nat} (hx : l[q]? = some ⟨8, 0⟩) (hs : st.length ≤ 26) (h : Ow.To l n (owS cells ((q : Int) + 1) (st ++ [sumO 8 y x]) lc held wrote tr) o') : Ow.To l (n + 1) (owS cells q (st ++ [y] ++ [x]) lc held wrote tr) o' := by
  refine .step q ⟨8, 0⟩ rfl hx ?_ ?_
  · refine ⟨⟨rfl, (by decide : knownB 8 = true), (show (rowOf 8).pops ≤ ((st ++ [y] ++ [x]).length : Int) by rw [show (rowOf 8).pops = 2 by decide, List.length_append, List.length_append]; simp; omega), (show ((st ++ [y] ++ [x]).length : Int) - (rowOf 8).pops + (rowOf 8).pushes ≤ 32 by rw [show (rowOf 8).pops = 2 by decide, show (rowOf 8).pushes = 1 by decide, List.length_append, List.length_append]; simp; omega), fun h => ?_, fun h => ?_, fun h => ?_, fun h => ?_, fun h => ?_, fun h => ?_⟩, fun h => ?_, fun h => ?_, fun h => ?_, fun h => ?_, fun h => ?_, by simp⟩
    all_goals simp at h
  · have e : (owS cells q (st ++ [y] ++ [x]) lc held wrote tr).go ⟨8, 0⟩ = owS cells ((q : Int) + 1) (st ++ [sumO 8 y x]) lc held wrote tr := by
      simp only [Ow.go, top0, top1, less2, Int.reduceEq, if_false, if_true, or_true, true_or, or_false, false_or]
      rfl
    rw [e]; exact h
theorem to_sum10 {n q : Nat} (hx : l[q]? = some ⟨10, 0⟩) (hs : st.length ≤ 26) (hr : -1000000 ≤ y ∧ y ≤ 1000000 ∧ 1 ≤ x ∧ x ≤ 1000000) (h : Ow.To l n (owS cells ((q : Int) + 1) (st ++ [sumO 10 y x]) lc held wrote tr) o') : Ow.To l (n + 1) (owS cells q (st ++ [y] ++ [x]) lc held wrote tr) o' := by
  refine .step q ⟨10, 0⟩ rfl hx ?_ ?_
  · refine ⟨⟨rfl, (by decide : knownB 10 = true), (show (rowOf 10).pops ≤ ((st ++ [y] ++ [x]).length : Int) by rw [show (rowOf 10).pops = 2 by decide, List.length_append, List.length_append]; simp; omega), (show ((st ++ [y] ++ [x]).length : Int) - (rowOf 10).pops + (rowOf 10).pushes ≤ 32 by rw [show (rowOf 10).pops = 2 by decide, show (rowOf 10).pushes = 1 by decide, List.length_append, List.length_append]; simp; omega), fun h => ?_, fun h => ?_, fun h => ?_, fun h => ?_, fun h => ?_, fun h => ?_⟩, fun h => ?_, fun h => ?_, fun h => ?_, fun h => ?_, fun _ => by rw [top1, top0]; exact hr, by simp⟩
    all_goals simp at h
  · have e : (owS cells q (st ++ [y] ++ [x]) lc held wrote tr).go ⟨10, 0⟩ = owS cells ((q : Int) + 1) (st ++ [sumO 10 y x]) lc held wrote tr := by
      simp only [Ow.go, top0, top1, less2, Int.reduceEq, if_false, if_true, or_true, true_or, or_false, false_or]
      rfl
    rw [e]; exact h
theorem to_sum11 {n q : Nat} (hx : l[q]? = some ⟨11, 0⟩) (hs : st.length ≤ 26) (h : Ow.To l n (owS cells ((q : Int) + 1) (st ++ [sumO 11 y x]) lc held wrote tr) o') : Ow.To l (n + 1) (owS cells q (st ++ [y] ++ [x]) lc held wrote tr) o' := by
  refine .step q ⟨11, 0⟩ rfl hx ?_ ?_
  · refine ⟨⟨rfl, (by decide : knownB 11 = true), (show (rowOf 11).pops ≤ ((st ++ [y] ++ [x]).length : Int) by rw [show (rowOf 11).pops = 2 by decide, List.length_append, List.length_append]; simp; omega), (show ((st ++ [y] ++ [x]).length : Int) - (rowOf 11).pops + (rowOf 11).pushes ≤ 32 by rw [show (rowOf 11).pops = 2 by decide, show (rowOf 11).pushes = 1 by decide, List.length_append, List.length_append]; simp; omega), fun h => ?_, fun h => ?_, fun h => ?_, fun h => ?_, fun h => ?_, fun h => ?_⟩, fun h => ?_, fun h => ?_, fun h => ?_, fun h => ?_, fun h => ?_, by simp⟩
    all_goals simp at h
  · have e : (owS cells q (st ++ [y] ++ [x]) lc held wrote tr).go ⟨11, 0⟩ = owS cells ((q : Int) + 1) (st ++ [sumO 11 y x]) lc held wrote tr := by
      simp only [Ow.go, top0, top1, less2, Int.reduceEq, if_false, if_true, or_true, true_or, or_false, false_or]
      rfl
    rw [e]; exact h
theorem to_zero {n q : Nat} {a : Int} (hx : l[q]? = some ⟨15, a⟩) (hs : st.length ≤ 28) (h : Ow.To l n (owS cells (if x = 0 then a else (q : Int) + 1) st lc held wrote tr) o') : Ow.To l (n + 1) (owS cells q (st ++ [x]) lc held wrote tr) o' := by
  refine .step q ⟨15, a⟩ rfl hx ?_ ?_
  · refine ⟨⟨rfl, (by decide : knownB 15 = true), ((show (rowOf 15).pops ≤ ((st ++ [x]).length : Int) by rw [show (rowOf 15).pops = 1 by decide, List.length_append]; simp; omega)), ((show ((st ++ [x]).length : Int) - (rowOf 15).pops + (rowOf 15).pushes ≤ 32 by rw [show (rowOf 15).pops = 1 by decide, show (rowOf 15).pushes = 0 by decide, List.length_append]; simp; omega)), fun h => ?_, fun h => ?_, fun h => ?_, fun h => ?_, fun h => ?_, fun h => ?_⟩, fun h => ?_, fun h => ?_, fun h => ?_, fun h => ?_, fun h => ?_, by simp⟩
    all_goals simp at h
  · have e : (owS cells q (st ++ [x]) lc held wrote tr).go ⟨15, a⟩ = owS cells (if x = 0 then a else (q : Int) + 1) st lc held wrote tr := by
      simp only [Ow.go, top0, less1, Int.reduceEq, if_false, if_true]
      rfl
    rw [e]; exact h
theorem to_tell {n q : Nat} (hx : l[q]? = some ⟨21, 0⟩) (hs : st.length ≤ 28) (hh : held.length ≤ 100) (h : Ow.To l n (owS cells ((q : Int) + 1) st lc (held ++ [x]) wrote tr) o') : Ow.To l (n + 1) (owS cells q (st ++ [x]) lc held wrote tr) o' := by
  refine .step q ⟨21, 0⟩ rfl hx ?_ ?_
  · refine ⟨⟨rfl, (by decide : knownB 21 = true), (show (rowOf 21).pops ≤ ((st ++ [x]).length : Int) by rw [show (rowOf 21).pops = 1 by decide, List.length_append]; simp; omega), (show ((st ++ [x]).length : Int) - (rowOf 21).pops + (rowOf 21).pushes ≤ 32 by rw [show (rowOf 21).pops = 1 by decide, show (rowOf 21).pushes = 0 by decide, List.length_append]; simp; omega), fun h => ?_, fun h => ?_, fun h => ?_, fun h => ?_, fun h => ?_, fun h => ?_⟩, fun h => ?_, fun h => ?_, fun h => ?_, fun _ => ⟨rfl, by show held.length ≤ 100000; omega⟩, fun h => ?_, by simp⟩
    all_goals simp at h
  · have e : (owS cells q (st ++ [x]) lc held wrote tr).go ⟨21, 0⟩ = owS cells ((q : Int) + 1) st lc (held ++ [x]) wrote tr := by
      simp only [Ow.go, top0, less1, Int.reduceEq, if_false, if_true]
      rfl
    rw [e]; exact h
theorem to_load {n q j : Nat} (hx : l[q]? = some ⟨17, 0⟩) (hs : st.length ≤ 28) (hj : x = (j : Int)) (hc : j < cells.length) (h : Ow.To l n (owS cells ((q : Int) + 1) (st ++ [cells.getD j 0]) lc held wrote tr) o') : Ow.To l (n + 1) (owS cells q (st ++ [x]) lc held wrote tr) o' := by
  refine .step q ⟨17, 0⟩ rfl hx ?_ ?_
  · refine ⟨⟨rfl, (by decide : knownB 17 = true), (show (rowOf 17).pops ≤ ((st ++ [x]).length : Int) by rw [show (rowOf 17).pops = 1 by decide, List.length_append]; simp; omega), (show ((st ++ [x]).length : Int) - (rowOf 17).pops + (rowOf 17).pushes ≤ 32 by rw [show (rowOf 17).pops = 1 by decide, show (rowOf 17).pushes = 1 by decide, List.length_append]; simp; omega), fun h => ?_, fun _ => rfl, fun h => ?_, fun h => ?_, fun _ => by rw [top0, hj]; exact ⟨by omega, by show (j : Int) < (cells.length : Int); omega⟩, fun h => ?_⟩, fun h => ?_, fun h => ?_, fun h => ?_, fun h => ?_, fun h => ?_, by simp⟩
    all_goals simp at h
  · have e : (owS cells q (st ++ [x]) lc held wrote tr).go ⟨17, 0⟩ = owS cells ((q : Int) + 1) (st ++ [cells.getD j 0]) lc held wrote tr := by
      simp only [Ow.go, top0, less1, Int.reduceEq, if_false, if_true, hj, Int.toNat_natCast]
      simp [owS]
    rw [e]; exact h
theorem to_store {n q j : Nat} (hx : l[q]? = some ⟨18, 0⟩) (hs : st.length ≤ 26) (hj : y = (j : Int)) (hc : j < cells.length) (hw : wrote.length < 16) (h : Ow.To l n (owS (cells.set j x) ((q : Int) + 1) st lc held (if y ∈ wrote then wrote else wrote ++ [y]) tr) o') : Ow.To l (n + 1) (owS cells q (st ++ [y] ++ [x]) lc held wrote tr) o' := by
  refine .step q ⟨18, 0⟩ rfl hx ?_ ?_
  · refine ⟨⟨rfl, (by decide : knownB 18 = true), (show (rowOf 18).pops ≤ ((st ++ [y] ++ [x]).length : Int) by rw [show (rowOf 18).pops = 2 by decide, List.length_append, List.length_append]; simp; omega), (show ((st ++ [y] ++ [x]).length : Int) - (rowOf 18).pops + (rowOf 18).pushes ≤ 32 by rw [show (rowOf 18).pops = 2 by decide, show (rowOf 18).pushes = 0 by decide, List.length_append, List.length_append]; simp; omega), fun h => ?_, fun _ => rfl, fun h => ?_, fun h => ?_, fun h => ?_, fun _ => by rw [top1, hj]; exact ⟨by omega, by show (j : Int) < (cells.length : Int); omega, .inr hw⟩⟩, fun h => ?_, fun _ => by show wrote.length ≤ 16; omega, fun h => ?_, fun h => ?_, fun h => ?_, by simp⟩
    all_goals simp at h
  · have e : (owS cells q (st ++ [y] ++ [x]) lc held wrote tr).go ⟨18, 0⟩ = owS (cells.set j x) ((q : Int) + 1) st lc held (if y ∈ wrote then wrote else wrote ++ [y]) tr := by
      simp only [Ow.go, top0, top1, less2, Int.reduceEq, if_false, if_true, hj, Int.toNat_natCast]
      simp [owS]
    rw [e]; exact h
theorem to_commit {q : Nat} (hx : l[q]? = some ⟨19, 0⟩) (hh : 0 < held.length) (hh2 : held.length ≤ 100) : Ow.To l 1 (owS cells q [7, -7] lc held wrote tr) (owE cells ((q : Int) + 1) lc held wrote tr) := by
  refine .step q ⟨19, 0⟩ rfl hx ?_ ?_
  · refine ⟨⟨rfl, (by decide : knownB 19 = true), (by decide : (rowOf 19).pops ≤ ((2 : Nat) : Int)), (by decide : ((2 : Nat) : Int) - (rowOf 19).pops + (rowOf 19).pushes ≤ 32), fun h => ?_, fun _ => rfl, fun h => ?_, fun h => ?_, fun h => ?_, fun h => ?_⟩, fun h => ?_, fun h => ?_, fun _ => ⟨hh, by show 0 + held.length ≤ 100000; omega⟩, fun h => ?_, fun h => ?_, by simp⟩
    all_goals simp at h
  · have e : (owS cells q [7, -7] lc held wrote tr).go ⟨19, 0⟩ = owE cells ((q : Int) + 1) lc held wrote tr := by
      simp [Ow.go, owS, owE]
    rw [e]; exact .here _
end
end Go.Proofs.YtahokdgodhhchaaGreatDoor

namespace Go.Proofs.YtahokdgodhhchaaGreatDoor
open Go.RowKit
set_option linter.unusedVariables false
set_option linter.unusedSimpArgs false

theorem sum_add {a b : Int} (h1 : -1000000 ≤ a + b) (h2 : a + b ≤ 1000000) : sumO 7 a b = a + b := by
  unfold sumO wrap64
  simp only [if_true]
  omega
theorem sum_sub {a b : Int} (h1 : -1000000 ≤ a - b) (h2 : a - b ≤ 1000000) : sumO 8 a b = a - b := by
  unfold sumO wrap64
  simp only [if_true, Int.reduceEq, if_false]
  omega
theorem sum_yes {a b : Int} (h : a < b) : sumO 11 a b = 1 := by
  unfold sumO
  simp [h]
theorem sum_no {a b : Int} (h : ¬ a < b) : sumO 11 a b = 0 := by
  unfold sumO
  simp [h]
theorem sum_mod {a b : Int} (hb : 1 ≤ b) (hb2 : b ≤ 1000000) : sumO 10 a b = a % b := by
  have : sumO 10 a b = modO a b := by simp [sumO]
  rw [this, modO_eq hb hb2]
theorem lc_same {lc : List Int} (h : lc.length = 8) (i : Nat) (hi : i < 8) (x : Int) : (lc.set i x).getD i 0 = x := by
  simp [List.getD_eq_getElem?_getD, h, hi]
/-- A deque in cells, from b on: its front, its size. -/
structure DqIn (cells : List Int) (b n f c : Nat) : Prop where
  len : b + 2 + n ≤ cells.length
  top : cells.length ≤ 256
  n0 : 0 < n
  n1 : n ≤ 100
  f1 : f < n
  c1 : c ≤ n
  fr : cells.getD b 0 = (f : Int)
  sz : cells.getD (b + 1) 0 = (c : Int)
theorem run_psh_full {cells lc : List Int} {b n f c : Nat} {x tr : Int} (h : DqIn cells b n f c) (hl : lc.length = 8) (hc : c = n) : Ow.To (pshC (nvD (b : Int) n x)) 11 (owB cells lc tr) (owE cells 26 (lc.set 0 (c : Int)) [0] [] tr) := by
  refine to_begin rfl (by have := h.top; omega) ?_
  refine to_push (q := 1) rfl (by decide) ?_
  refine to_load (q := 2) (j := b + 1) rfl (by decide) (by show (b : Int) + 1 = ((b + 1 : Nat) : Int); omega) (by have := h.len; omega) ?_
  rw [h.sz]
  refine to_dup (q := 3) rfl (by decide) ?_
  refine to_set (q := 4) (i := 0) rfl (by decide) (by simp) ?_
  refine to_push (q := 5) rfl (by simp) ?_
  refine to_sum11 (q := 6) rfl (by simp) ?_
  rw [show sumO 11 (c : Int) (nvD (b : Int) n x 3) = 0 from sum_no (by show ¬ (c : Int) < (n : Int); omega)]
  refine to_dup (q := 7) rfl (by simp) ?_
  refine to_tell (q := 8) rfl (by simp) (by simp) ?_
  refine to_zero (q := 9) rfl (by simp) ?_
  exact to_commit (q := 25) rfl (by decide) (by decide)
theorem run_psh {cells lc : List Int} {b n f c : Nat} {x tr : Int} (h : DqIn cells b n f c) (hl : lc.length = 8) (hc : c < n) : Ow.To (pshC (nvD (b : Int) n x)) 26 (owB cells lc tr) (owE ((cells.set (b + 2 + (f + c) % n) x).set (b + 1) ((c : Int) + 1)) 26 (lc.set 0 (c : Int)) [1] [((b + 2 + (f + c) % n : Nat) : Int), (b : Int) + 1] tr) := by
  refine to_begin rfl (by have := h.top; omega) ?_
  refine to_push (q := 1) rfl (by decide) ?_
  refine to_load (q := 2) (j := b + 1) rfl (by decide) (by show (b : Int) + 1 = ((b + 1 : Nat) : Int); omega) (by have := h.len; omega) ?_
  rw [h.sz]
  refine to_dup (q := 3) rfl (by decide) ?_
  refine to_set (q := 4) (i := 0) rfl (by decide) (by simp) ?_
  refine to_push (q := 5) rfl (by simp) ?_
  refine to_sum11 (q := 6) rfl (by simp) ?_
  rw [show sumO 11 (c : Int) (nvD (b : Int) n x 3) = 1 from sum_yes (by show (c : Int) < (n : Int); omega)]
  refine to_dup (q := 7) rfl (by simp) ?_
  refine to_tell (q := 8) rfl (by simp) (by simp) ?_
  refine to_zero (q := 9) rfl (by simp) ?_
  have hr : (f + c) % n < n := Nat.mod_lt _ h.n0
  have hn1 := h.n1
  have hf1 := h.f1
  have hc1 := h.c1
  have hlen := h.len
  have htop := h.top
  refine to_push (q := 10) rfl (by simp) ?_
  refine to_load (q := 11) (j := b) rfl (by simp) rfl (by omega) ?_
  rw [h.fr]
  refine to_get (q := 12) (i := 0) rfl (by decide) (by simp) ?_
  rw [lc_same hl 0 (by decide)]
  refine to_sum7 (q := 13) rfl (by simp) ?_
  rw [sum_add (by omega) (by omega)]
  refine to_push (q := 14) rfl (by simp) ?_
  refine to_sum10 (q := 15) rfl (by simp) (by show -1000000 ≤ (f : Int) + (c : Int) ∧ (f : Int) + (c : Int) ≤ 1000000 ∧ 1 ≤ (n : Int) ∧ (n : Int) ≤ 1000000; omega) ?_
  rw [show sumO 10 ((f : Int) + (c : Int)) (nvD (b : Int) n x 3) = (((f + c) % n : Nat) : Int) from by rw [show nvD (b : Int) n x 3 = (n : Int) from rfl, sum_mod (by omega) (by omega)]; push_cast; rfl]
  generalize hrr : (f + c) % n = r at *
  refine to_push (q := 16) rfl (by simp) ?_
  refine to_sum7 (q := 17) rfl (by simp) ?_
  rw [show sumO 7 (r : Int) (nvD (b : Int) n x 2) = ((b + 2 + r : Nat) : Int) from by rw [show nvD (b : Int) n x 2 = (b : Int) + 2 from rfl, sum_add (by omega) (by omega)]; omega]
  refine to_push (q := 18) rfl (by simp) ?_
  refine to_store (q := 19) (j := b + 2 + r) rfl (by simp) rfl (by omega) (by decide) ?_
  refine to_push (q := 20) rfl (by simp) ?_
  refine to_get (q := 21) (i := 0) rfl (by decide) (by simp) ?_
  rw [lc_same hl 0 (by decide)]
  refine to_push (q := 22) rfl (by simp) ?_
  refine to_sum7 (q := 23) rfl (by simp) ?_
  rw [sum_add (by omega) (by omega)]
  refine to_store (q := 24) (j := b + 1) rfl (by simp) (by show (b : Int) + 1 = ((b + 1 : Nat) : Int); omega) (by rw [List.length_set]; omega) (by simp) ?_
  have hw : (if nvD (b : Int) n x 1 ∈ (if ((b + 2 + r : Nat) : Int) ∈ ([] : List Int) then ([] : List Int) else [] ++ [((b + 2 + r : Nat) : Int)]) then (if ((b + 2 + r : Nat) : Int) ∈ ([] : List Int) then ([] : List Int) else [] ++ [((b + 2 + r : Nat) : Int)]) else (if ((b + 2 + r : Nat) : Int) ∈ ([] : List Int) then ([] : List Int) else [] ++ [((b + 2 + r : Nat) : Int)]) ++ [nvD (b : Int) n x 1]) = [((b + 2 + r : Nat) : Int), (b : Int) + 1] := by
    rw [show nvD (b : Int) n x 1 = (b : Int) + 1 from rfl]
    have : ¬ (b : Int) + 1 = ((b + 2 + r : Nat) : Int) := by omega
    simp [this]
    omega
  rw [hw]
  exact to_commit (q := 25) rfl (by decide) (by decide)
theorem run_shv_full {cells lc : List Int} {b n f c : Nat} {x tr : Int} (h : DqIn cells b n f c) (hl : lc.length = 8) (hc : c = n) : Ow.To (shvC (nvD (b : Int) n x)) 11 (owB cells lc tr) (owE cells 31 (lc.set 0 (c : Int)) [0] [] tr) := by
  refine to_begin rfl (by have := h.top; omega) ?_
  refine to_push (q := 1) rfl (by decide) ?_
  refine to_load (q := 2) (j := b + 1) rfl (by decide) (by show (b : Int) + 1 = ((b + 1 : Nat) : Int); omega) (by have := h.len; omega) ?_
  rw [h.sz]
  refine to_dup (q := 3) rfl (by decide) ?_
  refine to_set (q := 4) (i := 0) rfl (by decide) (by simp) ?_
  refine to_push (q := 5) rfl (by simp) ?_
  refine to_sum11 (q := 6) rfl (by simp) ?_
  rw [show sumO 11 (c : Int) (nvD (b : Int) n x 3) = 0 from sum_no (by show ¬ (c : Int) < (n : Int); omega)]
  refine to_dup (q := 7) rfl (by simp) ?_
  refine to_tell (q := 8) rfl (by simp) (by simp) ?_
  refine to_zero (q := 9) rfl (by simp) ?_
  exact to_commit (q := 30) rfl (by decide) (by decide)
theorem mod_prev {f n : Nat} (hf : f < n) : ((f : Int) - 1) % (n : Int) = (((f + n - 1) % n : Nat) : Int) := by
  by_cases h0 : f = 0
  · subst h0
    rw [Nat.mod_eq_of_lt (show 0 + n - 1 < n by omega), ← Int.add_emod_right]
    rw [Int.emod_eq_of_lt (by omega) (by omega)]
    omega
  · rw [show f + n - 1 = (f - 1) + n by omega, Nat.add_mod_right, Nat.mod_eq_of_lt (by omega), Int.emod_eq_of_lt (by omega) (by omega)]
    omega
theorem run_shv {cells lc : List Int} {b n f c : Nat} {x tr : Int} (h : DqIn cells b n f c) (hl : lc.length = 8) (hc : c < n) : Ow.To (shvC (nvD (b : Int) n x)) 31 (owB cells lc tr) (owE (((cells.set b (((f + n - 1) % n : Nat) : Int)).set (b + 2 + (f + n - 1) % n) x).set (b + 1) ((c : Int) + 1)) 31 ((lc.set 0 (c : Int)).set 1 (((f + n - 1) % n : Nat) : Int)) [1] [(b : Int), ((b + 2 + (f + n - 1) % n : Nat) : Int), (b : Int) + 1] tr) := by
  refine to_begin rfl (by have := h.top; omega) ?_
  refine to_push (q := 1) rfl (by decide) ?_
  refine to_load (q := 2) (j := b + 1) rfl (by decide) (by show (b : Int) + 1 = ((b + 1 : Nat) : Int); omega) (by have := h.len; omega) ?_
  rw [h.sz]
  refine to_dup (q := 3) rfl (by decide) ?_
  refine to_set (q := 4) (i := 0) rfl (by decide) (by simp) ?_
  refine to_push (q := 5) rfl (by simp) ?_
  refine to_sum11 (q := 6) rfl (by simp) ?_
  rw [show sumO 11 (c : Int) (nvD (b : Int) n x 3) = 1 from sum_yes (by show (c : Int) < (n : Int); omega)]
  refine to_dup (q := 7) rfl (by simp) ?_
  refine to_tell (q := 8) rfl (by simp) (by simp) ?_
  refine to_zero (q := 9) rfl (by simp) ?_
  have hn0 := h.n0
  have hn1 := h.n1
  have hf1 := h.f1
  have hc1 := h.c1
  have hlen := h.len
  have htop := h.top
  have hr : (f + n - 1) % n < n := Nat.mod_lt _ h.n0
  refine to_push (q := 10) rfl (by simp) ?_
  refine to_load (q := 11) (j := b) rfl (by simp) rfl (by omega) ?_
  rw [h.fr]
  refine to_push (q := 12) rfl (by simp) ?_
  refine to_sum8 (q := 13) rfl (by simp) ?_
  rw [sum_sub (by omega) (by omega)]
  refine to_push (q := 14) rfl (by simp) ?_
  refine to_sum10 (q := 15) rfl (by simp) (by show -1000000 ≤ (f : Int) - 1 ∧ (f : Int) - 1 ≤ 1000000 ∧ 1 ≤ (n : Int) ∧ (n : Int) ≤ 1000000; omega) ?_
  rw [show sumO 10 ((f : Int) - 1) (nvD (b : Int) n x 3) = (((f + n - 1) % n : Nat) : Int) from by rw [show nvD (b : Int) n x 3 = (n : Int) from rfl, sum_mod (by omega) (by omega), mod_prev hf1]]
  generalize hrr : (f + n - 1) % n = r at *
  refine to_set (q := 16) (i := 1) rfl (by decide) (by simp) ?_
  refine to_push (q := 17) rfl (by simp) ?_
  refine to_get (q := 18) (i := 1) rfl (by decide) (by simp) ?_
  rw [lc_same (by rw [List.length_set]; exact hl) 1 (by decide)]
  refine to_store (q := 19) (j := b) rfl (by simp) rfl (by omega) (by decide) ?_
  refine to_push (q := 20) rfl (by simp) ?_
  refine to_get (q := 21) (i := 1) rfl (by decide) (by simp) ?_
  rw [lc_same (by rw [List.length_set]; exact hl) 1 (by decide)]
  refine to_sum7 (q := 22) rfl (by simp) ?_
  rw [show sumO 7 (nvD (b : Int) n x 2) (r : Int) = ((b + 2 + r : Nat) : Int) from by rw [show nvD (b : Int) n x 2 = (b : Int) + 2 from rfl, sum_add (by omega) (by omega)]; omega]
  refine to_push (q := 23) rfl (by simp) ?_
  refine to_store (q := 24) (j := b + 2 + r) rfl (by simp) rfl (by rw [List.length_set]; omega) (by simp) ?_
  refine to_push (q := 25) rfl (by simp) ?_
  refine to_get (q := 26) (i := 0) rfl (by decide) (by simp) ?_
  rw [show ((lc.set 0 (c : Int)).set 1 (r : Int)).getD 0 0 = (c : Int) from by simp [List.getD_eq_getElem?_getD, hl]]
  refine to_push (q := 27) rfl (by simp) ?_
  refine to_sum7 (q := 28) rfl (by simp) ?_
  rw [sum_add (by omega) (by omega)]
  have e0 : nvD (b : Int) n x 0 = (b : Int) := rfl
  have e1 : nvD (b : Int) n x 1 = (b : Int) + 1 := rfl
  rw [e0, e1]
  have w1 : (if (b : Int) ∈ ([] : List Int) then ([] : List Int) else [] ++ [(b : Int)]) = [(b : Int)] := by simp
  have w2 : (if ((b + 2 + r : Nat) : Int) ∈ [(b : Int)] then [(b : Int)] else [(b : Int)] ++ [((b + 2 + r : Nat) : Int)]) = [(b : Int), ((b + 2 + r : Nat) : Int)] := by
    rw [if_neg (by simp; omega)]
    rfl
  rw [w1, w2]
  refine to_store (q := 29) (j := b + 1) rfl (by simp) (by omega) (by rw [List.length_set, List.length_set]; omega) (by simp) ?_
  rw [if_neg (by simp; omega)]
  exact to_commit (q := 30) rfl (by decide) (by decide)
theorem run_pop_none {cells lc : List Int} {b n f c : Nat} {x tr : Int} (h : DqIn cells b n f c) (hl : lc.length = 8) (hc : c = 0) : Ow.To (popC (nvD (b : Int) n x)) 11 (owB cells lc tr) (owE cells 28 (lc.set 0 (c : Int)) [0] [] tr) := by
  refine to_begin rfl (by have := h.top; omega) ?_
  refine to_push (q := 1) rfl (by decide) ?_
  refine to_push (q := 2) rfl (by decide) ?_
  refine to_load (q := 3) (j := b + 1) rfl (by simp) (by show (b : Int) + 1 = ((b + 1 : Nat) : Int); omega) (by have := h.len; omega) ?_
  rw [h.sz]
  refine to_dup (q := 4) rfl (by simp) ?_
  refine to_set (q := 5) (i := 0) rfl (by decide) (by simp) ?_
  refine to_sum11 (q := 6) rfl (by simp) ?_
  rw [show sumO 11 (0 : Int) (c : Int) = 0 from sum_no (by omega)]
  refine to_dup (q := 7) rfl (by simp) ?_
  refine to_tell (q := 8) rfl (by simp) (by simp) ?_
  refine to_zero (q := 9) rfl (by simp) ?_
  exact to_commit (q := 27) rfl (by decide) (by decide)
theorem run_pop {cells lc : List Int} {b n f c : Nat} {x tr : Int} (h : DqIn cells b n f c) (hl : lc.length = 8) (hc : 0 < c) : Ow.To (popC (nvD (b : Int) n x)) 28 (owB cells lc tr) (owE (cells.set (b + 1) ((c : Int) - 1)) 28 (lc.set 0 (c : Int)) [1, cells.getD (b + 2 + (f + c - 1) % n) 0] [(b : Int) + 1] tr) := by
  refine to_begin rfl (by have := h.top; omega) ?_
  refine to_push (q := 1) rfl (by decide) ?_
  refine to_push (q := 2) rfl (by decide) ?_
  refine to_load (q := 3) (j := b + 1) rfl (by simp) (by show (b : Int) + 1 = ((b + 1 : Nat) : Int); omega) (by have := h.len; omega) ?_
  rw [h.sz]
  refine to_dup (q := 4) rfl (by simp) ?_
  refine to_set (q := 5) (i := 0) rfl (by decide) (by simp) ?_
  refine to_sum11 (q := 6) rfl (by simp) ?_
  rw [show sumO 11 (0 : Int) (c : Int) = 1 from sum_yes (by omega)]
  refine to_dup (q := 7) rfl (by simp) ?_
  refine to_tell (q := 8) rfl (by simp) (by simp) ?_
  refine to_zero (q := 9) rfl (by simp) ?_
  have hn0 := h.n0
  have hn1 := h.n1
  have hf1 := h.f1
  have hc1 := h.c1
  have hlen := h.len
  have htop := h.top
  have hr : (f + c - 1) % n < n := Nat.mod_lt _ h.n0
  refine to_push (q := 10) rfl (by simp) ?_
  refine to_load (q := 11) (j := b) rfl (by simp) rfl (by omega) ?_
  rw [h.fr]
  refine to_get (q := 12) (i := 0) rfl (by decide) (by simp) ?_
  rw [lc_same hl 0 (by decide)]
  refine to_sum7 (q := 13) rfl (by simp) ?_
  rw [sum_add (by omega) (by omega)]
  refine to_push (q := 14) rfl (by simp) ?_
  refine to_sum8 (q := 15) rfl (by simp) ?_
  rw [sum_sub (by omega) (by omega)]
  refine to_push (q := 16) rfl (by simp) ?_
  refine to_sum10 (q := 17) rfl (by simp) (by show -1000000 ≤ (f : Int) + (c : Int) - 1 ∧ (f : Int) + (c : Int) - 1 ≤ 1000000 ∧ 1 ≤ (n : Int) ∧ (n : Int) ≤ 1000000; omega) ?_
  rw [show sumO 10 ((f : Int) + (c : Int) - 1) (nvD (b : Int) n x 3) = (((f + c - 1) % n : Nat) : Int) from by rw [show nvD (b : Int) n x 3 = (n : Int) from rfl, sum_mod (by omega) (by omega), show (f : Int) + (c : Int) - 1 = ((f + c - 1 : Nat) : Int) by omega]; push_cast; rfl]
  generalize hrr : (f + c - 1) % n = r at *
  refine to_push (q := 18) rfl (by simp) ?_
  refine to_sum7 (q := 19) rfl (by simp) ?_
  rw [show sumO 7 (r : Int) (nvD (b : Int) n x 2) = ((b + 2 + r : Nat) : Int) from by rw [show nvD (b : Int) n x 2 = (b : Int) + 2 from rfl, sum_add (by omega) (by omega)]; omega]
  refine to_load (q := 20) (j := b + 2 + r) rfl (by simp) rfl (by omega) ?_
  refine to_tell (q := 21) rfl (by simp) (by simp) ?_
  refine to_push (q := 22) rfl (by simp) ?_
  refine to_get (q := 23) (i := 0) rfl (by decide) (by simp) ?_
  rw [lc_same hl 0 (by decide)]
  refine to_push (q := 24) rfl (by simp) ?_
  refine to_sum8 (q := 25) rfl (by simp) ?_
  rw [sum_sub (by omega) (by omega)]
  have e1 : nvD (b : Int) n x 1 = (b : Int) + 1 := rfl
  rw [e1]
  refine to_store (q := 26) (j := b + 1) rfl (by simp) (by omega) (by omega) (by simp) ?_
  rw [if_neg (by simp)]
  exact to_commit (q := 27) rfl (by simp) (by simp)
theorem run_sft_none {cells lc : List Int} {b n f c : Nat} {x tr : Int} (h : DqIn cells b n f c) (hl : lc.length = 8) (hc : c = 0) : Ow.To (sftC (nvD (b : Int) n x)) 11 (owB cells lc tr) (owE cells 31 (lc.set 0 (c : Int)) [0] [] tr) := by
  refine to_begin rfl (by have := h.top; omega) ?_
  refine to_push (q := 1) rfl (by decide) ?_
  refine to_push (q := 2) rfl (by decide) ?_
  refine to_load (q := 3) (j := b + 1) rfl (by simp) (by show (b : Int) + 1 = ((b + 1 : Nat) : Int); omega) (by have := h.len; omega) ?_
  rw [h.sz]
  refine to_dup (q := 4) rfl (by simp) ?_
  refine to_set (q := 5) (i := 0) rfl (by decide) (by simp) ?_
  refine to_sum11 (q := 6) rfl (by simp) ?_
  rw [show sumO 11 (0 : Int) (c : Int) = 0 from sum_no (by omega)]
  refine to_dup (q := 7) rfl (by simp) ?_
  refine to_tell (q := 8) rfl (by simp) (by simp) ?_
  refine to_zero (q := 9) rfl (by simp) ?_
  exact to_commit (q := 30) rfl (by decide) (by decide)
theorem run_sft {cells lc : List Int} {b n f c : Nat} {x tr : Int} (h : DqIn cells b n f c) (hl : lc.length = 8) (hc : 0 < c) : Ow.To (sftC (nvD (b : Int) n x)) 31 (owB cells lc tr) (owE ((cells.set b (((f + 1) % n : Nat) : Int)).set (b + 1) ((c : Int) - 1)) 31 ((lc.set 0 (c : Int)).set 1 (f : Int)) [1, cells.getD (b + 2 + f) 0] [(b : Int), (b : Int) + 1] tr) := by
  refine to_begin rfl (by have := h.top; omega) ?_
  refine to_push (q := 1) rfl (by decide) ?_
  refine to_push (q := 2) rfl (by decide) ?_
  refine to_load (q := 3) (j := b + 1) rfl (by simp) (by show (b : Int) + 1 = ((b + 1 : Nat) : Int); omega) (by have := h.len; omega) ?_
  rw [h.sz]
  refine to_dup (q := 4) rfl (by simp) ?_
  refine to_set (q := 5) (i := 0) rfl (by decide) (by simp) ?_
  refine to_sum11 (q := 6) rfl (by simp) ?_
  rw [show sumO 11 (0 : Int) (c : Int) = 1 from sum_yes (by omega)]
  refine to_dup (q := 7) rfl (by simp) ?_
  refine to_tell (q := 8) rfl (by simp) (by simp) ?_
  refine to_zero (q := 9) rfl (by simp) ?_
  have hn0 := h.n0
  have hn1 := h.n1
  have hf1 := h.f1
  have hc1 := h.c1
  have hlen := h.len
  have htop := h.top
  refine to_push (q := 10) rfl (by simp) ?_
  refine to_load (q := 11) (j := b) rfl (by simp) rfl (by omega) ?_
  rw [h.fr]
  refine to_set (q := 12) (i := 1) rfl (by decide) (by simp) ?_
  refine to_push (q := 13) rfl (by simp) ?_
  refine to_get (q := 14) (i := 1) rfl (by decide) (by simp) ?_
  rw [lc_same (by rw [List.length_set]; exact hl) 1 (by decide)]
  refine to_push (q := 15) rfl (by simp) ?_
  refine to_sum7 (q := 16) rfl (by simp) ?_
  rw [sum_add (by omega) (by omega)]
  refine to_push (q := 17) rfl (by simp) ?_
  refine to_sum10 (q := 18) rfl (by simp) (by show -1000000 ≤ (f : Int) + 1 ∧ (f : Int) + 1 ≤ 1000000 ∧ 1 ≤ (n : Int) ∧ (n : Int) ≤ 1000000; omega) ?_
  rw [show sumO 10 ((f : Int) + 1) (nvD (b : Int) n x 3) = (((f + 1) % n : Nat) : Int) from by rw [show nvD (b : Int) n x 3 = (n : Int) from rfl, sum_mod (by omega) (by omega)]; push_cast; rfl]
  have e0 : nvD (b : Int) n x 0 = (b : Int) := rfl
  have e1 : nvD (b : Int) n x 1 = (b : Int) + 1 := rfl
  rw [e0]
  refine to_store (q := 19) (j := b) rfl (by simp) rfl (by omega) (by decide) ?_
  rw [if_neg (by simp), List.nil_append]
  refine to_push (q := 20) rfl (by simp) ?_
  refine to_get (q := 21) (i := 1) rfl (by decide) (by simp) ?_
  rw [lc_same (by rw [List.length_set]; exact hl) 1 (by decide)]
  refine to_sum7 (q := 22) rfl (by simp) ?_
  rw [show sumO 7 (nvD (b : Int) n x 2) (f : Int) = ((b + 2 + f : Nat) : Int) from by rw [show nvD (b : Int) n x 2 = (b : Int) + 2 from rfl, sum_add (by omega) (by omega)]; omega]
  refine to_load (q := 23) (j := b + 2 + f) rfl (by simp) rfl (by rw [List.length_set]; omega) ?_
  rw [show (cells.set b (((f + 1) % n : Nat) : Int)).getD (b + 2 + f) 0 = cells.getD (b + 2 + f) 0 from by simp only [List.getD_eq_getElem?_getD]; rw [List.getElem?_set_ne (by omega)]]
  refine to_tell (q := 24) rfl (by simp) (by simp) ?_
  refine to_push (q := 25) rfl (by simp) ?_
  refine to_get (q := 26) (i := 0) rfl (by decide) (by simp) ?_
  rw [show ((lc.set 0 (c : Int)).set 1 (f : Int)).getD 0 0 = (c : Int) from by simp [List.getD_eq_getElem?_getD, hl]]
  refine to_push (q := 27) rfl (by simp) ?_
  refine to_sum8 (q := 28) rfl (by simp) ?_
  rw [sum_sub (by omega) (by omega), e1]
  refine to_store (q := 29) (j := b + 1) rfl (by simp) (by omega) (by rw [List.length_set]; omega) (by simp) ?_
  rw [if_neg (by simp; omega)]
  exact to_commit (q := 30) rfl (by simp) (by simp)
theorem run_siz {cells lc : List Int} {b n f c : Nat} {x tr : Int} (h : DqIn cells b n f c) (hl : lc.length = 8) : Ow.To (sizC (nvD (b : Int) n x)) 5 (owB cells lc tr) (owE cells 5 lc [(c : Int)] [] tr) := by
  refine to_begin rfl (by have := h.top; omega) ?_
  refine to_push (q := 1) rfl (by decide) ?_
  refine to_load (q := 2) (j := b + 1) rfl (by decide) (by show (b : Int) + 1 = ((b + 1 : Nat) : Int); omega) (by have := h.len; omega) ?_
  rw [h.sz]
  refine to_tell (q := 3) rfl (by decide) (by simp) ?_
  exact to_commit (q := 4) rfl (by simp) (by simp)
end Go.Proofs.YtahokdgodhhchaaGreatDoor

namespace Go.Proofs.YtahokdgodhhchaaGreatDoor
open Go.RowKit
set_option linter.unusedVariables false
set_option linter.unusedSimpArgs false

def valsC (cells : List Int) (b n f c : Nat) : List Int := (List.range c).map fun i => cells.getD (b + 2 + (f + i) % n) 0
theorem valsC_length (cells : List Int) (b n f c : Nat) : (valsC cells b n f c).length = c := by simp [valsC]
theorem valsC_at {cells : List Int} {b n f c i : Nat} (hi : i < c) : (valsC cells b n f c)[i]? = some (cells.getD (b + 2 + (f + i) % n) 0) := by
  simp [valsC, List.getElem?_range hi]
theorem valsC_ext {c1 c2 : List Int} {b n f1 f2 c : Nat} (h : ∀ i, i < c → c1.getD (b + 2 + (f1 + i) % n) 0 = c2.getD (b + 2 + (f2 + i) % n) 0) : valsC c1 b n f1 c = valsC c2 b n f2 c := by
  unfold valsC
  apply List.map_congr_left
  intro i hi
  exact h i (List.mem_range.1 hi)
/-- A deque that has l, from b on. -/
def DqHas (cells : List Int) (b n : Nat) (l : List Int) : Prop := ∃ f c, DqIn cells b n f c ∧ l = valsC cells b n f c
theorem getD_part {cells : List Int} {b k j : Nat} (hj : j < k) : ((cells.drop b).take k).getD j 0 = cells.getD (b + j) 0 := by
  simp only [List.getD_eq_getElem?_getD]
  rw [List.getElem?_take_of_lt hj, List.getElem?_drop]
theorem DqHas.read {cells : List Int} {b n : Nat} {l : List Int} (h : DqHas cells b n l) : readM ((cells.drop b).take (2 + n)) n = some l := by
  obtain ⟨f, c, h, rfl⟩ := h
  have hn0 := h.n0
  have hf1 := h.f1
  have hc1 := h.c1
  unfold readM ringB
  rw [getD_part (by omega), getD_part (by omega), Nat.add_zero, h.fr, h.sz, if_pos (by simp only [Bool.and_eq_true, decide_eq_true_eq]; omega)]
  simp only [Int.toNat_natCast, valsM, valsC]
  congr 1
  apply List.map_congr_left
  intro i _
  have := Nat.mod_lt (f + i) hn0
  rw [getD_part (by omega), Nat.add_assoc]
theorem DqHas.of {cells : List Int} {b n : Nat} {l : List Int} (hn0 : 0 < n) (hn1 : n ≤ 100) (hlen : b + 2 + n ≤ cells.length) (htop : cells.length ≤ 256) (h : readM ((cells.drop b).take (2 + n)) n = some l) : DqHas cells b n l := by
  unfold readM at h
  split at h
  · rename_i hr
    obtain ⟨f, c, hf, hc, e0, e1⟩ := ring_parts hr
    rw [e0, e1] at h
    rw [getD_part (by omega), Nat.add_zero] at e0
    rw [getD_part (by omega)] at e1
    simp only [Int.toNat_natCast, Option.some.injEq] at h
    refine ⟨f, c, ⟨hlen, htop, hn0, hn1, hf, hc, e0, e1⟩, ?_⟩
    rw [← h]
    unfold valsM valsC
    apply List.map_congr_left
    intro i _
    have := Nat.mod_lt (f + i) hn0
    rw [getD_part (by omega), Nat.add_assoc]
  · cases h
theorem DqHas.fits {cells : List Int} {b n : Nat} {l : List Int} (h : DqHas cells b n l) : fitsS (b : Int) (n : Int) cells.length = true := by
  obtain ⟨f, c, h, _⟩ := h
  have := h.n0
  have := h.n1
  have := h.len
  have hr : roomS (n : Int) = 2 + (n : Int) := by unfold roomS; rw [if_pos (by omega)]
  unfold fitsS
  rw [hr]
  simp only [Bool.and_eq_true, decide_eq_true_eq]
  omega
theorem DqHas.length {cells : List Int} {b n : Nat} {l : List Int} (h : DqHas cells b n l) : l.length ≤ n := by
  obtain ⟨f, c, h, rfl⟩ := h
  rw [valsC_length]
  exact h.c1
/-- All other cells are as they were. -/
def Same (cells cells' : List Int) (b n : Nat) : Prop := cells'.length = cells.length ∧ ∀ i, i < b ∨ b + 2 + n ≤ i → cells'.getD i 0 = cells.getD i 0
theorem Same.refl (cells : List Int) (b n : Nat) : Same cells cells b n := ⟨rfl, fun _ _ => rfl⟩
theorem Same.put {cells cells' : List Int} {b n j : Nat} (h : Same cells cells' b n) (h1 : b ≤ j) (h2 : j < b + 2 + n) (x : Int) : Same cells (cells'.set j x) b n :=
  ⟨by rw [List.length_set]; exact h.1, fun i hi => by rw [getD_set_other _ (by omega)]; exact h.2 i hi⟩
theorem mod_succ_prev {f i n : Nat} (hf : f < n) : ((f + n - 1) % n + (i + 1)) % n = (f + i) % n := by
  rw [Nat.mod_add_mod, show f + n - 1 + (i + 1) = f + i + n by omega, Nat.add_mod_right]
theorem mod_succ_next {f i n : Nat} : ((f + 1) % n + i) % n = (f + (i + 1)) % n := by
  rw [Nat.mod_add_mod, show f + 1 + i = f + (i + 1) by omega]
/-- The program of a deed that may be does the deed. -/
theorem deed_runs {cells lc l : List Int} {b n : Nat} {d : Dd} {tr : Int} (h : DqHas cells b n l) (hl : lc.length = 8) (hd : mayS d = true) :
    ∃ k cells' lc' wrote, k ≤ 40 ∧ Ow.To (codeS (nvD (b : Int) n d.x) d.op) k (owB cells lc tr) (owE cells' ((codeS (nvD (b : Int) n d.x) d.op).length : Nat) lc' (doS l n d).2 wrote tr) ∧ DqHas cells' b n (doS l n d).1 ∧ Same cells cells' b n ∧ wrote.length ≤ 8 := by
  have ho := may_op hd
  have hll := h.length
  have H := h
  obtain ⟨f, c, hin, rfl⟩ := h
  rw [valsC_length] at hll
  have hn0 := hin.n0
  have hn1 := hin.n1
  have hf1 := hin.f1
  have hc1 := hin.c1
  have hlen := hin.len
  have htop := hin.top
  obtain ⟨op, a, b', x, y⟩ := d
  simp only at ho
  unfold doS
  rcases ho with rfl | rfl | rfl | rfl | rfl
  · simp only [if_true, valsC_length, codeS]
    by_cases hc : c = n
    · simp only [hc, if_true]
      rw [hc] at H hin
      exact ⟨11, cells, _, [], by omega, run_psh_full hin hl rfl, ⟨f, n, hin, rfl⟩, Same.refl _ _ _, by simp⟩
    · rw [if_neg (by omega)]
      have hr : (f + c) % n < n := Nat.mod_lt _ hn0
      refine ⟨26, _, _, _, by omega, run_psh hin hl (by omega), ?_, ?_, by simp⟩
      · refine ⟨f, c + 1, ⟨by simp; omega, by simp; omega, hn0, hn1, hf1, by omega, ?_, ?_⟩, ?_⟩
        · rw [getD_set_other _ (by omega), getD_set_other _ (by omega)]; exact hin.fr
        · rw [getD_set_same _ (by simp; omega)]; omega
        · show valsC cells b n f c ++ [x] = valsC _ b n f (c + 1)
          unfold valsC
          rw [List.range_succ, List.map_append]
          congr 1
          · apply List.map_congr_left
            intro i hi
            have hi := List.mem_range.1 hi
            have hne : (f + c) % n ≠ (f + i) % n := fun e => by
              have := place_inj (n := n) (f := f) (i := c) (j := i) (by omega) (by omega) e
              omega
            have := Nat.mod_lt (f + i) hn0
            rw [getD_set_other _ (by omega), getD_set_other _ (by omega)]
          · simp only [List.map_cons, List.map_nil]
            rw [getD_set_other _ (by omega), getD_set_same _ (by omega)]
      · exact ((Same.refl _ _ _).put (by omega) (by omega) _).put (by omega) (by omega) _
  · simp only [if_true, Int.reduceEq, if_false, valsC_length, codeS]
    by_cases hc : c = n
    · simp only [hc, if_true]
      rw [hc] at H hin
      exact ⟨11, cells, _, [], by omega, run_shv_full hin hl rfl, ⟨f, n, hin, rfl⟩, Same.refl _ _ _, by simp⟩
    · rw [if_neg (by omega)]
      have hr : (f + n - 1) % n < n := Nat.mod_lt _ hn0
      refine ⟨31, _, _, _, by omega, run_shv hin hl (by omega), ?_, ?_, by simp⟩
      · refine ⟨(f + n - 1) % n, c + 1, ⟨by simp; omega, by simp; omega, hn0, hn1, hr, by omega, ?_, ?_⟩, ?_⟩
        · rw [getD_set_other _ (by omega), getD_set_other _ (by omega), getD_set_same _ (by omega)]
        · rw [getD_set_same _ (by simp; omega)]; omega
        · show x :: valsC cells b n f c = valsC _ b n _ (c + 1)
          unfold valsC
          rw [List.range_succ_eq_map, List.map_cons, List.map_map]
          congr 1
          · rw [show (f + n - 1) % n + 0 = (f + n - 1) % n from rfl, Nat.mod_mod, getD_set_other _ (by omega), getD_set_same _ (by rw [List.length_set]; omega)]
          · apply List.map_congr_left
            intro i hi
            have hi := List.mem_range.1 hi
            simp only [Function.comp, Nat.succ_eq_add_one]
            rw [mod_succ_prev hf1]
            have := Nat.mod_lt (f + i) hn0
            have hne : (f + n - 1) % n ≠ (f + i) % n := fun e => by
              have e2 : (f + (n - 1)) % n = (f + i) % n := by rw [← e]; congr 1; omega
              have := place_inj (n := n) (f := f) (i := n - 1) (j := i) (by omega) (by omega) e2
              omega
            rw [getD_set_other _ (by omega), getD_set_other _ (by omega), getD_set_other _ (by omega)]
      · exact (((Same.refl _ _ _).put (by omega) (by omega) _).put (by omega) (by omega) _).put (by omega) (by omega) _
  · simp only [if_true, Int.reduceEq, if_false, valsC_length, codeS]
    by_cases hc : c = 0
    · have he : valsC cells b n f c = [] := by rw [hc]; rfl
      rw [if_pos he]
      refine ⟨11, cells, _, [], by omega, run_pop_none hin hl hc, ⟨f, c, hin, he.symm⟩, Same.refl _ _ _, by simp⟩
    · have he : ¬ valsC cells b n f c = [] := fun e => by
        have := valsC_length cells b n f c
        rw [e] at this
        simp at this
        omega
      rw [if_neg he]
      have hr : (f + c - 1) % n < n := Nat.mod_lt _ hn0
      have hg : (valsC cells b n f c).getD (c - 1) 0 = cells.getD (b + 2 + (f + c - 1) % n) 0 := by
        rw [List.getD_eq_getElem?_getD, valsC_at (by omega), show f + (c - 1) = f + c - 1 by omega]
        rfl
      rw [hg]
      refine ⟨28, _, _, _, by omega, run_pop hin hl (by omega), ?_, (Same.refl _ _ _).put (by omega) (by omega) _, by simp⟩
      refine ⟨f, c - 1, ⟨by simp; omega, by simp; omega, hn0, hn1, hf1, by omega, ?_, ?_⟩, ?_⟩
      · rw [getD_set_other _ (by omega)]; exact hin.fr
      · rw [getD_set_same _ (by omega)]; omega
      · unfold valsC
        rw [← List.map_take, List.take_range, Nat.min_eq_left (by omega)]
        apply List.map_congr_left
        intro i hi
        rw [getD_set_other _ (by omega)]
  · simp only [if_true, Int.reduceEq, if_false, valsC_length, codeS]
    by_cases hc : c = 0
    · have he : valsC cells b n f c = [] := by rw [hc]; rfl
      rw [if_pos he]
      refine ⟨11, cells, _, [], by omega, run_sft_none hin hl hc, ⟨f, c, hin, he.symm⟩, Same.refl _ _ _, by simp⟩
    · have he : ¬ valsC cells b n f c = [] := fun e => by
        have := valsC_length cells b n f c
        rw [e] at this
        simp at this
        omega
      rw [if_neg he]
      have hr : (f + 1) % n < n := Nat.mod_lt _ hn0
      have hg : (valsC cells b n f c).getD 0 0 = cells.getD (b + 2 + f) 0 := by
        rw [List.getD_eq_getElem?_getD, valsC_at (by omega), show f + 0 = f from rfl, Nat.mod_eq_of_lt hf1]
        rfl
      rw [hg]
      refine ⟨31, _, _, _, by omega, run_sft hin hl (by omega), ?_, ((Same.refl _ _ _).put (by omega) (by omega) _).put (by omega) (by omega) _, by simp⟩
      refine ⟨(f + 1) % n, c - 1, ⟨by simp; omega, by simp; omega, hn0, hn1, hr, by omega, ?_, ?_⟩, ?_⟩
      · rw [getD_set_other _ (by omega), getD_set_same _ (by omega)]
      · rw [getD_set_same _ (by simp; omega)]; omega
      · apply List.ext_getElem?
        intro i
        rw [List.getElem?_drop]
        by_cases hi : i < c - 1
        · rw [valsC_at (by omega), valsC_at hi, mod_succ_next, show f + (1 + i) = f + (i + 1) by omega, getD_set_other _ (by omega), getD_set_other _ (by omega)]
        · rw [List.getElem?_eq_none (by rw [valsC_length]; omega), List.getElem?_eq_none (by rw [valsC_length]; omega)]
  · simp only [if_true, Int.reduceEq, if_false, valsC_length, codeS]
    exact ⟨5, cells, _, [], by omega, run_siz hin hl, ⟨f, c, hin, rfl⟩, Same.refl _ _ _, by simp⟩
end Go.Proofs.YtahokdgodhhchaaGreatDoor
