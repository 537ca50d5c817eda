/- Programs, run by the document's own machine, as plain data. No program is named here. -/
import Derived.Test.YtdfefjalamohjaaGreatDoorOwB
namespace Go.Proofs.YtdfefjalamohjaaGreatDoor
open Go.RowKit
set_option linter.unusedVariables false
set_option linter.unusedSimpArgs false

/-- What each step asks, beside that nothing is amiss. -/
def Ow.fit (o : Ow) (x : Ins) : Prop :=
  o.may x ∧ (x.op = 16 → o.cells.length ≤ 1000) ∧ (x.op = 18 → o.wrote.length ≤ 16) ∧ (x.op = 19 → 0 < o.held.length ∧ o.told.length + o.held.length ≤ 100000) ∧ (x.op = 21 → o.inside = true ∧ o.held.length ≤ 100000) ∧
  (x.op = 10 → -1000000 ≤ o.top 1 ∧ o.top 1 ≤ 1000000 ∧ 1 ≤ o.top 0 ∧ o.top 0 ≤ 1000000) ∧ (x.op = 1 ∨ x.op = 3 ∨ x.op = 5 ∨ x.op = 6 ∨ x.op = 7 ∨ x.op = 8 ∨ x.op = 9 ∨ x.op = 10 ∨ x.op = 11 ∨ x.op = 12 ∨ x.op = 13 ∨ x.op = 14 ∨ x.op = 15 ∨ x.op = 16 ∨ x.op = 17 ∨ x.op = 18 ∨ x.op = 19 ∨ x.op = 21)
/-- From one state to another in so many steps. -/
inductive Ow.To (l : List Ins) : Nat → Ow → Ow → Prop
  | here (o : Ow) : Ow.To l 0 o o
  | step {k : Nat} {o o' : Ow} (p : Nat) (x : Ins) (hp : o.place = p) (hx : l[p]? = some x) (hf : o.fit x) (h : Ow.To l k (o.go x) o') : Ow.To l (k + 1) o o'
/-- A state between begin and commit: its place, stack, locals, what it holds, wrote, its cells. -/
def owS (cells : List Int) (p : Int) (st : List Int) (lc : List Int) (held wrote : List Int) (tr : Int) : Ow := ⟨cells, p, st, lc, [], held, true, false, 0, tr, wrote⟩
def owB (cells : List Int) (lc : List Int) (tr : Int) : Ow := ⟨cells, 0, [7, -7], lc, [], [], false, false, 0, tr, []⟩
def owE (cells : List Int) (p : Int) (lc : List Int) (told wrote : List Int) (tr : Int) : Ow := ⟨cells, p, [7, -7], lc, told, [], false, false, 0, tr, wrote⟩
section
variable {l : List Ins} {k : Nat} {cells st lc held wrote : List Int} {p tr x y : Int} {o' : Ow}
theorem top0 : (owS cells p (st ++ [x]) lc held wrote tr).top 0 = x := by
  simp [Ow.top, owS, List.getD_eq_getElem?_getD]
theorem less1 : (owS cells p (st ++ [x]) lc held wrote tr).less 1 = st := by
  simp [Ow.less, owS]
theorem top1 : (owS cells p (st ++ [y] ++ [x]) lc held wrote tr).top 1 = y := by
  simp [Ow.top, owS, List.getD_eq_getElem?_getD]
theorem less2 : (owS cells p (st ++ [y] ++ [x]) lc held wrote tr).less 2 = st := by
  simp [Ow.less, owS]
theorem to_begin {n : Nat} (hx : l[0]? = some ⟨16, 0⟩) (hc : cells.length ≤ 1000) (h : Ow.To l n (owS cells 1 [7, -7] lc [] [] tr) o') : Ow.To l (n + 1) (owB cells lc tr) o' := by
  refine .step 0 ⟨16, 0⟩ rfl hx ?_ ?_
  · refine ⟨⟨rfl, (by decide : knownB 16 = true), (by decide : (rowOf 16).pops ≤ ((2 : Nat) : Int)), (by decide : ((2 : Nat) : Int) - (rowOf 16).pops + (rowOf 16).pushes ≤ 32), fun _ => rfl, fun h => ?_, fun h => ?_, fun h => ?_, fun h => ?_, fun h => ?_⟩, fun _ => hc, fun h => ?_, fun h => ?_, fun h => ?_, fun h => ?_, by simp⟩
    all_goals simp at h
  · simpa [Ow.go, owB, owS] using h
theorem to_push {n q : Nat} {a : Int} (hx : l[q]? = some ⟨1, a⟩) (hs : st.length ≤ 30) (h : Ow.To l n (owS cells ((q : Int) + 1) (st ++ [a]) lc held wrote tr) o') : Ow.To l (n + 1) (owS cells q st lc held wrote tr) o' := by
  refine .step q ⟨1, a⟩ rfl hx ?_ ?_
  · refine ⟨⟨rfl, (by decide : knownB 1 = true), (show (rowOf 1).pops ≤ (st.length : Int) by rw [show (rowOf 1).pops = 0 by decide]; omega), (show (st.length : Int) - (rowOf 1).pops + (rowOf 1).pushes ≤ 32 by rw [show (rowOf 1).pops = 0 by decide, show (rowOf 1).pushes = 1 by decide]; omega), fun h => ?_, fun h => ?_, fun h => ?_, fun h => ?_, fun h => ?_, fun h => ?_⟩, fun h => ?_, fun h => ?_, fun h => ?_, fun h => ?_, fun h => ?_, by simp⟩
    all_goals simp at h
  · simpa [Ow.go, owS] using h
theorem to_dup {n q : Nat} (hx : l[q]? = some ⟨3, 0⟩) (hs : st.length ≤ 28) (h : Ow.To l n (owS cells ((q : Int) + 1) (st ++ [x] ++ [x]) lc held wrote tr) o') : Ow.To l (n + 1) (owS cells q (st ++ [x]) lc held wrote tr) o' := by
  refine .step q ⟨3, 0⟩ rfl hx ?_ ?_
  · refine ⟨⟨rfl, (by decide : knownB 3 = true), ((show (rowOf 3).pops ≤ ((st ++ [x]).length : Int) by rw [show (rowOf 3).pops = 1 by decide, List.length_append]; simp; omega)), ((show ((st ++ [x]).length : Int) - (rowOf 3).pops + (rowOf 3).pushes ≤ 32 by rw [show (rowOf 3).pops = 1 by decide, show (rowOf 3).pushes = 2 by decide, List.length_append]; simp; omega)), fun h => ?_, fun h => ?_, fun h => ?_, fun h => ?_, fun h => ?_, fun h => ?_⟩, fun h => ?_, fun h => ?_, fun h => ?_, fun h => ?_, fun h => ?_, by simp⟩
    all_goals simp at h
  · have e : (owS cells q (st ++ [x]) lc held wrote tr).go ⟨3, 0⟩ = owS cells ((q : Int) + 1) (st ++ [x] ++ [x]) lc held wrote tr := by
      simp only [Ow.go, top0, Int.reduceEq, if_false, if_true]
      rfl
    rw [e]; exact h
theorem to_get {n q i : Nat} (hx : l[q]? = some ⟨5, (i : Int)⟩) (hi : i < 8) (hs : st.length ≤ 30) (h : Ow.To l n (owS cells ((q : Int) + 1) (st ++ [lc.getD i 0]) lc held wrote tr) o') : Ow.To l (n + 1) (owS cells q st lc held wrote tr) o' := by
  refine .step q ⟨5, (i : Int)⟩ rfl hx ?_ ?_
  · refine ⟨⟨rfl, (by decide : knownB 5 = true), (show (rowOf 5).pops ≤ (st.length : Int) by rw [show (rowOf 5).pops = 0 by decide]; omega), (show (st.length : Int) - (rowOf 5).pops + (rowOf 5).pushes ≤ 32 by rw [show (rowOf 5).pops = 0 by decide, show (rowOf 5).pushes = 1 by decide]; omega), fun h => ?_, fun h => ?_, fun h => ?_, fun _ => ⟨by show (0 : Int) ≤ (i : Int); omega, by show (i : Int) < 8; omega⟩, fun h => ?_, fun h => ?_⟩, fun h => ?_, fun h => ?_, fun h => ?_, fun h => ?_, fun h => ?_, by simp⟩
    all_goals simp at h
  · simpa [Ow.go, owS] using h
theorem to_set {n q i : Nat} (hx : l[q]? = some ⟨6, (i : Int)⟩) (hi : i < 8) (hs : st.length ≤ 28) (h : Ow.To l n (owS cells ((q : Int) + 1) st (lc.set i x) held wrote tr) o') : Ow.To l (n + 1) (owS cells q (st ++ [x]) lc held wrote tr) o' := by
  refine .step q ⟨6, (i : Int)⟩ rfl hx ?_ ?_
  · refine ⟨⟨rfl, (by decide : knownB 6 = true), ((show (rowOf 6).pops ≤ ((st ++ [x]).length : Int) by rw [show (rowOf 6).pops = 1 by decide, List.length_append]; simp; omega)), ((show ((st ++ [x]).length : Int) - (rowOf 6).pops + (rowOf 6).pushes ≤ 32 by rw [show (rowOf 6).pops = 1 by decide, show (rowOf 6).pushes = 0 by decide, List.length_append]; simp; omega)), fun h => ?_, fun h => ?_, fun h => ?_, fun _ => ⟨by show (0 : Int) ≤ (i : Int); omega, by show (i : Int) < 8; omega⟩, fun h => ?_, fun h => ?_⟩, fun h => ?_, fun h => ?_, fun h => ?_, fun h => ?_, fun h => ?_, by simp⟩
    all_goals simp at h
  · have e : (owS cells q (st ++ [x]) lc held wrote tr).go ⟨6, (i : Int)⟩ = owS cells ((q : Int) + 1) st (lc.set i x) held wrote tr := by
      simp only [Ow.go, top0, less1, Int.reduceEq, if_false, if_true, Int.toNat_natCast]
      rfl
    rw [e]; exact h
theorem to_sum7 {n q : Nat} (hx : l[q]? = some ⟨7, 0⟩) (hs : st.length ≤ 26) (h : Ow.To l n (owS cells ((q : Int) + 1) (st ++ [sumO 7 y x]) lc held wrote tr) o') : Ow.To l (n + 1) (owS cells q (st ++ [y] ++ [x]) lc held wrote tr) o' := by
  refine .step q ⟨7, 0⟩ rfl hx ?_ ?_
  · refine ⟨⟨rfl, (by decide : knownB 7 = true), (show (rowOf 7).pops ≤ ((st ++ [y] ++ [x]).length : Int) by rw [show (rowOf 7).pops = 2 by decide, List.length_append, List.length_append]; simp; omega), (show ((st ++ [y] ++ [x]).length : Int) - (rowOf 7).pops + (rowOf 7).pushes ≤ 32 by rw [show (rowOf 7).pops = 2 by decide, show (rowOf 7).pushes = 1 by decide, List.length_append, List.length_append]; simp; omega), fun h => ?_, fun h => ?_, fun h => ?_, fun h => ?_, fun h => ?_, fun h => ?_⟩, fun h => ?_, fun h => ?_, fun h => ?_, fun h => ?_, fun h => ?_, by simp⟩
    all_goals simp at h
  · have e : (owS cells q (st ++ [y] ++ [x]) lc held wrote tr).go ⟨7, 0⟩ = owS cells ((q : Int) + 1) (st ++ [sumO 7 y x]) lc held wrote tr := by
      simp only [Ow.go, top0, top1, less2, Int.reduceEq, if_false, if_true, or_true, true_or, or_false, false_or]
      rfl
    rw [e]; exact h
theorem to_sum8 {n q : Nat} (hx : l[q]? = some ⟨8, 0⟩) (hs : st.length ≤ 26) (h : Ow.To l n (owS cells ((q : Int) + 1) (st ++ [sumO 8 y x]) lc held wrote tr) o') : Ow.To l (n + 1) (owS cells q (st ++ [y] ++ [x]) lc held wrote tr) o' := by
  refine .step q ⟨8, 0⟩ rfl hx ?_ ?_
  · refine ⟨⟨rfl, (by decide : knownB 8 = true), (show (rowOf 8).pops ≤ ((st ++ [y] ++ [x]).length : Int) by rw [show (rowOf 8).pops = 2 by decide, List.length_append, List.length_append]; simp; omega), (show ((st ++ [y] ++ [x]).length : Int) - (rowOf 8).pops + (rowOf 8).pushes ≤ 32 by rw [show (rowOf 8).pops = 2 by decide, show (rowOf 8).pushes = 1 by decide, List.length_append, List.length_append]; simp; omega), fun h => ?_, fun h => ?_, fun h => ?_, fun h => ?_, fun h => ?_, fun h => ?_⟩, fun h => ?_, fun h => ?_, fun h => ?_, fun h => ?_, fun h => ?_, by simp⟩
    all_goals simp at h
  · have e : (owS cells q (st ++ [y] ++ [x]) lc held wrote tr).go ⟨8, 0⟩ = owS cells ((q : Int) + 1) (st ++ [sumO 8 y x]) lc held wrote tr := by
      simp only [Ow.go, top0, top1, less2, Int.reduceEq, if_false, if_true, or_true, true_or, or_false, false_or]
      rfl
    rw [e]; exact h
theorem to_sum10 {n q : Nat} (hx : l[q]? = some ⟨10, 0⟩) (hs : st.length ≤ 26) (hr : -1000000 ≤ y ∧ y ≤ 1000000 ∧ 1 ≤ x ∧ x ≤ 1000000) (h : Ow.To l n (owS cells ((q : Int) + 1) (st ++ [sumO 10 y x]) lc held wrote tr) o') : Ow.To l (n + 1) (owS cells q (st ++ [y] ++ [x]) lc held wrote tr) o' := by
  refine .step q ⟨10, 0⟩ rfl hx ?_ ?_
  · refine ⟨⟨rfl, (by decide : knownB 10 = true), (show (rowOf 10).pops ≤ ((st ++ [y] ++ [x]).length : Int) by rw [show (rowOf 10).pops = 2 by decide, List.length_append, List.length_append]; simp; omega), (show ((st ++ [y] ++ [x]).length : Int) - (rowOf 10).pops + (rowOf 10).pushes ≤ 32 by rw [show (rowOf 10).pops = 2 by decide, show (rowOf 10).pushes = 1 by decide, List.length_append, List.length_append]; simp; omega), fun h => ?_, fun h => ?_, fun h => ?_, fun h => ?_, fun h => ?_, fun h => ?_⟩, fun h => ?_, fun h => ?_, fun h => ?_, fun h => ?_, fun _ => by rw [top1, top0]; exact hr, by simp⟩
    all_goals simp at h
  · have e : (owS cells q (st ++ [y] ++ [x]) lc held wrote tr).go ⟨10, 0⟩ = owS cells ((q : Int) + 1) (st ++ [sumO 10 y x]) lc held wrote tr := by
      simp only [Ow.go, top0, top1, less2, Int.reduceEq, if_false, if_true, or_true, true_or, or_false, false_or]
      rfl
    rw [e]; exact h
theorem to_sum11 {n q : Nat} (hx : l[q]? = some ⟨11, 0⟩) (hs : st.length ≤ 26) (h : Ow.To l n (owS cells ((q : Int) + 1) (st ++ [sumO 11 y x]) lc held wrote tr) o') : Ow.To l (n + 1) (owS cells q (st ++ [y] ++ [x]) lc held wrote tr) o' := by
  refine .step q ⟨11, 0⟩ rfl hx ?_ ?_
  · refine ⟨⟨rfl, (by decide : knownB 11 = true), (show (rowOf 11).pops ≤ ((st ++ [y] ++ [x]).length : Int) by rw [show (rowOf 11).pops = 2 by decide, List.length_append, List.length_append]; simp; omega), (show ((st ++ [y] ++ [x]).length : Int) - (rowOf 11).pops + (rowOf 11).pushes ≤ 32 by rw [show (rowOf 11).pops = 2 by decide, show (rowOf 11).pushes = 1 by decide, List.length_append, List.length_append]; simp; omega), fun h => ?_, fun h => ?_, fun h => ?_, fun h => ?_, fun h => ?_, fun h => ?_⟩, fun h => ?_, fun h => ?_, fun h => ?_, fun h => ?_, fun h => ?_, by simp⟩
    all_goals simp at h
  · have e : (owS cells q (st ++ [y] ++ [x]) lc held wrote tr).go ⟨11, 0⟩ = owS cells ((q : Int) + 1) (st ++ [sumO 11 y x]) lc held wrote tr := by
      simp only [Ow.go, top0, top1, less2, Int.reduceEq, if_false, if_true, or_true, true_or, or_false, false_or]
      rfl
    rw [e]; exact h
theorem to_sum9 {n q : Nat} (hx : l[q]? = some ⟨9, 0⟩) (hs : st.length ≤ 26) (h : Ow.To l n (owS cells ((q : Int) + 1) (st ++ [sumO 9 y x]) lc held wrote tr) o') : Ow.To l (n + 1) (owS cells q (st ++ [y] ++ [x]) lc held wrote tr) o' := by
  refine .step q ⟨9, 0⟩ rfl hx ?_ ?_
  · refine ⟨⟨rfl, (by decide : knownB 9 = true), (show (rowOf 9).pops ≤ ((st ++ [y] ++ [x]).length : Int) by rw [show (rowOf 9).pops = 2 by decide, List.length_append, List.length_append]; simp; omega), (show ((st ++ [y] ++ [x]).length : Int) - (rowOf 9).pops + (rowOf 9).pushes ≤ 32 by rw [show (rowOf 9).pops = 2 by decide, show (rowOf 9).pushes = 1 by decide, List.length_append, List.length_append]; simp; omega), fun h => ?_, fun h => ?_, fun h => ?_, fun h => ?_, fun h => ?_, fun h => ?_⟩, fun h => ?_, fun h => ?_, fun h => ?_, fun h => ?_, fun h => ?_, by simp⟩
    all_goals simp at h
  · have e : (owS cells q (st ++ [y] ++ [x]) lc held wrote tr).go ⟨9, 0⟩ = owS cells ((q : Int) + 1) (st ++ [sumO 9 y x]) lc held wrote tr := by
      simp only [Ow.go, top0, top1, less2, Int.reduceEq, if_false, if_true, or_true, true_or, or_false, false_or]
      rfl
    rw [e]; exact h
theorem to_sum12 {n q : Nat} (hx : l[q]? = some ⟨12, 0⟩) (hs : st.length ≤ 26) (h : Ow.To l n (owS cells ((q : Int) + 1) (st ++ [sumO 12 y x]) lc held wrote tr) o') : Ow.To l (n + 1) (owS cells q (st ++ [y] ++ [x]) lc held wrote tr) o' := by
  refine .step q ⟨12, 0⟩ rfl hx ?_ ?_
  · refine ⟨⟨rfl, (by decide : knownB 12 = true), (show (rowOf 12).pops ≤ ((st ++ [y] ++ [x]).length : Int) by rw [show (rowOf 12).pops = 2 by decide, List.length_append, List.length_append]; simp; omega), (show ((st ++ [y] ++ [x]).length : Int) - (rowOf 12).pops + (rowOf 12).pushes ≤ 32 by rw [show (rowOf 12).pops = 2 by decide, show (rowOf 12).pushes = 1 by decide, List.length_append, List.length_append]; simp; omega), fun h => ?_, fun h => ?_, fun h => ?_, fun h => ?_, fun h => ?_, fun h => ?_⟩, fun h => ?_, fun h => ?_, fun h => ?_, fun h => ?_, fun h => ?_, by simp⟩
    all_goals simp at h
  · have e : (owS cells q (st ++ [y] ++ [x]) lc held wrote tr).go ⟨12, 0⟩ = owS cells ((q : Int) + 1) (st ++ [sumO 12 y x]) lc held wrote tr := by
      simp only [Ow.go, top0, top1, less2, Int.reduceEq, if_false, if_true, or_true, true_or, or_false, false_or]
      rfl
    rw [e]; exact h
theorem to_not {n q : Nat} (hx : l[q]? = some ⟨13, 0⟩) (hs : st.length ≤ 28) (h : Ow.To l n (owS cells ((q : Int) + 1) (st ++ [sumO 12 x 0]) lc held wrote tr) o') : Ow.To l (n + 1) (owS cells q (st ++ [x]) lc held wrote tr) o' := by
  refine .step q ⟨13, 0⟩ rfl hx ?_ ?_
  · refine ⟨⟨rfl, (by decide : knownB 13 = true), ((show (rowOf 13).pops ≤ ((st ++ [x]).length : Int) by rw [show (rowOf 13).pops = 1 by decide, List.length_append]; simp; omega)), ((show ((st ++ [x]).length : Int) - (rowOf 13).pops + (rowOf 13).pushes ≤ 32 by rw [show (rowOf 13).pops = 1 by decide, show (rowOf 13).pushes = 1 by decide, List.length_append]; simp; omega)), fun h => ?_, fun h => ?_, fun h => ?_, fun h => ?_, fun h => ?_, fun h => ?_⟩, fun h => ?_, fun h => ?_, fun h => ?_, fun h => ?_, fun h => ?_, by simp⟩
    all_goals simp at h
  · have e : (owS cells q (st ++ [x]) lc held wrote tr).go ⟨13, 0⟩ = owS cells ((q : Int) + 1) (st ++ [sumO 12 x 0]) lc held wrote tr := by
      simp only [Ow.go, top0, less1, Int.reduceEq, if_false, if_true, or_true, true_or, or_false, false_or]
      rfl
    rw [e]; exact h
theorem to_jump {n q : Nat} {a : Int} (hx : l[q]? = some ⟨14, a⟩) (hs : st.length ≤ 30) (h : Ow.To l n (owS cells a st lc held wrote tr) o') : Ow.To l (n + 1) (owS cells q st lc held wrote tr) o' := by
  refine .step q ⟨14, a⟩ rfl hx ?_ ?_
  · refine ⟨⟨rfl, (by decide : knownB 14 = true), (show (rowOf 14).pops ≤ (st.length : Int) by rw [show (rowOf 14).pops = 0 by decide]; omega), (show (st.length : Int) - (rowOf 14).pops + (rowOf 14).pushes ≤ 32 by rw [show (rowOf 14).pops = 0 by decide, show (rowOf 14).pushes = 0 by decide]; omega), fun h => ?_, fun h => ?_, fun h => ?_, fun h => ?_, fun h => ?_, fun h => ?_⟩, fun h => ?_, fun h => ?_, fun h => ?_, fun h => ?_, fun h => ?_, by simp⟩
    all_goals simp at h
  · simpa [Ow.go, owS] using h
theorem to_zero {n q : Nat} {a : Int} (hx : l[q]? = some ⟨15, a⟩) (hs : st.length ≤ 28) (h : Ow.To l n (owS cells (if x = 0 then a else (q : Int) + 1) st lc held wrote tr) o') : Ow.To l (n + 1) (owS cells q (st ++ [x]) lc held wrote tr) o' := by
  refine .step q ⟨15, a⟩ rfl hx ?_ ?_
  · refine ⟨⟨rfl, (by decide : knownB 15 = true), ((show (rowOf 15).pops ≤ ((st ++ [x]).length : Int) by rw [show (rowOf 15).pops = 1 by decide, List.length_append]; simp; omega)), ((show ((st ++ [x]).length : Int) - (rowOf 15).pops + (rowOf 15).pushes ≤ 32 by rw [show (rowOf 15).pops = 1 by decide, show (rowOf 15).pushes = 0 by decide, List.length_append]; simp; omega)), fun h => ?_, fun h => ?_, fun h => ?_, fun h => ?_, fun h => ?_, fun h => ?_⟩, fun h => ?_, fun h => ?_, fun h => ?_, fun h => ?_, fun h => ?_, by simp⟩
    all_goals simp at h
  · have e : (owS cells q (st ++ [x]) lc held wrote tr).go ⟨15, a⟩ = owS cells (if x = 0 then a else (q : Int) + 1) st lc held wrote tr := by
      simp only [Ow.go, top0, less1, Int.reduceEq, if_false, if_true]
      rfl
    rw [e]; exact h
theorem to_tell {n q : Nat} (hx : l[q]? = some ⟨21, 0⟩) (hs : st.length ≤ 28) (hh : held.length ≤ 100) (h : Ow.To l n (owS cells ((q : Int) + 1) st lc (held ++ [x]) wrote tr) o') : Ow.To l (n + 1) (owS cells q (st ++ [x]) lc held wrote tr) o' := by
  refine .step q ⟨21, 0⟩ rfl hx ?_ ?_
  · refine ⟨⟨rfl, (by decide : knownB 21 = true), (show (rowOf 21).pops ≤ ((st ++ [x]).length : Int) by rw [show (rowOf 21).pops = 1 by decide, List.length_append]; simp; omega), (show ((st ++ [x]).length : Int) - (rowOf 21).pops + (rowOf 21).pushes ≤ 32 by rw [show (rowOf 21).pops = 1 by decide, show (rowOf 21).pushes = 0 by decide, List.length_append]; simp; omega), fun h => ?_, fun h => ?_, fun h => ?_, fun h => ?_, fun h => ?_, fun h => ?_⟩, fun h => ?_, fun h => ?_, fun h => ?_, fun _ => ⟨rfl, by show held.length ≤ 100000; omega⟩, fun h => ?_, by simp⟩
    all_goals simp at h
  · have e : (owS cells q (st ++ [x]) lc held wrote tr).go ⟨21, 0⟩ = owS cells ((q : Int) + 1) st lc (held ++ [x]) wrote tr := by
      simp only [Ow.go, top0, less1, Int.reduceEq, if_false, if_true]
      rfl
    rw [e]; exact h
theorem to_load {n q j : Nat} (hx : l[q]? = some ⟨17, 0⟩) (hs : st.length ≤ 28) (hj : x = (j : Int)) (hc : j < cells.length) (h : Ow.To l n (owS cells ((q : Int) + 1) (st ++ [cells.getD j 0]) lc held wrote tr) o') : Ow.To l (n + 1) (owS cells q (st ++ [x]) lc held wrote tr) o' := by
  refine .step q ⟨17, 0⟩ rfl hx ?_ ?_
  · refine ⟨⟨rfl, (by decide : knownB 17 = true), (show (rowOf 17).pops ≤ ((st ++ [x]).length : Int) by rw [show (rowOf 17).pops = 1 by decide, List.length_append]; simp; omega), (show ((st ++ [x]).length : Int) - (rowOf 17).pops + (rowOf 17).pushes ≤ 32 by rw [show (rowOf 17).pops = 1 by decide, show (rowOf 17).pushes = 1 by decide, List.length_append]; simp; omega), fun h => ?_, fun _ => rfl, fun h => ?_, fun h => ?_, fun _ => by rw [top0, hj]; exact ⟨by omega, by show (j : Int) < (cells.length : Int); omega⟩, fun h => ?_⟩, fun h => ?_, fun h => ?_, fun h => ?_, fun h => ?_, fun h => ?_, by simp⟩
    all_goals simp at h
  · have e : (owS cells q (st ++ [x]) lc held wrote tr).go ⟨17, 0⟩ = owS cells ((q : Int) + 1) (st ++ [cells.getD j 0]) lc held wrote tr := by
      simp only [Ow.go, top0, less1, Int.reduceEq, if_false, if_true, hj, Int.toNat_natCast]
      simp [owS]
    rw [e]; exact h
theorem to_store {n q j : Nat} (hx : l[q]? = some ⟨18, 0⟩) (hs : st.length ≤ 26) (hj : y = (j : Int)) (hc : j < cells.length) (hw : wrote.length < 16) (h : Ow.To l n (owS (cells.set j x) ((q : Int) + 1) st lc held (if y ∈ wrote then wrote else wrote ++ [y]) tr) o') : Ow.To l (n + 1) (owS cells q (st ++ [y] ++ [x]) lc held wrote tr) o' := by
  refine .step q ⟨18, 0⟩ rfl hx ?_ ?_
  · refine ⟨⟨rfl, (by decide : knownB 18 = true), (show (rowOf 18).pops ≤ ((st ++ [y] ++ [x]).length : Int) by rw [show (rowOf 18).pops = 2 by decide, List.length_append, List.length_append]; simp; omega), (show ((st ++ [y] ++ [x]).length : Int) - (rowOf 18).pops + (rowOf 18).pushes ≤ 32 by rw [show (rowOf 18).pops = 2 by decide, show (rowOf 18).pushes = 0 by decide, List.length_append, List.length_append]; simp; omega), fun h => ?_, fun _ => rfl, fun h => ?_, fun h => ?_, fun h => ?_, fun _ => by rw [top1, hj]; exact ⟨by omega, by show (j : Int) < (cells.length : Int); omega, .inr hw⟩⟩, fun h => ?_, fun _ => by show wrote.length ≤ 16; omega, fun h => ?_, fun h => ?_, fun h => ?_, by simp⟩
    all_goals simp at h
  · have e : (owS cells q (st ++ [y] ++ [x]) lc held wrote tr).go ⟨18, 0⟩ = owS (cells.set j x) ((q : Int) + 1) st lc held (if y ∈ wrote then wrote else wrote ++ [y]) tr := by
      simp only [Ow.go, top0, top1, less2, Int.reduceEq, if_false, if_true, hj, Int.toNat_natCast]
      simp [owS]
    rw [e]; exact h
theorem to_commit {q : Nat} (hx : l[q]? = some ⟨19, 0⟩) (hh : 0 < held.length) (hh2 : held.length ≤ 100) : Ow.To l 1 (owS cells q [7, -7] lc held wrote tr) (owE cells ((q : Int) + 1) lc held wrote tr) := by
  refine .step q ⟨19, 0⟩ rfl hx ?_ ?_
  · refine ⟨⟨rfl, (by decide : knownB 19 = true), (by decide : (rowOf 19).pops ≤ ((2 : Nat) : Int)), (by decide : ((2 : Nat) : Int) - (rowOf 19).pops + (rowOf 19).pushes ≤ 32), fun h => ?_, fun _ => rfl, fun h => ?_, fun h => ?_, fun h => ?_, fun h => ?_⟩, fun h => ?_, fun h => ?_, fun _ => ⟨hh, by show 0 + held.length ≤ 100000; omega⟩, fun h => ?_, fun h => ?_, by simp⟩
    all_goals simp at h
  · have e : (owS cells q [7, -7] lc held wrote tr).go ⟨19, 0⟩ = owE cells ((q : Int) + 1) lc held wrote tr := by
      simp [Ow.go, owS, owE]
    rw [e]; exact .here _
end
theorem so_add {a b : Int} (h1 : -1000000 ≤ a + b) (h2 : a + b ≤ 1000000) : sumO 7 a b = a + b := by
  unfold sumO wrap64
  simp only [if_true]
  omega
theorem so_sub {a b : Int} (h1 : -1000000 ≤ a - b) (h2 : a - b ≤ 1000000) : sumO 8 a b = a - b := by
  unfold sumO wrap64
  simp only [if_true, Int.reduceEq, if_false]
  omega
theorem so_mul {a b : Int} (h1 : -1000000 ≤ a * b) (h2 : a * b ≤ 1000000) : sumO 9 a b = a * b := by
  unfold sumO wrap64
  simp only [if_true, Int.reduceEq, if_false]
  generalize a * b = c at *
  omega
theorem so_less {a b : Int} (h : a < b) : sumO 11 a b = 1 := by
  unfold sumO
  simp [h]
theorem so_nless {a b : Int} (h : ¬ a < b) : sumO 11 a b = 0 := by
  unfold sumO
  simp [h]
theorem so_same {a b : Int} (h : a = b) : sumO 12 a b = 1 := by
  unfold sumO
  simp [h]
theorem so_nsame {a b : Int} (h : ¬ a = b) : sumO 12 a b = 0 := by
  unfold sumO
  simp [h]
theorem lc_same {lc : List Int} (h : lc.length = 8) (i : Nat) (hi : i < 8) (x : Int) : (lc.set i x).getD i 0 = x := by
  simp [List.getD_eq_getElem?_getD, h, hi]
theorem lc_other {lc : List Int} {i j : Nat} (hi : i ≠ j) (x : Int) : (lc.set i x).getD j 0 = lc.getD j 0 := by
  simp [List.getD_eq_getElem?_getD, hi]
theorem at_same {cs : List Int} {i : Nat} (h : i < cs.length) (x : Int) : (cs.set i x).getD i 0 = x := by
  simp [List.getD_eq_getElem?_getD, h]
theorem at_other {cs : List Int} {i j : Nat} (hi : i ≠ j) (x : Int) : (cs.set i x).getD j 0 = cs.getD j 0 := by
  simp [List.getD_eq_getElem?_getD, hi]
/-- A cell that is written is told once. -/
def addW (w : List Int) (y : Int) : List Int := if y ∈ w then w else w ++ [y]
theorem addW_le (w : List Int) (y : Int) : (addW w y).length ≤ w.length + 1 := by
  unfold addW
  split
  · omega
  · simp
theorem to_storeW {l : List Ins} {cells st lc held wrote : List Int} {tr x y : Int} {o' : Ow} {n q j : Nat} (hx : l[q]? = some ⟨18, 0⟩) (hs : st.length ≤ 26) (hj : y = (j : Int)) (hc : j < cells.length) (hw : wrote.length < 16) (h : Ow.To l n (owS (cells.set j x) ((q : Int) + 1) st lc held (addW wrote y) tr) o') : Ow.To l (n + 1) (owS cells q (st ++ [y] ++ [x]) lc held wrote tr) o' := to_store hx hs hj hc hw h
/-- Two rows of steps are one. -/
theorem Ow.To.then {l : List Ins} {k1 k2 : Nat} {o1 o2 o3 : Ow} (a : Ow.To l k1 o1 o2) (b : Ow.To l k2 o2 o3) : Ow.To l (k1 + k2) o1 o3 := by
  induction a with
  | here => rw [Nat.zero_add]; exact b
  | step p x hp hx hf h ih => rw [Nat.add_right_comm]; exact .step p x hp hx hf (ih b)
end Go.Proofs.YtdfefjalamohjaaGreatDoor
