/- What SlotsHolds keeps beside a table: of each slot its generation, whether it is held, whether it is doomed. -/
import Derived.Test.YthaajlelaoimaaaFar
namespace Go.Proofs.Ythaajlelaoimaaa
open Go.RowKit
set_option linter.unusedVariables false
set_option linter.unusedSimpArgs false

/-- Eight places: of the slots that there are, what g says. -/
def arrV (g : Hd → Value) (z : Value) (hs : List Hd) : List Value := hs.map g ++ List.replicate (8 - hs.length) z
theorem arrV_at (g : Hd → Value) (z : Value) {hs : List Hd} {k : Nat} (hk : k < hs.length) : (arrV g z hs)[k]? = some (g hs[k]) := by
  unfold arrV
  rw [List.getElem?_append_left (by simpa using hk)]
  simp [hk]
theorem arrV_set (g : Hd → Value) (z : Value) {hs : List Hd} {k : Nat} (hk : k < hs.length) (y : Hd) : (arrV g z hs).set k (g y) = arrV g z (hs.set k y) := by
  unfold arrV
  rw [List.set_append_left _ _ (by simpa using hk), List.map_set, List.length_set]
theorem arrV_same (g : Hd → Value) (z : Value) {hs : List Hd} {k : Nat} (hk : k < hs.length) (y : Hd) (h : g y = g hs[k]) : arrV g z (hs.set k y) = arrV g z hs := by
  rw [← arrV_set g z hk y, h]
  apply List.ext_getElem?
  intro j
  rw [List.getElem?_set]
  by_cases e : k = j
  · subst e
    rw [arrV_at g z hk]
    simp [arrV]
    omega
  · simp [e]
def gV (hs : List Hd) : List Value := arrV (fun h => .int .i64 h.gn) (.int .i64 0) hs
def pV (hs : List Hd) : List Value := arrV (fun h => .bool (!(h.sa == 0))) (.bool false) hs
def dV (hs : List Hd) : List Value := arrV (fun h => .bool h.dm) (.bool false) hs
theorem E_at {p : HOp} {hs : List Hd} {i : Int} {x : Hd} (hp : p.pre = 0) (hx : headAt hs i = some x) : p.E hs i = if p.ok x then 0 else p.ref := by
  simp [HOp.E, hp, hx]
theorem H_at {p : HOp} {hs : List Hd} {k : Nat} {x : Hd} (hp : p.pre = 0) (hx : headAt hs (k : Int) = some x) : p.H hs (k : Int) = if p.ok x then hs.set k (p.nw x) else hs := by
  simp [HOp.H, hp, hx]
/-- A table, the step at hand, and what is kept beside. -/
def HRel (o : World) (B G P D : Nat) (op : Array Value) (t r c q f n : Nat) (hs : List Hd) (ws : List Int) (w : World) : Prop :=
  TSt o [boxI B op 39, boxI G (gV hs).toArray 57, boxI P (pV hs).toArray 58, boxI D (dV hs).toArray 58] t r c q f n hs ws w
section
variable {o w : World} {B G P D t r c q f n : Nat} {op : Array Value} {hs : List Hd} {ws : List Int} {k : Nat} {x : Hd}
theorem arr_x (hk : k < hs.length) (hx : headAt hs (k : Int) = some x) : hs[k] = x := by
  rw [headAt_in hk] at hx; exact Option.some.inj hx
/-- The cells of the slot at hand. -/
theorem HRel.cells {hs' : List Hd} {ws' : List Int} (h : TSt o [boxI B op 39, boxI G (gV hs).toArray 57, boxI P (pV hs).toArray 58, boxI D (dV hs).toArray 58] t r c q f n hs' ws' w) (hk : k < hs.length) (hx : headAt hs (k : Int) = some x) :
    w.cell? ⟨G, k, none⟩ = some (.int .i64 x.gn) ∧ w.cell? ⟨P, k, none⟩ = some (.bool (!(x.sa == 0))) ∧ w.cell? ⟨D, k, none⟩ = some (.bool x.dm) ∧ w.frozen? ⟨G, k, none⟩ = false ∧ w.frozen? ⟨P, k, none⟩ = false ∧ w.frozen? ⟨D, k, none⟩ = false := by
  have e := arr_x hk hx
  refine ⟨(h.cell 1 rfl k).trans ?_, (h.cell 2 rfl k).trans ?_, (h.cell 3 rfl k).trans ?_, h.frozen 1 rfl k, h.frozen 2 rfl k, h.frozen 3 rfl k⟩
  · have := arrV_at (fun h => Value.int .i64 h.gn) (.int .i64 0) hk
    rw [e] at this
    simpa [gV] using this
  · have := arrV_at (fun h => Value.bool (!(h.sa == 0))) (.bool false) hk
    rw [e] at this
    simpa [pV] using this
  · have := arrV_at (fun h => Value.bool h.dm) (.bool false) hk
    rw [e] at this
    simpa [dV] using this
/-- A slot's head turned, and nothing beside has to. -/
theorem HRel.turn {ws' : List Int} {y : Hd} (h : TSt o [boxI B op 39, boxI G (gV hs).toArray 57, boxI P (pV hs).toArray 58, boxI D (dV hs).toArray 58] t r c q f n (hs.set k y) ws' w) (hk : k < hs.length) (hx : headAt hs (k : Int) = some x)
    (h1 : y.gn = x.gn) (h2 : (y.sa == 0) = (x.sa == 0)) (h3 : y.dm = x.dm) : HRel o B G P D op t r c q f n (hs.set k y) ws' w := by
  have e := arr_x hk hx
  unfold HRel
  have g1 : gV (hs.set k y) = gV hs := arrV_same _ _ hk y (by rw [e]; simp only [h1])
  have g2 : pV (hs.set k y) = pV hs := arrV_same _ _ hk y (by rw [e]; simp only [h2])
  have g3 : dV (hs.set k y) = dV hs := arrV_same _ _ hk y (by rw [e]; simp only [h3])
  rw [g1, g2, g3]
  exact h
theorem HRel.claimed {ws' : List Int} {y : Hd} (h : TSt o [boxI B op 39, boxI G (gV hs).toArray 57, boxI P (pV hs).toArray 58, boxI D (dV hs).toArray 58] t r c q f n (hs.set k y) ws' w) (hk : k < hs.length) (hx : headAt hs (k : Int) = some x)
    (h2 : (y.sa == 0) = false) (h3 : y.dm = x.dm) : HRel o B G P D op t r c q f n (hs.set k y) ws' ((w.setCell ⟨P, k, none⟩ (.bool true)).setCell ⟨G, k, none⟩ (.int .i64 y.gn)) := by
  have e := arr_x hk hx
  have := (h.write 2 rfl k (.bool true)).write 1 rfl k (.int .i64 y.gn)
  simp only [List.setIfInBounds_toArray, List.set_cons_succ, List.set_cons_zero] at this
  unfold HRel
  have g1 : (gV hs).set k (.int .i64 y.gn) = gV (hs.set k y) := arrV_set _ _ hk y
  have g2 : (pV hs).set k (.bool true) = pV (hs.set k y) := by
    have := arrV_set (fun h => Value.bool (!(h.sa == 0))) (.bool false) hk y
    simp only [h2, Bool.not_false] at this
    exact this
  have g3 : dV (hs.set k y) = dV hs := arrV_same _ _ hk y (by rw [e]; simp only [h3])
  rw [g1, g2, ← g3] at this
  exact this
theorem HRel.doomed {ws' : List Int} {y : Hd} (h : TSt o [boxI B op 39, boxI G (gV hs).toArray 57, boxI P (pV hs).toArray 58, boxI D (dV hs).toArray 58] t r c q f n (hs.set k y) ws' w) (hk : k < hs.length) (hx : headAt hs (k : Int) = some x)
    (h1 : y.gn = x.gn) (h2 : (y.sa == 0) = (x.sa == 0)) : HRel o B G P D op t r c q f n (hs.set k y) ws' (w.setCell ⟨D, k, none⟩ (.bool y.dm)) := by
  have e := arr_x hk hx
  have := h.write 3 rfl k (.bool y.dm)
  simp only [List.setIfInBounds_toArray, List.set_cons_succ, List.set_cons_zero] at this
  unfold HRel
  have g1 : gV (hs.set k y) = gV hs := arrV_same _ _ hk y (by rw [e]; simp only [h1])
  have g2 : pV (hs.set k y) = pV hs := arrV_same _ _ hk y (by rw [e]; simp only [h2])
  have g3 : (dV hs).set k (.bool y.dm) = dV (hs.set k y) := arrV_set _ _ hk y
  rw [← g1, ← g2, g3] at this
  exact this
theorem HRel.freed {ws' : List Int} {y : Hd} (h : TSt o [boxI B op 39, boxI G (gV hs).toArray 57, boxI P (pV hs).toArray 58, boxI D (dV hs).toArray 58] t r c q f n (hs.set k y) ws' w) (hk : k < hs.length) (hx : headAt hs (k : Int) = some x)
    (h1 : y.gn = x.gn) (h2 : (y.sa == 0) = true) (h3 : y.dm = false) : HRel o B G P D op t r c q f n (hs.set k y) ws' ((w.setCell ⟨P, k, none⟩ (.bool false)).setCell ⟨D, k, none⟩ (.bool false)) := by
  have e := arr_x hk hx
  have := (h.write 2 rfl k (.bool false)).write 3 rfl k (.bool false)
  simp only [List.setIfInBounds_toArray, List.set_cons_succ, List.set_cons_zero] at this
  unfold HRel
  have g1 : gV (hs.set k y) = gV hs := arrV_same _ _ hk y (by rw [e]; simp only [h1])
  have g2 : (pV hs).set k (.bool false) = pV (hs.set k y) := by
    have := arrV_set (fun h => Value.bool (!(h.sa == 0))) (.bool false) hk y
    simp only [h2, Bool.not_true] at this
    exact this
  have g3 : (dV hs).set k (.bool false) = dV (hs.set k y) := by
    have := arrV_set (fun h => Value.bool h.dm) (.bool false) hk y
    simp only [h3] at this
    exact this
  rw [← g1, g2, g3] at this
  exact this
/-- What is stored is what was there. -/
theorem HRel.again (h : HRel o B G P D op t r c q f n hs ws w) (hk : k < hs.length) (hx : headAt hs (k : Int) = some x) : HRel o B G P D op t r c q f n hs ws (w.setCell ⟨D, k, none⟩ (.bool x.dm)) := by
  have e := arr_x hk hx
  have := TSt.write h 3 rfl k (.bool x.dm)
  simp only [List.setIfInBounds_toArray, List.set_cons_succ, List.set_cons_zero] at this
  unfold HRel
  have g3 : (dV hs).set k (.bool x.dm) = dV hs := by
    have h1 := arrV_set (fun h => Value.bool h.dm) (.bool false) hk x
    have h2 := arrV_same (fun h => Value.bool h.dm) (.bool false) hk x (by rw [e])
    exact h1.trans h2
  rw [g3] at this
  exact this
end
end Go.Proofs.Ythaajlelaoimaaa
