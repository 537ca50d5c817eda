/- A commit with nobody else at work, from its beginning to its end, as plain data. -/
import Derived.Test.YtgjmamgohidbiaaGreatAlP
namespace Go.Proofs.YtgjmamgohidbiaaGreat
open Go.RowKit
set_option linter.unusedVariables false
set_option linter.unusedSimpArgs false

def stp (c : Cfg) (t : SSt × Cm × Int) : SSt × Cm × Int := (t.1.commits t.2.1, t.2.1.next c t.1 t.2.2, t.2.1.nextDf c t.1 t.2.2)
def cS (c : Cfg) (t : SSt × Cm × Int) : Nat → SSt × Cm × Int
  | 0 => t
  | j + 1 => stp c (cS c t j)
theorem cS_add (c : Cfg) (t : SSt × Cm × Int) (a b : Nat) : cS c t (a + b) = cS c (cS c t a) b := by
  induction b with
  | zero => rfl
  | succ b ih => show stp c (cS c t (a + b)) = _; rw [ih]; rfl
section
variable {c : Cfg} {t : SSt × Cm × Int}
theorem cS_ok {n : Nat} (h : t.1.ok c n) (j : Nat) : (cS c t j).1.ok c (n + j) := by
  induction j with
  | zero => exact h
  | succ j ih => exact ih.commits _
theorem cS_ws (j : Nat) : (cS c t j).1.ws = t.1.ws := by
  induction j with
  | zero => rfl
  | succ j ih => exact (SSt.commits_ws _ _).trans ih
theorem cS_fit {n : Nat} (h : t.2.1.fit n) (hw : WsOk t.1.ws) (j : Nat) : (cS c t j).2.1.fit n := by
  induction j with
  | zero => exact h
  | succ j ih => exact ih.next c (by rw [cS_ws]; exact hw) _
theorem cS_df (h : 0 ≤ t.2.2) (j : Nat) : 0 ≤ (cS c t j).2.2 := by
  induction j with
  | zero => exact h
  | succ j ih => exact Cm.nextDf_nn _ _ _ ih
end
/-- So many steps, none of which is the last or waits. -/
def Runs (c : Cfg) (t : SSt × Cm × Int) (k : Nat) : Prop := ∀ j, j < k → (cS c t j).2.1.done = false ∧ (cS c t j).2.1.ans (cS c t j).1 = 1
theorem Runs.add {c : Cfg} {t : SSt × Cm × Int} {a b : Nat} (h : Runs c t a) (h2 : Runs c (cS c t a) b) : Runs c t (a + b) := by
  intro j hj
  by_cases hja : j < a
  · exact h j hja
  · obtain ⟨i, rfl⟩ : ∃ i, j = a + i := ⟨j - a, by omega⟩
    rw [cS_add]
    exact h2 i (by omega)
theorem Runs.zero {c : Cfg} {t : SSt × Cm × Int} : Runs c t 0 := fun j hj => absurd hj (by omega)
theorem Runs.one {c : Cfg} {t : SSt × Cm × Int} (h : t.2.1.done = false) (h2 : t.2.1.ans t.1 = 1) : Runs c t 1 := fun j hj => by
  obtain rfl : j = 0 := by omega
  exact ⟨h, h2⟩

section
variable {c : Cfg} {z : SSt} {so : Nat} {ge th sp : Int} {ps : List Pr} {wr : Sg} {n : Nat} {df : Int}
/-- It takes the gate and finds that it lives. -/
theorem run_take (hth : gTh th = true) (hx : z.x.o = 0) (hm : (nowAt z.hs so).mine ge = true) (hl : othersOf n so ≠ []) :
    cS c (z, Cm.new so ge th sp ps wr n, df) 2 = ((z.take th).look so, ⟨so, ge, th, sp, ps, Lk.new wr n so, .look, 0, false, z.x.n + 1⟩, df) ∧ Runs c (z, Cm.new so ge th sp ps wr n, df) 2 := by
  have e0 : takeE z.x th = 0 := by simp [takeE, hth, hx]
  have e1 : takeR z.x th = z.x.n + 1 := by simp [takeR, hth, hx]
  have q1 : cS c (z, Cm.new so ge th sp ps wr n, df) 1 = (z.take th, ⟨so, ge, th, sp, ps, Lk.new wr n so, .own, 0, false, z.x.n + 1⟩, df) := by
    simp [cS, stp, Cm.new, Cm.next, SSt.commits, Cm.nextDf, e0, e1]
  have q2 : cS c (z, Cm.new so ge th sp ps wr n, df) 2 = ((z.take th).look so, ⟨so, ge, th, sp, ps, Lk.new wr n so, .look, 0, false, z.x.n + 1⟩, df) := by
    show stp c (cS c _ 1) = _
    rw [q1]
    have hm' : (nowAt (z.take th).hs so).mine ge = true := hm
    have hl' : ¬ (Lk.new wr n so).left = [] := hl
    simp [stp, Cm.next, SSt.commits, Cm.nextDf, hm', Cm.lookOn, Cm.lookDf, hl']
  refine ⟨q2, fun j hj => ?_⟩
  rcases (show j = 0 ∨ j = 1 by omega) with rfl | rfl
  · refine ⟨rfl, ?_⟩
    show (Cm.new so ge th sp ps wr n).ans z = 1
    simp [Cm.ans, Cm.new, e0]
  · rw [q1]
    exact ⟨rfl, rfl⟩
/-- It looks. -/
theorem run_look {k0 : Lk} {nm : Int} {S : Nat} (hS : 0 < S) (h1 : ∀ i, i < S → (kS z k0 i).2.left ≠ []) (h2 : (kS z k0 S).2.left = []) :
    cS c (z, ⟨so, ge, th, sp, ps, k0, .look, 0, false, nm⟩, df) S = ((kS z k0 S).1, (⟨so, ge, th, sp, ps, (kS z k0 S).2, .look, 0, false, nm⟩ : Cm).judged (vdV c sp df (kS z k0 S).2.vs), nxt c sp df (kS z k0 S).2.vs) ∧ Runs c (z, ⟨so, ge, th, sp, ps, k0, .look, 0, false, nm⟩, df) S := by
  have q : ∀ j, j < S → cS c (z, ⟨so, ge, th, sp, ps, k0, .look, 0, false, nm⟩, df) j = ((kS z k0 j).1, ⟨so, ge, th, sp, ps, (kS z k0 j).2, .look, 0, false, nm⟩, df) := by
    intro j
    induction j with
    | zero => intro _; rfl
    | succ j ih =>
      intro hj
      show stp c (cS c _ j) = _
      rw [ih (by omega)]
      have hl : ¬ ((kS z k0 j).2.next (kS z k0 j).1).left = [] := h1 (j + 1) hj
      simp [stp, Cm.next, SSt.commits, Cm.nextDf, Cm.looked, Cm.lookOn, Cm.lookDf, hl, kS]
  refine ⟨?_, fun j hj => ?_⟩
  · obtain ⟨s, rfl⟩ : ∃ s, S = s + 1 := ⟨S - 1, by omega⟩
    show stp c (cS c _ s) = _
    rw [q s (by omega)]
    have hl : ((kS z k0 s).2.next (kS z k0 s).1).left = [] := h2
    simp [stp, Cm.next, SSt.commits, Cm.nextDf, Cm.looked, Cm.lookOn, Cm.lookDf, hl, kS]
  · rw [q j hj]
    exact ⟨rfl, rfl⟩
end
section
variable {c : Cfg} {z : SSt} {x : Cm} {df : Int}
theorem doomOn_doomOn (x : Cm) (d e : Dm) : (x.doomOn d).doomOn e = x.doomOn e := rfl
/-- It dooms. -/
theorem run_doom (d : Dm) : cS c (z, x.doomOn d, df) d.left.length = ((dzS z d d.left.length).1, x.doomOn (dzS z d d.left.length).2, df) ∧ Runs c (z, x.doomOn d, df) d.left.length := by
  have hl : ∀ j, j < d.left.length → (dzS z d j).2.left ≠ [] := fun j hj e => by
    rw [(dzS_left (z := z) (d := d) j).1] at e
    have := List.drop_eq_nil_iff.1 e
    omega
  have st : ∀ (y : SSt) (d' : Dm), d'.left ≠ [] → (x.doomOn d').st = .doom d' := fun y d' h => by simp [Cm.doomOn, h]
  have q : ∀ j, j ≤ d.left.length → cS c (z, x.doomOn d, df) j = ((dzS z d j).1, x.doomOn (dzS z d j).2, df) := by
    intro j
    induction j with
    | zero => intro _; rfl
    | succ j ih =>
      intro hj
      show stp c (cS c _ j) = _
      rw [ih (by omega)]
      have := st (dzS z d j).1 _ (hl j (by omega))
      simp only [stp, Cm.next, SSt.commits, Cm.nextDf, this, doomOn_doomOn, dzS]
  refine ⟨q _ (Nat.le_refl _), fun j hj => ?_⟩
  rw [q j (by omega)]
  have := st (dzS z d j).1 _ (hl j hj)
  simp [Cm.done, Cm.ans, this, Stg.isOver]
def zW (z : SSt) (l : List Pr) : SSt := l.foldl (fun z p => z.store p.ce p.x) z
theorem zW_one (z : SSt) (l : List Pr) (p : Pr) : zW z (l ++ [p]) = (zW z l).store p.ce p.x := by simp [zW]
def putL (xs : List Int) (l : List Pr) : List Int := l.foldl (fun a p => storeX a p.ce p.x) xs
theorem zW_rest (l : List Pr) : ∀ z : SSt, (zW z l).x = z.x ∧ (zW z l).hs = z.hs ∧ (zW z l).ws = z.ws ∧ (zW z l).xs = putL z.xs l := by
  induction l with
  | nil => intro z; exact ⟨rfl, rfl, rfl, rfl⟩
  | cons p l ih =>
    intro z
    obtain ⟨a, b, c, d⟩ := ih (z.store p.ce p.x)
    exact ⟨a, b, c, d⟩
/-- It writes. -/
theorem run_write (hw : 0 < x.wr.length) : cS c (z, { x with st := .write 0 }, df) x.wr.length = (zW z x.wr, { x with st := .give }, df) ∧ Runs c (z, { x with st := .write 0 }, df) x.wr.length := by
  have q : ∀ k, k < x.wr.length → cS c (z, { x with st := .write 0 }, df) k = (zW z (x.wr.take k), { x with st := .write k }, df) := by
    intro k
    induction k with
    | zero => intro _; rfl
    | succ k ih =>
      intro hk
      show stp c (cS c _ k) = _
      rw [ih (by omega)]
      have e : x.wr.getD k Pr.zero = x.wr[k] := by rw [List.getD_eq_getElem?_getD, List.getElem?_eq_getElem (by omega)]; rfl
      rw [List.take_succ_eq_append_getElem (by omega), zW_one]
      simp only [stp, Cm.next, SSt.commits, Cm.nextDf, e]
      rw [if_neg (by omega)]
  refine ⟨?_, fun j hj => ?_⟩
  · obtain ⟨s, hs⟩ : ∃ s, x.wr.length = s + 1 := ⟨x.wr.length - 1, by omega⟩
    rw [hs]
    show stp c (cS c _ s) = _
    rw [q s (by omega)]
    have e : x.wr.getD s Pr.zero = x.wr[s]'(by omega) := by rw [List.getD_eq_getElem?_getD, List.getElem?_eq_getElem (by omega)]; rfl
    have e2 : x.wr = x.wr.take s ++ [x.wr[s]'(by omega)] := by
      rw [← List.take_succ_eq_append_getElem (by omega), ← hs, List.take_length]
    simp only [stp, Cm.next, SSt.commits, Cm.nextDf, e]
    rw [if_pos (by omega)]
    conv => rhs; rw [e2]
    rw [zW_one]
    rw [← e2]
  · rw [q j hj]
    exact ⟨rfl, rfl⟩
/-- It ends. -/
theorem run_give : cS c (z, { x with st := .give }, df) 2 = ((z.give x.th).op (freeOp x.ge) x.so, { x with won := true, st := .over }, df) ∧ Runs c (z, { x with st := .give }, df) 2 := by
  refine ⟨rfl, fun j hj => ?_⟩
  rcases (show j = 0 ∨ j = 1 by omega) with rfl | rfl <;> exact ⟨rfl, rfl⟩
theorem run_up : cS c (z, { x with st := .up }, df) 2 = ((z.give x.th).op (freeOp x.ge) x.so, { x with st := .over }, df) ∧ (∀ j, j < 2 → (cS c (z, { x with st := .up }, df) j).2.1.done = false ∧ (cS c (z, { x with st := .up }, df) j).2.1.ans (cS c (z, { x with st := .up }, df) j).1 = if j = 0 ∧ x.e = 9 then 2 else 1) := by
  refine ⟨rfl, fun j hj => ?_⟩
  rcases (show j = 0 ∨ j = 1 by omega) with rfl | rfl
  · refine ⟨rfl, ?_⟩
    show (if x.e = 9 then (2 : Int) else 1) = _
    simp
  · exact ⟨rfl, rfl⟩
end
/-- What a commit alone meets, and what is judged. -/
def vicsOf (z : SSt) (wr : Sg) (so : Nat) : List Vt := wantOf z.hs z.ws wr (othersOf z.hs.length so)
def lookN (z : SSt) (so : Nat) : Nat := stepsOf z.hs (othersOf z.hs.length so)
/-- Behind the look: the space has the same heads, words, cells and the gate is held. -/
def heldZ (z : SSt) (wr : Sg) (so : Nat) (th : Int) : SSt := (kS ((z.take th).look so) (Lk.new wr z.hs.length so) (lookN z so)).1
theorem kS_rest (z : SSt) (k : Lk) (j : Nat) : (kS z k j).1.x = z.x ∧ (kS z k j).1.xs = z.xs ∧ (kS z k j).1.hs = z.hs ∧ (kS z k j).1.ws = z.ws := by
  induction j with
  | zero => exact ⟨rfl, rfl, rfl, rfl⟩
  | succ j ih =>
    have e : ∀ (y : SSt) (q : Lk), (y.looks q).x = y.x ∧ (y.looks q).xs = y.xs ∧ (y.looks q).hs = y.hs ∧ (y.looks q).ws = y.ws := fun y q => by
      unfold SSt.looks
      split
      · exact ⟨rfl, rfl, rfl, rfl⟩
      · split <;> exact ⟨rfl, rfl, rfl, rfl⟩
    obtain ⟨a1, a2, a3, a4⟩ := e (kS z k j).1 (kS z k j).2
    exact ⟨a1.trans ih.1, a2.trans ih.2.1, a3.trans ih.2.2.1, a4.trans ih.2.2.2⟩
theorem heldZ_rest {z : SSt} {wr : Sg} {so : Nat} {th : Int} (hth : gTh th = true) (hx : z.x.o = 0) : (heldZ z wr so th).x = ⟨z.x.n + 1, th⟩ ∧ (heldZ z wr so th).xs = z.xs ∧ (heldZ z wr so th).hs = z.hs ∧ (heldZ z wr so th).ws = z.ws := by
  obtain ⟨a1, a2, a3, a4⟩ := kS_rest ((z.take th).look so) (Lk.new wr z.hs.length so) (lookN z so)
  refine ⟨?_, a2, a3, a4⟩
  unfold heldZ
  rw [a1]
  show takeX z.x th = _
  simp [takeX, hth, hx]
section
variable {c : Cfg} {z : SSt} {so : Nat} {ge th sp : Int} {ps : List Pr} {wr : Sg} {df : Int}
/-- From the beginning until it is judged. -/
theorem run_judged (hth : gTh th = true) (hx : z.x.o = 0) (hm : (nowAt z.hs so).mine ge = true) (hl : othersOf z.hs.length so ≠ []) :
    ∃ lk : Lk, lk.vs = vicsOf z wr so ∧ cS c (z, Cm.new so ge th sp ps wr z.hs.length, df) (2 + lookN z so) = (heldZ z wr so th, (⟨so, ge, th, sp, ps, lk, .look, 0, false, z.x.n + 1⟩ : Cm).judged (vdV c sp df (vicsOf z wr so)), nxt c sp df (vicsOf z wr so)) ∧ Runs c (z, Cm.new so ge th sp ps wr z.hs.length, df) (2 + lookN z so) := by
  obtain ⟨q1, r1⟩ := run_take (c := c) (sp := sp) (ps := ps) (wr := wr) (n := z.hs.length) (df := df) hth hx hm hl
  obtain ⟨k1, k2⟩ := kS_run (z := (z.take th).look so) (k := Lk.new wr z.hs.length so) (othersOf z.hs.length so) 0 wr [] rfl
  have hN : stepsOf ((z.take th).look so).hs (othersOf z.hs.length so) = lookN z so := rfl
  rw [hN] at k1 k2
  simp only [Nat.zero_add] at k1 k2
  have hS : 0 < lookN z so := by
    unfold lookN
    cases ho : othersOf z.hs.length so with
    | nil => exact absurd ho hl
    | cons s l =>
      have : 1 ≤ costOf z.hs s := by unfold costOf; split <;> omega
      simp only [stepsOf]
      omega
  obtain ⟨q2, r2⟩ := run_look (c := c) (z := (z.take th).look so) (so := so) (ge := ge) (th := th) (sp := sp) (ps := ps) (df := df) (k0 := Lk.new wr z.hs.length so) (nm := z.x.n + 1) hS k1 (by rw [k2])
  have hv : (kS ((z.take th).look so) (Lk.new wr z.hs.length so) (lookN z so)).2.vs = vicsOf z wr so := by rw [k2]; rfl
  refine ⟨_, hv, ?_, r1.add (by rw [q1]; exact r2)⟩
  rw [cS_add, q1, q2, hv]
  rfl
/-- What is left behind one that gives up. -/
theorem run_lost {lk : Lk} {z1 : SSt} {nm df1 e : Int} :
    cS c (z1, (⟨so, ge, th, sp, ps, lk, .look, 0, false, nm⟩ : Cm).giveUp e, df1) 2 = ((z1.give th).op (freeOp ge) so, ⟨so, ge, th, sp, ps, lk, .over, e, false, nm⟩, df1) ∧ (∀ j, j < 2 → (cS c (z1, (⟨so, ge, th, sp, ps, lk, .look, 0, false, nm⟩ : Cm).giveUp e, df1) j).2.1.done = false ∧ (cS c (z1, (⟨so, ge, th, sp, ps, lk, .look, 0, false, nm⟩ : Cm).giveUp e, df1) j).2.1.ans (cS c (z1, (⟨so, ge, th, sp, ps, lk, .look, 0, false, nm⟩ : Cm).giveUp e, df1) j).1 = if j = 0 ∧ e = 9 then 2 else 1) :=
  run_up (c := c) (z := z1) (x := ⟨so, ge, th, sp, ps, lk, .look, e, false, nm⟩) (df := df1)
/-- What is left behind one that wins. -/
theorem run_won {lk : Lk} {z1 : SSt} {nm df1 : Int} (vs : List Vt) (hp : 0 < ps.length) :
    cS c (z1, (⟨so, ge, th, sp, ps, lk, .look, 0, false, nm⟩ : Cm).doomOn ⟨th, vs, []⟩, df1) (vs.length + (ps.length + 2)) = ((((zW (dzS z1 ⟨th, vs, []⟩ vs.length).1 ps).give th).op (freeOp ge) so), ⟨so, ge, th, sp, ps, lk, .over, 0, true, nm⟩, df1) ∧ Runs c (z1, (⟨so, ge, th, sp, ps, lk, .look, 0, false, nm⟩ : Cm).doomOn ⟨th, vs, []⟩, df1) (vs.length + (ps.length + 2)) := by
  obtain ⟨q1, r1⟩ := run_doom (c := c) (z := z1) (x := ⟨so, ge, th, sp, ps, lk, .look, 0, false, nm⟩) (df := df1) ⟨th, vs, []⟩
  have hn : (dzS z1 ⟨th, vs, []⟩ vs.length).2.left = [] := by
    rw [(dzS_left (z := z1) (d := ⟨th, vs, []⟩) vs.length).1]
    exact List.drop_eq_nil_of_le (Nat.le_refl _)
  have e : (⟨so, ge, th, sp, ps, lk, .look, 0, false, nm⟩ : Cm).doomOn (dzS z1 ⟨th, vs, []⟩ vs.length).2 = ⟨so, ge, th, sp, ps, lk, .write 0, 0, false, nm⟩ := by simp [Cm.doomOn, hn]
  simp only at q1 r1
  rw [e] at q1
  obtain ⟨q2, r2⟩ := run_write (c := c) (z := (dzS z1 ⟨th, vs, []⟩ vs.length).1) (x := ⟨so, ge, th, sp, ps, lk, .write 0, 0, false, nm⟩) (df := df1) hp
  obtain ⟨q3, r3⟩ := run_give (c := c) (z := zW (dzS z1 ⟨th, vs, []⟩ vs.length).1 ps) (x := ⟨so, ge, th, sp, ps, lk, .give, 0, false, nm⟩) (df := df1)
  simp only at q2 r2 q3 r3
  refine ⟨?_, ?_⟩
  · rw [cS_add, q1, cS_add, q2, q3]
  · refine r1.add ?_
    rw [q1]
    refine r2.add ?_
    rw [q2]
    exact r3
end
theorem dzS_rest (z : SSt) (d : Dm) (j : Nat) : (dzS z d j).1.x = z.x ∧ (dzS z d j).1.xs = z.xs ∧ (dzS z d j).1.ws = z.ws := by
  induction j with
  | zero => exact ⟨rfl, rfl, rfl⟩
  | succ j ih =>
    have e : ∀ (y : SSt) (q : Dm), (y.dooms q).x = y.x ∧ (y.dooms q).xs = y.xs ∧ (y.dooms q).ws = y.ws := fun y q => by
      unfold SSt.dooms
      split <;> exact ⟨rfl, rfl, rfl⟩
    obtain ⟨a1, a2, a3⟩ := e (dzS z d j).1 (dzS z d j).2
    exact ⟨a1.trans ih.1, a2.trans ih.2.1, a3.trans ih.2.2⟩
end Go.Proofs.YtgjmamgohidbiaaGreat
