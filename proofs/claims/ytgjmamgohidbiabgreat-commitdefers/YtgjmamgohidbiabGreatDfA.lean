/- A commit with nobody else at work, from its beginning to its end, as plain data. Commits that are deferred, one behind the other, as plain data. -/
import Derived.Test.YtgjmamgohidbiabGreatAlP
namespace Go.Proofs.YtgjmamgohidbiabGreat
open Go.RowKit
set_option linter.unusedVariables false
set_option linter.unusedSimpArgs false

def stp (c : Cfg) (t : SSt × Cm × Int) : SSt × Cm × Int := (t.1.commits t.2.1, t.2.1.next c t.1 t.2.2, t.2.1.nextDf c t.1 t.2.2)
def cS (c : Cfg) (t : SSt × Cm × Int) : Nat → SSt × Cm × Int
  | 0 => t
  | j + 1 => stp c (cS c t j)
theorem cS_add (c : Cfg) (t : SSt × Cm × Int) (a b : Nat) : cS c t (a + b) = cS c (cS c t a) b := by
  induction b with
  | zero => rfl
  | succ b ih => show stp c (cS c t (a + b)) = _; rw [ih]; rfl
section
variable {c : Cfg} {t : SSt × Cm × Int}
theorem cS_ok {n : Nat} (h : t.1.ok c n) (j : Nat) : (cS c t j).1.ok c (n + j) := by
  induction j with
  | zero => exact h
  | succ j ih => exact ih.commits _
theorem cS_ws (j : Nat) : (cS c t j).1.ws = t.1.ws := by
  induction j with
  | zero => rfl
  | succ j ih => exact (SSt.commits_ws _ _).trans ih
theorem cS_fit {n : Nat} (h : t.2.1.fit n) (hw : WsOk t.1.ws) (j : Nat) : (cS c t j).2.1.fit n := by
  induction j with
  | zero => exact h
  | succ j ih => exact ih.next c (by rw [cS_ws]; exact hw) _
theorem cS_df (h : 0 ≤ t.2.2) (j : Nat) : 0 ≤ (cS c t j).2.2 := by
  induction j with
  | zero => exact h
  | succ j ih => exact Cm.nextDf_nn _ _ _ ih
end
/-- So many steps, none of which is the last or waits. -/
def Runs (c : Cfg) (t : SSt × Cm × Int) (k : Nat) : Prop := ∀ j, j < k → (cS c t j).2.1.done = false ∧ (cS c t j).2.1.ans (cS c t j).1 = 1
theorem Runs.add {c : Cfg} {t : SSt × Cm × Int} {a b : Nat} (h : Runs c t a) (h2 : Runs c (cS c t a) b) : Runs c t (a + b) := by
  intro j hj
  by_cases hja : j < a
  · exact h j hja
  · obtain ⟨i, rfl⟩ : ∃ i, j = a + i := ⟨j - a, by omega⟩
    rw [cS_add]
    exact h2 i (by omega)
theorem Runs.zero {c : Cfg} {t : SSt × Cm × Int} : Runs c t 0 := fun j hj => absurd hj (by omega)
theorem Runs.one {c : Cfg} {t : SSt × Cm × Int} (h : t.2.1.done = false) (h2 : t.2.1.ans t.1 = 1) : Runs c t 1 := fun j hj => by
  obtain rfl : j = 0 := by omega
  exact ⟨h, h2⟩

section
variable {c : Cfg} {z : SSt} {so : Nat} {ge th sp : Int} {ps : List Pr} {wr : Sg} {n : Nat} {df : Int}
/-- It takes the gate and finds that it lives. -/
theorem run_take (hth : gTh th = true) (hx : z.x.o = 0) (hm : (nowAt z.hs so).mine ge = true) (hl : othersOf n so ≠ []) :
    cS c (z, Cm.new so ge th sp ps wr n, df) 2 = ((z.take th).look so, ⟨so, ge, th, sp, ps, Lk.new wr n so, .look, 0, false, z.x.n + 1⟩, df) ∧ Runs c (z, Cm.new so ge th sp ps wr n, df) 2 := by
  have e0 : takeE z.x th = 0 := by simp [takeE, hth, hx]
  have e1 : takeR z.x th = z.x.n + 1 := by simp [takeR, hth, hx]
  have q1 : cS c (z, Cm.new so ge th sp ps wr n, df) 1 = (z.take th, ⟨so, ge, th, sp, ps, Lk.new wr n so, .own, 0, false, z.x.n + 1⟩, df) := by
    simp [cS, stp, Cm.new, Cm.next, SSt.commits, Cm.nextDf, e0, e1]
  have q2 : cS c (z, Cm.new so ge th sp ps wr n, df) 2 = ((z.take th).look so, ⟨so, ge, th, sp, ps, Lk.new wr n so, .look, 0, false, z.x.n + 1⟩, df) := by
    show stp c (cS c _ 1) = _
    rw [q1]
    have hm' : (nowAt (z.take th).hs so).mine ge = true := hm
    have hl' : ¬ (Lk.new wr n so).left = [] := hl
    simp [stp, Cm.next, SSt.commits, Cm.nextDf, hm', Cm.lookOn, Cm.lookDf, hl']
  refine ⟨q2, fun j hj => ?_⟩
  rcases (show j = 0 ∨ j = 1 by omega) with rfl | rfl
  · refine ⟨rfl, ?_⟩
    show (Cm.new so ge th sp ps wr n).ans z = 1
    simp [Cm.ans, Cm.new, e0]
  · rw [q1]
    exact ⟨rfl, rfl⟩
/-- It looks. -/
theorem run_look {k0 : Lk} {nm : Int} {S : Nat} (hS : 0 < S) (h1 : ∀ i, i < S → (kS z k0 i).2.left ≠ []) (h2 : (kS z k0 S).2.left = []) :
    cS c (z, ⟨so, ge, th, sp, ps, k0, .look, 0, false, nm⟩, df) S = ((kS z k0 S).1, (⟨so, ge, th, sp, ps, (kS z k0 S).2, .look, 0, false, nm⟩ : Cm).judged (vdV c sp df (kS z k0 S).2.vs), nxt c sp df (kS z k0 S).2.vs) ∧ Runs c (z, ⟨so, ge, th, sp, ps, k0, .look, 0, false, nm⟩, df) S := by
  have q : ∀ j, j < S → cS c (z, ⟨so, ge, th, sp, ps, k0, .look, 0, false, nm⟩, df) j = ((kS z k0 j).1, ⟨so, ge, th, sp, ps, (kS z k0 j).2, .look, 0, false, nm⟩, df) := by
    intro j
    induction j with
    | zero => intro _; rfl
    | succ j ih =>
      intro hj
      show stp c (cS c _ j) = _
      rw [ih (by omega)]
      have hl : ¬ ((kS z k0 j).2.next (kS z k0 j).1).left = [] := h1 (j + 1) hj
      simp [stp, Cm.next, SSt.commits, Cm.nextDf, Cm.looked, Cm.lookOn, Cm.lookDf, hl, kS]
  refine ⟨?_, fun j hj => ?_⟩
  · obtain ⟨s, rfl⟩ : ∃ s, S = s + 1 := ⟨S - 1, by omega⟩
    show stp c (cS c _ s) = _
    rw [q s (by omega)]
    have hl : ((kS z k0 s).2.next (kS z k0 s).1).left = [] := h2
    simp [stp, Cm.next, SSt.commits, Cm.nextDf, Cm.looked, Cm.lookOn, Cm.lookDf, hl, kS]
  · rw [q j hj]
    exact ⟨rfl, rfl⟩
end
section
variable {c : Cfg} {z : SSt} {x : Cm} {df : Int}
theorem doomOn_doomOn (x : Cm) (d e : Dm) : (x.doomOn d).doomOn e = x.doomOn e := rfl
/-- It dooms. -/
theorem run_doom (d : Dm) : cS c (z, x.doomOn d, df) d.left.length = ((dzS z d d.left.length).1, x.doomOn (dzS z d d.left.length).2, df) ∧ Runs c (z, x.doomOn d, df) d.left.length := by
  have hl : ∀ j, j < d.left.length → (dzS z d j).2.left ≠ [] := fun j hj e => by
    rw [(dzS_left (z := z) (d := d) j).1] at e
    have := List.drop_eq_nil_iff.1 e
    omega
  have st : ∀ (y : SSt) (d' : Dm), d'.left ≠ [] → (x.doomOn d').st = .doom d' := fun y d' h => by simp [Cm.doomOn, h]
  have q : ∀ j, j ≤ d.left.length → cS c (z, x.doomOn d, df) j = ((dzS z d j).1, x.doomOn (dzS z d j).2, df) := by
    intro j
    induction j with
    | zero => intro _; rfl
    | succ j ih =>
      intro hj
      show stp c (cS c _ j) = _
      rw [ih (by omega)]
      have := st (dzS z d j).1 _ (hl j (by omega))
      simp only [stp, Cm.next, SSt.commits, Cm.nextDf, this, doomOn_doomOn, dzS]
  refine ⟨q _ (Nat.le_refl _), fun j hj => ?_⟩
  rw [q j (by omega)]
  have := st (dzS z d j).1 _ (hl j hj)
  simp [Cm.done, Cm.ans, this, Stg.isOver]
def zW (z : SSt) (l : List Pr) : SSt := l.foldl (fun z p => z.store p.ce p.x) z
theorem zW_one (z : SSt) (l : List Pr) (p : Pr) : zW z (l ++ [p]) = (zW z l).store p.ce p.x := by simp [zW]
def putL (xs : List Int) (l : List Pr) : List Int := l.foldl (fun a p => storeX a p.ce p.x) xs
theorem zW_rest (l : List Pr) : ∀ z : SSt, (zW z l).x = z.x ∧ (zW z l).hs = z.hs ∧ (zW z l).ws = z.ws ∧ (zW z l).xs = putL z.xs l := by
  induction l with
  | nil => intro z; exact ⟨rfl, rfl, rfl, rfl⟩
  | cons p l ih =>
    intro z
    obtain ⟨a, b, c, d⟩ := ih (z.store p.ce p.x)
    exact ⟨a, b, c, d⟩
/-- It writes. -/
theorem run_write (hw : 0 < x.wr.length) : cS c (z, { x with st := .write 0 }, df) x.wr.length = (zW z x.wr, { x with st := .give }, df) ∧ Runs c (z, { x with st := .write 0 }, df) x.wr.length := by
  have q : ∀ k, k < x.wr.length → cS c (z, { x with st := .write 0 }, df) k = (zW z (x.wr.take k), { x with st := .write k }, df) := by
    intro k
    induction k with
    | zero => intro _; rfl
    | succ k ih =>
      intro hk
      show stp c (cS c _ k) = _
      rw [ih (by omega)]
      have e : x.wr.getD k Pr.zero = x.wr[k] := by rw [List.getD_eq_getElem?_getD, List.getElem?_eq_getElem (by omega)]; rfl
      rw [List.take_succ_eq_append_getElem (by omega), zW_one]
      simp only [stp, Cm.next, SSt.commits, Cm.nextDf, e]
      rw [if_neg (by omega)]
  refine ⟨?_, fun j hj => ?_⟩
  · obtain ⟨s, hs⟩ : ∃ s, x.wr.length = s + 1 := ⟨x.wr.length - 1, by omega⟩
    rw [hs]
    show stp c (cS c _ s) = _
    rw [q s (by omega)]
    have e : x.wr.getD s Pr.zero = x.wr[s]'(by omega) := by rw [List.getD_eq_getElem?_getD, List.getElem?_eq_getElem (by omega)]; rfl
    have e2 : x.wr = x.wr.take s ++ [x.wr[s]'(by omega)] := by
      rw [← List.take_succ_eq_append_getElem (by omega), ← hs, List.take_length]
    simp only [stp, Cm.next, SSt.commits, Cm.nextDf, e]
    rw [if_pos (by omega)]
    conv => rhs; rw [e2]
    rw [zW_one]
    rw [← e2]
  · rw [q j hj]
    exact ⟨rfl, rfl⟩
/-- It ends. -/
theorem run_give : cS c (z, { x with st := .give }, df) 2 = ((z.give x.th).op (freeOp x.ge) x.so, { x with won := true, st := .over }, df) ∧ Runs c (z, { x with st := .give }, df) 2 := by
  refine ⟨rfl, fun j hj => ?_⟩
  rcases (show j = 0 ∨ j = 1 by omega) with rfl | rfl <;> exact ⟨rfl, rfl⟩
theorem run_up : cS c (z, { x with st := .up }, df) 2 = ((z.give x.th).op (freeOp x.ge) x.so, { x with st := .over }, df) ∧ (∀ j, j < 2 → (cS c (z, { x with st := .up }, df) j).2.1.done = false ∧ (cS c (z, { x with st := .up }, df) j).2.1.ans (cS c (z, { x with st := .up }, df) j).1 = if j = 0 ∧ x.e = 9 then 2 else 1) := by
  refine ⟨rfl, fun j hj => ?_⟩
  rcases (show j = 0 ∨ j = 1 by omega) with rfl | rfl
  · refine ⟨rfl, ?_⟩
    show (if x.e = 9 then (2 : Int) else 1) = _
    simp
  · exact ⟨rfl, rfl⟩
end
/-- What a commit alone meets, and what is judged. -/
def vicsOf (z : SSt) (wr : Sg) (so : Nat) : List Vt := wantOf z.hs z.ws wr (othersOf z.hs.length so)
def lookN (z : SSt) (so : Nat) : Nat := stepsOf z.hs (othersOf z.hs.length so)
/-- Behind the look: the space has the same heads, words, cells and the gate is held. -/
def heldZ (z : SSt) (wr : Sg) (so : Nat) (th : Int) : SSt := (kS ((z.take th).look so) (Lk.new wr z.hs.length so) (lookN z so)).1
theorem kS_rest (z : SSt) (k : Lk) (j : Nat) : (kS z k j).1.x = z.x ∧ (kS z k j).1.xs = z.xs ∧ (kS z k j).1.hs = z.hs ∧ (kS z k j).1.ws = z.ws := by
  induction j with
  | zero => exact ⟨rfl, rfl, rfl, rfl⟩
  | succ j ih =>
    have e : ∀ (y : SSt) (q : Lk), (y.looks q).x = y.x ∧ (y.looks q).xs = y.xs ∧ (y.looks q).hs = y.hs ∧ (y.looks q).ws = y.ws := fun y q => by
      unfold SSt.looks
      split
      · exact ⟨rfl, rfl, rfl, rfl⟩
      · split <;> exact ⟨rfl, rfl, rfl, rfl⟩
    obtain ⟨a1, a2, a3, a4⟩ := e (kS z k j).1 (kS z k j).2
    exact ⟨a1.trans ih.1, a2.trans ih.2.1, a3.trans ih.2.2.1, a4.trans ih.2.2.2⟩
theorem heldZ_rest {z : SSt} {wr : Sg} {so : Nat} {th : Int} (hth : gTh th = true) (hx : z.x.o = 0) : (heldZ z wr so th).x = ⟨z.x.n + 1, th⟩ ∧ (heldZ z wr so th).xs = z.xs ∧ (heldZ z wr so th).hs = z.hs ∧ (heldZ z wr so th).ws = z.ws := by
  obtain ⟨a1, a2, a3, a4⟩ := kS_rest ((z.take th).look so) (Lk.new wr z.hs.length so) (lookN z so)
  refine ⟨?_, a2, a3, a4⟩
  unfold heldZ
  rw [a1]
  show takeX z.x th = _
  simp [takeX, hth, hx]
section
variable {c : Cfg} {z : SSt} {so : Nat} {ge th sp : Int} {ps : List Pr} {wr : Sg} {df : Int}
/-- From the beginning until it is judged. -/
theorem run_judged (hth : gTh th = true) (hx : z.x.o = 0) (hm : (nowAt z.hs so).mine ge = true) (hl : othersOf z.hs.length so ≠ []) :
    ∃ lk : Lk, lk.vs = vicsOf z wr so ∧ cS c (z, Cm.new so ge th sp ps wr z.hs.length, df) (2 + lookN z so) = (heldZ z wr so th, (⟨so, ge, th, sp, ps, lk, .look, 0, false, z.x.n + 1⟩ : Cm).judged (vdV c sp df (vicsOf z wr so)), nxt c sp df (vicsOf z wr so)) ∧ Runs c (z, Cm.new so ge th sp ps wr z.hs.length, df) (2 + lookN z so) := by
  obtain ⟨q1, r1⟩ := run_take (c := c) (sp := sp) (ps := ps) (wr := wr) (n := z.hs.length) (df := df) hth hx hm hl
  obtain ⟨k1, k2⟩ := kS_run (z := (z.take th).look so) (k := Lk.new wr z.hs.length so) (othersOf z.hs.length so) 0 wr [] rfl
  have hN : stepsOf ((z.take th).look so).hs (othersOf z.hs.length so) = lookN z so := rfl
  rw [hN] at k1 k2
  simp only [Nat.zero_add] at k1 k2
  have hS : 0 < lookN z so := by
    unfold lookN
    cases ho : othersOf z.hs.length so with
    | nil => exact absurd ho hl
    | cons s l =>
      have : 1 ≤ costOf z.hs s := by unfold costOf; split <;> omega
      simp only [stepsOf]
      omega
  obtain ⟨q2, r2⟩ := run_look (c := c) (z := (z.take th).look so) (so := so) (ge := ge) (th := th) (sp := sp) (ps := ps) (df := df) (k0 := Lk.new wr z.hs.length so) (nm := z.x.n + 1) hS k1 (by rw [k2])
  have hv : (kS ((z.take th).look so) (Lk.new wr z.hs.length so) (lookN z so)).2.vs = vicsOf z wr so := by rw [k2]; rfl
  refine ⟨_, hv, ?_, r1.add (by rw [q1]; exact r2)⟩
  rw [cS_add, q1, q2, hv]
  rfl
/-- What is left behind one that gives up. -/
theorem run_lost {lk : Lk} {z1 : SSt} {nm df1 e : Int} :
    cS c (z1, (⟨so, ge, th, sp, ps, lk, .look, 0, false, nm⟩ : Cm).giveUp e, df1) 2 = ((z1.give th).op (freeOp ge) so, ⟨so, ge, th, sp, ps, lk, .over, e, false, nm⟩, df1) ∧ (∀ j, j < 2 → (cS c (z1, (⟨so, ge, th, sp, ps, lk, .look, 0, false, nm⟩ : Cm).giveUp e, df1) j).2.1.done = false ∧ (cS c (z1, (⟨so, ge, th, sp, ps, lk, .look, 0, false, nm⟩ : Cm).giveUp e, df1) j).2.1.ans (cS c (z1, (⟨so, ge, th, sp, ps, lk, .look, 0, false, nm⟩ : Cm).giveUp e, df1) j).1 = if j = 0 ∧ e = 9 then 2 else 1) :=
  run_up (c := c) (z := z1) (x := ⟨so, ge, th, sp, ps, lk, .look, e, false, nm⟩) (df := df1)
/-- What is left behind one that wins. -/
theorem run_won {lk : Lk} {z1 : SSt} {nm df1 : Int} (vs : List Vt) (hp : 0 < ps.length) :
    cS c (z1, (⟨so, ge, th, sp, ps, lk, .look, 0, false, nm⟩ : Cm).doomOn ⟨th, vs, []⟩, df1) (vs.length + (ps.length + 2)) = ((((zW (dzS z1 ⟨th, vs, []⟩ vs.length).1 ps).give th).op (freeOp ge) so), ⟨so, ge, th, sp, ps, lk, .over, 0, true, nm⟩, df1) ∧ Runs c (z1, (⟨so, ge, th, sp, ps, lk, .look, 0, false, nm⟩ : Cm).doomOn ⟨th, vs, []⟩, df1) (vs.length + (ps.length + 2)) := by
  obtain ⟨q1, r1⟩ := run_doom (c := c) (z := z1) (x := ⟨so, ge, th, sp, ps, lk, .look, 0, false, nm⟩) (df := df1) ⟨th, vs, []⟩
  have hn : (dzS z1 ⟨th, vs, []⟩ vs.length).2.left = [] := by
    rw [(dzS_left (z := z1) (d := ⟨th, vs, []⟩) vs.length).1]
    exact List.drop_eq_nil_of_le (Nat.le_refl _)
  have e : (⟨so, ge, th, sp, ps, lk, .look, 0, false, nm⟩ : Cm).doomOn (dzS z1 ⟨th, vs, []⟩ vs.length).2 = ⟨so, ge, th, sp, ps, lk, .write 0, 0, false, nm⟩ := by simp [Cm.doomOn, hn]
  simp only at q1 r1
  rw [e] at q1
  obtain ⟨q2, r2⟩ := run_write (c := c) (z := (dzS z1 ⟨th, vs, []⟩ vs.length).1) (x := ⟨so, ge, th, sp, ps, lk, .write 0, 0, false, nm⟩) (df := df1) hp
  obtain ⟨q3, r3⟩ := run_give (c := c) (z := zW (dzS z1 ⟨th, vs, []⟩ vs.length).1 ps) (x := ⟨so, ge, th, sp, ps, lk, .give, 0, false, nm⟩) (df := df1)
  simp only at q2 r2 q3 r3
  refine ⟨?_, ?_⟩
  · rw [cS_add, q1, cS_add, q2, q3]
  · refine r1.add ?_
    rw [q1]
    refine r2.add ?_
    rw [q2]
    exact r3
end
theorem dzS_rest (z : SSt) (d : Dm) (j : Nat) : (dzS z d j).1.x = z.x ∧ (dzS z d j).1.xs = z.xs ∧ (dzS z d j).1.ws = z.ws := by
  induction j with
  | zero => exact ⟨rfl, rfl, rfl⟩
  | succ j ih =>
    have e : ∀ (y : SSt) (q : Dm), (y.dooms q).x = y.x ∧ (y.dooms q).xs = y.xs ∧ (y.dooms q).ws = y.ws := fun y q => by
      unfold SSt.dooms
      split <;> exact ⟨rfl, rfl, rfl⟩
    obtain ⟨a1, a2, a3⟩ := e (dzS z d j).1 (dzS z d j).2
    exact ⟨a1.trans ih.1, a2.trans ih.2.1, a3.trans ih.2.2⟩
end Go.Proofs.YtgjmamgohidbiabGreat

namespace Go.Proofs.YtgjmamgohidbiabGreat
open Go.RowKit
set_option linter.unusedVariables false
set_option linter.unusedSimpArgs false

def dfF (i : Nat) : SeD := ⟨true, false, i, 255, 0⟩
def dfP : List Pr := [⟨1, 4⟩]
def dfW : Sg := (ofR (cesOf dfP) 8).1
def dfZ (c : Cfg) (n : Nat) : SSt := seatsZ (liveZ c) dfF n
def dfH (n : Nat) : List Hd := (dfZ ⟨64, 8, 8, 2, 0, 0⟩ n).hs
def dfWs (n : Nat) : List Int := (dfZ ⟨64, 8, 8, 2, 0, 0⟩ n).ws
def dfV (n : Nat) : List Vt := wantOf (dfH n) (dfWs n) dfW (othersOf 8 0)
theorem dfV_len : ∀ n, n < 8 → (dfV n).length = n := by decide +kernel
theorem dfV_so : ∀ n, n < 8 → ∀ p, p < n → ((dfV n).getD p Vt.zero).so = p + 1 := by decide +kernel
theorem dfH_len : ∀ n, n < 8 → (dfH n).length = 8 := by decide +kernel
theorem dfW_ok : dfW.ok := ⟨by decide +kernel, by decide +kernel⟩
structure DfC (c : Cfg) (n : Nat) : Prop where
  live : LiveOk c
  sl : c.sl = 8
  bi : c.bi = 8
  ta : c.ta = 2
  b0 : 0 ≤ c.ba
  b7 : c.ba ≤ 7
  d0 : 0 ≤ c.de
  d63 : c.de ≤ 63
  n8 : n < 8
  hs : (dfZ c n).hs = dfH n
  ws : (dfZ c n).ws = dfWs n
  xs : (dfZ c n).xs = List.replicate 64 0
  ck : ckE c (0 : Nat) 1 5 dfP = 0
theorem dfHs (a b : Int) : ∀ n, n < 8 → (dfZ ⟨64, 8, 8, 2, a, b⟩ n).hs = dfH n ∧ (dfZ ⟨64, 8, 8, 2, a, b⟩ n).ws = dfWs n
  | 0, _ => ⟨rfl, rfl⟩
  | 1, _ => ⟨rfl, rfl⟩
  | 2, _ => ⟨rfl, rfl⟩
  | 3, _ => ⟨rfl, rfl⟩
  | 4, _ => ⟨rfl, rfl⟩
  | 5, _ => ⟨rfl, rfl⟩
  | 6, _ => ⟨rfl, rfl⟩
  | 7, _ => ⟨rfl, rfl⟩
  | n + 8, h => absurd h (by omega)
theorem dfC (bias most : Int) {n : Nat} (hn : n < 8) : DfC (cfgOf 1 7 bias most) n := by
  have e : cfgOf 1 7 bias most = ⟨64, 8, 8, 2, bias % 8, most % 64⟩ := rfl
  have hl : LiveOk (cfgOf 1 7 bias most) := cfgOf_live ..
  rw [e] at hl ⊢
  obtain ⟨h1, h2⟩ := dfHs (bias % 8) (most % 64) n hn
  refine ⟨hl, rfl, rfl, rfl, by show 0 ≤ bias % 8; omega, by show bias % 8 ≤ 7; omega, by show 0 ≤ most % 64; omega, by show most % 64 ≤ 63; omega, hn, h1, h2, ?_, rfl⟩
  exact (seatsZ_rest _ _ _).2
theorem DfC.ok {c : Cfg} {n : Nat} (h : DfC c n) : (dfZ c n).ok c 37 := (seatsZ_ok h.live.ok dfF n).more (by have := h.n8; omega)
theorem dfWs_ok {n : Nat} (h : n < 8) : WsOk (dfWs n) := seatsZ_wok (WsOk.rep 16) dfF n (fun i _ => ⟨by show 255 < _; decide, by show 0 < _; decide⟩)

/-- Ahead of try t. -/
structure DI (n t : Nat) (z : SSt) : Prop where
  x : z.x = ⟨2 * (t : Int), 0⟩
  ws : z.ws = dfWs n
  hl : z.hs.length = 8
  ot : ∀ s : Nat, 1 ≤ s → z.hs[s]? = (dfH n)[s]?
  xs : z.xs = List.replicate 64 0
theorem wantOf_congr {hs hs' : List Hd} (ws : List Int) (wr : Sg) (hl : hs.length = hs'.length) : ∀ l : List Nat, (∀ s, s ∈ l → nowAt hs (s : Nat) = nowAt hs' (s : Nat)) → wantOf hs ws wr l = wantOf hs' ws wr l
  | [], _ => rfl
  | s :: l, h => by
    have e := h s (by simp)
    have ih := wantOf_congr ws wr hl l (fun q hq => h q (by simp [hq]))
    unfold wantOf at *
    have e1 : isVic hs ws wr s = isVic hs' ws wr s := by unfold isVic sgAt; rw [e, hl]
    have e2 : vicOf hs s = vicOf hs' s := by unfold vicOf; rw [e]
    simp only [List.filter_cons, e1]
    split
    · simp only [List.map_cons, ih, e2]
    · exact ih
theorem DI.now {n t : Nat} {z : SSt} (h : DI n t z) (hn : n < 8) {s : Nat} (hs : 1 ≤ s) : nowAt z.hs (s : Nat) = nowAt (dfH n) (s : Nat) := by
  unfold nowAt headAt
  rw [if_pos (by omega), if_pos (by omega), Int.toNat_natCast, h.ot s hs]
theorem DI.vics {n t : Nat} {z : SSt} (h : DI n t z) (hn : n < 8) : vicsOf z dfW 0 = dfV n := by
  unfold vicsOf dfV
  rw [h.hl, h.ws]
  refine wantOf_congr _ _ (by rw [h.hl, dfH_len n hn]) _ (fun s hs => h.now hn ?_)
  have := (List.mem_filter.1 (show s ∈ (List.range 8).filter (fun i => i != 0) from hs)).2
  simp at this
  omega
theorem vd_two {c : Cfg} {n : Nat} (h : DfC c n) {t : Nat} (sp : Int) {zs : List Vt} (hz : zs.length = n) : vdV c sp t zs = if c.ba < n ∧ (t : Int) < c.de then 2 else 1 := by
  unfold vdV vdOk
  rw [h.live.f, h.ta, hz]
  simp
/-- All of them are doomed. -/
theorem doomed_all {z : SSt} {c : Cfg} {N : Nat} (hok : z.ok c N) {wr : Sg} {own : Nat} {WN : List Vt} (hWN : WN = wantOf z.hs z.ws wr (othersOf z.hs.length own)) : ∀ j, j ≤ WN.length → ∀ p (hp : p < WN.length), p < j → ((dzS z ⟨1, WN, []⟩ j).1.hs.getD WN[p].so.toNat Hd.zero).dm = true ∧ ((dzS z ⟨1, WN, []⟩ j).1.hs.getD WN[p].so.toNat Hd.zero).wy = 1 := by
  intro j
  induction j with
  | zero => intro _ p _ h; omega
  | succ j ih =>
    intro hj p hp hpj
    obtain ⟨s, s1, s2, _, s4⟩ := doom_roundW hok (wy := 1) rfl hWN (j := j) (by omega)
    have hlen : (dzS z ⟨1, WN, []⟩ j).1.hs.length = z.hs.length := by
      have h1 := (dzS_ok (d := ⟨1, WN, []⟩) hok j).hl
      have h2 := hok.hl
      omega
    rw [s4]
    by_cases e : WN[p].so.toNat = s
    · rw [e, List.getD_eq_getElem?_getD, List.getElem?_set_self (by omega)]
      exact ⟨rfl, rfl⟩
    · have hpj2 : p < j := by
        by_cases h : p < j
        · exact h
        · obtain rfl : p = j := by omega
          rw [s2] at e
          simp at e
      have := ih (by omega) p hp hpj2
      rw [List.getD_eq_getElem?_getD, List.getElem?_set_ne (by omega), ← List.getD_eq_getElem?_getD]
      exact this
theorem othersOf8 : othersOf 8 0 ≠ [] := by decide
theorem look_le (z : SSt) (h : z.hs.length = 8) : lookN z 0 ≤ 24 := by
  unfold lookN
  have h1 := stepsOf_le z.hs (othersOf z.hs.length 0)
  have h2 := othersOf_le z.hs.length 0
  omega
theorem free_at0 {hs : List Hd} {g : Int} {h : Hd} (hl : hs.length = 8) (h0 : nowAt hs 0 = h) (hg : h.gn = g) (hs2 : (h.sa == 0) = false) : nowAt ((freeOp g).H hs 0) 0 = ⟨g, 0, 0, 0, false, 0⟩ ∧ ((freeOp g).H hs 0).length = 8 ∧ ∀ s : Nat, 1 ≤ s → ((freeOp g).H hs 0)[s]? = hs[s]? := by
  have e : headAt hs 0 = some h := by
    have := headAt_in (hs := hs) (k := 0) (by omega)
    rw [show ((0 : Nat) : Int) = 0 from rfl] at this
    unfold nowAt at h0
    rw [this] at h0 ⊢
    simp at h0
    rw [h0]
  have eH : (freeOp g).H hs 0 = hs.set 0 ⟨g, 0, 0, 0, false, 0⟩ := by
    unfold HOp.H
    simp [freeOp, e, hs2, hg]
  rw [eH]
  refine ⟨?_, by simp [hl], fun s hs => by rw [List.getElem?_set_ne (by omega)]⟩
  unfold nowAt headAt
  simp [hl]
/-- A try. -/
theorem df_try {c : Cfg} {n t N : Nat} {z : SSt} (hc : DfC c n) (h : DI n t z) (ho : nowAt z.hs 0 = ⟨(t : Int) + 1, 2, 5, 1, false, 0⟩) (ok : z.ok c N) :
    ∃ K z1 x1 df1, K ≤ 50 ∧ (∀ j, j < K → (cS c (z, Cm.new 0 ((t : Int) + 1) 1 5 dfP dfW 8, (t : Int)) j).2.1.done = false) ∧ cS c (z, Cm.new 0 ((t : Int) + 1) 1 5 dfP dfW 8, (t : Int)) K = (z1, x1, df1) ∧ x1.done = true ∧ x1.lk.vs.length = n ∧ z1.x.n = 2 * ((t : Int) + 1) ∧
      ((c.ba < n ∧ (t : Int) < c.de → df1 = (t : Int) + 1 ∧ x1.end_ = 9 ∧ DI n (t + 1) z1 ∧ nowAt z1.hs 0 = ⟨(t : Int) + 1, 0, 0, 0, false, 0⟩) ∧
       (¬ (c.ba < n ∧ (t : Int) < c.de) → df1 = t ∧ x1.end_ = 0 ∧ z1.xs.getD 1 0 = 4 ∧ z1.xs.length = 64 ∧ ∀ i : Nat, 1 ≤ i → i ≤ n → (z1.hs.getD i Hd.zero).dm = true ∧ (z1.hs.getD i Hd.zero).wy = 1)) := by
  have hn := hc.n8
  have hv := h.vics hn
  have hvl := dfV_len n hn
  have hxo : z.x.o = 0 := by rw [h.x]
  obtain ⟨lk, l1, l2, l3⟩ := run_judged (c := c) (z := z) (so := 0) (ge := (t : Int) + 1) (th := 1) (sp := 5) (ps := dfP) (wr := dfW) (df := (t : Int)) rfl hxo (by rw [show (((0 : Nat) : Int)) = 0 from rfl, ho]; simp [Hd.mine]) (by rw [h.hl]; exact othersOf8)
  rw [h.hl] at l2 l3
  rw [hv] at l1 l2
  have hlN := look_le z h.hl
  have hvd := vd_two hc (t := t) 5 hvl
  rw [hvd] at l2
  obtain ⟨r1, r2, r3, r4⟩ := heldZ_rest (z := z) (wr := dfW) (so := 0) (th := 1) rfl hxo
  have hxn : z.x.n = 2 * (t : Int) := by rw [h.x]
  have ohead : nowAt (heldZ z dfW 0 1).hs 0 = ⟨(t : Int) + 1, 2, 5, 1, false, 0⟩ := by rw [r3]; exact ho
  by_cases hd : c.ba < n ∧ (t : Int) < c.de
  · rw [if_pos hd] at l2
    have hnx : nxt c 5 (t : Int) (dfV n) = (t : Int) + 1 := by unfold nxt; rw [hvd, if_pos hd]; rfl
    rw [hnx] at l2
    have hj : (⟨((0 : Nat) : Int), (t : Int) + 1, 1, 5, dfP, lk, .look, 0, false, z.x.n + 1⟩ : Cm).judged 2 = (⟨((0 : Nat) : Int), (t : Int) + 1, 1, 5, dfP, lk, .look, 0, false, z.x.n + 1⟩ : Cm).giveUp 9 := rfl
    rw [hj] at l2
    obtain ⟨q1, q2⟩ := run_lost (c := c) (so := 0) (ge := (t : Int) + 1) (th := 1) (sp := 5) (ps := dfP) (lk := lk) (z1 := heldZ z dfW 0 1) (nm := z.x.n + 1) (df1 := (t : Int) + 1) (e := 9)
    obtain ⟨f1, f2, f3⟩ := free_at0 (hs := (heldZ z dfW 0 1).hs) (g := (t : Int) + 1) (by rw [r3]; exact h.hl) ohead rfl rfl
    refine ⟨2 + lookN z 0 + 2, _, _, _, by omega, fun j hj => ?_, by rw [cS_add, l2, q1], rfl, by rw [l1]; exact hvl, ?_, fun _ => ⟨rfl, rfl, ⟨?_, ?_, f2, ?_, ?_⟩, f1⟩, fun e => absurd hd e⟩
    · by_cases hja : j < 2 + lookN z 0
      · exact (l3 j hja).1
      · obtain ⟨i, rfl⟩ : ∃ i, j = 2 + lookN z 0 + i := ⟨j - (2 + lookN z 0), by omega⟩
        rw [cS_add, l2]
        exact (q2 i (by omega)).1
    · show (giveX (heldZ z dfW 0 1).x 1).n = _
      rw [r1]
      show z.x.n + 1 + 1 = _
      omega
    · show giveX (heldZ z dfW 0 1).x 1 = _
      rw [r1]
      show (⟨z.x.n + 1 + 1, 0⟩ : Gt) = _
      rw [hxn]
      congr 1
    · show (heldZ z dfW 0 1).ws = _
      rw [r4]; exact h.ws
    · intro s hs
      show ((freeOp ((t : Int) + 1)).H (heldZ z dfW 0 1).hs 0)[s]? = _
      rw [f3 s hs, r3]; exact h.ot s hs
    · show (heldZ z dfW 0 1).xs = _
      rw [r2]; exact h.xs
  · rw [if_neg hd] at l2
    have hnx : nxt c 5 (t : Int) (dfV n) = (t : Int) := by unfold nxt; rw [hvd, if_neg hd]; rfl
    rw [hnx] at l2
    have hj : (⟨((0 : Nat) : Int), (t : Int) + 1, 1, 5, dfP, lk, .look, 0, false, z.x.n + 1⟩ : Cm).judged 1 = (⟨((0 : Nat) : Int), (t : Int) + 1, 1, 5, dfP, lk, .look, 0, false, z.x.n + 1⟩ : Cm).doomOn ⟨1, lk.vs, []⟩ := rfl
    rw [hj, l1] at l2
    obtain ⟨q1, q2⟩ := run_won (c := c) (so := 0) (ge := (t : Int) + 1) (th := 1) (sp := 5) (ps := dfP) (lk := lk) (z1 := heldZ z dfW 0 1) (nm := z.x.n + 1) (df1 := (t : Int)) (dfV n) (by decide)
    rw [hvl] at q1 q2
    have hwant : dfV n = wantOf (heldZ z dfW 0 1).hs (heldZ z dfW 0 1).ws dfW (othersOf (heldZ z dfW 0 1).hs.length 0) := by
      rw [r3, r4]; exact hv.symm
    have okh : (heldZ z dfW 0 1).ok c (N + 2 + lookN z 0) := kS_ok ((ok.take 1).look 0) _
    obtain ⟨d1, d2, d3⟩ := dzS_rest (heldZ z dfW 0 1) ⟨1, dfV n, []⟩ n
    obtain ⟨w1, w2, w3, w4⟩ := zW_rest dfP (dzS (heldZ z dfW 0 1) ⟨1, dfV n, []⟩ n).1
    refine ⟨2 + lookN z 0 + (n + (dfP.length + 2)), _, _, _, by have : dfP.length = 1 := rfl; omega, fun j hj => ?_, by rw [cS_add, l2, q1], rfl, by rw [l1]; exact hvl, ?_, fun e => absurd e hd, fun _ => ⟨rfl, rfl, ?_, ?_, ?_⟩⟩
    · by_cases hja : j < 2 + lookN z 0
      · exact (l3 j hja).1
      · obtain ⟨i, rfl⟩ : ∃ i, j = 2 + lookN z 0 + i := ⟨j - (2 + lookN z 0), by omega⟩
        rw [cS_add, l2]
        exact (q2 i (by omega)).1
    · show (giveX (zW (dzS (heldZ z dfW 0 1) ⟨1, dfV n, []⟩ n).1 dfP).x 1).n = _
      rw [w1, d1, r1]
      show z.x.n + 1 + 1 = _
      omega
    · show (zW (dzS (heldZ z dfW 0 1) ⟨1, dfV n, []⟩ n).1 dfP).xs.getD 1 0 = 4
      rw [w4, d2, r2, h.xs]
      decide +kernel
    · show (zW (dzS (heldZ z dfW 0 1) ⟨1, dfV n, []⟩ n).1 dfP).xs.length = 64
      rw [w4, d2, r2, h.xs]
      decide +kernel
    · intro i hi1 hi2
      have hp : i - 1 < (dfV n).length := by rw [hvl]; omega
      have hda := doomed_all okh (wr := dfW) (own := 0) hwant n (by rw [hvl]; exact Nat.le_refl _) (i - 1) hp (by omega)
      have hso : ((dfV n)[i - 1]).so = (i : Int) := by
        have := dfV_so n hn (i - 1) (by omega)
        rw [List.getD_eq_getElem?_getD, List.getElem?_eq_getElem hp] at this
        simp only [Option.getD_some] at this
        omega
      rw [hso, Int.toNat_natCast] at hda
      have e : ((freeOp ((t : Int) + 1)).H (zW (dzS (heldZ z dfW 0 1) ⟨1, dfV n, []⟩ n).1 dfP).hs 0)[i]? = (dzS (heldZ z dfW 0 1) ⟨1, dfV n, []⟩ n).1.hs[i]? := by
        rw [w2]
        unfold HOp.H
        split
        · split
          · rfl
          · split
            · rw [List.getElem?_set_ne (by simp; omega)]
            · rfl
        · rfl
      show (((freeOp ((t : Int) + 1)).H (zW (dzS (heldZ z dfW 0 1) ⟨1, dfV n, []⟩ n).1 dfP).hs 0).getD i Hd.zero).dm = true ∧ (((freeOp ((t : Int) + 1)).H (zW (dzS (heldZ z dfW 0 1) ⟨1, dfV n, []⟩ n).1 dfP).hs 0).getD i Hd.zero).wy = 1
      rw [List.getD_eq_getElem?_getD, e, ← List.getD_eq_getElem?_getD]
      exact hda
end Go.Proofs.YtgjmamgohidbiabGreat
