/- A stack beside the document's: what holds of them, and what a step leaves. No walk here. -/
import Derived.Test.YtgbhefbhleflhaaApart
namespace Go.Proofs.Ytgbhefbhleflhaa
open Go.RowKit
set_option linter.unusedVariables false
set_option linter.unusedSimpArgs false

/-- The same numbers lie on both. -/
structure Two (B : Nat) (w : World) (p q : Nat) (most : Int) (v u : Value) (ys : List Int) : Prop where
  a : StackAt 67 3 1 B w p most v ys.length (ys.map (Value.int .i64))
  x : StackAt 39 3 1 B w q most u ys.length (ys.map (Value.int .i64))
  ap : Apart p v q u
  hB : B ≤ w.heap.size
/-- What a step may have turned of them. -/
def Did (B : Nat) (w w' : World) (p q : Nat) (most : Int) (v u : Value) : Prop :=
  ∃ ys v' u', Two B w' p q most v' u' ys ∧ Kept (fun k => Foot p v k ∨ Foot q u k) w w' ∧ Fresh w v v' ∧ Fresh w u u'

section
variable {B : Nat} {w w0 w1 w2 : World} {p q : Nat} {most : Int} {v u : Value} {ys : List Int}
theorem Two.calm (h : Two B w p q most v u ys) (k : Kept (fun _ => False) w w1) : Two B w1 p q most v u ys :=
  ⟨h.a.calm k, h.x.calm k, h.ap, Nat.le_trans h.hB k.size⟩
theorem Two.did (h : Two B w p q most v u ys) (k : Kept (fun _ => False) w w1) : Did B w w1 p q most v u :=
  ⟨ys, v, u, h.calm k, k.calm, Fresh.refl _ _, Fresh.refl _ _⟩
/-- The document's stack, behind the program's call. -/
theorem Two.ref (h : Two B w0 p q most v u ys) {n : Nat} {xs : List Value} (t1 : Turned 67 3 1 B w0 w1 p most v n xs) : StackAt 39 3 1 B w1 q most u ys.length (ys.map (Value.int .i64)) ∧ B ≤ w1.heap.size := by
  obtain ⟨v', a1, a2, a3⟩ := t1
  exact ⟨h.x.other h.ap a2, Nat.le_trans h.hB a2.size⟩
theorem Two.box (h : Two B w p q most v u ys) (hs : Kept (fun _ => False) w w0) {n : Nat} {xs : List Value} (t1 : Turned 67 3 1 B w0 w1 p most v n xs) {b : Nat} (hb : w.heap.size = b) {ob : Obj} (ho : w0.heap[b]? = some ob) : w1.heap[b]? = some ob := by
  obtain ⟨v', a1, a2, a3⟩ := t1
  rw [a2.block b (lt_of_heap ho) (fun f => by have := (h.a.foot f).2; omega)]
  exact ho
theorem Two.both (h : Two B w p q most v u ys) (k0 : Kept (fun _ => False) w w0) {n : Nat} {xs : List Value} (t1 : Turned 67 3 1 B w0 w1 p most v n xs) (t2 : Turned 39 3 1 B w1 w2 q most u n xs) (zs : List Int) (hn : n = zs.length) (hx : xs = zs.map (Value.int .i64)) : Did B w w2 p q most v u := by
  subst hn hx
  have h0 := h.calm k0
  obtain ⟨v', a1, a2, a3⟩ := t1
  obtain ⟨u', x1, x2, x3⟩ := t2
  have ap1 := h0.ap.fresh a3 h0.x
  refine ⟨zs, v', u', ⟨a1.other ap1.symm x2, x1, (ap1.symm.fresh x3 a1).symm, Nat.le_trans (Nat.le_trans h0.hB a2.size) x2.size⟩, ?_, ?_, ?_⟩
  · refine Kept.trans (Kept.trans k0.calm a2 (fun i hi f => .inl f)) x2 (fun i hi f => .inr f)
  · intro g hg
    rcases a3 g hg with f | f
    · exact .inl f
    · exact .inr (Nat.le_trans k0.size f)
  · intro g hg
    rcases x3 g hg with f | f
    · exact .inl f
    · exact .inr (Nat.le_trans (Nat.le_trans k0.size a2.size) f)
end
end Go.Proofs.Ytgbhefbhleflhaa
