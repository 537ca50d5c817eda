/- Two stacks and the document's: what holds of them, and what a step or a copy leaves. No walk here. -/
import Derived.Test.YtgbhefbhleflhaaDoesAll
namespace Go.Proofs.Ytgbhefbhleflhaa
open Go.RowKit
set_option linter.unusedVariables false
set_option linter.unusedSimpArgs false

structure Four (w0 w : World) (pa px pb py : Nat) (va vx vb vy : Value) (ma mb : Int) (ra rb : List Int) : Prop where
  a : Two w0.heap.size w pa px ma va vx ra
  b : Two w0.heap.size w pb py mb vb vy rb
  ab : Apart pa va pb vb
  ay : Apart pa va py vy
  xb : Apart px vx pb vb
  xy : Apart px vx py vy
  kept : Kept (fun _ => False) w0 w

section
variable {w0 w w1 w2 w3 w4 : World} {pa px pb py : Nat} {va vx vb vy : Value} {ma mb : Int} {ra rb : List Int}
theorem Four.swap (h : Four w0 w pa px pb py va vx vb vy ma mb ra rb) : Four w0 w pb py pa px vb vy va vx mb ma rb ra :=
  ⟨h.b, h.a, h.ab.symm, h.xb.symm, h.ay.symm, h.xy.symm, h.kept⟩
theorem Four.calm (h : Four w0 w pa px pb py va vx vb vy ma mb ra rb) (k : Kept (fun _ => False) w w1) : Four w0 w1 pa px pb py va vx vb vy ma mb ra rb :=
  ⟨h.a.calm k, h.b.calm k, h.ab, h.ay, h.xb, h.xy, h.kept.trans k (fun _ _ f => f)⟩
theorem Four.did (h : Four w0 w pa px pb py va vx vb vy ma mb ra rb) (d : Did w0.heap.size w w1 pa px ma va vx) : ∃ va' vx' ra', Four w0 w1 pa px pb py va' vx' vb vy ma mb ra' rb := by
  obtain ⟨ys, v', u', t, k, f1, f2⟩ := d
  have n1 : ∀ i, Foot pb vb i → ¬ (Foot pa va i ∨ Foot px vx i) := fun i f g => g.elim (fun g => h.ab i g f) (fun g => h.xb i g f)
  have n2 : ∀ i, Foot py vy i → ¬ (Foot pa va i ∨ Foot px vx i) := fun i f g => g.elim (fun g => h.ay i g f) (fun g => h.xy i g f)
  refine ⟨v', u', ys, t, ⟨h.b.a.kept k n1, h.b.x.kept k n2, h.b.ap, Nat.le_trans h.b.hB k.size⟩, h.ab.fresh f1 h.b.a, h.ay.fresh f1 h.b.x, h.xb.fresh f2 h.b.a, h.xy.fresh f2 h.b.x, h.kept.trans k (fun i hi f => ?_)⟩
  rcases f with f | f
  · have := (h.a.a.foot f).1
    omega
  · have := (h.a.x.foot f).1
    omega
theorem Four.did2 (h : Four w0 w pa px pb py va vx vb vy ma mb ra rb) (d : Did w0.heap.size w w1 pb py mb vb vy) : ∃ vb' vy' rb', Four w0 w1 pa px pb py va vx vb' vy' ma mb ra rb' := by
  obtain ⟨v', u', ys, h'⟩ := h.swap.did d
  exact ⟨v', u', ys, h'.swap⟩
/-- The first one becomes a copy of the second one. -/
theorem Four.copied (h : Four w0 w pa px pb py va vx vb vy ma mb ra rb) {p q : Nat} {v u : Value} (ca : StackAt 67 3 1 w.heap.size w1 p mb v rb.length (rb.map (Value.int .i64))) (k1 : Kept (fun _ => False) w w1)
    (cx : StackAt 39 3 1 w1.heap.size w2 q mb u rb.length (rb.map (Value.int .i64))) (k2 : Kept (fun _ => False) w1 w2) : Four w0 w2 p q pb py v u vb vy mb mb rb rb := by
  have h1 := h.calm k1
  have h2 := h1.calm k2
  exact ⟨⟨(ca.calm k2).mono h.kept.size, cx.mono h1.kept.size, Apart.later ca cx, h2.a.hB⟩, h2.b, (Apart.later h.b.a ca).symm, (Apart.later h.b.x ca).symm, (Apart.later h1.b.a cx).symm, (Apart.later h1.b.x cx).symm, h2.kept⟩
/-- Four new ones. -/
theorem Four.made {one two : Int} (k0 : Kept (fun _ => False) w0 w) (a1 : StackAt 67 3 1 w.heap.size w1 pa one va 0 []) (k1 : Kept (fun _ => False) w w1) (x1 : StackAt 39 3 1 w1.heap.size w2 px one vx 0 []) (k2 : Kept (fun _ => False) w1 w2)
    (b1 : StackAt 67 3 1 w2.heap.size w3 pb two vb 0 []) (k3 : Kept (fun _ => False) w2 w3) (y1 : StackAt 39 3 1 w3.heap.size w4 py two vy 0 []) (k4 : Kept (fun _ => False) w3 w4) : Four w0 w4 pa px pb py va vx vb vy one two [] [] := by
  have z1 := k0.trans k1 (fun _ _ f => f)
  have z2 := z1.trans k2 (fun _ _ f => f)
  have z3 := z2.trans k3 (fun _ _ f => f)
  have z4 := z3.trans k4 (fun _ _ f => f)
  have a2 := a1.calm k2
  have a3 := a2.calm k3
  have x2 := x1.calm k3
  have hs := z4.size
  exact ⟨⟨(a3.calm k4).mono k0.size, (x2.calm k4).mono z1.size, Apart.later a1 x1, z4.size⟩, ⟨(b1.calm k4).mono z2.size, y1.mono z3.size, Apart.later b1 y1, z4.size⟩,
    Apart.later a2 b1, Apart.later a3 y1, Apart.later x1 b1, Apart.later x2 y1, z4⟩
end
end Go.Proofs.Ytgbhefbhleflhaa
