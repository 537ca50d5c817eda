/- A row and the document's row side by side, each with its meter, and what one step does to both. No walk here. -/
import Derived.Test.YtebhjfoggogmaaaFill
import Derived.Test.YtebhjfoggogmaaaOps
namespace Go.Proofs.Ytebhjfoggogmaaa
open Go.RowKit
set_option linter.unusedVariables false
set_option linter.unusedSimpArgs false

/-- Two logs lie apart. -/
def Apart (v v2 : Value) : Prop := ∀ g, v.ownBlock = some g → v2.ownBlock ≠ some g

/-- The code's meter m and row r (cells c), the document's meter x and row y (cells d): the same numbers. -/
structure Pair (b : Nat) (w : World) (m r c x y d : Nat) (kind : Int) (s : Mt) (v v2 : Value) (xs : List Int) : Prop where
  m1 : MeterS 79 50 b w m s v
  m2 : MeterS 34 50 b w x s v2
  r1 : RowIn 81 b w r c m kind xs
  r2 : RowIn 48 b w y d x kind xs
  ap : Apart v v2
  mx : m ≠ x
  my : m ≠ y
  md : m ≠ d
  rx : r ≠ x
  ry : r ≠ y
  rd : r ≠ d
  cx : c ≠ x
  cy : c ≠ y
  cd : c ≠ d

/-- What a step may turn. -/
def pairFoot (m c x d : Nat) (v v2 : Value) : Nat → Prop := fun k => rowFoot m c v k ∨ rowFoot x d v2 k

theorem Fresh.widen {w w1 : World} {v v' : Value} (h : Fresh w1 v v') (hs : w.heap.size ≤ w1.heap.size) : Fresh w v v' := by
  rcases h with h | ⟨g, h, hg⟩
  · exact .inl h
  · exact .inr ⟨g, h, by omega⟩

theorem Pair.kept {b : Nat} {w w' : World} {m r c x y d : Nat} {kind : Int} {s : Mt} {v v2 : Value} {xs : List Int} {F : Nat → Prop} (h : Pair b w m r c x y d kind s v v2 xs) (k : Kept F w w')
    (h1 : ¬ F m) (h2 : ¬ F r) (h3 : ¬ F c) (h4 : ¬ F x) (h5 : ¬ F y) (h6 : ¬ F d) (h7 : ∀ g, v.ownBlock = some g → ¬ F g) (h8 : ∀ g, v2.ownBlock = some g → ¬ F g) : Pair b w' m r c x y d kind s v v2 xs :=
  ⟨h.m1.kept k h1 h7, h.m2.kept k h4 h8, h.r1.kept k h2 h3, h.r2.kept k h5 h6, h.ap, h.mx, h.my, h.md, h.rx, h.ry, h.rd, h.cx, h.cy, h.cd⟩
theorem Pair.calm {b : Nat} {w w' : World} {m r c x y d : Nat} {kind : Int} {s : Mt} {v v2 : Value} {xs : List Int} (h : Pair b w m r c x y d kind s v v2 xs) (k : Kept (fun _ => False) w w') : Pair b w' m r c x y d kind s v v2 xs :=
  h.kept k (fun f => f) (fun f => f) (fun f => f) (fun f => f) (fun f => f) (fun f => f) (fun _ _ f => f) (fun _ _ f => f)

/-- Behind a call on the code's side the document's side stands. -/
theorem Pair.left {b : Nat} {w w' : World} {m r c x y d : Nat} {kind : Int} {s : Mt} {v v2 : Value} {xs : List Int} (h : Pair b w m r c x y d kind s v v2 xs) (k : Kept (rowFoot m c v) w w') :
    MeterS 34 50 b w' x s v2 ∧ RowIn 48 b w' y d x kind xs := by
  refine ⟨h.m2.kept k ?_ ?_, h.r2.kept k ?_ ?_⟩
  · rintro (f | f | f)
    · exact h.mx f.symm
    · exact h.m1.apart h.m2.low f
    · exact h.cx f.symm
  · rintro g hg (f | f | f)
    · exact h.m2.apart (f ▸ h.m1.low) hg
    · exact h.ap g f hg
    · exact h.m2.apart (f ▸ h.r1.cb) hg
  · rintro (f | f | f)
    · exact h.my f.symm
    · exact h.m1.apart h.r2.rb f
    · exact h.cy f.symm
  · rintro (f | f | f)
    · exact h.md f.symm
    · exact h.m1.apart h.r2.cb f
    · exact h.cd f.symm

theorem Apart.left {w : World} {b x : Nat} {s : Mt} {v v' v2 : Value} {t : TypeId} (h : Apart v v2) (hm : MeterS t 50 b w x s v2) (hf : Fresh w v v') : Apart v' v2 := by
  intro g hg hg2
  rcases hf with hf | ⟨g', hf, hl⟩
  · exact h g (hf ▸ hg) hg2
  · rw [hf] at hg
    cases hg
    have := (hm.own.lt g hg2).2
    omega
theorem Apart.symm {v v2 : Value} (h : Apart v v2) : Apart v2 v := fun g hg hg2 => h g hg2 hg

/-- Behind a call on each side. -/
theorem Pair.both {b : Nat} {w w1 w2 : World} {m r c x y d : Nat} {kind : Int} {s s' : Mt} {v v' v2 v2' : Value} {xs xs' : List Int} (h : Pair b w m r c x y d kind s v v2 xs)
    (hm : MeterS 79 50 b w1 m s' v') (hr : RowIn 81 b w1 r c m kind xs') (hf : Fresh w v v') (hk : Kept (rowFoot m c v) w w1)
    (hm2 : MeterS 34 50 b w2 x s' v2') (hr2 : RowIn 48 b w2 y d x kind xs') (hf2 : Fresh w1 v2 v2') (hk2 : Kept (rowFoot x d v2) w1 w2) :
    Pair b w2 m r c x y d kind s' v' v2' xs' ∧ Fresh w v v' ∧ Fresh w v2 v2' ∧ Kept (pairFoot m c x d v v2) w w2 := by
  have hl := (h.left hk).1
  have ap1 : Apart v' v2 := h.ap.left h.m2 hf
  have ap2 : Apart v' v2' := (ap1.symm.left hm hf2).symm
  refine ⟨⟨hm.kept hk2 ?_ ?_, hm2, hr.kept hk2 ?_ ?_, hr2, ap2, h.mx, h.my, h.md, h.rx, h.ry, h.rd, h.cx, h.cy, h.cd⟩, hf, hf2.widen hk.size, (hk.mono (fun _ _ f => .inl f)).trans hk2 (fun _ _ f => .inr f)⟩
  · rintro (f | f | f)
    · exact h.mx f
    · exact hl.apart h.m1.low f
    · exact h.md f
  · rintro g hg (f | f | f)
    · exact hm.apart (f ▸ hl.low) hg
    · exact ap1 g hg f
    · exact hm.apart (f ▸ h.r2.cb) hg
  · rintro (f | f | f)
    · exact h.rx f
    · exact hl.apart h.r1.rb f
    · exact h.rd f
  · rintro (f | f | f)
    · exact h.cx f
    · exact hl.apart h.r1.cb f
    · exact h.cd f

/-- What a step leaves. -/
def Did (b : Nat) (w w' : World) (m r c x y d : Nat) (kind : Int) (n : Nat) (v v2 : Value) (xs : List Int) : Prop :=
  ∃ s' v' v2' xs', Pair b w' m r c x y d kind s' v' v2' xs' ∧ s'.within (n + 1) ∧ xs'.length = xs.length ∧ Fresh w v v' ∧ Fresh w v2 v2' ∧ Kept (pairFoot m c x d v v2) w w'

theorem Did.before {b : Nat} {w w0 w' : World} {m r c x y d : Nat} {kind : Int} {n : Nat} {v v2 : Value} {xs : List Int} (h : Did b w0 w' m r c x y d kind n v v2 xs) (k : Kept (fun _ => False) w w0) : Did b w w' m r c x y d kind n v v2 xs := by
  obtain ⟨s', v', v2', xs', h1, h2, h3, h4, h5, h6⟩ := h
  exact ⟨s', v', v2', xs', h1, h2, h3, h4.widen k.size, h5.widen k.size, (k.mono (fun _ _ f => f.elim)).trans h6 (fun _ _ f => f)⟩
theorem Did.after {b : Nat} {w w0 w' : World} {m r c x y d : Nat} {kind : Int} {n : Nat} {v v2 : Value} {xs : List Int} (h : Did b w w0 m r c x y d kind n v v2 xs) (k : Kept (fun _ => False) w0 w') : Did b w w' m r c x y d kind n v v2 xs := by
  obtain ⟨s', v', v2', xs', h1, h2, h3, h4, h5, h6⟩ := h
  exact ⟨s', v', v2', xs', h1.calm k, h2, h3, h4, h5, h6.trans k (fun _ _ f => f.elim)⟩

/-- The struct that comes in by value is boxed: a new block. -/
theorem boxed (w : World) (o : Obj) : Kept (fun _ => False) w (w.alloc o) := (Kept.refl _ w).alloc o
end Go.Proofs.Ytebhjfoggogmaaa
