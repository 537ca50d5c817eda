/- Plain facts on worlds, blocks, frames and rows of a call's own: what a call may have turned; a stack as a block with a bound and a row. No program is named here. -/
import Derived.WalkKit
import Derived.WalkSpells
import Derived.ProofKit
import Derived.Below
import Derived.OwnWalk
import Derived.WalkSmall
import Derived.Deep.AppendLies
import Derived.Deep.RegionHeld3
import Derived.Deep.DrawnRows
import Derived.Deep.QuietTactic
import Derived.BigQuiet
import Derived.BigFrame
import Derived.Lib.SliceRun
import Derived.Laws.CopyRow
import Derived.Laws.Pointers
import Derived.Laws.AppendOwnNone
import Derived.Maps.AppendAt
import Derived.KernelRfl
namespace Go.Proofs.Ytgbhefbhleflhaa
open Go.RowKit
set_option linter.unusedVariables false
set_option linter.unusedSimpArgs false

/-- All that was there stays, but for the blocks of F; new blocks may have come. -/
structure Kept (F : Nat → Prop) (w w' : World) : Prop where
  os : w'.os = w.os
  tape : w'.tape = w.tape
  output : w'.output = w.output
  size : w.heap.size ≤ w'.heap.size
  block : ∀ k, k < w.heap.size → ¬ F k → w'.heap[k]? = w.heap[k]?

theorem Kept.refl (F : Nat → Prop) (w : World) : Kept F w w := ⟨rfl, rfl, rfl, Nat.le_refl _, fun _ _ _ => rfl⟩
theorem Kept.trans {F G : Nat → Prop} {a b c : World} (h : Kept F a b) (k : Kept G b c) (hg : ∀ i, i < a.heap.size → G i → F i) : Kept F a c :=
  ⟨k.os.trans h.os, k.tape.trans h.tape, k.output.trans h.output, Nat.le_trans h.size k.size,
   fun i hi hf => (k.block i (Nat.lt_of_lt_of_le hi h.size) (fun g => hf (hg i hi g))).trans (h.block i hi hf)⟩
theorem Kept.mono {F G : Nat → Prop} {a b : World} (h : Kept F a b) (hg : ∀ i, i < a.heap.size → F i → G i) : Kept G a b :=
  ⟨h.os, h.tape, h.output, h.size, fun i hi hf => h.block i hi (fun f => hf (hg i hi f))⟩
theorem Kept.calm {F : Nat → Prop} {a b : World} (h : Kept (fun _ => False) a b) : Kept F a b := h.mono (fun _ _ f => f.elim)
theorem Kept.drew {F : Nat → Prop} {a w : World} (h : Kept F a w) : Kept F a w.drew := ⟨h.os, h.tape, h.output, h.size, h.block⟩
theorem Kept.drewN {F : Nat → Prop} {a w : World} (h : Kept F a w) (k : Nat) : Kept F a (w.drewN k) := ⟨h.os, h.tape, h.output, h.size, h.block⟩
theorem Kept.alloc {F : Nat → Prop} {a w : World} (h : Kept F a w) (o : Obj) : Kept F a (w.alloc o) :=
  ⟨h.os, h.tape, h.output, Nat.le_trans h.size (by simp), fun k hk hf => (Below.heap_alloc w o k (Nat.lt_of_lt_of_le hk h.size)).trans (h.block k hk hf)⟩
theorem Kept.setCell {F : Nat → Prop} {a w : World} (h : Kept F a w) {p : Addr} (u : Value) (hp : F p.block ∨ a.heap.size ≤ p.block) : Kept F a (w.setCell p u) :=
  ⟨h.os, h.tape, h.output, by simpa [World.setCell] using h.size, fun k hk hf => (Below.heap_setCell w p u k (fun e => by
    rcases hp with hp | hp
    · exact hf (e ▸ hp)
    · omega)).trans (h.block k hk hf)⟩
theorem Kept.grown {F : Nat → Prop} {a w w' : World} {row : Option Nat} (h : Kept F a w) (hg : w.grownBy w' row) (hr : ∀ k, row = some k → F k ∨ a.heap.size ≤ k) : Kept F a w' :=
  ⟨hg.os.trans h.os, hg.tape.trans h.tape, hg.output.trans h.output, Nat.le_trans h.size hg.size, fun k hk hf => (hg.block k (Nat.lt_of_lt_of_le hk h.size) (fun e => by
    rcases hr k e.symm with x | x
    · exact hf x
    · omega)).trans (h.block k hk hf)⟩
theorem Kept.below {F : Nat → Prop} {a w : World} {B : Nat} (h : Kept F a w) (hB : B ≤ a.heap.size) (hf : ∀ k, k < B → ¬ F k) : Below B a w :=
  ⟨h.os, h.tape, h.output, h.size, fun k hk => h.block k (Nat.lt_of_lt_of_le hk hB) (hf k hk)⟩

theorem lt_of_heap {w : World} {k : Nat} {o : Obj} (h : w.heap[k]? = some o) : k < w.heap.size := (Array.getElem?_eq_some_iff.1 h).1
theorem heap_setCell_at {w : World} {m o : Nat} {cs : Array Value} {t : TypeId} {fr : Nat × Nat} (h : w.heap[m]? = some (.cells cs t fr)) (u : Value) : (w.setCell ⟨m, o, none⟩ u).heap[m]? = some (.cells (cs.setIfInBounds o u) t fr) := by
  simp only [World.setCell, Array.getElem?_modify, h, if_true, Option.map_some]
  rfl
theorem heap_setCell_far {w : World} {m : Nat} {p : Addr} {u : Value} (h : m ≠ p.block) : (w.setCell p u).heap[m]? = w.heap[m]? := Below.heap_setCell w p u m h
theorem cell_of_heap {w : World} {m o : Nat} {cs : Array Value} {t : TypeId} {fr : Nat × Nat} (h : w.heap[m]? = some (.cells cs t fr)) : w.cell? ⟨m, o, none⟩ = cs[o]? := by
  simp [World.cell?, h]
theorem frozen_of_heap {w : World} {m o : Nat} {cs : Array Value} {t : TypeId} (h : w.heap[m]? = some (.cells cs t (0, 0))) : w.frozen? ⟨m, o, none⟩ = false := by
  simp [World.frozen?, h]

/-! Rows of the call's own. -/
theorem own_mono {w : World} {B B' : Nat} {e : TypeId} {z : Nat} {v : Value} {n : Nat} {xs : List Value} (h : w.ownsRow B e z v n xs) (hb : B' ≤ B) : w.ownsRow B' e z v n xs := by
  refine ⟨h.1, ?_⟩
  rcases h.2 with hc | ⟨g, cap, cur, rfl, hg, r⟩
  · exact .inl hc
  · exact .inr ⟨g, cap, cur, rfl, Nat.le_trans hb hg, r⟩
theorem own_kept {w w' : World} {B n : Nat} {v : Value} {e : TypeId} {z : Nat} {xs : List Value} {F : Nat → Prop} (h : w.ownsRow B e z v n xs) (k : Kept F w w') (hf : ∀ g, v.ownBlock = some g → ¬ F g) : w'.ownsRow B e z v n xs := by
  refine ⟨h.1, ?_⟩
  rcases h.2 with hc | ⟨g, cap, cur, rfl, hg, hh, r⟩
  · exact .inl hc
  · exact .inr ⟨g, cap, cur, rfl, hg, (k.block g (lt_of_heap hh) (hf g rfl)).trans hh, r⟩
theorem own_far {w : World} {B : Nat} {e : TypeId} {z : Nat} {v : Value} {n : Nat} {xs : List Value} (h : w.ownsRow B e z v n xs) {a : Addr} (ha : v.ownBlock ≠ some a.block) (u : Value) : (w.setCell a u).ownsRow B e z v n xs :=
  own_kept h ((Kept.refl (fun k => k = a.block) w).setCell u (.inl rfl)) (fun g hg f => ha (f ▸ hg))
theorem own_forms {w : World} {B n : Nat} {v : Value} {e : TypeId} {z : Nat} {xs : List Value} (h : w.ownsRow B e z v n xs) : (v = .slice none 0 0 ∧ n = 0 ∧ xs = []) ∨ ∃ g cap, v = .slice (some ⟨g, 0, none⟩) n cap ∧ B ≤ g ∧ g < w.heap.size ∧ n ≤ cap := by
  rcases h.2 with ⟨h1, h0⟩ | ⟨g, cap, cur, h1, hb, hg, hn, _⟩
  · exact .inl ⟨h1, h0, List.eq_nil_of_length_eq_zero (by rw [h.1, h0]; simp)⟩
  · exact .inr ⟨g, cap, h1, hb, lt_of_heap hg, hn⟩
/-- A row cut at its upper end. -/
theorem own_cut {w : World} {B g n cap : Nat} {e : TypeId} {z : Nat} {xs : List Value} (h : w.ownsRow B e z (.slice (some ⟨g, 0, none⟩) n cap) n xs) {m : Nat} (hm : m ≤ n) : w.ownsRow B e z (.slice (some ⟨g, 0, none⟩) m cap) m (xs.take (m * z)) := by
  have hl := h.1
  have hmz : m * z ≤ n * z := Nat.mul_le_mul_right _ hm
  refine ⟨by simp; omega, ?_⟩
  rcases h.2 with ⟨h1, _⟩ | ⟨g', cap', cur, h1, hb, hg, hn, hc, hs, ht⟩
  · cases h1
  · simp only [Value.slice.injEq, Option.some.injEq, Addr.mk.injEq, and_true, true_and] at h1
    obtain ⟨rfl, rfl⟩ := h1
    refine .inr ⟨g, cap, cur, rfl, hb, hg, by omega, hc, hs, ?_⟩
    rw [← ht, List.take_take, Nat.min_eq_left hmz]

theorem wrap_small {x : Int} (h0 : -1000 ≤ x) (h1 : x ≤ 1000) : IntKind.i64.wrap x = x := by
  rw [IntKind.wrap_i64]
  omega
/-- The thing at a place of a row. -/
theorem own_at {w : World} {B g n cap : Nat} {e : TypeId} {xs : List Value} (h : w.ownsRow B e 1 (.slice (some ⟨g, 0, none⟩) n cap) n xs) {j : Nat} (hj : j < n) : w.cell? ⟨g, j, none⟩ = some (xs.getD j undef) := by
  have hl := h.1
  rw [h.cellAt j (by omega), List.getD_eq_getElem?_getD, List.getElem?_eq_getElem (by omega)]
  rfl
theorem setCells_heap_far {g : Nat} : ∀ (vs : List Value) (o : Nat) (w : World) (k : Nat), k ≠ g → (w.setCells g o vs).heap[k]? = w.heap[k]?
  | [], _, _, _, _ => rfl
  | v :: r, o, w, k, h => by rw [World.setCells, setCells_heap_far r (o + 1) _ k h, heap_setCell_far (by simpa using h)]
theorem setCells_kept {F : Nat → Prop} {g : Nat} {a : World} (hF : F g ∨ a.heap.size ≤ g) : ∀ (vs : List Value) (o : Nat) (w : World), Kept F a w → Kept F a (w.setCells g o vs)
  | [], _, _, h => h
  | v :: r, o, w, h => setCells_kept hF r (o + 1) _ (h.setCell v hF)
theorem setCells_row {g : Nat} {t : TypeId} {fr : Nat × Nat} : ∀ (vs : List Value) (o : Nat) (w : World) (cs : Array Value), w.heap[g]? = some (.cells cs t fr) → ∃ cs', (w.setCells g o vs).heap[g]? = some (.cells cs' t fr) ∧ cs'.size = cs.size ∧ ∀ i, i < o → cs'[i]? = cs[i]?
  | [], _, _, cs, h => ⟨cs, h, rfl, fun _ _ => rfl⟩
  | v :: r, o, w, cs, h => by
    obtain ⟨cs', h1, h2, h3⟩ := setCells_row r (o + 1) _ _ (heap_setCell_at (o := o) h v)
    refine ⟨cs', h1, by simpa using h2, fun i hi => ?_⟩
    rw [h3 i (by omega)]
    simp [Array.getElem?_setIfInBounds_ne (show o ≠ i by omega)]

/-- What lies above m is written over: the row below it stays. -/
theorem own_setCells {w : World} {B g n cap : Nat} {e : TypeId} {z : Nat} {xs : List Value} (h : w.ownsRow B e z (.slice (some ⟨g, 0, none⟩) n cap) n xs) {m : Nat} (hm : m ≤ n) (vs : List Value) : (w.setCells g (m * z) vs).ownsRow B e z (.slice (some ⟨g, 0, none⟩) m cap) m (xs.take (m * z)) := by
  have hcut := own_cut h hm
  refine ⟨hcut.1, ?_⟩
  rcases hcut.2 with ⟨h1, _⟩ | ⟨g', cap', cur, h1, hb, hg, hn, hc, hs, ht⟩
  · cases h1
  · simp only [Value.slice.injEq, Option.some.injEq, Addr.mk.injEq, and_true, true_and] at h1
    obtain ⟨rfl, rfl⟩ := h1
    obtain ⟨cs', a1, a2, a3⟩ := setCells_row vs (m * z) w cur hg
    refine .inr ⟨g, cap, cs', rfl, hb, a1, hn, hc, by omega, ?_⟩
    rw [← ht]
    apply List.ext_getElem?
    intro i
    rw [List.getElem?_take, List.getElem?_take]
    split
    · have := a3 i (by assumption)
      simpa using this
    · rfl

/-! Stacks: a block with the bound and the row; the row's own block. -/
structure StackAt (t e : TypeId) (z B : Nat) (w : World) (p : Nat) (most : Int) (v : Value) (n : Nat) (xs : List Value) : Prop where
  heap : w.heap[p]? = some (.cells #[.int .i64 most, v] t (0, 0))
  own : w.ownsRow B e z v n xs
  low : B ≤ p
  ne : v.ownBlock ≠ some p
  fits : (n : Int) ≤ most
  most : most ≤ 256

/-- The blocks of a stack. -/
def Foot (p : Nat) (v : Value) (k : Nat) : Prop := k = p ∨ v.ownBlock = some k
/-- The row's block stays, or is a new one. -/
def Fresh (w : World) (v v' : Value) : Prop := ∀ g, v'.ownBlock = some g → v.ownBlock = some g ∨ w.heap.size ≤ g
theorem Fresh.refl (w : World) (v : Value) : Fresh w v v := fun _ h => .inl h
theorem Foot.fresh {w : World} {p k : Nat} {v v' : Value} (hf : Fresh w v v') (h : Foot p v' k) : Foot p v k ∨ w.heap.size ≤ k := by
  rcases h with h | h
  · exact .inl (.inl h)
  · rcases hf k h with h | h
    · exact .inl (.inr h)
    · exact .inr h

section
variable {t e : TypeId} {z B : Nat} {w w' : World} {p : Nat} {most : Int} {v : Value} {n : Nat} {xs : List Value}
theorem StackAt.kept {F : Nat → Prop} (h : StackAt t e z B w p most v n xs) (k : Kept F w w') (hf : ∀ i, Foot p v i → ¬ F i) : StackAt t e z B w' p most v n xs :=
  ⟨(k.block p (lt_of_heap h.heap) (hf p (.inl rfl))).trans h.heap, own_kept h.own k (fun g hg => hf g (.inr hg)), h.low, h.ne, h.fits, h.most⟩
theorem StackAt.calm (h : StackAt t e z B w p most v n xs) (k : Kept (fun _ => False) w w') : StackAt t e z B w' p most v n xs := h.kept k (fun _ _ f => f)
theorem StackAt.drew (h : StackAt t e z B w p most v n xs) : StackAt t e z B w.drew p most v n xs := h.calm (Kept.refl _ w).drew
theorem StackAt.foot (h : StackAt t e z B w p most v n xs) {k : Nat} (f : Foot p v k) : B ≤ k ∧ k < w.heap.size := by
  rcases f with rfl | f
  · exact ⟨h.low, lt_of_heap h.heap⟩
  · exact h.own.lt k f
theorem StackAt.small (h : StackAt t e z B w p most v n xs) : n ≤ 256 := by
  have := h.fits
  have := h.most
  omega
theorem StackAt.shape (h : StackAt t e z B w p most v n xs) : ∃ ga ca, v = .slice ga n ca := by
  rcases own_forms h.own with ⟨rfl, rfl, _⟩ | ⟨g, cap, rfl, _⟩
  · exact ⟨_, _, rfl⟩
  · exact ⟨_, _, rfl⟩
theorem StackAt.c0 (h : StackAt t e z B w p most v n xs) : w.cell? ⟨p, 0, none⟩ = some (.int .i64 most) := cell_of_heap h.heap
theorem StackAt.c1 (h : StackAt t e z B w p most v n xs) : w.cell? ⟨p, 1, none⟩ = some v := cell_of_heap h.heap
theorem StackAt.f1 (h : StackAt t e z B w p most v n xs) : w.frozen? ⟨p, 1, none⟩ = false := frozen_of_heap h.heap
theorem StackAt.mono (h : StackAt t e z B w p most v n xs) {B' : Nat} (hb : B' ≤ B) : StackAt t e z B' w p most v n xs :=
  ⟨h.heap, own_mono h.own hb, Nat.le_trans hb h.low, h.ne, h.fits, h.most⟩
/-- Another row is laid into the stack's block. -/
theorem StackAt.put {v' : Value} {n' : Nat} {xs' : List Value} (h : w.heap[p]? = some (.cells #[.int .i64 most, v] t (0, 0))) (ho : w.ownsRow B e z v' n' xs') (hl : B ≤ p) (hne : v'.ownBlock ≠ some p) (hf : (n' : Int) ≤ most) (hm : most ≤ 256) :
    StackAt t e z B (w.setCell ⟨p, 1, none⟩ v') p most v' n' xs' :=
  ⟨by rw [heap_setCell_at h]; rfl, own_far ho hne v', hl, hne, hf, hm⟩
end

/-- A stack was turned: its new row, the rest as before. -/
def Turned (t e : TypeId) (z B : Nat) (w w' : World) (p : Nat) (most : Int) (v : Value) (n : Nat) (xs : List Value) : Prop :=
  ∃ v', StackAt t e z B w' p most v' n xs ∧ Kept (Foot p v) w w' ∧ Fresh w v v'
theorem Turned.same {t e : TypeId} {z B : Nat} {w w' : World} {p : Nat} {most : Int} {v : Value} {n : Nat} {xs : List Value} (h : StackAt t e z B w p most v n xs) (k : Kept (fun _ => False) w w') : Turned t e z B w w' p most v n xs :=
  ⟨v, h.calm k, k.calm, Fresh.refl _ _⟩

/-- A new stack. -/
theorem made {t e : TypeId} {z : Nat} (w : World) (most : Int) (h0 : 0 ≤ most) (hm : most ≤ 256) : StackAt t e z w.heap.size (w.alloc (.cells #[.int .i64 most, .slice none 0 0] t)) w.heap.size most (.slice none 0 0) 0 [] :=
  ⟨heap_alloc_new w _, World.ownsRow_nil _ _ _ _, Nat.le_refl _, by simp [Value.ownBlock], by omega, hm⟩

theorem grown_heap {w1 w2 : World} {o ob : Obj} {row : Option Nat} {p : Nat} (hp : w1.heap[p]? = some ob) (hg : (w1.alloc o).grownBy w2 row) (hne : row ≠ some p) : w2.heap[p]? = some ob := by
  rw [hg.block p (by have := lt_of_heap hp; simp; omega) (fun e => hne e.symm), Below.heap_alloc w1 o p (lt_of_heap hp)]
  exact hp

/-- The end of a push: behind the append the row is stored into the stack. -/
theorem push_end {t e : TypeId} {z B : Nat} {w w0 w2 : World} {p g cap n : Nat} {most : Int} {v : Value} {xs ys : List Value} (h : StackAt t e z B w p most v n xs) (hB : B ≤ w.heap.size) (k0 : Kept (fun _ => False) w w0)
    (ho : w2.ownsRow B e z (.slice (some ⟨g, 0, none⟩) (n + 1) cap) (n + 1) ys) (hg : w0.grownBy w2 v.ownBlock) (ha : v.ownBlock = some g ∨ w.heap.size ≤ g) (hr : (n : Int) < most) :
    Turned t e z B w (w2.setCell ⟨p, 1, none⟩ (.slice (some ⟨g, 0, none⟩) (n + 1) cap)) p most v (n + 1) ys := by
  have hp := lt_of_heap h.heap
  have hgp : (Value.slice (some ⟨g, 0, none⟩) (n + 1) cap).ownBlock ≠ some p := by
    rcases ha with ha | ha
    · intro e; exact h.ne (ha.trans (by simpa [Value.ownBlock] using e))
    · simp [Value.ownBlock]; omega
  have hk : Kept (Foot p v) w w2 := Kept.grown k0.calm hg (fun k e => .inl (.inr e))
  have hh : w2.heap[p]? = some (.cells #[.int .i64 most, v] t (0, 0)) := by
    rw [hg.block p (Nat.lt_of_lt_of_le hp k0.size) (fun e => h.ne e.symm), k0.block p hp (fun f => f)]
    exact h.heap
  refine ⟨_, StackAt.put hh ho h.low hgp (by omega) h.most, hk.setCell _ (.inl (.inl rfl)), ?_⟩
  intro k hk
  simp [Value.ownBlock] at hk
  subst hk
  exact ha
/-- The end of a drop. -/
theorem drop_end {t e : TypeId} {z B : Nat} {w w2 : World} {p n : Nat} {most : Int} {v v' : Value} {xs : List Value} (h : StackAt t e z B w p most v n xs) (hk : Kept (Foot p v) w w2) (hh : w2.heap[p]? = w.heap[p]?) {m : Nat} (hm : m ≤ n)
    (ho : w2.ownsRow B e z v' m (xs.take (m * z))) (hv : v'.ownBlock = v.ownBlock) :
    Turned t e z B w (w2.setCell ⟨p, 1, none⟩ v') p most v m (xs.take (m * z)) :=
  ⟨v', StackAt.put (hh.trans h.heap) ho h.low (hv ▸ h.ne) (by have := h.fits; omega) h.most, hk.setCell _ (.inl (.inl rfl)), fun g hg => .inl (hv ▸ hg)⟩
end Go.Proofs.Ytgbhefbhleflhaa
