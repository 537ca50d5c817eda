/- Plain facts on worlds, blocks and frames: what a call may have turned. No program is named here. -/
import Derived.WalkKit
import Derived.WalkSpells
import Derived.ProofKit
import Derived.Below
import Derived.OwnWalk
import Derived.Deep.AppendLies
import Derived.Laws.Pointers
import Derived.KernelRfl
namespace Go.Proofs.Ytebhjfoggogmaaa
open Go.RowKit
set_option linter.unusedVariables false
set_option linter.unusedSimpArgs false

/-- All that was there stays, but for the blocks of F; new blocks may have come. -/
structure Kept (F : Nat → Prop) (w w' : World) : Prop where
  os : w'.os = w.os
  tape : w'.tape = w.tape
  output : w'.output = w.output
  size : w.heap.size ≤ w'.heap.size
  block : ∀ k, k < w.heap.size → ¬ F k → w'.heap[k]? = w.heap[k]?

theorem Kept.refl (F : Nat → Prop) (w : World) : Kept F w w := ⟨rfl, rfl, rfl, Nat.le_refl _, fun _ _ _ => rfl⟩
theorem Kept.trans {F G : Nat → Prop} {a b c : World} (h : Kept F a b) (k : Kept G b c) (hg : ∀ i, i < a.heap.size → G i → F i) : Kept F a c :=
  ⟨k.os.trans h.os, k.tape.trans h.tape, k.output.trans h.output, Nat.le_trans h.size k.size,
   fun i hi hf => (k.block i (Nat.lt_of_lt_of_le hi h.size) (fun g => hf (hg i hi g))).trans (h.block i hi hf)⟩
theorem Kept.mono {F G : Nat → Prop} {a b : World} (h : Kept F a b) (hg : ∀ i, i < a.heap.size → F i → G i) : Kept G a b :=
  ⟨h.os, h.tape, h.output, h.size, fun i hi hf => h.block i hi (fun f => hf (hg i hi f))⟩
theorem Kept.drew {F : Nat → Prop} {a w : World} (h : Kept F a w) : Kept F a w.drew := ⟨h.os, h.tape, h.output, h.size, h.block⟩
theorem Kept.alloc {F : Nat → Prop} {a w : World} (h : Kept F a w) (o : Obj) : Kept F a (w.alloc o) :=
  ⟨h.os, h.tape, h.output, Nat.le_trans h.size (by simp), fun k hk hf => (Below.heap_alloc w o k (Nat.lt_of_lt_of_le hk h.size)).trans (h.block k hk hf)⟩
theorem Kept.setCell {F : Nat → Prop} {a w : World} (h : Kept F a w) {p : Addr} (u : Value) (hp : F p.block ∨ a.heap.size ≤ p.block) : Kept F a (w.setCell p u) :=
  ⟨h.os, h.tape, h.output, by simpa [World.setCell] using h.size, fun k hk hf => (Below.heap_setCell w p u k (fun e => by
    rcases hp with hp | hp
    · exact hf (e ▸ hp)
    · omega)).trans (h.block k hk hf)⟩
theorem Kept.grown {F : Nat → Prop} {a w w' : World} {row : Option Nat} (h : Kept F a w) (hg : w.grownBy w' row) (hr : ∀ k, row = some k → F k ∨ a.heap.size ≤ k) : Kept F a w' :=
  ⟨hg.os.trans h.os, hg.tape.trans h.tape, hg.output.trans h.output, Nat.le_trans h.size hg.size, fun k hk hf => (hg.block k (Nat.lt_of_lt_of_le hk h.size) (fun e => by
    rcases hr k e.symm with x | x
    · exact hf x
    · omega)).trans (h.block k hk hf)⟩
theorem Kept.below {F : Nat → Prop} {a w : World} {B : Nat} (h : Kept F a w) (hB : B ≤ a.heap.size) (hf : ∀ k, k < B → ¬ F k) : Below B a w :=
  ⟨h.os, h.tape, h.output, h.size, fun k hk => h.block k (Nat.lt_of_lt_of_le hk hB) (hf k hk)⟩

theorem lt_of_heap {w : World} {k : Nat} {o : Obj} (h : w.heap[k]? = some o) : k < w.heap.size := (Array.getElem?_eq_some_iff.1 h).1

theorem heap_setCell_at {w : World} {m o : Nat} {cs : Array Value} {t : TypeId} {fr : Nat × Nat} (h : w.heap[m]? = some (.cells cs t fr)) (u : Value) : (w.setCell ⟨m, o, none⟩ u).heap[m]? = some (.cells (cs.setIfInBounds o u) t fr) := by
  simp only [World.setCell, Array.getElem?_modify, h, if_true, Option.map_some]
  rfl
theorem heap_setCell_far {w : World} {m : Nat} {p : Addr} {u : Value} (h : m ≠ p.block) : (w.setCell p u).heap[m]? = w.heap[m]? := Below.heap_setCell w p u m h
theorem cell_of_heap {w : World} {m o : Nat} {cs : Array Value} {t : TypeId} {fr : Nat × Nat} (h : w.heap[m]? = some (.cells cs t fr)) : w.cell? ⟨m, o, none⟩ = cs[o]? := by
  simp [World.cell?, h]
theorem frozen_of_heap {w : World} {m o : Nat} {cs : Array Value} {t : TypeId} (h : w.heap[m]? = some (.cells cs t (0, 0))) : w.frozen? ⟨m, o, none⟩ = false := by
  simp [World.frozen?, h]

/-- One access, as a log keeps it. -/
structure Acc where
  st : Int
  th : Int
  kind : Int
  at_ : Int
  op : Int
  ok : Bool
def Acc.cells (a : Acc) : List Value := [.int .i64 a.st, .int .i64 a.th, .int .i64 a.kind, .int .i64 a.at_, .int .i64 a.op, .bool a.ok]
def logCells : List Acc → List Value
  | [] => []
  | a :: l => a.cells ++ logCells l
theorem logCells_append (l k : List Acc) : logCells (l ++ k) = logCells l ++ logCells k := by
  induction l with
  | nil => rfl
  | cons a l ih => simp [logCells, ih]
theorem logCells_length (l : List Acc) : (logCells l).length = l.length * 6 := by
  induction l with
  | nil => rfl
  | cons a l ih => simp [logCells, Acc.cells, ih]; omega

/-- A meter of type t in block m: its numbers, and its log, which lies from block b on. -/
structure MeterAt (t e : TypeId) (b : Nat) (w : World) (m : Nat) (st th dn mo : Int) (v : Value) (l : List Acc) : Prop where
  heap : w.heap[m]? = some (.cells #[.int .i64 st, .int .i64 th, .int .i64 dn, .int .i64 mo, v] t (0, 0))
  own : w.ownsRow b e 6 v l.length (logCells l)
  low : m < b
  high : b ≤ w.heap.size

theorem MeterAt.apart {t e : TypeId} {b : Nat} {w : World} {m : Nat} {st th dn mo : Int} {v : Value} {l : List Acc} (h : MeterAt t e b w m st th dn mo v l) {k : Nat} (hk : k < b) : v.ownBlock ≠ some k := fun x => by
  have := (h.own.lt k x).1
  omega
theorem MeterAt.kept {t e : TypeId} {b : Nat} {w w' : World} {m : Nat} {st th dn mo : Int} {v : Value} {l : List Acc} {F : Nat → Prop} (h : MeterAt t e b w m st th dn mo v l) (k : Kept F w w') (h1 : ¬ F m) (h2 : ∀ g, v.ownBlock = some g → ¬ F g) : MeterAt t e b w' m st th dn mo v l := by
  obtain ⟨ha, ⟨hb, hc⟩, hl, hh⟩ := h
  refine ⟨(k.block m (lt_of_heap ha) h1).trans ha, ⟨hb, ?_⟩, hl, Nat.le_trans hh k.size⟩
  rcases hc with hc | ⟨g, cap, cur, rfl, hg, hh, r⟩
  · exact .inl hc
  · exact .inr ⟨g, cap, cur, rfl, hg, (k.block g (lt_of_heap hh) (h2 g rfl)).trans hh, r⟩

theorem ownsRow_setCell_far {w : World} {base : Nat} {e : TypeId} {size : Nat} {v : Value} {n : Nat} {xs : List Value} (h : w.ownsRow base e size v n xs) {a : Addr} (ha : v.ownBlock ≠ some a.block) (u : Value) : (w.setCell a u).ownsRow base e size v n xs := by
  obtain ⟨h1, h2⟩ := h
  refine ⟨h1, ?_⟩
  rcases h2 with h2 | ⟨g, cap, cur, rfl, hg, hh, r⟩
  · exact .inl h2
  · exact .inr ⟨g, cap, cur, rfl, hg, by rw [heap_setCell_far (by simpa [Value.ownBlock] using ha)]; exact hh, r⟩

theorem grown_block {w2 w1 : World} {o : Obj} {row : Option Nat} {m : Nat} (hlt : m < w2.heap.size) (hg : ((w2.alloc o).drew).grownBy w1 row) (hne : row ≠ some m) : w1.heap[m]? = w2.heap[m]? := by
  rw [hg.block m (by simp; omega) (Ne.symm hne)]
  exact Below.heap_alloc w2 o m hlt

/-- The end of a note: behind the append the new log is stored into the meter. -/
theorem note_end {t e : TypeId} {b : Nat} {w w2 w1 : World} {m g cap : Nat} {st th dn mo : Int} {a : Acc} {v : Value} {l : List Acc} (o : Obj) (hlow : m < b) (hhigh : b ≤ w.heap.size)
    (hm : w2.heap[m]? = some (.cells #[.int .i64 st, .int .i64 th, .int .i64 dn, .int .i64 mo, v] t (0, 0))) (hk : Kept (fun k => k = m ∨ v.ownBlock = some k) w w2) (hs : w2.heap.size = w.heap.size)
    (hown1 : w1.ownsRow b e 6 (.slice (some ⟨g, 0, none⟩) (l.length + 1) cap) (l.length + 1) (logCells l ++ a.cells))
    (hgrow : ((w2.alloc o).drew).grownBy w1 v.ownBlock) (hat : v.ownBlock = some g ∨ g = w2.heap.size + 1) (hvm : v.ownBlock ≠ some m) :
    MeterAt t e b (w1.setCell ⟨m, 4, none⟩ (.slice (some ⟨g, 0, none⟩) (l.length + 1) cap)) m st th dn mo (.slice (some ⟨g, 0, none⟩) (l.length + 1) cap) (l ++ [a]) ∧
      (v.ownBlock = some g ∨ w.heap.size ≤ g) ∧ Kept (fun k => k = m ∨ v.ownBlock = some k) w (w1.setCell ⟨m, 4, none⟩ (.slice (some ⟨g, 0, none⟩) (l.length + 1) cap)) := by
  have h1 := (grown_block (lt_of_heap hm) hgrow hvm).trans hm
  have hgm : m ≠ g := by
    have := (hown1.lt g rfl).1
    omega
  have hkk : Kept (fun k => k = m ∨ v.ownBlock = some k) w (w1.setCell ⟨m, 4, none⟩ (.slice (some ⟨g, 0, none⟩) (l.length + 1) cap)) := Kept.setCell (Kept.grown ((hk.alloc o).drew) hgrow (fun k e => .inl (.inr e))) _ (.inl (.inl rfl))
  refine ⟨⟨?_, ?_, hlow, Nat.le_trans hhigh hkk.size⟩, ?_, hkk⟩
  · rw [heap_setCell_at h1]; rfl
  · have := ownsRow_setCell_far hown1 (a := ⟨m, 4, none⟩) (by simp [Value.ownBlock]; omega) (.slice (some ⟨g, 0, none⟩) (l.length + 1) cap)
    simpa [logCells_append, logCells] using this
  · rcases hat with h | h
    · exact .inl h
    · right; omega

/-- The block of a log stays, or is a new one. -/
def Fresh (w : World) (v v' : Value) : Prop := v'.ownBlock = v.ownBlock ∨ ∃ g, v'.ownBlock = some g ∧ w.heap.size ≤ g
theorem Fresh.refl (w : World) (v : Value) : Fresh w v v := .inl rfl
theorem Fresh.ne {w : World} {v v' : Value} (h : Fresh w v v') {k : Nat} (hk : k < w.heap.size) (hv : v.ownBlock ≠ some k) : v'.ownBlock ≠ some k := by
  rcases h with h | ⟨g, h, hg⟩
  · rw [h]; exact hv
  · rw [h]; intro e; cases e; omega
end Go.Proofs.Ytebhjfoggogmaaa
