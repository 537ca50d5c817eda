/- Plain facts on worlds and blocks; things in memory that have no block in common. No program is named here. append where the row is longer than the library's laws take: the next capacity is asked for, not twice the length. No program is named here. Meters: what they have counted and noted, and how they lie in memory. Lists of int that came in; the lowest bits of a number. Meters' small functions: a new one, Begin, Steps, Done, Most, Log; and the document's Begin. -/
import Derived.WalkKit
import Derived.WalkSpells
import Derived.ProofKit
import Derived.Below
import Derived.OwnWalk
import Derived.Deep.AppendLies
import Derived.Laws.Pointers
import Derived.KernelRfl
import Derived.Test.YthbcbjkgjgmegaaGreatProg
import Derived.Deep.RegionHeld3
import Derived.Deep.DrawnRows
import Derived.RegionTactic
import Derived.ChangeAlike
import Derived.BigRegion
import Derived.Deep.RegionLaw
import Derived.OpenShut
import Derived.SizedLaws
import Derived.Laws.MakeOwn
import Derived.Laws.OwnMore
namespace Go.Proofs.YthbcbjkgjgmegaaGreat
open Go.RowKit
set_option linter.unusedVariables false
set_option linter.unusedSimpArgs false

/-- All that was there stays, but for the blocks of F; new blocks may have come. -/
structure Kept (F : Nat → Prop) (w w' : World) : Prop where
  os : w'.os = w.os
  tape : w'.tape = w.tape
  output : w'.output = w.output
  size : w.heap.size ≤ w'.heap.size
  block : ∀ k, k < w.heap.size → ¬ F k → w'.heap[k]? = w.heap[k]?

theorem Kept.refl (F : Nat → Prop) (w : World) : Kept F w w := ⟨rfl, rfl, rfl, Nat.le_refl _, fun _ _ _ => rfl⟩
theorem Kept.trans {F G : Nat → Prop} {a b c : World} (h : Kept F a b) (k : Kept G b c) (hg : ∀ i, i < a.heap.size → G i → F i) : Kept F a c :=
  ⟨k.os.trans h.os, k.tape.trans h.tape, k.output.trans h.output, Nat.le_trans h.size k.size,
   fun i hi hf => (k.block i (Nat.lt_of_lt_of_le hi h.size) (fun g => hf (hg i hi g))).trans (h.block i hi hf)⟩
theorem Kept.mono {F G : Nat → Prop} {a b : World} (h : Kept F a b) (hg : ∀ i, i < a.heap.size → F i → G i) : Kept G a b :=
  ⟨h.os, h.tape, h.output, h.size, fun i hi hf => h.block i hi (fun f => hf (hg i hi f))⟩
theorem Kept.drew {F : Nat → Prop} {a w : World} (h : Kept F a w) : Kept F a w.drew := ⟨h.os, h.tape, h.output, h.size, h.block⟩
theorem Kept.ofDrew {F : Nat → Prop} {w w' : World} (h : Kept F w.drew w') : Kept F w w' := ⟨h.os, h.tape, h.output, h.size, h.block⟩
theorem Kept.alloc {F : Nat → Prop} {a w : World} (h : Kept F a w) (o : Obj) : Kept F a (w.alloc o) :=
  ⟨h.os, h.tape, h.output, Nat.le_trans h.size (by simp), fun k hk hf => (Below.heap_alloc w o k (Nat.lt_of_lt_of_le hk h.size)).trans (h.block k hk hf)⟩
theorem Kept.setCell {F : Nat → Prop} {a w : World} (h : Kept F a w) {p : Addr} (u : Value) (hp : F p.block ∨ a.heap.size ≤ p.block) : Kept F a (w.setCell p u) :=
  ⟨h.os, h.tape, h.output, by simpa [World.setCell] using h.size, fun k hk hf => (Below.heap_setCell w p u k (fun e => by
    rcases hp with hp | hp
    · exact hf (e ▸ hp)
    · omega)).trans (h.block k hk hf)⟩
theorem Kept.grown {F : Nat → Prop} {a w w' : World} {row : Option Nat} (h : Kept F a w) (hg : w.grownBy w' row) (hr : ∀ k, row = some k → F k ∨ a.heap.size ≤ k) : Kept F a w' :=
  ⟨hg.os.trans h.os, hg.tape.trans h.tape, hg.output.trans h.output, Nat.le_trans h.size hg.size, fun k hk hf => (hg.block k (Nat.lt_of_lt_of_le hk h.size) (fun e => by
    rcases hr k e.symm with x | x
    · exact hf x
    · omega)).trans (h.block k hk hf)⟩
theorem Kept.below {F : Nat → Prop} {a w : World} {B : Nat} (h : Kept F a w) (hB : B ≤ a.heap.size) (hf : ∀ k, k < B → ¬ F k) : Below B a w :=
  ⟨h.os, h.tape, h.output, h.size, fun k hk => h.block k (Nat.lt_of_lt_of_le hk hB) (hf k hk)⟩
theorem kept_alloc (w : World) (o : Obj) : Kept (fun _ => False) w (w.alloc o) := (Kept.refl _ w).alloc o
theorem kept_drew (w : World) : Kept (fun _ => False) w w.drew := (Kept.refl _ w).drew

theorem lt_of_heap {w : World} {k : Nat} {o : Obj} (h : w.heap[k]? = some o) : k < w.heap.size := (Array.getElem?_eq_some_iff.1 h).1
theorem heap_setCell_at {w : World} {m o : Nat} {cs : Array Value} {t : TypeId} {fr : Nat × Nat} (h : w.heap[m]? = some (.cells cs t fr)) (u : Value) : (w.setCell ⟨m, o, none⟩ u).heap[m]? = some (.cells (cs.setIfInBounds o u) t fr) := by
  simp only [World.setCell, Array.getElem?_modify, h, if_true, Option.map_some]
  rfl
theorem heap_setCell_far {w : World} {m : Nat} {p : Addr} {u : Value} (h : m ≠ p.block) : (w.setCell p u).heap[m]? = w.heap[m]? := Below.heap_setCell w p u m h
theorem cell_of_heap {w : World} {m o : Nat} {cs : Array Value} {t : TypeId} {fr : Nat × Nat} (h : w.heap[m]? = some (.cells cs t fr)) : w.cell? ⟨m, o, none⟩ = cs[o]? := by
  simp [World.cell?, h]
theorem frozen_of_heap {w : World} {m o : Nat} {cs : Array Value} {t : TypeId} (h : w.heap[m]? = some (.cells cs t (0, 0))) : w.frozen? ⟨m, o, none⟩ = false := by
  simp [World.frozen?, h]
theorem size_setCell (w : World) (p : Addr) (u : Value) : (w.setCell p u).heap.size = w.heap.size := by simp [World.setCell]

theorem ownsRow_setCell_far {w : World} {base : Nat} {e : TypeId} {size : Nat} {v : Value} {n : Nat} {xs : List Value} (h : w.ownsRow base e size v n xs) {a : Addr} (ha : v.ownBlock ≠ some a.block) (u : Value) : (w.setCell a u).ownsRow base e size v n xs := by
  obtain ⟨h1, h2⟩ := h
  refine ⟨h1, ?_⟩
  rcases h2 with h2 | ⟨g, cap, cur, rfl, hg, hh, r⟩
  · exact .inl h2
  · exact .inr ⟨g, cap, cur, rfl, hg, by rw [heap_setCell_far (by simpa [Value.ownBlock] using ha)]; exact hh, r⟩
theorem own_loc {b : Nat} {e : TypeId} {z : Nat} {v : Value} {n : Nat} {xs : List Value} {w w' : World} (h : w.ownsRow b e z v n xs) (hk : ∀ k, v.ownBlock = some k → w'.heap[k]? = w.heap[k]?) : w'.ownsRow b e z v n xs := by
  obtain ⟨h1, h2⟩ := h
  refine ⟨h1, ?_⟩
  rcases h2 with h2 | ⟨g, cap, cur, rfl, hg, hh, r⟩
  · exact .inl h2
  · exact .inr ⟨g, cap, cur, rfl, hg, (hk g rfl).trans hh, r⟩
theorem own_zero {wr : World} {H : Nat} {e : TypeId} {sz : Nat} {l : Value} {n : Nat} {xs : List Value} (h : wr.ownsRow H e sz l n xs) : wr.ownsRow 0 e sz l n xs := by
  obtain ⟨h1, h2⟩ := h
  refine ⟨h1, ?_⟩
  rcases h2 with h2 | ⟨g, cap, cur, rfl, hg, hh, r⟩
  · exact .inl h2
  · exact .inr ⟨g, cap, cur, rfl, Nat.zero_le _, hh, r⟩
theorem grown_block {w2 w1 : World} {o : Obj} {row : Option Nat} {m : Nat} (hlt : m < w2.heap.size) (hg : ((w2.alloc o).drew).grownBy w1 row) (hne : row ≠ some m) : w1.heap[m]? = w2.heap[m]? := by
  rw [hg.block m (by simp; omega) (Ne.symm hne)]
  exact Below.heap_alloc w2 o m hlt

/-- A thing in memory: the blocks in which it lies, and what is said of them. -/
structure It where
  fp : List Nat
  P : World → Prop
  loc : ∀ w w', (∀ k, k ∈ fp → w'.heap[k]? = w.heap[k]?) → P w → P w'
  old : ∀ w, P w → ∀ k, k ∈ fp → k < w.heap.size

/-- Things that have no block in common, all of them newer than the world o, in which nothing has turned. -/
structure St (o : World) (its : List It) (w : World) : Prop where
  nodup : (its.flatMap It.fp).Nodup
  all : ∀ i, i ∈ its → i.P w
  high : ∀ i, i ∈ its → ∀ k, k ∈ i.fp → o.heap.size ≤ k
  kept : Kept (fun k => o.heap.size ≤ k) o w

theorem St.nil (w : World) : St w [] w := ⟨List.nodup_nil, fun i h => (List.not_mem_nil h).elim, fun i h => (List.not_mem_nil h).elim, Kept.refl _ _⟩
theorem St.get {o w : World} {its : List It} (h : St o its w) (i : Nat) {A : It} (hi : its[i]? = some A) : A.P w := h.all A (List.mem_of_getElem? hi)
theorem St.same {o w : World} {its : List It} (h : St o its w) : Kept (fun _ => False) o w := h.kept.mono (fun i hi f => absurd f (by omega))
theorem St.le {o w : World} {its : List It} (h : St o its w) : o.heap.size ≤ w.heap.size := h.kept.size
theorem St.calm {o w w' : World} {its : List It} (h : St o its w) (k : Kept (fun _ => False) w w') : St o its w' :=
  ⟨h.nodup, fun i hi => i.loc w w' (fun b hb => k.block b (i.old w (h.all i hi) b hb) (fun f => f)) (h.all i hi), h.high, h.kept.trans k (fun _ _ f => f.elim)⟩
theorem St.drew {o w : World} {its : List It} (h : St o its w) : St o its w.drew := h.calm (kept_drew w)
theorem St.alloc {o w : World} {its : List It} (h : St o its w) (b : Obj) : St o its (w.alloc b) := h.calm (kept_alloc w b)
theorem St.base {o o' w : World} {its : List It} (h : St o' its w) (k : Kept (fun _ => False) o o') : St o its w :=
  ⟨h.nodup, h.all, fun i hi b hb => Nat.le_trans k.size (h.high i hi b hb), (k.mono (fun _ _ f => f.elim)).trans h.kept (fun i hi f => absurd f (by have := k.size; omega))⟩

theorem St.push {o w w' : World} {its : List It} (h : St o its w) (A : It) (k : Kept (fun _ => False) w w') (hp : A.P w') (hn : A.fp.Nodup) (hf : ∀ b, b ∈ A.fp → w.heap.size ≤ b) : St o (A :: its) w' := by
  have h' := h.calm k
  refine ⟨?_, ?_, ?_, h'.kept⟩
  · rw [List.flatMap_cons, List.nodup_append]
    refine ⟨hn, h.nodup, fun a ha b hb e => ?_⟩
    subst e
    obtain ⟨i, hi, hbi⟩ := List.mem_flatMap.1 hb
    have := i.old w (h.all i hi) a hbi
    have := hf a ha
    omega
  · intro i hi
    rcases List.mem_cons.1 hi with rfl | hi
    · exact hp
    · exact h'.all i hi
  · intro i hi b hb
    rcases List.mem_cons.1 hi with rfl | hi
    · exact Nat.le_trans h.le (hf b hb)
    · exact h.high i hi b hb
theorem St.pop {o w : World} {A : It} {its : List It} (h : St o (A :: its) w) : St o its w :=
  ⟨by have := h.nodup; rw [List.flatMap_cons, List.nodup_append] at this; exact this.2.1, fun i hi => h.all i (List.mem_cons_of_mem _ hi), fun i hi => h.high i (List.mem_cons_of_mem _ hi), h.kept⟩

theorem split_at {its : List It} {i : Nat} {A : It} (hi : its[i]? = some A) : ∃ a b, its = a ++ A :: b ∧ a.length = i := by
  obtain ⟨hlt, he⟩ := List.getElem?_eq_some_iff.1 hi
  refine ⟨its.take i, its.drop (i + 1), ?_, by simp; omega⟩
  rw [← he, List.getElem_cons_drop, List.take_append_drop]
theorem set_at (a b : List It) (A A' : It) : (a ++ A :: b).set a.length A' = a ++ A' :: b := by simp

theorem St.set {o w w' : World} {its : List It} (h : St o its w) (i : Nat) {A A' : It} (hi : its[i]? = some A) (k : Kept (fun b => b ∈ A.fp) w w') (hp : A'.P w') (hn : A'.fp.Nodup) (hf : ∀ b, b ∈ A'.fp → b ∈ A.fp ∨ w.heap.size ≤ b) : St o (its.set i A') w' := by
  obtain ⟨a, b, rfl, rfl⟩ := split_at hi
  rw [set_at]
  obtain ⟨h1, h2, h3, h4⟩ := h
  have hA : A ∈ a ++ A :: b := by simp
  have hle : o.heap.size ≤ w.heap.size := h4.size
  have other : ∀ x, x ∈ a ∨ x ∈ b → x ∈ a ++ A :: b := by
    intro x hx
    rcases hx with hx | hx <;> simp [hx]
  rw [List.flatMap_append, List.flatMap_cons, List.nodup_append, List.nodup_append] at h1
  obtain ⟨n1, ⟨n2, n3, n4⟩, n5⟩ := h1
  have far : ∀ x, x ∈ a ∨ x ∈ b → ∀ c, c ∈ x.fp → c ∉ A.fp := by
    intro x hx c hc hA'
    rcases hx with hx | hx
    · exact n5 c (List.mem_flatMap.2 ⟨x, hx, hc⟩) c (List.mem_append_left _ hA') rfl
    · exact n4 c hA' c (List.mem_flatMap.2 ⟨x, hx, hc⟩) rfl
  have new : ∀ x, x ∈ a ∨ x ∈ b → ∀ c, c ∈ x.fp → c ∉ A'.fp := by
    intro x hx c hc hc'
    rcases hf c hc' with hh | hh
    · exact far x hx c hc hh
    · have := x.old w (h2 x (other x hx)) c hc
      omega
  refine ⟨?_, ?_, ?_, ?_⟩
  · rw [List.flatMap_append, List.flatMap_cons, List.nodup_append, List.nodup_append]
    refine ⟨n1, ⟨hn, n3, ?_⟩, ?_⟩
    · intro c hc d hd e
      subst e
      obtain ⟨x, hx, hcx⟩ := List.mem_flatMap.1 hd
      exact new x (.inr hx) c hcx hc
    · intro c hc d hd e
      subst e
      obtain ⟨x, hx, hcx⟩ := List.mem_flatMap.1 hc
      rcases List.mem_append.1 hd with hd | hd
      · exact new x (.inl hx) c hcx hd
      · exact n5 c hc c (List.mem_append_right _ hd) rfl
  · intro x hx
    have hx' : x = A' ∨ x ∈ a ∨ x ∈ b := by
      simp only [List.mem_append, List.mem_cons] at hx
      rcases hx with hx | hx | hx
      · exact .inr (.inl hx)
      · exact .inl hx
      · exact .inr (.inr hx)
    rcases hx' with rfl | hx'
    · exact hp
    · have hPx := h2 x (other x hx')
      exact x.loc w w' (fun c hc => k.block c (x.old w hPx c hc) (far x hx' c hc)) hPx
  · intro x hx c hc
    have hx' : x = A' ∨ x ∈ a ∨ x ∈ b := by
      simp only [List.mem_append, List.mem_cons] at hx
      rcases hx with hx | hx | hx
      · exact .inr (.inl hx)
      · exact .inl hx
      · exact .inr (.inr hx)
    rcases hx' with rfl | hx'
    · rcases hf c hc with hh | hh
      · exact h3 A hA c hh
      · omega
    · exact h3 x (other x hx') c hc
  · exact h4.trans k (fun c _ hc => h3 A hA c hc)

theorem St.ne {o w : World} {its : List It} (h : St o its w) (i j : Nat) {A B : It} (hi : its[i]? = some A) (hj : its[j]? = some B) (hij : i ≠ j) {a b : Nat} (ha : a ∈ A.fp) (hb : b ∈ B.fp) : a ≠ b := by
  have h1 := h.nodup
  obtain ⟨p, q, rfl, rfl⟩ := split_at hi
  rw [List.flatMap_append, List.flatMap_cons, List.nodup_append, List.nodup_append] at h1
  obtain ⟨n1, ⟨n2, n3, n4⟩, n5⟩ := h1
  intro e
  subst e
  by_cases hlt : j < p.length
  · rw [List.getElem?_append_left hlt] at hj
    exact n5 a (List.mem_flatMap.2 ⟨B, List.mem_of_getElem? hj, hb⟩) a (List.mem_append_left _ ha) rfl
  · rw [List.getElem?_append_right (by omega)] at hj
    obtain ⟨d, hd⟩ : ∃ d, j - p.length = d + 1 := ⟨j - p.length - 1, by omega⟩
    rw [hd, List.getElem?_cons_succ] at hj
    exact n4 a ha a (List.mem_flatMap.2 ⟨B, List.mem_of_getElem? hj, hb⟩) rfl
theorem alloc_size (w : World) (o : Obj) : (w.alloc o).heap.size = w.heap.size + 1 := by simp
theorem set_other {its : List It} {i j : Nat} {A B : It} (hj : its[j]? = some B) (hij : i ≠ j) : (its.set i A)[j]? = some B := by
  rw [List.getElem?_set_ne hij]; exact hj
theorem set_self {its : List It} {i : Nat} {A B : It} (hi : its[i]? = some B) : (its.set i A)[i]? = some A := by
  rw [List.getElem?_set_self (List.getElem?_eq_some_iff.1 hi).1]
theorem set_back {its : List It} {i : Nat} {A : It} (hi : its[i]? = some A) : its.set i A = its := by
  obtain ⟨a, b, rfl, rfl⟩ := split_at hi
  rw [set_at]
theorem set_same {its : List It} {i : Nat} {A B : It} : (its.set i A).set i B = its.set i B := List.set_set ..

/-- A block of plain cells. -/
def boxI (k : Nat) (cs : Array Value) (t : TypeId) : It :=
  ⟨[k], fun w => w.heap[k]? = some (.cells cs t (0, 0)), fun w w' h p => (h k (List.mem_singleton.2 rfl)).trans p, fun w p b hb => by rw [List.mem_singleton.1 hb]; exact lt_of_heap p⟩
theorem St.box {o w : World} {its : List It} (h : St o its w) (cs : Array Value) (t : TypeId) : St o (boxI w.heap.size cs t :: its) (w.alloc (.cells cs t)) :=
  h.push (boxI w.heap.size cs t) (kept_alloc w _) (heap_alloc_new w _) (by simp [boxI]) (by simp [boxI])
theorem St.cell {o w : World} {its : List It} (h : St o its w) (i : Nat) {k : Nat} {cs : Array Value} {t : TypeId} (hi : its[i]? = some (boxI k cs t)) (j : Nat) : w.cell? ⟨k, j, none⟩ = cs[j]? := cell_of_heap (h.get i hi)
theorem St.frozen {o w : World} {its : List It} (h : St o its w) (i : Nat) {k : Nat} {cs : Array Value} {t : TypeId} (hi : its[i]? = some (boxI k cs t)) (j : Nat) : w.frozen? ⟨k, j, none⟩ = false := frozen_of_heap (h.get i hi)
theorem St.write {o w : World} {its : List It} (h : St o its w) (i : Nat) {k : Nat} {cs : Array Value} {t : TypeId} (hi : its[i]? = some (boxI k cs t)) (j : Nat) (u : Value) : St o (its.set i (boxI k (cs.setIfInBounds j u) t)) (w.setCell ⟨k, j, none⟩ u) :=
  h.set i hi ((Kept.refl _ w).setCell u (.inl (List.mem_singleton.2 rfl))) (heap_setCell_at (h.get i hi) u) (by simp [boxI]) (fun b hb => .inl hb)

/-- A list of the call's own. -/
def ownI (e : TypeId) (z : Nat) (v : Value) (n : Nat) (xs : List Value) : It :=
  ⟨v.ownBlock.toList, fun w => w.ownsRow 0 e z v n xs, fun w w' h p => own_loc p (fun k hk => h k (by simp [hk])), fun w p b hb => (p.lt b (by simpa using hb)).2⟩
theorem own_nodup (v : Value) : v.ownBlock.toList.Nodup := by cases v.ownBlock <;> simp
theorem St.own {o w w' : World} {its : List It} (h : St o its w) {e : TypeId} {z : Nat} {v : Value} {n : Nat} {xs : List Value} (k : Kept (fun _ => False) w w') (p : w'.ownsRow w.heap.size e z v n xs) : St o (ownI e z v n xs :: its) w' :=
  h.push (ownI e z v n xs) k (own_zero p) (own_nodup v) (fun b hb => (p.lt b (by simpa [ownI] using hb)).1)
end Go.Proofs.YthbcbjkgjgmegaaGreat

namespace Go.Proofs.YthbcbjkgjgmegaaGreat
open Go.RowKit
set_option linter.unusedVariables false
set_option linter.unusedSimpArgs false

/-- One more than a full row: a quarter more, and some. -/
theorem cap_one (n : Nat) : Builtin.nextslicecap (n + 1) n ≤ n + n / 4 + 512 := by
  unfold Builtin.nextslicecap
  split
  · omega
  · split
    · omega
    · rw [growBy_four]
      split
      · omega
      · split
        · omega
        · omega

section
variable {P : Program} {w : World} {base : Nat} {e : TypeId} {z : Value} {n m size bytes : Nat} {xs news : List Value}

/-- A row that was just made for what is wanted. -/
theorem own_grown (hz : z.cells.size = size) (hl : (xs ++ news).length = (n + m) * size) (hb : base ≤ w.heap.size) {cap : Nat} (hc : n + m ≤ cap) (hx : cap ≤ maxLen) :
    (w.drew.alloc (.cells (xs.toArray ++ news.toArray ++ Builtin.zeroCells z.cells (cap - (n + m))) e)).ownsRow base e size (.slice (some ⟨w.heap.size, 0, none⟩) (n + m) cap) (n + m) (xs ++ news) := by
  refine ⟨hl, .inr ⟨w.heap.size, cap, _, rfl, hb, heap_alloc_new w.drew _, hc, hx, ?_, ?_⟩⟩
  · have h1 : (xs.toArray ++ news.toArray ++ Builtin.zeroCells z.cells (cap - (n + m))).size = (xs ++ news).length + (cap - (n + m)) * size := by
      simp [size_zeroCells, hz]
    rw [h1, hl, ← Nat.add_mul, Nat.add_sub_cancel' hc]
  · have h2 : (xs.toArray ++ news.toArray ++ Builtin.zeroCells z.cells (cap - (n + m))).toList = (xs ++ news) ++ (Builtin.zeroCells z.cells (cap - (n + m))).toList := by simp
    rw [h2, ← hl, List.take_left]

theorem run_append_wide (t ty : TypeId) {i : TypeInfo} (ht : P.underlying t = some (.slice e)) (hi : P.info? e = some i) (hz : i.zero = some z) (hs : i.size = size) (hby : i.bytes = bytes) (hzs : z.cells.size = size)
    {g cap : Nat} (hown : w.ownsRow base e size (.slice (some ⟨g, 0, none⟩) n cap) n xs) (ad : Addr) (c : Nat) (hl : news.length = m * size) (hnews : ∀ j u, news[j]? = some u → w.cell? (ad.add j) = some u) (h1 : ∀ u ∈ news, u.oneCell' = true)
    (h63 : n + m ≤ maxLen) (hcap : cap < n + m → Builtin.nextslicecap (n + m) cap * bytes ≤ 281474976710656) (hbase : base ≤ w.heap.size) :
    ∃ g' cap' w', (Builtin.append_ #[t, t] ty #[.slice (some ⟨g, 0, none⟩) n cap, .slice (some ad) m c]).run P w = .ok (.slice (some ⟨g', 0, none⟩) (n + m) cap') w' ∧
      w'.ownsRow base e size (.slice (some ⟨g', 0, none⟩) (n + m) cap') (n + m) (xs ++ news) ∧ w.grownBy w' (some g) ∧ (g' = g ∨ g' = w.heap.size) ∧ g' < w'.heap.size := by
  have hlen : (xs ++ news).length = (n + m) * size := by rw [List.length_append, hown.1, hl, Nat.add_mul]
  have hcells := hown.cells (g := g) rfl
  subst hs hby
  rcases hown.2 with ⟨hv, _⟩ | ⟨g2, cap2, cur, hv, hbg, hg, hnc, hcm, hcs, htake⟩
  · cases hv
  simp only [Value.slice.injEq, Option.some.injEq, Addr.mk.injEq, and_true, true_and] at hv
  obtain ⟨rfl, rfl⟩ := hv
  by_cases hroom : n + m ≤ cap
  · have hfit : n * i.size + news.length ≤ cur.size := by
      have := Nat.mul_le_mul_right i.size hroom
      rw [Nat.add_mul] at this
      rw [hl, hcs]; exact this
    refine ⟨g, cap, _, run_append_room w t ty e i ht hi g n cap cur hg ad m c news hl hnews h1 hroom hfit, ⟨hlen, .inr ⟨g, cap, _, rfl, hbg, setRow_heap w g cur _ e _ hg, hroom, hcm, ?_, ?_⟩⟩, ⟨rfl, rfl, rfl, by simp, fun k _ hk => setRow_other w g k _ (fun h => hk (by rw [h]))⟩, .inl rfl, ?_⟩
    · have : cur.toList.length = cap * i.size := by simpa using hcs
      simp only [List.size_toArray, List.length_append, List.length_take, List.length_drop, this]
      rw [hcs] at hfit
      omega
    · rw [htake, ← hlen, List.take_left]
    · have := lt_of_heap hg
      simpa using this
  · have h2 : ((n + m : Nat) : Int) ≤ 9223372036854775807 := by unfold maxLen at h63; omega
    have h3 := grownCap_ge w (n + m) cap e
    have h4 := grownCap_le_maxLen w (n + m) cap e h63
    exact ⟨w.heap.size, grownCap w (n + m) cap e, _, run_append_grow w t ty e i z ht hi hz ⟨g, 0, none⟩ n cap xs hown.1 hcells ad m c news hl hnews (by omega) h2 (hcap (by omega)), own_grown hzs hlen hbase h3 h4, ⟨rfl, rfl, rfl, by simp, fun k hk _ => Below.heap_alloc w.drew _ k hk⟩, .inr rfl, by simp⟩

/-- One cell row more, at a step of a region that draws its order: as 'step_append_lies', the row may be longer. -/
theorem step_append_one {ops : Array Oper} {o : Oper} {a : Act} {K : Act → World → Prop} {Q : Exit → Act → World → Prop} {E : Prop} (hgd : o.guard = none) (s x : Operand) (t : TypeId)
    (ho : o.op = .call { callee := .builtin .append, args := #[s, x], argTypes := #[t, t] }) (i : TypeInfo)
    (ht : P.underlying t = some (.slice e)) (hi : P.info? e = some i) (hz : i.zero = some z) (hs : i.size = size) (hby : i.bytes = bytes) (hzs : z.cells.size = size) (hsz : 0 < size)
    (v : Value) (hsv : a.eval s = v) (hown : w.ownsRow base e size v n xs) (ad : Addr) (c : Nat) (hx : a.eval x = .slice (some ad) 1 c) (hl : news.length = size) (hnews : ∀ j u, news[j]? = some u → w.cell? (ad.add j) = some u) (h1 : ∀ u ∈ news, u.oneCell' = true)
    (h63 : n + 1 ≤ maxLen) (hbytes : (n + n / 4 + 512) * bytes ≤ 281474976710656) (hbase : base ≤ w.heap.size) (H : Nat) (hH : w.heap.size = H)
    (h : ∀ g cap w', w'.ownsRow base e size (.slice (some ⟨g, 0, none⟩) (n + 1) cap) (n + 1) (xs ++ news) → w.grownBy w' v.ownBlock → (v.ownBlock = some g ∨ g = H) → g < w'.heap.size → K (a.put o.dst (.slice (some ⟨g, 0, none⟩) (n + 1) cap)) w') :
    if Region.wanted o (yielded ops a.tmps) = true then Oper.wp P o a w K Q else E := by
  have hl1 : news.length = 1 * size := by omega
  by_cases hsm : (n + 1) * bytes ≤ 140737488355328
  · exact step_append_lies w hgd s x t ho base e i z size bytes ht hi hz hs hby hzs hsz v n xs hsv hown ad 1 c news hx hl1 hnews h1 (by omega) h63 hsm hbase H hH h
  · have hw : Region.wanted o (yielded ops a.tmps) = true := by simp [Region.wanted, hgd]
    rw [if_pos hw]
    have hn : 0 < n := by
      rcases Nat.eq_zero_or_pos n with rfl | hp
      · exfalso; omega
      · exact hp
    obtain ⟨g, cap, rfl, _, _⟩ := hown.form hn
    have hle : n ≤ cap := by
      rcases hown.2 with ⟨hv, _⟩ | ⟨g2, cap2, cur, hv, _, _, hnc, _⟩
      · cases hv
      · simp only [Value.slice.injEq, Option.some.injEq, Addr.mk.injEq, and_true, true_and] at hv
        omega
    have hcap : cap < n + 1 → Builtin.nextslicecap (n + 1) cap * bytes ≤ 281474976710656 := by
      intro hc
      obtain rfl : cap = n := by omega
      exact Nat.le_trans (Nat.mul_le_mul_right _ (cap_one cap)) hbytes
    obtain ⟨g', cap', w', hr, h2, h3, h4, h5⟩ := run_append_wide (news := news) (m := 1) t o.type ht hi hz hs hby hzs hown ad c hl1 hnews h1 h63 hcap hbase
    unfold Oper.wp execOp
    simp only [ho, resolve, invoke, builtin, Sem.run_bind, Sem.run_pure, Result.andThen_ok, List.map_toArray, List.map_cons, List.map_nil, hsv, hx, hr]
    refine h g' cap' w' h2 h3 ?_ h5
    rcases h4 with rfl | rfl
    · exact .inl rfl
    · exact .inr hH

/-- A copy of a whole row, at the list of a plain region's operations: as 'wpList_append_own_at' onto a row without room, the row may be longer. -/
theorem wpList_append_copy {ops : Array Oper} {rest : List Oper} {o : Oper} {a : Act} {Q : Exit → Act → World → Prop} (hgd : o.guard = none) (s x : Operand) (t : TypeId)
    (ho : o.op = .call { callee := .builtin .append, args := #[s, x], argTypes := #[t, t] }) (i : TypeInfo)
    (ht : P.underlying t = some (.slice e)) (hi : P.info? e = some i) (hz : i.zero = some z) (hs : i.size = size) (hby : i.bytes = bytes) (hzs : z.cells.size = size) (hsz : 0 < size)
    (g : Nat) (hsv : a.eval s = .slice (some ⟨g, 0, none⟩) 0 0) (hown : w.ownsRow base e size (.slice (some ⟨g, 0, none⟩) 0 0) 0 []) (ad : Addr) (c : Nat) (hx : a.eval x = .slice (some ad) m c) (hl : news.length = m * size) (hnews : ∀ j u, news[j]? = some u → w.cell? (ad.add j) = some u) (h1 : ∀ u ∈ news, u.oneCell' = true)
    (h63 : m ≤ maxLen) (hbytes : m * bytes ≤ 281474976710656) (hbase : base ≤ w.heap.size)
    (h : ∀ v' w', w'.ownsRow base e size v' m news → w.grownBy w' (some g) → wpList P ops Q rest (a.put o.dst v') w') : wpList P ops Q (o :: rest) a w := by
  refine wpList_plain hgd fun _ hK => ?_
  have hcap : 0 < 0 + m → Builtin.nextslicecap (0 + m) 0 * bytes ≤ 281474976710656 := by
    intro hp
    rw [Nat.zero_add, nextslicecap_zero (by omega)]
    exact hbytes
  obtain ⟨g', cap', w', hr, h2, h3, h4, h5⟩ := run_append_wide (news := news) (m := m) t o.type ht hi hz hs hby hzs hown ad c hl hnews h1 (by omega) hcap hbase
  unfold Oper.wp execOp
  simp only [ho, resolve, invoke, builtin, Sem.run_bind, Sem.run_pure, Result.andThen_ok, List.map_toArray, List.map_cons, List.map_nil, hsv, hx, hr]
  rw [Nat.zero_add, List.nil_append] at h2
  rw [Nat.zero_add]
  exact hK _ _ (h _ _ h2 h3)
end
end Go.Proofs.YthbcbjkgjgmegaaGreat

namespace Go.Proofs.YthbcbjkgjgmegaaGreat
open Go.RowKit
set_option linter.unusedVariables false
set_option linter.unusedSimpArgs false
attribute [local go_sem ↓] Go.wp_at_zero Go.wp_at_succ

/-- One access, as a log keeps it. -/
structure Acc where
  st : Int
  th : Int
  kind : Int
  at_ : Int
  op : Int
  ok : Bool
def Acc.cells (a : Acc) : List Value := [.int .i64 a.st, .int .i64 a.th, .int .i64 a.kind, .int .i64 a.at_, .int .i64 a.op, .bool a.ok]
def logCells : List Acc → List Value
  | [] => []
  | a :: l => a.cells ++ logCells l
theorem logCells_append (l k : List Acc) : logCells (l ++ k) = logCells l ++ logCells k := by
  induction l with
  | nil => rfl
  | cons a l ih => simp [logCells, ih]
theorem logCells_length (l : List Acc) : (logCells l).length = l.length * 6 := by
  induction l with
  | nil => rfl
  | cons a l ih => simp [logCells, Acc.cells, ih]; omega
theorem logCells_one (l : List Acc) : ∀ u ∈ logCells l, u.oneCell' = true := by
  induction l with
  | nil => intro u h; cases h
  | cons a l ih =>
    intro u h
    simp only [logCells, List.mem_append] at h
    rcases h with h | h
    · simp only [Acc.cells, List.mem_cons, List.not_mem_nil, or_false] at h
      rcases h with h | h | h | h | h | h <;> subst h <;> rfl
    · exact ih u h

/-- What a meter has counted and noted. -/
structure Mt where
  st : Int
  th : Int
  dn : Int
  mo : Int
  l : List Acc
def Mt.zero : Mt := ⟨0, 0, 0, 0, []⟩
def Mt.start (s : Mt) (t : Int) : Mt := ⟨s.st + 1, t, 0, s.mo, s.l⟩
def Mt.note (s : Mt) (kind i op : Int) (ok : Bool) : Mt := ⟨s.st, s.th, s.dn + 1, max s.mo (s.dn + 1), s.l ++ [⟨s.st, s.th, kind, i, op, ok⟩]⟩
/-- Its numbers are at most n. -/
structure Mt.within (s : Mt) (n : Nat) : Prop where
  st0 : 0 ≤ s.st
  st1 : s.st ≤ n
  dn0 : 0 ≤ s.dn
  dn1 : s.dn ≤ n
  len : s.l.length ≤ n
theorem Mt.within_zero (n : Nat) : Mt.zero.within n := ⟨Int.le_refl _, Int.natCast_nonneg _, Int.le_refl _, Int.natCast_nonneg _, Nat.zero_le _⟩
theorem Mt.within.more {s : Mt} {n k : Nat} (h : s.within n) (hk : n ≤ k) : s.within k := by
  obtain ⟨a, b, c, d, e⟩ := h
  exact ⟨a, by omega, c, by omega, by omega⟩
theorem Mt.within.start {s : Mt} {n : Nat} (h : s.within n) (t : Int) : (s.start t).within (n + 1) := by
  obtain ⟨a, b, c, d, e⟩ := h
  exact ⟨by simp only [Mt.start]; omega, by simp only [Mt.start]; omega, by simp only [Mt.start]; omega, by simp only [Mt.start]; omega, by simp only [Mt.start]; omega⟩
theorem Mt.within.note {s : Mt} {n : Nat} (h : s.within n) (kind i op : Int) (ok : Bool) : (s.note kind i op ok).within (n + 1) := by
  obtain ⟨a, b, c, d, e⟩ := h
  exact ⟨by simp only [Mt.note]; omega, by simp only [Mt.note]; omega, by simp only [Mt.note]; omega, by simp only [Mt.note]; omega, by simp only [Mt.note, List.length_append, List.length_singleton]; omega⟩

/-- A meter of type t in block m: its numbers, and its log v. -/
structure MeterAt (t e : TypeId) (w : World) (m : Nat) (st th dn mo : Int) (v : Value) (l : List Acc) : Prop where
  heap : w.heap[m]? = some (.cells #[.int .i64 st, .int .i64 th, .int .i64 dn, .int .i64 mo, v] t (0, 0))
  own : w.ownsRow 0 e 6 v l.length (logCells l)
  apart : v.ownBlock ≠ some m

/-- The block of a log stays, or is a new one. -/
def Fresh (w : World) (v v' : Value) : Prop := v'.ownBlock = v.ownBlock ∨ ∃ g, v'.ownBlock = some g ∧ w.heap.size ≤ g
theorem Fresh.refl (w : World) (v : Value) : Fresh w v v := .inl rfl

/-- The end of a note: behind the append the new log is stored into the meter. -/
theorem note_end {t e : TypeId} {w w2 w1 : World} {m g cap : Nat} {st th dn mo : Int} {a : Acc} {v : Value} {l : List Acc} {o : Obj}
    (hm : w2.heap[m]? = some (.cells #[.int .i64 st, .int .i64 th, .int .i64 dn, .int .i64 mo, v] t (0, 0))) (hk : Kept (fun k => k = m ∨ v.ownBlock = some k) w w2) (hs : w2.heap.size = w.heap.size)
    (hown1 : w1.ownsRow 0 e 6 (.slice (some ⟨g, 0, none⟩) (l.length + 1) cap) (l.length + 1) (logCells l ++ a.cells))
    (hgrow : ((w2.alloc o).drew).grownBy w1 v.ownBlock) (hat : v.ownBlock = some g ∨ g = w2.heap.size + 1) (hvm : v.ownBlock ≠ some m) :
    MeterAt t e (w1.setCell ⟨m, 4, none⟩ (.slice (some ⟨g, 0, none⟩) (l.length + 1) cap)) m st th dn mo (.slice (some ⟨g, 0, none⟩) (l.length + 1) cap) (l ++ [a]) ∧
      Fresh w v (.slice (some ⟨g, 0, none⟩) (l.length + 1) cap) ∧ Kept (fun k => k = m ∨ v.ownBlock = some k) w (w1.setCell ⟨m, 4, none⟩ (.slice (some ⟨g, 0, none⟩) (l.length + 1) cap)) := by
  have hlt := lt_of_heap hm
  have h1 := (grown_block hlt hgrow hvm).trans hm
  have hgm : m ≠ g := by
    rcases hat with h | h
    · intro e; subst e; exact hvm h
    · omega
  have hkk : Kept (fun k => k = m ∨ v.ownBlock = some k) w (w1.setCell ⟨m, 4, none⟩ (.slice (some ⟨g, 0, none⟩) (l.length + 1) cap)) := Kept.setCell (Kept.grown ((hk.alloc o).drew) hgrow (fun k e => .inl (.inr e))) _ (.inl (.inl rfl))
  refine ⟨⟨?_, ?_, by simp [Value.ownBlock]; omega⟩, ?_, hkk⟩
  · rw [heap_setCell_at h1]; rfl
  · have := ownsRow_setCell_far hown1 (a := ⟨m, 4, none⟩) (by simp [Value.ownBlock]; omega) (.slice (some ⟨g, 0, none⟩) (l.length + 1) cap)
    simpa [logCells_append, logCells] using this
  · rcases hat with h | h
    · exact .inl h.symm
    · exact .inr ⟨g, rfl, by omega⟩

theorem Tryz.infoAcc : (Tryz.prog.info? 391).map (fun i => (i.zero, i.size, i.bytes)) = some (some (.agg #[.int .i64 0, .int .i64 0, .int .i64 0, .int .i64 0, .int .i64 0, .bool false]), 6, 48) := by kernel_rfl

/-- A meter, or none. -/
def meterI (t : TypeId) (mo : Option Nat) (s : Mt) (v : Value) : It := match mo with
  | none => ⟨[], fun _ => True, fun _ _ _ p => p, fun _ _ b hb => by cases hb⟩
  | some m => ⟨m :: v.ownBlock.toList, fun w => MeterAt t 391 w m s.st s.th s.dn s.mo v s.l,
      fun w w' h p => ⟨(h m (by simp)).trans p.heap, own_loc p.own (fun k hk => h k (by simp [hk])), p.apart⟩,
      fun w p b hb => by
        rcases List.mem_cons.1 hb with rfl | hb
        · exact lt_of_heap p.heap
        · exact (p.own.lt b (by simpa using hb)).2⟩
def maddr : Option Nat → Option Addr
  | none => none
  | some m => some ⟨m, 0, none⟩
def mptr (mo : Option Nat) : Value := .pointer (maddr mo)
theorem meter_nodup {m : Nat} {v : Value} (h : v.ownBlock ≠ some m) : (m :: v.ownBlock.toList).Nodup := by
  rw [List.nodup_cons]
  refine ⟨by simpa using h, own_nodup v⟩
theorem St.meter {o w w' : World} {its : List It} (h : St o its w) (i : Nat) {t : TypeId} {m : Nat} {s s' : Mt} {v v' : Value} (hi : its[i]? = some (meterI t (some m) s v))
    (p : MeterAt t 391 w' m s'.st s'.th s'.dn s'.mo v' s'.l) (hf : Fresh w v v') (k : Kept (fun k => k = m ∨ v.ownBlock = some k) w w') : St o (its.set i (meterI t (some m) s' v')) w' := by
  refine h.set i hi (k.mono (fun b _ hb => ?_)) p (meter_nodup p.apart) (fun b hb => ?_)
  · rcases hb with hb | hb <;> simp [meterI, hb]
  · rcases List.mem_cons.1 hb with rfl | hb
    · exact .inl (by simp [meterI])
    · rcases hf with hf | ⟨g, hg, hlt⟩
      · rw [hf] at hb
        exact .inl (by simp only [meterI, List.mem_cons]; exact .inr hb)
      · rw [hg] at hb
        right
        simp at hb
        omega

end Go.Proofs.YthbcbjkgjgmegaaGreat

namespace Go.Proofs.YthbcbjkgjgmegaaGreat
open Go.RowKit Go.ChangeShapes Go.WideShapes Go.ChangeAt
set_option linter.unusedVariables false
set_option linter.unusedSimpArgs false

theorem and_mask (z : Int) (k : Nat) (hk : k < 63) : bits .and .i64 z ((2 ^ k - 1 : Nat) : Int) = z % ((2 ^ k : Nat) : Int) := by
  show IntKind.i64.wrap ((BitVec.ofInt 64 z &&& BitVec.ofInt 64 ((2 ^ k - 1 : Nat) : Int)).toNat : Int) = _
  have hp : 2 ^ k < 2 ^ 63 := Nat.pow_lt_pow_right (by decide) hk
  have h2 : (BitVec.ofInt 64 ((2 ^ k - 1 : Nat) : Int)).toNat = 2 ^ k - 1 := by
    rw [BitVec.ofInt_natCast, BitVec.toNat_ofNat]; exact Nat.mod_eq_of_lt (by omega)
  rw [BitVec.toNat_and, h2, Nat.and_two_pow_sub_one_eq_mod, BitVec.toNat_ofInt]
  have hpos : 0 < 2 ^ k := Nat.two_pow_pos k
  have hz0 : 0 ≤ z % ((2 ^ k : Nat) : Int) := Int.emod_nonneg _ (by omega)
  have hz1 : z % ((2 ^ k : Nat) : Int) < ((2 ^ k : Nat) : Int) := Int.emod_lt_of_pos _ (by omega)
  have hd : ((2 ^ k : Nat) : Int) ∣ ((2 ^ 64 : Nat) : Int) := Int.natCast_dvd_natCast.2 (Nat.pow_dvd_pow 2 (by omega))
  have e : (((z % ((2 ^ 64 : Nat) : Int)).toNat % 2 ^ k : Nat) : Int) = z % ((2 ^ k : Nat) : Int) := by
    rw [Int.natCast_emod, Int.toNat_of_nonneg (Int.emod_nonneg _ (by decide)), Int.emod_emod_of_dvd _ hd]
  have e2 : (((z % (2 ^ 64 : Nat)).toNat % 2 ^ k : Nat) : Int) = z % ((2 ^ k : Nat) : Int) := e
  rw [e2, IntKind.wrap_i64]
  generalize z % ((2 ^ k : Nat) : Int) = r at hz0 hz1
  generalize 2 ^ k = P at *
  omega
theorem and7 (z : Int) : bits .and .i64 z 7 = z % 8 := and_mask z 3 (by decide)
theorem and255 (z : Int) : bits .and .i64 z 255 = z % 256 := and_mask z 8 (by decide)
theorem and1023 (z : Int) : bits .and .i64 z 1023 = z % 1024 := and_mask z 10 (by decide)
theorem and15 (z : Int) : bits .and .i64 z 15 = z % 16 := and_mask z 4 (by decide)
theorem and3 (z : Int) : bits .and .i64 z 3 = z % 4 := and_mask z 2 (by decide)
theorem and20 (z : Int) : bits .and .i64 z 1048575 = z % 1048576 := and_mask z 20 (by decide)
theorem and1 (z : Int) : bits .and .i64 z 1 = z % 2 := and_mask z 1 (by decide)

theorem Kept.cell {F : Nat → Prop} {a w : World} (h : Kept F a w) {p : Addr} {u : Value} (hc : a.cell? p = some u) (hf : ¬ F p.block) : w.cell? p = some u :=
  (World.cell?_of_block (h.block p.block (World.block_lt_of_cell? a p hc) hf)).trans hc

/-- A list of int in memory, of n elements. -/
def IntsIn (w : World) (la : Option Addr) (n : Nat) (zs : List Int) : Prop :=
  n = zs.length ∧ (0 < n → ∃ g o, la = some ⟨g, o, none⟩ ∧ ∀ j, j < n → w.cell? ⟨g, o + j, none⟩ = some (.int .i64 (zs.getD j 0)))
theorem IntsIn.drew {w : World} {la : Option Addr} {n : Nat} {zs : List Int} (h : IntsIn w la n zs) : IntsIn w.drew la n zs := h
/-- It stays where its block isn't touched. -/
theorem IntsIn.kept {w w' : World} {la : Option Addr} {n : Nat} {zs : List Int} (h : IntsIn w la n zs) (k : Kept (fun _ => False) w w') : IntsIn w' la n zs := by
  refine ⟨h.1, fun hn => ?_⟩
  obtain ⟨g, o, hla, hc⟩ := h.2 hn
  exact ⟨g, o, hla, fun j hj => k.cell (hc j hj) (fun f => f)⟩

theorem IntsIn.below {w w' : World} {la : Option Addr} {n : Nat} {zs : List Int} {B : Nat} (h : IntsIn w la n zs) (k : Below B w w') (hB : w.heap.size ≤ B) : IntsIn w' la n zs := by
  refine ⟨h.1, fun hn => ?_⟩
  obtain ⟨g, o, hla, hc⟩ := h.2 hn
  exact ⟨g, o, hla, fun j hj => (k.cell (Nat.lt_of_lt_of_le (World.block_lt_of_cell? w _ (hc j hj)) hB)).trans (hc j hj)⟩

/-- A list of int64 that came in: nil, or a row of cells. -/
def ListAt (w : World) (la : Option Addr) (ll lc : Nat) (zs : List Int) : Prop :=
  (la = none ∧ ll = 0 ∧ lc = 0 ∧ zs = []) ∨
  ∃ a, la = some a ∧ ll = zs.length ∧ ll ≤ lc ∧ lc * 8 ≤ 140737488351232 ∧ ∀ j, j < ll → w.cell? (a.add j) = some (.int .i64 (zs.getD j 0))

theorem ListAt.below {B : Nat} {w w' : World} {la : Option Addr} {ll lc : Nat} {zs : List Int} (h : ListAt w la ll lc zs) (k : Below B w w') (hB : w.heap.size ≤ B) : ListAt w' la ll lc zs := by
  rcases h with h | ⟨a, h1, h2, h3, h4, h5⟩
  · exact .inl h
  · refine .inr ⟨a, h1, h2, h3, h4, fun j hj => ?_⟩
    have := World.block_lt_of_cell? w _ (h5 j hj)
    rw [k.cell (p := a.add j) (Nat.lt_of_lt_of_le this hB)]
    exact h5 j hj
section
variable {H : Type} {enc : TypeId × Value → H} {w : World}
theorem Tryz.cells3 : Tryz.prog.cellsOf 3 = 1 := by kernel_rfl
theorem Tryz.bytes3 : Tryz.prog.bytesOf 3 = 8 := by kernel_rfl
theorem open_list {fuel : Nat} {v : Value} {x : DataW H × List MemPlace} (h : DataW.trod enc Tryz.prog w 0 (fun _ => true) true fuel 45 [v] = some x) (hz : ∀ n ∈ x.1.weights Tryz.prog 45, n ≤ reachBytes) :
    ∃ la ll lc zs, v = .slice la ll lc ∧ ListAt w la ll lc zs := by
  rcases open_ints Tryz.underlying45 Tryz.underlying3 Tryz.cells3 h with ⟨hcs, _⟩ | ⟨a, len, cap, zs, hcs, _, hl, hm, hzl, hx, hcell, _⟩
  · simp only [List.cons.injEq, and_true] at hcs
    exact ⟨_, _, _, [], hcs, .inl ⟨rfl, rfl, rfl, rfl⟩⟩
  · simp only [List.cons.injEq, and_true] at hcs
    simp only [if_true] at hzl
    have hr : cap * 8 ≤ 140737488351232 := by
      have := hz ((zs.take len).length * 8 + (zs.drop len).length * 8) (by
        rw [hx]
        simp [DataW.weights, Tryz.underlying45, Tryz.bytes3, lits, Nat.add_mul])
      simp only [List.length_take, List.length_drop, reachBytes] at this
      omega
    refine ⟨_, _, _, zs.take len, hcs, .inr ⟨a, rfl, by simp; omega, hl, hr, fun j hj => ?_⟩⟩
    have := hcell j (by omega)
    simpa [hj] using this

end

theorem list_ints {w : World} {la : Option Addr} {ll lc : Nat} {zs : List Int} (h : ListAt w la ll lc zs) : IntsIn w la ll zs ∧ ll = zs.length ∧ ll * 8 ≤ 140737488351232 := by
  rcases h with ⟨rfl, rfl, rfl, rfl⟩ | ⟨a, rfl, h1, h2, h3, h4⟩
  · exact ⟨⟨rfl, fun h => by omega⟩, rfl, by omega⟩
  · refine ⟨⟨h1, fun h0 => ?_⟩, h1, by omega⟩
    obtain ⟨g, o, spot⟩ := a
    have hs := World.cell?_spot (h4 0 h0)
    have : spot = none := by simpa [Addr.add] using hs
    subst this
    refine ⟨g, o, rfl, fun j hj => ?_⟩
    have := h4 j hj
    have ea : (⟨g, o, none⟩ : Addr).add j = ⟨g, o + j, none⟩ := by unfold Addr.add; split <;> simp_all
    rwa [ea] at this
end Go.Proofs.YthbcbjkgjgmegaaGreat

namespace Go.Proofs.YthbcbjkgjgmegaaGreat
open Go.RowKit
set_option linter.unusedVariables false
set_option linter.unusedSimpArgs false

theorem newMeter_st {o w : World} {its : List It} (h : St o its w) :
    Calls Tryz.prog 33 #[] w fun e w' => e = .returned (.pointer (some ⟨w.heap.size, 0, none⟩)) ∧ St o (meterI 174 (some w.heap.size) Mt.zero (.slice none 0 0) :: its) w' ∧ w'.heap.size = w.heap.size + 1 := by
  have hS : Hid (St o (meterI 174 (some w.heap.size) Mt.zero (.slice none 0 0) :: its) (w.alloc (.cells #[.int .i64 0, .int .i64 0, .int .i64 0, .int .i64 0, .slice none 0 0] 174))) :=
    h.push (meterI 174 (some w.heap.size) Mt.zero (.slice none 0 0)) (kept_alloc w _) ⟨heap_alloc_new w _, World.ownsRow_nil _ _ _ _, by simp [Value.ownBlock]⟩ (by simp [meterI, Value.ownBlock]) (by simp [meterI, Value.ownBlock])
  go_enter Tryz.func33, Tryz.ntmps33
  go_wp2
  go_ret
  exact ⟨rfl, hS.out, by simp⟩

theorem begin_any (m : Nat) (st th dn mo t : Int) (v : Value) (l : List Acc) (w : World) (h : MeterAt 174 391 w m st th dn mo v l) (h0 : 0 ≤ st) (h1 : st < 4611686018427387904) : Calls Tryz.prog 63 #[.pointer (some ⟨m, 0, none⟩), .int .i64 t] w fun e w' => e = .returned (.tuple #[]) ∧ MeterAt 174 391 w' m (st + 1) t 0 mo v l ∧ Kept (fun k => k = m ∨ v.ownBlock = some k) w w' := by
  obtain ⟨hm, ho, hvm⟩ := h
  have c0 : w.cell? ⟨m, 0, none⟩ = some (.int .i64 st) := cell_of_heap hm
  have c1 : w.cell? ⟨m, 1, none⟩ = some (.int .i64 th) := cell_of_heap hm
  have c2 : w.cell? ⟨m, 2, none⟩ = some (.int .i64 dn) := cell_of_heap hm
  have f0 : w.frozen? ⟨m, 0, none⟩ = false := frozen_of_heap hm
  have f1 : w.frozen? ⟨m, 1, none⟩ = false := frozen_of_heap hm
  have f2 : w.frozen? ⟨m, 2, none⟩ = false := frozen_of_heap hm
  have HM := hm
  clear hm
  go_enter Tryz.func63, Tryz.ntmps63
  go_wp2
  go_end0
  refine ⟨rfl, ⟨?_, ownsRow_setCell_far (ownsRow_setCell_far (ownsRow_setCell_far ho hvm _) hvm _) hvm _, hvm⟩, (((Kept.refl (fun k => k = m ∨ v.ownBlock = some k) w).setCell _ (.inl (.inl rfl))).setCell _ (.inl (.inl rfl))).setCell _ (.inl (.inl rfl))⟩
  rw [heap_setCell_at (heap_setCell_at (heap_setCell_at HM _) _) _]
  rfl
theorem begin_st {o w : World} {its : List It} (h : St o its w) (i : Nat) {m : Nat} {s : Mt} {v : Value} (hi : its[i]? = some (meterI 174 (some m) s v)) {n : Nat} (hw : s.within n) (hn : n ≤ 4611686018427) (t : Int) :
    Calls Tryz.prog 63 #[.pointer (some ⟨m, 0, none⟩), .int .i64 t] w fun e w' => e = .returned (.tuple #[]) ∧ St o (its.set i (meterI 174 (some m) (s.start t) v)) w' := by
  obtain ⟨a1, a2, a3, a4, a5⟩ := hw
  refine (begin_any m s.st s.th s.dn s.mo t v s.l w (h.get i hi) a1 (by omega)).mono ?_
  rintro e w' ⟨he, h1, h2⟩
  exact ⟨he, h.meter i hi h1 (Fresh.refl _ _) h2⟩

theorem refBegin_any (m : Nat) (st th dn mo t : Int) (v : Value) (l : List Acc) (w : World) (h : MeterAt 211 391 w m st th dn mo v l) (h0 : 0 ≤ st) (h1 : st < 4611686018427387904) : Calls Tryz.prog 47 #[.pointer (some ⟨m, 0, none⟩), .int .i64 t] w fun e w' => e = .returned (.tuple #[]) ∧ MeterAt 211 391 w' m (st + 1) t 0 mo v l ∧ Kept (fun k => k = m ∨ v.ownBlock = some k) w w' := by
  obtain ⟨hm, ho, hvm⟩ := h
  have c0 : w.cell? ⟨m, 0, none⟩ = some (.int .i64 st) := cell_of_heap hm
  have c1 : w.cell? ⟨m, 1, none⟩ = some (.int .i64 th) := cell_of_heap hm
  have c2 : w.cell? ⟨m, 2, none⟩ = some (.int .i64 dn) := cell_of_heap hm
  have f0 : w.frozen? ⟨m, 0, none⟩ = false := frozen_of_heap hm
  have f1 : w.frozen? ⟨m, 1, none⟩ = false := frozen_of_heap hm
  have f2 : w.frozen? ⟨m, 2, none⟩ = false := frozen_of_heap hm
  have HM := hm
  clear hm
  go_enter Tryz.func47, Tryz.ntmps47
  go_wp2
  go_end0
  refine ⟨rfl, ⟨?_, ownsRow_setCell_far (ownsRow_setCell_far (ownsRow_setCell_far ho hvm _) hvm _) hvm _, hvm⟩, (((Kept.refl (fun k => k = m ∨ v.ownBlock = some k) w).setCell _ (.inl (.inl rfl))).setCell _ (.inl (.inl rfl))).setCell _ (.inl (.inl rfl))⟩
  rw [heap_setCell_at (heap_setCell_at (heap_setCell_at HM _) _) _]
  rfl
theorem refBegin_st {o w : World} {its : List It} (h : St o its w) (i : Nat) {m : Nat} {s : Mt} {v : Value} (hi : its[i]? = some (meterI 211 (some m) s v)) {n : Nat} (hw : s.within n) (hn : n ≤ 4611686018427) (t : Int) :
    Calls Tryz.prog 47 #[.pointer (some ⟨m, 0, none⟩), .int .i64 t] w fun e w' => e = .returned (.tuple #[]) ∧ St o (its.set i (meterI 211 (some m) (s.start t) v)) w' := by
  obtain ⟨a1, a2, a3, a4, a5⟩ := hw
  refine (refBegin_any m s.st s.th s.dn s.mo t v s.l w (h.get i hi) a1 (by omega)).mono ?_
  rintro e w' ⟨he, h1, h2⟩
  exact ⟨he, h.meter i hi h1 (Fresh.refl _ _) h2⟩

theorem steps_st {o w : World} {its : List It} (h : St o its w) (i : Nat) {m : Nat} {s : Mt} {v : Value} (hi : its[i]? = some (meterI 174 (some m) s v)) :
    Calls Tryz.prog 215 #[.pointer (some ⟨m, 0, none⟩)] w fun e w' => e = .returned (.int .i64 s.st) ∧ w' = w := by
  have c : w.cell? ⟨m, 0, none⟩ = some (.int .i64 s.st) := cell_of_heap (show MeterAt _ _ w m _ _ _ _ _ _ from h.get i hi).heap
  clear h hi
  go_enter Tryz.func215, Tryz.ntmps215
  go_wp2
  go_ret
  exact ⟨rfl, rfl⟩

end Go.Proofs.YthbcbjkgjgmegaaGreat
