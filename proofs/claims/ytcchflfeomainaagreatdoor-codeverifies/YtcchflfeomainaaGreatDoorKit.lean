/- Plain facts on worlds and blocks; things in memory that have no block in common. No program is named here. -/
import Derived.WalkKit
import Derived.WalkSpells
import Derived.ProofKit
import Derived.Below
import Derived.OwnWalk
import Derived.Deep.AppendLies
import Derived.Laws.Pointers
import Derived.KernelRfl
namespace Go.Proofs.YtcchflfeomainaaGreatDoor
open Go.RowKit
set_option linter.unusedVariables false
set_option linter.unusedSimpArgs false

/-- All that was there stays, but for the blocks of F; new blocks may have come. -/
structure Kept (F : Nat → Prop) (w w' : World) : Prop where
  os : w'.os = w.os
  tape : w'.tape = w.tape
  output : w'.output = w.output
  size : w.heap.size ≤ w'.heap.size
  block : ∀ k, k < w.heap.size → ¬ F k → w'.heap[k]? = w.heap[k]?

theorem Kept.refl (F : Nat → Prop) (w : World) : Kept F w w := ⟨rfl, rfl, rfl, Nat.le_refl _, fun _ _ _ => rfl⟩
theorem Kept.trans {F G : Nat → Prop} {a b c : World} (h : Kept F a b) (k : Kept G b c) (hg : ∀ i, i < a.heap.size → G i → F i) : Kept F a c :=
  ⟨k.os.trans h.os, k.tape.trans h.tape, k.output.trans h.output, Nat.le_trans h.size k.size,
   fun i hi hf => (k.block i (Nat.lt_of_lt_of_le hi h.size) (fun g => hf (hg i hi g))).trans (h.block i hi hf)⟩
theorem Kept.mono {F G : Nat → Prop} {a b : World} (h : Kept F a b) (hg : ∀ i, i < a.heap.size → F i → G i) : Kept G a b :=
  ⟨h.os, h.tape, h.output, h.size, fun i hi hf => h.block i hi (fun f => hf (hg i hi f))⟩
theorem Kept.drew {F : Nat → Prop} {a w : World} (h : Kept F a w) : Kept F a w.drew := ⟨h.os, h.tape, h.output, h.size, h.block⟩
theorem Kept.ofDrew {F : Nat → Prop} {w w' : World} (h : Kept F w.drew w') : Kept F w w' := ⟨h.os, h.tape, h.output, h.size, h.block⟩
theorem Kept.alloc {F : Nat → Prop} {a w : World} (h : Kept F a w) (o : Obj) : Kept F a (w.alloc o) :=
  ⟨h.os, h.tape, h.output, Nat.le_trans h.size (by simp), fun k hk hf => (Below.heap_alloc w o k (Nat.lt_of_lt_of_le hk h.size)).trans (h.block k hk hf)⟩
theorem Kept.setCell {F : Nat → Prop} {a w : World} (h : Kept F a w) {p : Addr} (u : Value) (hp : F p.block ∨ a.heap.size ≤ p.block) : Kept F a (w.setCell p u) :=
  ⟨h.os, h.tape, h.output, by simpa [World.setCell] using h.size, fun k hk hf => (Below.heap_setCell w p u k (fun e => by
    rcases hp with hp | hp
    · exact hf (e ▸ hp)
    · omega)).trans (h.block k hk hf)⟩
theorem Kept.grown {F : Nat → Prop} {a w w' : World} {row : Option Nat} (h : Kept F a w) (hg : w.grownBy w' row) (hr : ∀ k, row = some k → F k ∨ a.heap.size ≤ k) : Kept F a w' :=
  ⟨hg.os.trans h.os, hg.tape.trans h.tape, hg.output.trans h.output, Nat.le_trans h.size hg.size, fun k hk hf => (hg.block k (Nat.lt_of_lt_of_le hk h.size) (fun e => by
    rcases hr k e.symm with x | x
    · exact hf x
    · omega)).trans (h.block k hk hf)⟩
theorem Kept.below {F : Nat → Prop} {a w : World} {B : Nat} (h : Kept F a w) (hB : B ≤ a.heap.size) (hf : ∀ k, k < B → ¬ F k) : Below B a w :=
  ⟨h.os, h.tape, h.output, h.size, fun k hk => h.block k (Nat.lt_of_lt_of_le hk hB) (hf k hk)⟩
theorem kept_alloc (w : World) (o : Obj) : Kept (fun _ => False) w (w.alloc o) := (Kept.refl _ w).alloc o
theorem kept_drew (w : World) : Kept (fun _ => False) w w.drew := (Kept.refl _ w).drew

theorem lt_of_heap {w : World} {k : Nat} {o : Obj} (h : w.heap[k]? = some o) : k < w.heap.size := (Array.getElem?_eq_some_iff.1 h).1
theorem heap_setCell_at {w : World} {m o : Nat} {cs : Array Value} {t : TypeId} {fr : Nat × Nat} (h : w.heap[m]? = some (.cells cs t fr)) (u : Value) : (w.setCell ⟨m, o, none⟩ u).heap[m]? = some (.cells (cs.setIfInBounds o u) t fr) := by
  simp only [World.setCell, Array.getElem?_modify, h, if_true, Option.map_some]
  rfl
theorem heap_setCell_far {w : World} {m : Nat} {p : Addr} {u : Value} (h : m ≠ p.block) : (w.setCell p u).heap[m]? = w.heap[m]? := Below.heap_setCell w p u m h
theorem cell_of_heap {w : World} {m o : Nat} {cs : Array Value} {t : TypeId} {fr : Nat × Nat} (h : w.heap[m]? = some (.cells cs t fr)) : w.cell? ⟨m, o, none⟩ = cs[o]? := by
  simp [World.cell?, h]
theorem frozen_of_heap {w : World} {m o : Nat} {cs : Array Value} {t : TypeId} (h : w.heap[m]? = some (.cells cs t (0, 0))) : w.frozen? ⟨m, o, none⟩ = false := by
  simp [World.frozen?, h]
theorem size_setCell (w : World) (p : Addr) (u : Value) : (w.setCell p u).heap.size = w.heap.size := by simp [World.setCell]

theorem ownsRow_setCell_far {w : World} {base : Nat} {e : TypeId} {size : Nat} {v : Value} {n : Nat} {xs : List Value} (h : w.ownsRow base e size v n xs) {a : Addr} (ha : v.ownBlock ≠ some a.block) (u : Value) : (w.setCell a u).ownsRow base e size v n xs := by
  obtain ⟨h1, h2⟩ := h
  refine ⟨h1, ?_⟩
  rcases h2 with h2 | ⟨g, cap, cur, rfl, hg, hh, r⟩
  · exact .inl h2
  · exact .inr ⟨g, cap, cur, rfl, hg, by rw [heap_setCell_far (by simpa [Value.ownBlock] using ha)]; exact hh, r⟩
theorem own_loc {b : Nat} {e : TypeId} {z : Nat} {v : Value} {n : Nat} {xs : List Value} {w w' : World} (h : w.ownsRow b e z v n xs) (hk : ∀ k, v.ownBlock = some k → w'.heap[k]? = w.heap[k]?) : w'.ownsRow b e z v n xs := by
  obtain ⟨h1, h2⟩ := h
  refine ⟨h1, ?_⟩
  rcases h2 with h2 | ⟨g, cap, cur, rfl, hg, hh, r⟩
  · exact .inl h2
  · exact .inr ⟨g, cap, cur, rfl, hg, (hk g rfl).trans hh, r⟩
theorem own_zero {wr : World} {H : Nat} {e : TypeId} {sz : Nat} {l : Value} {n : Nat} {xs : List Value} (h : wr.ownsRow H e sz l n xs) : wr.ownsRow 0 e sz l n xs := by
  obtain ⟨h1, h2⟩ := h
  refine ⟨h1, ?_⟩
  rcases h2 with h2 | ⟨g, cap, cur, rfl, hg, hh, r⟩
  · exact .inl h2
  · exact .inr ⟨g, cap, cur, rfl, Nat.zero_le _, hh, r⟩
theorem grown_block {w2 w1 : World} {o : Obj} {row : Option Nat} {m : Nat} (hlt : m < w2.heap.size) (hg : ((w2.alloc o).drew).grownBy w1 row) (hne : row ≠ some m) : w1.heap[m]? = w2.heap[m]? := by
  rw [hg.block m (by simp; omega) (Ne.symm hne)]
  exact Below.heap_alloc w2 o m hlt

/-- A thing in memory: the blocks in which it lies, and what is said of them. -/
structure It where
  fp : List Nat
  P : World → Prop
  loc : ∀ w w', (∀ k, k ∈ fp → w'.heap[k]? = w.heap[k]?) → P w → P w'
  old : ∀ w, P w → ∀ k, k ∈ fp → k < w.heap.size

/-- Things that have no block in common, all of them newer than the world o, in which nothing has turned. -/
structure St (o : World) (its : List It) (w : World) : Prop where
  nodup : (its.flatMap It.fp).Nodup
  all : ∀ i, i ∈ its → i.P w
  high : ∀ i, i ∈ its → ∀ k, k ∈ i.fp → o.heap.size ≤ k
  kept : Kept (fun k => o.heap.size ≤ k) o w

theorem St.nil (w : World) : St w [] w := ⟨List.nodup_nil, fun i h => (List.not_mem_nil h).elim, fun i h => (List.not_mem_nil h).elim, Kept.refl _ _⟩
theorem St.get {o w : World} {its : List It} (h : St o its w) (i : Nat) {A : It} (hi : its[i]? = some A) : A.P w := h.all A (List.mem_of_getElem? hi)
theorem St.same {o w : World} {its : List It} (h : St o its w) : Kept (fun _ => False) o w := h.kept.mono (fun i hi f => absurd f (by omega))
theorem St.le {o w : World} {its : List It} (h : St o its w) : o.heap.size ≤ w.heap.size := h.kept.size
theorem St.calm {o w w' : World} {its : List It} (h : St o its w) (k : Kept (fun _ => False) w w') : St o its w' :=
  ⟨h.nodup, fun i hi => i.loc w w' (fun b hb => k.block b (i.old w (h.all i hi) b hb) (fun f => f)) (h.all i hi), h.high, h.kept.trans k (fun _ _ f => f.elim)⟩
theorem St.drew {o w : World} {its : List It} (h : St o its w) : St o its w.drew := h.calm (kept_drew w)
theorem St.alloc {o w : World} {its : List It} (h : St o its w) (b : Obj) : St o its (w.alloc b) := h.calm (kept_alloc w b)
theorem St.base {o o' w : World} {its : List It} (h : St o' its w) (k : Kept (fun _ => False) o o') : St o its w :=
  ⟨h.nodup, h.all, fun i hi b hb => Nat.le_trans k.size (h.high i hi b hb), (k.mono (fun _ _ f => f.elim)).trans h.kept (fun i hi f => absurd f (by have := k.size; omega))⟩

theorem St.push {o w w' : World} {its : List It} (h : St o its w) (A : It) (k : Kept (fun _ => False) w w') (hp : A.P w') (hn : A.fp.Nodup) (hf : ∀ b, b ∈ A.fp → w.heap.size ≤ b) : St o (A :: its) w' := by
  have h' := h.calm k
  refine ⟨?_, ?_, ?_, h'.kept⟩
  · rw [List.flatMap_cons, List.nodup_append]
    refine ⟨hn, h.nodup, fun a ha b hb e => ?_⟩
    subst e
    obtain ⟨i, hi, hbi⟩ := List.mem_flatMap.1 hb
    have := i.old w (h.all i hi) a hbi
    have := hf a ha
    omega
  · intro i hi
    rcases List.mem_cons.1 hi with rfl | hi
    · exact hp
    · exact h'.all i hi
  · intro i hi b hb
    rcases List.mem_cons.1 hi with rfl | hi
    · exact Nat.le_trans h.le (hf b hb)
    · exact h.high i hi b hb
theorem St.pop {o w : World} {A : It} {its : List It} (h : St o (A :: its) w) : St o its w :=
  ⟨by have := h.nodup; rw [List.flatMap_cons, List.nodup_append] at this; exact this.2.1, fun i hi => h.all i (List.mem_cons_of_mem _ hi), fun i hi => h.high i (List.mem_cons_of_mem _ hi), h.kept⟩

theorem split_at {its : List It} {i : Nat} {A : It} (hi : its[i]? = some A) : ∃ a b, its = a ++ A :: b ∧ a.length = i := by
  obtain ⟨hlt, he⟩ := List.getElem?_eq_some_iff.1 hi
  refine ⟨its.take i, its.drop (i + 1), ?_, by simp; omega⟩
  rw [← he, List.getElem_cons_drop, List.take_append_drop]
theorem set_at (a b : List It) (A A' : It) : (a ++ A :: b).set a.length A' = a ++ A' :: b := by simp

theorem St.set {o w w' : World} {its : List It} (h : St o its w) (i : Nat) {A A' : It} (hi : its[i]? = some A) (k : Kept (fun b => b ∈ A.fp) w w') (hp : A'.P w') (hn : A'.fp.Nodup) (hf : ∀ b, b ∈ A'.fp → b ∈ A.fp ∨ w.heap.size ≤ b) : St o (its.set i A') w' := by
  obtain ⟨a, b, rfl, rfl⟩ := split_at hi
  rw [set_at]
  obtain ⟨h1, h2, h3, h4⟩ := h
  have hA : A ∈ a ++ A :: b := by simp
  have hle : o.heap.size ≤ w.heap.size := h4.size
  have other : ∀ x, x ∈ a ∨ x ∈ b → x ∈ a ++ A :: b := by
    intro x hx
    rcases hx with hx | hx <;> simp [hx]
  rw [List.flatMap_append, List.flatMap_cons, List.nodup_append, List.nodup_append] at h1
  obtain ⟨n1, ⟨n2, n3, n4⟩, n5⟩ := h1
  have far : ∀ x, x ∈ a ∨ x ∈ b → ∀ c, c ∈ x.fp → c ∉ A.fp := by
    intro x hx c hc hA'
    rcases hx with hx | hx
    · exact n5 c (List.mem_flatMap.2 ⟨x, hx, hc⟩) c (List.mem_append_left _ hA') rfl
    · exact n4 c hA' c (List.mem_flatMap.2 ⟨x, hx, hc⟩) rfl
  have new : ∀ x, x ∈ a ∨ x ∈ b → ∀ c, c ∈ x.fp → c ∉ A'.fp := by
    intro x hx c hc hc'
    rcases hf c hc' with hh | hh
    · exact far x hx c hc hh
    · have := x.old w (h2 x (other x hx)) c hc
      omega
  refine ⟨?_, ?_, ?_, ?_⟩
  · rw [List.flatMap_append, List.flatMap_cons, List.nodup_append, List.nodup_append]
    refine ⟨n1, ⟨hn, n3, ?_⟩, ?_⟩
    · intro c hc d hd e
      subst e
      obtain ⟨x, hx, hcx⟩ := List.mem_flatMap.1 hd
      exact new x (.inr hx) c hcx hc
    · intro c hc d hd e
      subst e
      obtain ⟨x, hx, hcx⟩ := List.mem_flatMap.1 hc
      rcases List.mem_append.1 hd with hd | hd
      · exact new x (.inl hx) c hcx hd
      · exact n5 c hc c (List.mem_append_right _ hd) rfl
  · intro x hx
    have hx' : x = A' ∨ x ∈ a ∨ x ∈ b := by
      simp only [List.mem_append, List.mem_cons] at hx
      rcases hx with hx | hx | hx
      · exact .inr (.inl hx)
      · exact .inl hx
      · exact .inr (.inr hx)
    rcases hx' with rfl | hx'
    · exact hp
    · have hPx := h2 x (other x hx')
      exact x.loc w w' (fun c hc => k.block c (x.old w hPx c hc) (far x hx' c hc)) hPx
  · intro x hx c hc
    have hx' : x = A' ∨ x ∈ a ∨ x ∈ b := by
      simp only [List.mem_append, List.mem_cons] at hx
      rcases hx with hx | hx | hx
      · exact .inr (.inl hx)
      · exact .inl hx
      · exact .inr (.inr hx)
    rcases hx' with rfl | hx'
    · rcases hf c hc with hh | hh
      · exact h3 A hA c hh
      · omega
    · exact h3 x (other x hx') c hc
  · exact h4.trans k (fun c _ hc => h3 A hA c hc)

theorem St.ne {o w : World} {its : List It} (h : St o its w) (i j : Nat) {A B : It} (hi : its[i]? = some A) (hj : its[j]? = some B) (hij : i ≠ j) {a b : Nat} (ha : a ∈ A.fp) (hb : b ∈ B.fp) : a ≠ b := by
  have h1 := h.nodup
  obtain ⟨p, q, rfl, rfl⟩ := split_at hi
  rw [List.flatMap_append, List.flatMap_cons, List.nodup_append, List.nodup_append] at h1
  obtain ⟨n1, ⟨n2, n3, n4⟩, n5⟩ := h1
  intro e
  subst e
  by_cases hlt : j < p.length
  · rw [List.getElem?_append_left hlt] at hj
    exact n5 a (List.mem_flatMap.2 ⟨B, List.mem_of_getElem? hj, hb⟩) a (List.mem_append_left _ ha) rfl
  · rw [List.getElem?_append_right (by omega)] at hj
    obtain ⟨d, hd⟩ : ∃ d, j - p.length = d + 1 := ⟨j - p.length - 1, by omega⟩
    rw [hd, List.getElem?_cons_succ] at hj
    exact n4 a ha a (List.mem_flatMap.2 ⟨B, List.mem_of_getElem? hj, hb⟩) rfl
theorem alloc_size (w : World) (o : Obj) : (w.alloc o).heap.size = w.heap.size + 1 := by simp
theorem set_other {its : List It} {i j : Nat} {A B : It} (hj : its[j]? = some B) (hij : i ≠ j) : (its.set i A)[j]? = some B := by
  rw [List.getElem?_set_ne hij]; exact hj
theorem set_self {its : List It} {i : Nat} {A B : It} (hi : its[i]? = some B) : (its.set i A)[i]? = some A := by
  rw [List.getElem?_set_self (List.getElem?_eq_some_iff.1 hi).1]
theorem set_back {its : List It} {i : Nat} {A : It} (hi : its[i]? = some A) : its.set i A = its := by
  obtain ⟨a, b, rfl, rfl⟩ := split_at hi
  rw [set_at]
theorem set_same {its : List It} {i : Nat} {A B : It} : (its.set i A).set i B = its.set i B := List.set_set ..

/-- A block of plain cells. -/
def boxI (k : Nat) (cs : Array Value) (t : TypeId) : It :=
  ⟨[k], fun w => w.heap[k]? = some (.cells cs t (0, 0)), fun w w' h p => (h k (List.mem_singleton.2 rfl)).trans p, fun w p b hb => by rw [List.mem_singleton.1 hb]; exact lt_of_heap p⟩
theorem St.box {o w : World} {its : List It} (h : St o its w) (cs : Array Value) (t : TypeId) : St o (boxI w.heap.size cs t :: its) (w.alloc (.cells cs t)) :=
  h.push (boxI w.heap.size cs t) (kept_alloc w _) (heap_alloc_new w _) (by simp [boxI]) (by simp [boxI])
theorem St.cell {o w : World} {its : List It} (h : St o its w) (i : Nat) {k : Nat} {cs : Array Value} {t : TypeId} (hi : its[i]? = some (boxI k cs t)) (j : Nat) : w.cell? ⟨k, j, none⟩ = cs[j]? := cell_of_heap (h.get i hi)
theorem St.frozen {o w : World} {its : List It} (h : St o its w) (i : Nat) {k : Nat} {cs : Array Value} {t : TypeId} (hi : its[i]? = some (boxI k cs t)) (j : Nat) : w.frozen? ⟨k, j, none⟩ = false := frozen_of_heap (h.get i hi)
theorem St.write {o w : World} {its : List It} (h : St o its w) (i : Nat) {k : Nat} {cs : Array Value} {t : TypeId} (hi : its[i]? = some (boxI k cs t)) (j : Nat) (u : Value) : St o (its.set i (boxI k (cs.setIfInBounds j u) t)) (w.setCell ⟨k, j, none⟩ u) :=
  h.set i hi ((Kept.refl _ w).setCell u (.inl (List.mem_singleton.2 rfl))) (heap_setCell_at (h.get i hi) u) (by simp [boxI]) (fun b hb => .inl hb)

/-- A list of the call's own. -/
def ownI (e : TypeId) (z : Nat) (v : Value) (n : Nat) (xs : List Value) : It :=
  ⟨v.ownBlock.toList, fun w => w.ownsRow 0 e z v n xs, fun w w' h p => own_loc p (fun k hk => h k (by simp [hk])), fun w p b hb => (p.lt b (by simpa using hb)).2⟩
theorem own_nodup (v : Value) : v.ownBlock.toList.Nodup := by cases v.ownBlock <;> simp
theorem St.own {o w w' : World} {its : List It} (h : St o its w) {e : TypeId} {z : Nat} {v : Value} {n : Nat} {xs : List Value} (k : Kept (fun _ => False) w w') (p : w'.ownsRow w.heap.size e z v n xs) : St o (ownI e z v n xs :: its) w' :=
  h.push (ownI e z v n xs) k (own_zero p) (own_nodup v) (fun b hb => (p.lt b (by simpa [ownI] using hb)).1)
end Go.Proofs.YtcchflfeomainaaGreatDoor
