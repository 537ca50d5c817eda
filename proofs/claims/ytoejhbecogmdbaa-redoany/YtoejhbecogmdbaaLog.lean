/- A log in memory: its block (bound, row of pairs, map of places), the row's own block, the map's; what a call may turn of it. No program is named here. -/
import Derived.Test.YtoejhbecogmdbaaMap
namespace Go.Proofs.Ytoejhbecogmdbaa
open Go.RowKit Go.MapKept
open Go.Maps (Keyed)
set_option linter.unusedVariables false
set_option linter.unusedSimpArgs false

/-- The cells of a pair. -/
def pcells (x : Value × Value) : List Value := x.1.cells.toList ++ [x.2]
def flat (ps : List (Value × Value)) : List Value := ps.flatMap pcells
/-- Every pair takes z cells. -/
def Fine (z : Nat) (x : Value × Value) : Prop := (pcells x).length = z ∧ ∀ u ∈ pcells x, u.oneCell' = true
def Wide (z : Nat) (ps : List (Value × Value)) : Prop := ∀ x ∈ ps, Fine z x
theorem flat_cons (x : Value × Value) (ps : List (Value × Value)) : flat (x :: ps) = pcells x ++ flat ps := rfl
theorem flat_append (a b : List (Value × Value)) : flat (a ++ b) = flat a ++ flat b := by simp [flat]
theorem flat_length {z : Nat} : ∀ {ps : List (Value × Value)}, Wide z ps → (flat ps).length = ps.length * z
  | [], _ => by simp [flat]
  | x :: r, h => by
    rw [flat_cons, List.length_append, (h x (by simp)).1, flat_length (fun y hy => h y (by simp [hy])), List.length_cons, Nat.add_mul]
    omega
theorem psplit {ps : List (Value × Value)} {i : Nat} {x : Value × Value} (hi : ps[i]? = some x) : ∃ a b, ps = a ++ x :: b ∧ a.length = i := by
  obtain ⟨hlt, he⟩ := List.getElem?_eq_some_iff.1 hi
  refine ⟨ps.take i, ps.drop (i + 1), ?_, by simp; omega⟩
  rw [← he, List.getElem_cons_drop, List.take_append_drop]
theorem Wide.left {z : Nat} {a b : List (Value × Value)} (h : Wide z (a ++ b)) : Wide z a := fun x hx => h x (by simp [hx])
theorem Wide.right {z : Nat} {a b : List (Value × Value)} (h : Wide z (a ++ b)) : Wide z b := fun x hx => h x (by simp [hx])
theorem flat_at {z : Nat} {ps : List (Value × Value)} (h : Wide z ps) {i : Nat} {x : Value × Value} (hi : ps[i]? = some x) {j : Nat} (hj : j < z) : (flat ps)[i * z + j]? = (pcells x)[j]? := by
  obtain ⟨a, b, rfl, rfl⟩ := psplit hi
  rw [flat_append, flat_cons, ← flat_length h.left, List.getElem?_append_right (by omega)]
  rw [show (flat a).length + j - (flat a).length = j by omega, List.getElem?_append_left]
  rw [(h x (by simp)).1]
  exact hj
theorem flat_set {z : Nat} {ps : List (Value × Value)} (h : Wide z ps) {i : Nat} {x x' : Value × Value} (hi : ps[i]? = some x) {j : Nat} (hj : j < z) {u : Value} (hx : pcells x' = (pcells x).set j u) : flat (ps.set i x') = (flat ps).set (i * z + j) u := by
  obtain ⟨a, b, rfl, rfl⟩ := psplit hi
  rw [List.set_append_right _ _ (Nat.le_refl _), Nat.sub_self, List.set_cons_zero, flat_append, flat_append, flat_cons, flat_cons, ← flat_length h.left, List.set_append_right _ _ (by omega)]
  rw [show (flat a).length + j - (flat a).length = j by omega, List.set_append_left _ _ (by rw [(h x (by simp)).1]; exact hj), hx]
theorem flat_erase {z : Nat} {ps : List (Value × Value)} (h : Wide z ps) {i : Nat} {x : Value × Value} (hi : ps[i]? = some x) : flat (ps.eraseIdx i) = (flat ps).take (i * z) ++ (flat ps).drop ((i + 1) * z) := by
  obtain ⟨a, b, rfl, rfl⟩ := psplit hi
  have hx : (pcells x).length = z := (h x (by simp)).1
  have e1 : (a ++ x :: b).eraseIdx a.length = a ++ b := by rw [List.eraseIdx_append_of_length_le (Nat.le_refl _)]; simp
  rw [e1, flat_append, flat_append, flat_cons, ← flat_length h.left, List.take_left' rfl]
  congr 1
  rw [show (a.length + 1) * z = (flat a).length + (pcells x).length by rw [flat_length h.left, hx, Nat.add_mul]; omega, ← List.drop_drop, List.drop_left' rfl, List.drop_left' rfl]
theorem flat_ones {z : Nat} {ps : List (Value × Value)} (h : Wide z ps) : ∀ u ∈ flat ps, u.oneCell' = true := by
  intro u hu
  obtain ⟨x, hx, hux⟩ := List.mem_flatMap.1 hu
  exact (h x hx).2 u hux
theorem Wide.set {z : Nat} {ps : List (Value × Value)} (h : Wide z ps) (i : Nat) {x : Value × Value} (hx : Fine z x) : Wide z (ps.set i x) := by
  intro y hy
  rcases List.mem_or_eq_of_mem_set hy with hy | rfl
  · exact h y hy
  · exact hx
theorem Wide.snoc {z : Nat} {ps : List (Value × Value)} (h : Wide z ps) {x : Value × Value} (hx : Fine z x) : Wide z (ps ++ [x]) := by
  intro y hy
  rcases List.mem_append.1 hy with hy | hy
  · exact h y hy
  · rw [List.mem_singleton.1 hy]; exact hx
theorem Wide.erase {z : Nat} {ps : List (Value × Value)} (h : Wide z ps) (i : Nat) : Wide z (ps.eraseIdx i) := fun y hy => h y ((List.eraseIdx_sublist _ _).subset hy)

/-- Cells of a row are written over, in its midst. -/
theorem own_splice {e : TypeId} {z B g n cap : Nat} : ∀ (vs : List Value) (o : Nat) (w : World) (xs : List Value), w.ownsRow B e z (.slice (some ⟨g, 0, none⟩) n cap) n xs → o + vs.length ≤ n * z → (w.setCells g o vs).ownsRow B e z (.slice (some ⟨g, 0, none⟩) n cap) n (xs.take o ++ vs ++ xs.drop (o + vs.length))
  | [], o, w, xs, h, _ => by simpa [World.setCells] using h
  | v :: r, o, w, xs, h, ho => by
    have hl := h.1
    simp only [List.length_cons] at ho
    have := own_splice r (o + 1) _ _ (h.stored o v).1 (by omega)
    rw [World.setCells]
    have e1 : (xs.set o v).take (o + 1) = xs.take o ++ [v] := by
      rw [List.take_set, List.take_succ_eq_append_getElem (by omega : o < xs.length), List.set_append_right _ _ (by simp; omega)]
      simp [List.length_take, Nat.min_eq_left (show o ≤ xs.length by omega)]
    have e2 : (xs.set o v).drop (o + 1 + r.length) = xs.drop (o + (r.length + 1)) := by
      rw [List.drop_set_of_lt (by omega)]
      congr 1
      omega
    rw [e1, e2] at this
    simpa [List.append_assoc] using this

/-- What the map of places says: where each key stands. -/
structure Idx (OK : Value → Prop) (f : Value → Option Value) (ps : List (Value × Value)) : Prop where
  at_ : ∀ (i : Nat) (x : Value × Value), ps[i]? = some x → f x.1 = some (.int .i64 (i : Int))
  no : ∀ k, OK k → (∀ x ∈ ps, x.1 ≠ k) → f k = none
theorem Idx.inj {OK : Value → Prop} {f : Value → Option Value} {ps : List (Value × Value)} (h : Idx OK f ps) {i j : Nat} {x y : Value × Value} (hi : ps[i]? = some x) (hj : ps[j]? = some y) (e : x.1 = y.1) : i = j := by
  have h1 := h.at_ i x hi
  have h2 := h.at_ j y hj
  rw [e, h2] at h1
  simp at h1
  omega

structure LogAt (P : Program) (t e : TypeId) (z : Nat) (K : TypeId) (OK : Value → Prop) (w : World) (p : Nat) (most : Int) (v : Value) (bm : Nat) (ps : List (Value × Value)) : Prop where
  heap : w.heap[p]? = some (.cells #[.int .i64 most, v, .map (some bm)] t (0, 0))
  own : w.ownsRow 0 e z v ps.length (flat ps)
  map : ∃ f, MapIs P K w bm f ∧ Idx OK f ps
  ne1 : v.ownBlock ≠ some p
  ne2 : v.ownBlock ≠ some bm
  ne3 : p ≠ bm
  keys : ∀ x ∈ ps, OK x.1
  wide : Wide z ps
  fits : (ps.length : Int) ≤ most
  most : most ≤ 4096

/-- Its blocks. -/
def foot (p bm : Nat) (v : Value) : List Nat := p :: bm :: v.ownBlock.toList
/-- The row's block stays, or is a new one. -/
def Fresh (w : World) (v v' : Value) : Prop := ∀ g, v'.ownBlock = some g → v.ownBlock = some g ∨ w.heap.size ≤ g
theorem Fresh.refl (w : World) (v : Value) : Fresh w v v := fun _ h => .inl h

section
variable {P : Program} {t e : TypeId} {z : Nat} {K : TypeId} {OK : Value → Prop} {w w' : World} {p : Nat} {most : Int} {v : Value} {bm : Nat} {ps : List (Value × Value)}
theorem LogAt.loc (h : LogAt P t e z K OK w p most v bm ps) (k : ∀ b, b ∈ foot p bm v → w'.heap[b]? = w.heap[b]?) : LogAt P t e z K OK w' p most v bm ps := by
  obtain ⟨f, hf, hi⟩ := h.map
  exact ⟨(k p (by simp [foot])).trans h.heap, own_loc h.own (fun g hg => k g (by simp [foot, hg])), ⟨f, hf.loc (k bm (by simp [foot])), hi⟩, h.ne1, h.ne2, h.ne3, h.keys, h.wide, h.fits, h.most⟩
theorem LogAt.old (h : LogAt P t e z K OK w p most v bm ps) : ∀ b, b ∈ foot p bm v → b < w.heap.size := by
  intro b hb
  obtain ⟨f, hf, _⟩ := h.map
  simp only [foot, List.mem_cons, Option.mem_toList] at hb
  rcases hb with rfl | rfl | hb
  · exact lt_of_heap h.heap
  · exact hf.lt
  · exact (h.own.lt b hb).2
theorem LogAt.calm (h : LogAt P t e z K OK w p most v bm ps) (k : Kept (fun _ => False) w w') : LogAt P t e z K OK w' p most v bm ps :=
  h.loc (fun b hb => k.block b (h.old b hb) (fun f => f))
theorem LogAt.drew (h : LogAt P t e z K OK w p most v bm ps) : LogAt P t e z K OK w.drew p most v bm ps := h.calm (kept_drew w)
theorem LogAt.nodup (h : LogAt P t e z K OK w p most v bm ps) : (foot p bm v).Nodup := by
  have h1 := h.ne1
  have h2 := h.ne2
  have h3 := h.ne3
  unfold foot
  cases hv : v.ownBlock <;> simp_all
  exact ⟨fun e => h1 e.symm, fun e => h2 e.symm⟩
theorem LogAt.small (h : LogAt P t e z K OK w p most v bm ps) : ps.length ≤ 4096 := by
  have := h.fits
  have := h.most
  omega
theorem LogAt.shape (h : LogAt P t e z K OK w p most v bm ps) : ∃ ga ca, v = .slice ga ps.length ca := by
  rcases own_forms h.own with ⟨rfl, h0, _⟩ | ⟨g, cap, rfl, _⟩
  · exact ⟨none, 0, by rw [h0]⟩
  · exact ⟨_, _, rfl⟩
theorem LogAt.c0 (h : LogAt P t e z K OK w p most v bm ps) : w.cell? ⟨p, 0, none⟩ = some (.int .i64 most) := cell_of_heap h.heap
theorem LogAt.c1 (h : LogAt P t e z K OK w p most v bm ps) : w.cell? ⟨p, 1, none⟩ = some v := cell_of_heap h.heap
theorem LogAt.c2 (h : LogAt P t e z K OK w p most v bm ps) : w.cell? ⟨p, 2, none⟩ = some (.map (some bm)) := cell_of_heap h.heap
theorem LogAt.f1 (h : LogAt P t e z K OK w p most v bm ps) : w.frozen? ⟨p, 1, none⟩ = false := frozen_of_heap h.heap
/-- The row, where something stands in it. -/
theorem LogAt.row (h : LogAt P t e z K OK w p most v bm ps) {i : Nat} {x : Value × Value} (hi : ps[i]? = some x) : ∃ g cap, v = .slice (some ⟨g, 0, none⟩) ps.length cap ∧ g < w.heap.size ∧ ps.length ≤ cap ∧ i < ps.length := by
  have hlt := (List.getElem?_eq_some_iff.1 hi).1
  rcases own_forms h.own with ⟨_, h0, _⟩ | ⟨g, cap, rfl, _, hg, hc⟩
  · omega
  · exact ⟨g, cap, rfl, hg, hc, hlt⟩
theorem LogAt.cellAt {g cap : Nat} (h : LogAt P t e z K OK w p most (.slice (some ⟨g, 0, none⟩) ps.length cap) bm ps) {i : Nat} {x : Value × Value} (hi : ps[i]? = some x) {j : Nat} (hj : j < z) : w.cell? ⟨g, i * z + j, none⟩ = (pcells x)[j]? := by
  have hlt := (List.getElem?_eq_some_iff.1 hi).1
  have : i * z + j < ps.length * z := by
    have : (i + 1) * z ≤ ps.length * z := Nat.mul_le_mul_right _ hlt
    rw [Nat.add_mul] at this
    omega
  rw [h.own.cellAt _ this, flat_at h.wide hi hj]
/-- The key is there, or it is not. -/
theorem there_or (ps : List (Value × Value)) (k : Value) : (∃ (i : Nat) (u : Value), ps[i]? = some (k, u)) ∨ ∀ x ∈ ps, x.1 ≠ k := by
  by_cases h : ∃ x ∈ ps, x.1 = k
  · obtain ⟨x, hx, rfl⟩ := h
    obtain ⟨i, hi, e⟩ := List.getElem_of_mem hx
    exact .inl ⟨i, x.2, by rw [List.getElem?_eq_getElem hi, e]⟩
  · exact .inr (fun x hx e => h ⟨x, hx, e⟩)
/-- What a look at the map of places says. -/
theorem LogAt.look_at (h : LogAt P t e z K OK w p most v bm ps) (Kd : Keyed P K) (hOK : ∀ k, OK k → ∃ l, keyOf P K k = some l) {T E : TypeId} (ht : P.underlying T = some (.map K E)) (hz : ∀ w, (zeroValue E).run P w = .ok (.int .i64 0) w) {i : Nat} {k u : Value} (hi : ps[i]? = some (k, u)) :
    (Instr.lookup T (.map (some bm)) k true).run P w = .ok (.tuple #[.int .i64 i, .bool true]) w := by
  obtain ⟨f, hf, hx⟩ := h.map
  rw [hf.look Kd ht (hz w) (hOK k (h.keys (k, u) (List.mem_of_getElem? hi))), hx.at_ i (k, u) hi]
  rfl
theorem LogAt.look_no (h : LogAt P t e z K OK w p most v bm ps) (Kd : Keyed P K) (hOK : ∀ k, OK k → ∃ l, keyOf P K k = some l) {T E : TypeId} (ht : P.underlying T = some (.map K E)) (hz : ∀ w, (zeroValue E).run P w = .ok (.int .i64 0) w) {k : Value} (hk : OK k) (hn : ∀ x ∈ ps, x.1 ≠ k) :
    (Instr.lookup T (.map (some bm)) k true).run P w = .ok (.tuple #[.int .i64 0, .bool false]) w := by
  obtain ⟨f, hf, hx⟩ := h.map
  rw [hf.look Kd ht (hz w) (hOK k hk), hx.no k hk hn]
  rfl
end

/-- A log was turned: its new row and pairs, the rest as before. -/
def Turned (P : Program) (t e : TypeId) (z : Nat) (K : TypeId) (OK : Value → Prop) (w w' : World) (p : Nat) (most : Int) (v : Value) (bm : Nat) (ps : List (Value × Value)) : Prop :=
  ∃ v', LogAt P t e z K OK w' p most v' bm ps ∧ Kept (fun b => b ∈ foot p bm v) w w' ∧ Fresh w v v'

theorem Turned.after {P : Program} {t e : TypeId} {z : Nat} {K : TypeId} {OK : Value → Prop} {w w1 w' : World} {p : Nat} {most : Int} {v : Value} {bm : Nat} {ps : List (Value × Value)} (k : Kept (fun _ => False) w w1) (h : Turned P t e z K OK w1 w' p most v bm ps) : Turned P t e z K OK w w' p most v bm ps := by
  obtain ⟨v', a1, a2, a3⟩ := h
  exact ⟨v', a1, k.calm.trans a2 (fun _ _ f => f), fun b hb => (a3 b hb).imp_right (fun f => Nat.le_trans k.size f)⟩

/-- A log as a thing. -/
def logI (P : Program) (t e : TypeId) (z : Nat) (K : TypeId) (OK : Value → Prop) (p : Nat) (most : Int) (v : Value) (bm : Nat) (ps : List (Value × Value)) : It :=
  ⟨foot p bm v, fun w => LogAt P t e z K OK w p most v bm ps, fun w w' k h => h.loc k, fun w h => h.old⟩

section
variable {P : Program} {t e : TypeId} {z : Nat} {K : TypeId} {OK : Value → Prop} {w w' o : World} {its : List It} {p : Nat} {most : Int} {v : Value} {bm : Nat} {ps ps' : List (Value × Value)}
theorem St.turn (h : St o its w) (i : Nat) (hi : its[i]? = some (logI P t e z K OK p most v bm ps)) (k : Turned P t e z K OK w w' p most v bm ps') : ∃ v', St o (its.set i (logI P t e z K OK p most v' bm ps')) w' := by
  obtain ⟨v', h1, h2, h3⟩ := k
  refine ⟨v', h.set i hi h2 h1 h1.nodup (fun b hb => ?_)⟩
  simp only [logI, foot, List.mem_cons, Option.mem_toList] at hb ⊢
  rcases hb with rfl | rfl | hb
  · exact .inl (.inl rfl)
  · exact .inl (.inr (.inl rfl))
  · rcases h3 b hb with h | h
    · exact .inl (.inr (.inr h))
    · exact .inr h
/-- A new log. -/
theorem made (w : World) (h0 : 0 ≤ most) (hm : most ≤ 4096) : LogAt P t e z K OK ((w.alloc (.map #[] 0)).alloc (.cells #[.int .i64 most, .slice none 0 0, .map (some w.heap.size)] t)) (w.heap.size + 1) most (.slice none 0 0) w.heap.size [] :=
  ⟨by have := heap_alloc_new (w.alloc (.map #[] 0)) (.cells #[.int .i64 most, .slice none 0 0, .map (some w.heap.size)] t); simpa using this, World.ownsRow_nil _ _ _ _,
   ⟨fun _ => none, (mapIs_made w).loc (Below.heap_alloc _ _ _ (by simp)), ⟨fun i x h => by simp at h, fun _ _ _ => rfl⟩⟩, by simp [Value.ownBlock], by simp [Value.ownBlock], by omega, by simp, by intro x hx; simp at hx, by simpa using h0, hm⟩

/-- A value is laid over another, in place. -/
theorem LogAt.set {g cap : Nat} (h : LogAt P t e z K OK w p most (.slice (some ⟨g, 0, none⟩) ps.length cap) bm ps) {i : Nat} {k u : Value} (hi : ps[i]? = some (k, u)) (x : Value) (hx1 : x.oneCell' = true) (j : Nat) (hj : j + 1 = z) :
    Turned P t e z K OK w (w.setCell ⟨g, i * z + j, none⟩ x) p most (.slice (some ⟨g, 0, none⟩) ps.length cap) bm (ps.set i (k, x)) := by
  have hlt := (List.getElem?_eq_some_iff.1 hi).1
  have hw : (pcells (k, u)).length = z := (h.wide _ (List.mem_of_getElem? hi)).1
  have hk : k.cells.size = j := by simp [pcells] at hw; omega
  have hset : pcells (k, x) = (pcells (k, u)).set j x := by
    rw [pcells, pcells, List.set_append_right _ _ (by simp [hk]), show j - k.cells.toList.length = 0 by simp [hk]]
    rfl
  have hb : i * z + j < ps.length * z := by
    have : (i + 1) * z ≤ ps.length * z := Nat.mul_le_mul_right _ hlt
    rw [Nat.add_mul] at this
    omega
  have n1 : p ≠ g := fun e => h.ne1 (by simp [Value.ownBlock, e])
  have n2 : bm ≠ g := fun e => h.ne2 (by simp [Value.ownBlock, e])
  obtain ⟨f, hf, hx⟩ := h.map
  refine ⟨_, ⟨by rw [heap_setCell_far (by simpa using n1)]; exact h.heap, ?_, ⟨f, hf.loc (heap_setCell_far (by simpa using n2)), ?_⟩, h.ne1, h.ne2, h.ne3, ?_, h.wide.set i ⟨by rw [hset, List.length_set]; exact hw, fun y hy => by
    rw [hset] at hy
    rcases List.mem_or_eq_of_mem_set hy with hy | rfl
    · exact (h.wide _ (List.mem_of_getElem? hi)).2 y hy
    · exact hx1⟩, by simpa using h.fits, h.most⟩, (Kept.refl _ w).setCell x (.inl (by simp [foot, Value.ownBlock])), Fresh.refl _ _⟩
  · rw [flat_set h.wide hi (by omega) hset, List.length_set]
    exact (h.own.stored _ _).1
  · refine ⟨fun a y hy => ?_, fun k' hk' hn => hx.no k' hk' (fun y hy e => ?_)⟩
    · rw [List.getElem?_set] at hy
      split at hy
      · rename_i e1
        subst e1
        simp at hy
        obtain ⟨_, rfl⟩ := hy
        exact hx.at_ i (k, u) hi
      · exact hx.at_ a y hy
    · obtain ⟨a, ha, ea⟩ := List.getElem_of_mem hy
      by_cases e1 : a = i
      · subst e1
        have : y = (k, u) := by rw [← ea]; exact (List.getElem?_eq_some_iff.1 hi).2
        subst this
        exact hn (k, x) (List.mem_iff_getElem.2 ⟨a, by simpa using ha, by simp⟩) e
      · exact hn y (List.mem_iff_getElem.2 ⟨a, by simpa using ha, by rw [List.getElem_set_ne (fun e => e1 e.symm), ea]⟩) e
  · intro y hy
    rcases List.mem_or_eq_of_mem_set hy with hy | rfl
    · exact h.keys y hy
    · exact h.keys (k, u) (List.mem_of_getElem? hi)

/-- A pair is laid behind the others: first into the map, then to the row. -/
theorem LogAt.snoc (h : LogAt P t e z K OK w p most v bm ps) {k x : Value} (hk : OK k) (hn : ∀ y ∈ ps, y.1 ≠ k) (hw : Fine z (k, x)) (hr : (ps.length : Int) < most)
    {f : Value → Option Value} (hf : MapIs P K w bm f) (hx : Idx OK f ps) {w1 w2 w3 : World} (k1 : Kept (fun b => b = bm) w w1) (hm : ∀ f' : Value → Option Value, f' k = some (.int .i64 ps.length) → (∀ y, y ≠ k → f' y = f y) → MapIs P K w1 bm f')
    (k2 : Kept (fun _ => False) w1 w2) {g cap : Nat} (hg : w2.grownBy w3 v.ownBlock) (ho : w3.ownsRow 0 e z (.slice (some ⟨g, 0, none⟩) (ps.length + 1) cap) (ps.length + 1) (flat ps ++ pcells (k, x))) (ha : v.ownBlock = some g ∨ w.heap.size ≤ g) :
    Turned P t e z K OK w (w3.setCell ⟨p, 1, none⟩ (.slice (some ⟨g, 0, none⟩) (ps.length + 1) cap)) p most v bm (ps ++ [(k, x)]) := by
  have hp := lt_of_heap h.heap
  have hb := hf.lt
  have K2 : Kept (fun b => b = bm) w w2 := k1.trans k2 (fun _ _ f => f.elim)
  have hkp : Kept (fun b => b ∈ foot p bm v) w w3 := (K2.mono (fun i _ hi => by simp [foot, hi])).grown hg (fun i hi => .inl (by simp [foot, hi]))
  have n1 : g ≠ p := by
    rcases ha with ha | ha
    · exact fun e => h.ne1 (e ▸ ha)
    · omega
  have n2 : g ≠ bm := by
    rcases ha with ha | ha
    · exact fun e => h.ne2 (e ▸ ha)
    · omega
  have h3 : w3.heap[p]? = some (.cells #[.int .i64 most, v, .map (some bm)] t (0, 0)) := by
    rw [hg.block p (Nat.lt_of_lt_of_le hp K2.size) (fun e => h.ne1 e.symm), K2.block p hp h.ne3]
    exact h.heap
  refine ⟨.slice (some ⟨g, 0, none⟩) (ps.length + 1) cap, ⟨by rw [heap_setCell_at h3]; rfl, ?_, ?_, by simpa [Value.ownBlock] using n1, by simpa [Value.ownBlock] using n2, h.ne3, ?_, h.wide.snoc hw, by simp; omega, h.most⟩, hkp.setCell _ (.inl (by simp [foot])), ?_⟩
  · have := ownsRow_setCell_far ho (a := ⟨p, 1, none⟩) (by simpa [Value.ownBlock] using n1) (.slice (some ⟨g, 0, none⟩) (ps.length + 1) cap)
    rw [flat_append, show flat [(k, x)] = pcells (k, x) by simp [flat], List.length_append]
    exact this
  · classical
    let f' : Value → Option Value := fun y => if y = k then some (.int .i64 ps.length) else f y
    have hM := hm f' (by simp [f']) (fun y hy => by simp [f', hy])
    refine ⟨f', hM.loc ?_, ⟨?_, ?_⟩⟩
    · rw [heap_setCell_far (by simpa using h.ne3.symm), hg.block bm (Nat.lt_of_lt_of_le hb K2.size) (fun e => h.ne2 e.symm), k2.block bm (Nat.lt_of_lt_of_le hb k1.size) (fun f => f)]
    · intro i y hy
      rcases Nat.lt_or_ge i ps.length with hlt | hge
      · rw [List.getElem?_append_left hlt] at hy
        have : y.1 ≠ k := hn y (List.mem_of_getElem? hy)
        simp only [f', if_neg this]
        exact hx.at_ i y hy
      · rw [List.getElem?_append_right hge] at hy
        obtain ⟨h0, e0⟩ := List.getElem?_eq_some_iff.1 hy
        simp at h0
        have : i = ps.length := by omega
        subst this
        simp at e0
        subst e0
        simp [f']
    · intro y hy hny
      have e1 : y ≠ k := fun e => hny (k, x) (by simp) e.symm
      simp only [f', if_neg e1]
      exact hx.no y hy (fun a ha => hny a (by simp [ha]))
  · intro y hy
    rcases List.mem_append.1 hy with hy | hy
    · exact h.keys y hy
    · rw [List.mem_singleton.1 hy]; exact hk
  · intro b hb'
    simp [Value.ownBlock] at hb'
    subst hb'
    exact ha
end
end Go.Proofs.Ytoejhbecogmdbaa
