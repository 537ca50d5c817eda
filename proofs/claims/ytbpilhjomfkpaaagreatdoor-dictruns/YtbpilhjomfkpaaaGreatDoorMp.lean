/- Maps from int64 to numbers as lists of pairs, in whatever order they lie; ranges over them. No program is named here. -/
import Derived.Test.YtbpilhjomfkpaaaGreatDoorKit
import Derived.Maps.Keyed
import Derived.Maps.OwnSet
import Derived.Maps.Range
namespace Go.Proofs.YtbpilhjomfkpaaaGreatDoor
open Go.RowKit Go.MapKept
open Go.ChangeMaps (setBlock heap_setBlock_same heap_setBlock_other)
open Go.Maps (Keyed)
set_option linter.unusedVariables false
set_option linter.unusedSimpArgs false

abbrev Pr := Int × Int
theorem perm_idxV {α : Type} : ∀ (l : List α) (j : Nat) (hj : j < l.length), l.Perm (l[j] :: l.eraseIdx j)
  | a :: l, 0, _ => by simp
  | a :: l, j + 1, hj => by
    have := perm_idxV l j (by simpa using hj)
    simp only [List.getElem_cons_succ, List.eraseIdx_cons_succ]
    exact (this.cons a).trans (List.Perm.swap _ _ _)
def pv (p : Pr) : Value × Value := (.int .i64 p.1, .int .i64 p.2)
theorem pv_inj {p q : Pr} (h : pv p = pv q) : p = q := by
  obtain ⟨a, b⟩ := p
  obtain ⟨c, d⟩ := q
  simpa [pv] using h
def kvs (l : List MapEntry) : List (Value × Value) := l.map fun e => (e.key, e.val)
/-- Keys are int64s, none twice. -/
def Good (ls : List Pr) : Prop := ls.Pairwise (fun p q => p.1 ≠ q.1) ∧ ∀ p ∈ ls, -9223372036854775808 ≤ p.1 ∧ p.1 ≤ 9223372036854775807
theorem Good.perm {a b : List Pr} (h : Good a) (p : a.Perm b) : Good b := ⟨(p.pairwise_iff (fun {_ _} h => Ne.symm h)).1 h.1, fun x hx => h.2 x (p.mem_iff.2 hx)⟩
theorem Good.uniq {a : List Pr} (h : Good a) {p q : Pr} (hp : p ∈ a) (hq : q ∈ a) (e : p.1 = q.1) : p = q := by
  obtain ⟨i, hi, rfl⟩ := List.getElem_of_mem hp
  obtain ⟨j, hj, rfl⟩ := List.getElem_of_mem hq
  rcases Nat.lt_trichotomy i j with hlt | heq | hgt
  · exact absurd e (List.pairwise_iff_getElem.1 h.1 i j hi hj hlt)
  · subst heq; rfl
  · exact absurd e.symm (List.pairwise_iff_getElem.1 h.1 j i hj hi hgt)
theorem wf_key {x : Int} (h : -9223372036854775808 ≤ x ∧ x ≤ 9223372036854775807) : (Lit.int .i64 x).wf = true := WalkArith.wf_i64 (by omega)
/-- What the block of a map is. -/
def MapB (es : Array MapEntry) (clock : Nat) (ls : List Pr) : Prop :=
  (kvs es.toList).Perm (ls.map pv) ∧ Good ls ∧ (∀ x ∈ es.toList, x.born < clock) ∧ (es.toList.map (·.born)).Nodup
section
variable {es : Array MapEntry} {clock : Nat} {ls : List Pr}
theorem MapB.of_mem (h : MapB es clock ls) {e : MapEntry} (he : e ∈ es.toList) : ∃ p ∈ ls, e.key = .int .i64 p.1 ∧ e.val = .int .i64 p.2 := by
  have : (e.key, e.val) ∈ ls.map pv := h.1.mem_iff.1 (List.mem_map.2 ⟨e, he, rfl⟩)
  obtain ⟨p, hp, e1⟩ := List.mem_map.1 this
  simp only [pv, Prod.mk.injEq] at e1
  exact ⟨p, hp, e1.1.symm, e1.2.symm⟩
theorem MapB.to_mem (h : MapB es clock ls) {p : Pr} (hp : p ∈ ls) : ∃ e ∈ es.toList, e.key = .int .i64 p.1 ∧ e.val = .int .i64 p.2 := by
  have : pv p ∈ kvs es.toList := h.1.mem_iff.2 (List.mem_map.2 ⟨p, hp, rfl⟩)
  obtain ⟨e, he, e1⟩ := List.mem_map.1 this
  simp only [pv, Prod.mk.injEq] at e1
  exact ⟨e, he, e1.1, e1.2⟩
theorem MapB.keys {P : Program} {k : TypeId} (hk : P.underlying k = some (.int .i64)) (h : MapB es clock ls) : ∀ e ∈ es.toList, ∃ l, keyOf P k e.key = some l := by
  intro e he
  obtain ⟨p, hp, e1, _⟩ := h.of_mem he
  rw [e1]
  exact ⟨_, Go.Maps.keyOf_int_mk hk (wf_key (h.2.1.2 p hp))⟩
theorem MapB.len (h : MapB es clock ls) : es.size = ls.length := by
  have := h.1.length_eq
  simpa [kvs] using this
end
/-- Block b is the map of these pairs. -/
def MapV (w : World) (b : Nat) (ls : List Pr) : Prop := ∃ es clock, w.heap[b]? = some (.map es clock) ∧ MapB es clock ls
def mapV (b : Nat) (ls : List Pr) : It :=
  ⟨[b], fun w => MapV w b ls, fun w w' h p => by
    obtain ⟨es, c, hb, r⟩ := p
    exact ⟨es, c, (h b (List.mem_singleton.2 rfl)).trans hb, r⟩, fun w p k hk => by
    obtain ⟨es, c, hb, r⟩ := p
    rw [List.mem_singleton.1 hk]
    exact lt_of_heap hb⟩
/-- Block r goes through the map of block b; rest is still to come. -/
def MapR (w : World) (b r : Nat) (ls rest : List Pr) : Prop :=
  ∃ es clock since seen c0, w.heap[b]? = some (.map es clock) ∧ MapB es clock ls ∧ w.heap[r]? = some (.mapIter (some b) since seen c0) ∧ (∀ x ∈ es.toList, x.born < since) ∧ since ≤ c0 ∧ since ≤ clock ∧ (kvs (leftOf es seen).toList).Perm (rest.map pv)
def rngV (b r : Nat) (ls rest : List Pr) : It :=
  ⟨[r, b], fun w => MapR w b r ls rest ∧ r ≠ b, fun w w' h p => by
    obtain ⟨⟨es, c, s, n, c0, hb, m, hr, q⟩, ne⟩ := p
    exact ⟨⟨es, c, s, n, c0, (h b (by simp)).trans hb, m, (h r (by simp)).trans hr, q⟩, ne⟩, fun w p k hk => by
    obtain ⟨⟨es, c, s, n, c0, hb, m, hr, q⟩, ne⟩ := p
    simp only [List.mem_cons, List.not_mem_nil, or_false] at hk
    rcases hk with rfl | rfl
    · exact lt_of_heap hr
    · exact lt_of_heap hb⟩
theorem kept_setBlockV {w : World} {b : Nat} {o o' : Obj} (hb : w.heap[b]? = some o) : Kept (fun k => k = b) w (setBlock w b o') :=
  ⟨rfl, rfl, rfl, by simp [setBlock], fun k _ hk => (heap_set (o' := o') hb).2 k hk⟩
section
variable {P : Program} {k t e : TypeId} {o w : World} {R : List It} {b : Nat} {ls : List Pr}
theorem St.newMap (h : St o R w) : St o (mapV w.heap.size [] :: R) (w.alloc (.map #[] 0)) :=
  h.push (mapV w.heap.size []) (kept_alloc w _) ⟨#[], 0, heap_alloc_new w _, by simp [kvs], ⟨List.Pairwise.nil, by simp⟩, by simp, by simp⟩ (by simp [mapV]) (by simp [mapV])
theorem lawI (hk : P.underlying k = some (.int .i64)) : Keyed P k := Go.Maps.int_keyed hk
theorem lookV_some (h : MapV w b ls) (hk : P.underlying k = some (.int .i64)) (ht : P.underlying t = some (.map k e)) {x v : Int} (hm : (x, v) ∈ ls) :
    (Instr.lookup t (.map (some b)) (.int .i64 x) true).run P w = .ok (.tuple #[.int .i64 v, .bool true]) w := by
  obtain ⟨es, c, hb, hB⟩ := h
  have hx := Go.Maps.keyOf_int_mk hk (wf_key (hB.2.1.2 _ hm))
  rcases (lawI hk).find w hx es.toList (hB.keys hk) with ⟨h1, h2⟩ | ⟨j, e0, h1, h2, h3⟩
  · obtain ⟨e0, he, k1, _⟩ := hB.to_mem hm
    exact absurd k1 (h2 e0 he)
  · obtain ⟨p, hp, k1, k2⟩ := hB.of_mem (List.mem_of_getElem? h2)
    rw [k1] at h3
    simp only [Value.int.injEq, true_and] at h3
    have := hB.2.1.uniq hp hm h3
    subst this
    simp [Instr.lookup, run_underlying ht, MapKept.run_getObj_map hb, (lawI hk).check w _ hx, h1, Result.andThen, k2]
theorem lookV_none (h : MapV w b ls) (hk : P.underlying k = some (.int .i64)) (ht : P.underlying t = some (.map k e)) (hz : (zeroValue e).run P w = .ok (.int .i64 0) w) {x : Int} (hx0 : -9223372036854775808 ≤ x ∧ x ≤ 9223372036854775807) (hm : ∀ p ∈ ls, p.1 ≠ x) :
    (Instr.lookup t (.map (some b)) (.int .i64 x) true).run P w = .ok (.tuple #[.int .i64 0, .bool false]) w := by
  obtain ⟨es, c, hb, hB⟩ := h
  have hx := Go.Maps.keyOf_int_mk hk (wf_key hx0)
  rcases (lawI hk).find w hx es.toList (hB.keys hk) with ⟨h1, h2⟩ | ⟨j, e0, h1, h2, h3⟩
  · simp [Instr.lookup, run_underlying ht, MapKept.run_getObj_map hb, (lawI hk).check w _ hx, h1, hz, Result.andThen]
  · obtain ⟨p, hp, k1, k2⟩ := hB.of_mem (List.mem_of_getElem? h2)
    rw [k1] at h3
    simp only [Value.int.injEq, true_and] at h3
    exact absurd h3 (hm p hp)
theorem lenV (h : MapV w b ls) (ht : P.underlying t = some (.map k e)) (ty : TypeId) : (Builtin.len_ #[t] ty #[.map (some b)]).run P w = .ok (.int .i64 (ls.length : Nat)) w := by
  obtain ⟨es, c, hb, hB⟩ := h
  have := hB.len
  simp [Builtin.len_, run_underlying ht, MapKept.run_getObj_map hb, Result.andThen, this, goInt]
theorem storeV_new (h : St o (mapV b ls :: R) w) (hk : P.underlying k = some (.int .i64)) (ht : P.underlying t = some (.map k e)) {x v : Int} (hx0 : -9223372036854775808 ≤ x ∧ x ≤ 9223372036854775807) (hm : ∀ p ∈ ls, p.1 ≠ x) :
    ∃ w', (Instr.mapUpdate t (.map (some b)) (.int .i64 x) (.int .i64 v)).run P w = .ok () w' ∧ w'.heap.size = w.heap.size ∧ St o (mapV b ((x, v) :: ls) :: R) w' := by
  obtain ⟨es, c, hb, hB⟩ : MapV w b ls := h.get 0 rfl
  have hx := Go.Maps.keyOf_int_mk hk (wf_key hx0)
  rcases (lawI hk).find w hx es.toList (hB.keys hk) with ⟨h1, h2⟩ | ⟨j, e0, h1, h2, h3⟩
  · refine ⟨setBlock w b (.map (es.push ⟨.int .i64 x, .int .i64 v, c⟩) (c + 1)), ?_, by simp [setBlock], ?_⟩
    · simp [Instr.mapUpdate, run_underlying ht, MapKept.run_getObj_map hb, (lawI hk).check w false hx, h1, MapKept.run_setObj_map _ hb, Result.andThen, setBlock]
    · refine h.set 0 rfl (A' := mapV b ((x, v) :: ls)) ((kept_setBlockV hb).mono (fun i _ hi => by simp [mapV, hi])) ⟨_, _, heap_setBlock_same hb _, ?_, ⟨?_, ?_⟩, ?_, ?_⟩ (by simp [mapV]) (fun y hy => .inl hy)
      · simp only [kvs, Array.toList_push, List.map_append, List.map_cons, List.map_nil]
        exact (List.perm_append_singleton _ _).trans (hB.1.cons _)
      · exact List.pairwise_cons.2 ⟨fun p hp => (hm p hp).symm, hB.2.1.1⟩
      · intro p hp
        rcases List.mem_cons.1 hp with rfl | hp
        · exact hx0
        · exact hB.2.1.2 p hp
      · intro y hy
        simp only [Array.toList_push, List.mem_append, List.mem_singleton] at hy
        rcases hy with hy | rfl
        · have := hB.2.2.1 y hy; omega
        · simp
      · simp only [Array.toList_push, List.map_append, List.map_cons, List.map_nil]
        rw [List.nodup_append]
        refine ⟨hB.2.2.2, by simp, fun a ha b' hb' => ?_⟩
        obtain ⟨y, hy, rfl⟩ := List.mem_map.1 ha
        rw [List.mem_singleton.1 hb']
        have := hB.2.2.1 y hy
        omega
  · obtain ⟨p, hp, k1, k2⟩ := hB.of_mem (List.mem_of_getElem? h2)
    rw [k1] at h3
    simp only [Value.int.injEq, true_and] at h3
    exact absurd h3 (hm p hp)
/-- The pairs with another value at a key. -/
def turnP (ls : List Pr) (x v : Int) : List Pr := ls.map fun p => if p.1 = x then (x, v) else p
theorem turnP_keys (ls : List Pr) (x v : Int) : (turnP ls x v).map (·.1) = ls.map (·.1) := by
  unfold turnP
  rw [List.map_map]
  apply List.map_congr_left
  intro p _
  simp only [Function.comp]
  split
  · rename_i h; exact h.symm
  · rfl
theorem good_keys {a c : List Pr} (h : Good a) (e : c.map (·.1) = a.map (·.1)) : Good c := by
  have hc : (c.map (·.1)).Pairwise (· ≠ ·) := by rw [e]; exact List.pairwise_map.2 h.1
  refine ⟨List.pairwise_map.1 hc, fun p hp => ?_⟩
  have : p.1 ∈ a.map (·.1) := by rw [← e]; exact List.mem_map.2 ⟨p, hp, rfl⟩
  obtain ⟨q, hq, e1⟩ := List.mem_map.1 this
  rw [← e1]
  exact h.2 q hq
open Classical in
theorem set_map {l : List MapEntry} {j : Nat} {e0 : MapEntry} {x : Int} {v : Value} (h2 : l[j]? = some e0) (h3 : e0.key = .int .i64 x) (hn : ∀ e ∈ l, e.key = .int .i64 x → e = e0) (hd : (l.map (·.born)).Nodup) :
    kvs (l.set j { e0 with key := .int .i64 x, val := v }) = (kvs l).map (fun q => if q.1 = .int .i64 x then (q.1, v) else q) := by
  apply List.ext_getElem?
  intro i
  simp only [kvs, List.getElem?_map, List.getElem?_set]
  obtain ⟨hj, ej⟩ := List.getElem?_eq_some_iff.1 h2
  by_cases hij : j = i
  · subst hij
    simp [hj, ej, h3]
  · rw [if_neg hij]
    cases hi : l[i]? with
    | none => simp
    | some e1 =>
      simp only [Option.map_some, Option.some.injEq]
      rw [if_neg]
      intro hk
      have h4 := hn e1 (List.mem_of_getElem? hi) hk
      obtain ⟨hil, ei⟩ := List.getElem?_eq_some_iff.1 hi
      apply hij
      have e5 : (l.map (·.born))[j]'(by simpa using hj) = (l.map (·.born))[i]'(by simpa using hil) := by simp [ej, ei, h4]
      exact (List.getElem_inj hd).1 e5
open Classical in
theorem storeV_old (h : St o (mapV b ls :: R) w) (hk : P.underlying k = some (.int .i64)) (ht : P.underlying t = some (.map k e)) {x v0 v : Int} (hm : (x, v0) ∈ ls) :
    ∃ w', (Instr.mapUpdate t (.map (some b)) (.int .i64 x) (.int .i64 v)).run P w = .ok () w' ∧ w'.heap.size = w.heap.size ∧ St o (mapV b (turnP ls x v) :: R) w' := by
  obtain ⟨es, c, hb, hB⟩ : MapV w b ls := h.get 0 rfl
  have hx := Go.Maps.keyOf_int_mk hk (wf_key (hB.2.1.2 _ hm))
  rcases (lawI hk).find w hx es.toList (hB.keys hk) with ⟨h1, h2⟩ | ⟨j, e0, h1, h2, h3⟩
  · obtain ⟨e0, he, k1, _⟩ := hB.to_mem hm
    exact absurd k1 (h2 e0 he)
  · have hj : es[j]? = some e0 := by simpa using h2
    have hlist : (es.modify j (fun e' => { e' with key := .int .i64 x, val := .int .i64 v })).toList = es.toList.set j { e0 with key := .int .i64 x, val := .int .i64 v } := by rw [Array.toList_modify, ChangeMaps.modify_eq_set _ _ _ _ h2]
    have hone : ∀ e ∈ es.toList, e.key = .int .i64 x → e = e0 := by
      intro e1 he1 hk1
      obtain ⟨i, hi, rfl⟩ := List.getElem_of_mem he1
      obtain ⟨hjl, ej⟩ := List.getElem?_eq_some_iff.1 h2
      have hpw : (kvs es.toList).Pairwise (fun p q => p.1 ≠ q.1) := by
        refine (hB.1.pairwise_iff (fun {_ _} h => Ne.symm h)).2 ?_
        rw [List.pairwise_map]
        exact hB.2.1.1.imp (fun {p q} hne e => hne (by simpa [pv] using e))
      have hp2 := List.pairwise_iff_getElem.1 (List.pairwise_map.1 hpw)
      rcases Nat.lt_trichotomy i j with hlt | heq | hgt
      · exact absurd (by rw [hk1, ej, h3]) (hp2 i j hi hjl hlt)
      · subst heq; exact ej
      · exact absurd (by rw [hk1, ej, h3]) (hp2 j i hjl hi hgt)
    refine ⟨setBlock w b (.map (es.modify j (fun e' => { e' with key := .int .i64 x, val := .int .i64 v })) c), ?_, by simp [setBlock], ?_⟩
    · simp [Instr.mapUpdate, run_underlying ht, MapKept.run_getObj_map hb, (lawI hk).check w false hx, h1, hj, h3, (lawI hk).stays w hx, MapKept.run_setObj_map _ hb, Result.andThen, setBlock]
    · refine h.set 0 rfl (A' := mapV b (turnP ls x v)) ((kept_setBlockV hb).mono (fun i _ hi => by simp [mapV, hi])) ⟨_, _, heap_setBlock_same hb _, ?_, good_keys hB.2.1 (turnP_keys ls x v), ?_, ?_⟩ (by simp [mapV]) (fun y hy => .inl hy)
      · rw [hlist, set_map h2 h3 hone hB.2.2.2]
        have : (turnP ls x v).map pv = (ls.map pv).map (fun q => if q.1 = .int .i64 x then (q.1, .int .i64 v) else q) := by
          unfold turnP
          rw [List.map_map, List.map_map]
          apply List.map_congr_left
          intro p _
          by_cases hp : p.1 = x
          · simp [pv, hp]
          · simp [pv, hp]
        rw [this]
        exact hB.1.map _
      · rw [hlist]
        intro y hy
        rcases List.mem_or_eq_of_mem_set hy with hy | rfl
        · exact hB.2.2.1 y hy
        · exact hB.2.2.1 e0 (List.mem_of_getElem? h2)
      · rw [hlist]
        have : (es.toList.set j { e0 with key := .int .i64 x, val := .int .i64 v }).map (·.born) = es.toList.map (·.born) := by
          apply List.ext_getElem?
          intro i
          simp only [List.getElem?_map, List.getElem?_set]
          by_cases hij : j = i
          · subst hij
            obtain ⟨hjl, ej⟩ := List.getElem?_eq_some_iff.1 h2
            simp at hjl
            simp only [if_pos, hjl, ↓reduceIte, hj, Option.map_some, Array.getElem?_toList, Array.length_toList]
          · rw [if_neg hij]
        rw [this]
        exact hB.2.2.2
/-- The pairs without a key. -/
def lackP (ls : List Pr) (x : Int) : List Pr := ls.filter fun p => p.1 != x
open Classical in
theorem dropV (h : St o (mapV b ls :: R) w) (hk : P.underlying k = some (.int .i64)) (ht : P.underlying t = some (.map k e)) {x v0 : Int} (hm : (x, v0) ∈ ls) :
    ∃ w', (∀ ty, (Builtin.delete_ #[t, k] ty #[.map (some b), .int .i64 x]).run P w = .ok (.tuple #[]) w') ∧ w'.heap.size = w.heap.size ∧ St o (mapV b (lackP ls x) :: R) w' := by
  obtain ⟨es, c, hb, hB⟩ : MapV w b ls := h.get 0 rfl
  have hx := Go.Maps.keyOf_int_mk hk (wf_key (hB.2.1.2 _ hm))
  rcases (lawI hk).find w hx es.toList (hB.keys hk) with ⟨h1, h2⟩ | ⟨j, e0, h1, h2, h3⟩
  · obtain ⟨e0, he, k1, _⟩ := hB.to_mem hm
    exact absurd k1 (h2 e0 he)
  · obtain ⟨hjl, ej⟩ := List.getElem?_eq_some_iff.1 h2
    have hjs : j < es.size := by simpa using hjl
    have hsub : (es.eraseIdxIfInBounds j).toList = es.toList.eraseIdx j := by
      unfold Array.eraseIdxIfInBounds
      rw [dif_pos hjs]
      simp
    have hp0 : es.toList.Perm (e0 :: es.toList.eraseIdx j) := by
      rw [← ej]
      exact perm_idxV _ j hjl
    have hpw : (kvs es.toList).Pairwise (fun p q => p.1 ≠ q.1) := by
      refine (hB.1.pairwise_iff (fun {_ _} h => Ne.symm h)).2 ?_
      rw [List.pairwise_map]
      exact hB.2.1.1.imp (fun {p q} hne e => hne (by simpa [pv] using e))
    have hk0 : (kvs es.toList).Perm ((e0.key, e0.val) :: kvs (es.toList.eraseIdx j)) := hp0.map _
    refine ⟨setBlock w b (.map (es.eraseIdxIfInBounds j) c), fun ty => ?_, by simp [setBlock], ?_⟩
    · simp [Builtin.delete_, run_underlying ht, MapKept.run_getObj_map hb, (lawI hk).check w _ hx, h1, MapKept.run_setObj_map _ hb, Result.andThen, setBlock]
    · refine h.set 0 rfl (A' := mapV b (lackP ls x)) ((kept_setBlockV hb).mono (fun i _ hi => by simp [mapV, hi])) ⟨_, _, heap_setBlock_same hb _, ?_, ⟨hB.2.1.1.filter _, fun p hp => hB.2.1.2 p (List.mem_filter.1 hp).1⟩, ?_, ?_⟩ (by simp [mapV]) (fun y hy => .inl hy)
      · rw [hsub]
        have e1 : (lackP ls x).map pv = (ls.map pv).filter (fun q => decide (q.1 ≠ .int .i64 x)) := by
          unfold lackP
          rw [List.filter_map]
          congr 1
          apply List.filter_congr
          intro p _
          by_cases hpx : p.1 = x <;> simp [pv, hpx]
        have e2 : (kvs (es.toList.eraseIdx j)).filter (fun q => decide (q.1 ≠ .int .i64 x)) = kvs (es.toList.eraseIdx j) := by
          rw [List.filter_eq_self]
          intro q hq
          have := (List.pairwise_cons.1 ((hk0.pairwise_iff (fun {_ _} h => Ne.symm h)).1 hpw)).1 q hq
          rw [h3] at this
          simpa using fun e => this e.symm
        rw [e1]
        have e3 := (hk0.symm.trans hB.1).filter (fun q => decide (q.1 ≠ .int .i64 x))
        rw [List.filter_cons_of_neg (by simp [h3])] at e3
        rw [e2] at e3
        exact e3
      · rw [hsub]
        intro y hy
        exact hB.2.2.1 y ((List.eraseIdx_sublist _ _).subset hy)
      · rw [hsub]
        exact hB.2.2.2.sublist ((List.eraseIdx_sublist _ _).map _)
theorem rangeV (h : St o (mapV b ls :: R) w) (ht : P.underlying t = some (.map k e)) :
    ∃ w', (Instr.range t (.map (some b))).run P w = .ok (.pointer (some ⟨w.heap.size, 0, none⟩)) w' ∧ w'.heap.size = w.heap.size + 1 ∧ St o (rngV b w.heap.size ls ls :: R) w' := by
  obtain ⟨es, c, hb, hB⟩ : MapV w b ls := h.get 0 rfl
  have hlt := lt_of_heap hb
  refine ⟨_, run_range_map w t k e b es c ht hb, by simp, ?_⟩
  refine h.set 0 rfl (A' := rngV b w.heap.size ls ls) ((kept_alloc w _).mono (fun _ _ f => f.elim)) ⟨⟨es, c, c, #[], c, ?_, hB, heap_alloc_new w _, hB.2.2.1, Nat.le_refl _, Nat.le_refl _, ?_⟩, by omega⟩ ?_ ?_
  · exact ((MapKept.heap_alloc w _).2 b hlt).trans hb
  · have : (leftOf es #[]).toList = es.toList := by
      unfold leftOf
      rw [Array.toList_filter, List.filter_eq_self]
      intro x _
      simp
    rw [this]
    exact hB.1
  · simp only [rngV, List.nodup_cons, List.mem_singleton, List.not_mem_nil, not_false_eq_true, List.nodup_nil, and_true]
    omega
  · intro x hx
    simp only [rngV, List.mem_cons, List.not_mem_nil, or_false] at hx
    rcases hx with rfl | rfl
    · exact .inr (Nat.le_refl _)
    · exact .inl (by simp [mapV])
theorem left_step {l : List MapEntry} {e : MapEntry} (he : e ∈ l) (hn : (l.map (·.born)).Nodup) : l.Perm (e :: l.filter (fun x => x.born != e.born)) := by
  obtain ⟨j, hj, ej⟩ := List.getElem_of_mem he
  have hp : l.Perm (e :: l.eraseIdx j) := by
    rw [← ej]
    exact perm_idxV _ j hj
  have hn2 : ((e :: l.eraseIdx j).map (·.born)).Nodup := (hp.map _).nodup_iff.1 hn
  rw [List.map_cons, List.nodup_cons] at hn2
  have e2 : (l.eraseIdx j).filter (fun x => x.born != e.born) = l.eraseIdx j := by
    rw [List.filter_eq_self]
    intro x hx
    simp only [bne_iff_ne, ne_eq]
    intro hxe
    exact hn2.1 (hxe ▸ List.mem_map.2 ⟨x, hx, rfl⟩)
  have e3 := hp.filter (fun x => x.born != e.born)
  rw [List.filter_cons_of_neg (by simp), e2] at e3
  exact hp.trans (e3.symm.cons e)
theorem nextV {r : Nat} {rest : List Pr} (h : St o (rngV b r ls rest :: R) w) (ty : TypeId) :
    (rest = [] ∧ (Instr.next (.pointer (some ⟨r, 0, none⟩)) false ty).run P w = .ok (.tuple #[.bool false]) w) ∨
    ∃ p rest' w', rest.Perm (p :: rest') ∧ p ∈ ls ∧ (Instr.next (.pointer (some ⟨r, 0, none⟩)) false ty).run P w = .ok (.tuple #[.bool true, .int .i64 p.1, .int .i64 p.2]) w' ∧ w'.heap.size = w.heap.size ∧ St o (rngV b r ls rest' :: R) w' ∧ (Instr.entry (.pointer (some ⟨r, 0, none⟩))).run P w' = .ok (.tuple #[.int .i64 p.1, .int .i64 p.2]) w' := by
  obtain ⟨⟨es, c, since, seen, c0, hb, hB, hr, hold, hsc, hsk, hleft⟩, hne⟩ : MapR w b r ls rest ∧ r ≠ b := h.get 0 rfl
  rcases run_next_at (P := P) w ty r b since c0 seen es c hr hb hold hsc with ⟨h0, hrun⟩ | ⟨e, he, w1, hal, hrun⟩
  · refine .inl ⟨?_, hrun⟩
    have := hleft.length_eq
    simp [kvs, h0] at this
    exact List.length_eq_zero_iff.1 this.symm
  · obtain ⟨hem, hes⟩ := mem_left he
    obtain ⟨p, hp, k1, k2⟩ := hB.of_mem hem
    have hnl : ((leftOf es seen).toList.map (·.born)).Nodup := by
      unfold leftOf
      rw [Array.toList_filter]
      exact hB.2.2.2.sublist (List.filter_sublist.map _)
    have hst := left_step he hnl
    have hl2 : (leftOf es (seen.push e.born)).toList = (leftOf es seen).toList.filter (fun x => x.born != e.born) := by
      unfold leftOf
      rw [Array.toList_filter, Array.toList_filter, List.filter_filter]
      apply List.filter_congr
      intro x _
      rw [contains_push]
      cases seen.contains x.born <;> simp [bne, Bool.and_comm]
    rw [← hl2] at hst
    have hr1 : w1.heap[r]? = some (.mapIter (some b) since seen c0) := by rcases hal with rfl | rfl <;> exact hr
    have hb1 : w1.heap[b]? = some (.map es c) := by rcases hal with rfl | rfl <;> exact hb
    have hset := heap_set (o' := .mapIter (some b) since (seen.push e.born) c) hr1
    have hb' : (setBlock w1 r (.mapIter (some b) since (seen.push e.born) c)).heap[b]? = some (.map es c) := (hset.2 b (fun e1 => hne e1.symm)).trans hb1
    have hpr : (pv p) ∈ rest.map pv := hleft.mem_iff.1 (List.mem_map.2 ⟨e, he, by simp [pv, k1, k2]⟩)
    obtain ⟨p', hp', e'⟩ := List.mem_map.1 hpr
    have := pv_inj e'
    subst this
    obtain ⟨i, hi, ei⟩ := List.getElem_of_mem hp'
    have hperm : rest.Perm (p' :: rest.eraseIdx i) := by
      rw [← ei]
      exact perm_idxV _ i hi
    refine .inr ⟨p', rest.eraseIdx i, _, hperm, hp, by rw [hrun, k1, k2], ?_, ?_, ?_⟩
    · rcases hal with rfl | rfl <;> simp [setBlock]
    · refine h.set 0 rfl (A' := rngV b r ls (rest.eraseIdx i)) ?_ ⟨⟨es, c, since, seen.push e.born, c, hb', hB, hset.1, hold, hsk, hsk, ?_⟩, hne⟩ ?_ (fun x hx => .inl hx)
      · have hk1 : Kept (fun y => y = r) w (setBlock w1 r (.mapIter (some b) since (seen.push e.born) c)) := by
          rcases hal with rfl | rfl
          · exact kept_setBlockV hr1
          · exact (kept_setBlockV (w := w.drew) hr1).ofDrew
        exact hk1.mono (fun y _ hy => by simp [rngV, hy])
      · have h5 : ((e.key, e.val) :: kvs (leftOf es (seen.push e.born)).toList).Perm (pv p' :: (rest.eraseIdx i).map pv) := (List.Perm.trans (show ((e.key, e.val) :: kvs (leftOf es (seen.push e.born)).toList).Perm (kvs (leftOf es seen).toList) from (hst.map (fun e : MapEntry => (e.key, e.val))).symm) hleft).trans (hperm.map pv)
        have e6 : (e.key, e.val) = pv p' := by simp [pv, k1, k2]
        rw [e6] at h5
        exact (List.perm_cons _).1 h5
      · simp only [rngV, List.nodup_cons, List.mem_singleton, List.not_mem_nil, not_false_eq_true, List.nodup_nil, and_true]
        exact hne
    · rw [← k1, ← k2]
      exact run_entry_at _ r b since seen es c e hset.1 hb' hem hB.2.2.2
theorem endV {r : Nat} {rest : List Pr} (h : St o (rngV b r ls rest :: R) w) : St o (mapV b ls :: R) w := by
  obtain ⟨⟨es, c, since, seen, c0, hb, hB, hr, hold, hsc, hsk, hleft⟩, hne⟩ : MapR w b r ls rest ∧ r ≠ b := h.get 0 rfl
  exact h.set 0 rfl (A' := mapV b ls) (Kept.refl _ _) ⟨es, c, hb, hB⟩ (by simp [mapV]) (fun x hx => by simp only [mapV, List.mem_singleton] at hx; exact .inl (by simp [rngV, hx]))
theorem rngLeft {r : Nat} {rest : List Pr} (h : St o (rngV b r ls rest :: R) w) : w.rangeLeft b r = rest.length := by
  obtain ⟨⟨es, c, since, seen, c0, hb, hB, hr, hold, hsc, hsk, hleft⟩, hne⟩ : MapR w b r ls rest ∧ r ≠ b := h.get 0 rfl
  have := hleft.length_eq
  simp only [kvs, List.length_map, Array.length_toList] at this
  simp only [World.rangeLeft, hb, hr]
  exact this
theorem mapGood (h : St o (mapV b ls :: R) w) : Good ls := by
  obtain ⟨es, c, hb, hB⟩ : MapV w b ls := h.get 0 rfl
  exact hB.2.1
end
section
variable {P : Program} (w : World) {ops : Array Oper} {rst : List Oper} {op : Oper} {a : Act} {Q : Exit → Act → World → Prop} {o : World} {R : List It} {b r : Nat} {ls rest : List Pr}
theorem wpList_nextV (hg : op.guard = none) (it : Operand) (hop : op.op = Op.next it false) (hit : a.eval it = .pointer (some ⟨r, 0, none⟩)) (h : St o (rngV b r ls rest :: R) w)
    (hDone : rest = [] → wpList P ops Q rst (a.put op.dst (.tuple #[.bool false])) w)
    (hMore : ∀ (k x : Int) (rest' : List Pr) (w' : World), rest.Perm ((k, x) :: rest') → (k, x) ∈ ls → w'.heap.size = w.heap.size → St o (rngV b r ls rest' :: R) w' → (Instr.entry (.pointer (some ⟨r, 0, none⟩))).run P w' = .ok (.tuple #[.int .i64 k, .int .i64 x]) w' → wpList P ops Q rst (a.put op.dst (.tuple #[.bool true, .int .i64 k, .int .i64 x])) w') :
    wpList P ops Q (op :: rst) a w := by
  refine wpList_plain hg fun K' hK' => ?_
  unfold Oper.wp
  rcases nextV (P := P) h op.type with ⟨h0, hrun⟩ | ⟨⟨k, x⟩, rest', w', hp, hl, hrun, hs, hst, hen⟩
  · simp [execOp, hop, hit, hrun, Result.andThen]
    exact hK' _ _ (hDone h0)
  · simp [execOp, hop, hit, hrun, Result.andThen]
    exact hK' _ _ (hMore k x rest' w' hp hl hs hst hen)
end
end Go.Proofs.YtbpilhjomfkpaaaGreatDoor
