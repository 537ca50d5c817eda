/- Maps as functions from keys to values; lists of pairs as rows of cells. No program is named here. -/
import Derived.Test.YtoejhbecogmdbaaKit
namespace Go.Proofs.Ytoejhbecogmdbaa
open Go.RowKit Go.MapKept
open Go.ChangeMaps (setBlock heap_setBlock_same heap_setBlock_other)
open Go.Maps (Keyed)
set_option linter.unusedVariables false
set_option linter.unusedSimpArgs false

/-- Block b is a map that holds what f says. -/
def MapIs (P : Program) (K : TypeId) (w : World) (b : Nat) (f : Value → Option Value) : Prop :=
  ∃ es clock, w.heap[b]? = some (.map es clock) ∧ (∀ e ∈ es.toList, ∃ l, keyOf P K e.key = some l) ∧ es.toList.Pairwise (fun x y => x.key ≠ y.key) ∧
    ∀ x l, keyOf P K x = some l → ((∀ e ∈ es.toList, e.key ≠ x) ∧ f x = none) ∨ ∃ e ∈ es.toList, e.key = x ∧ f x = some e.val

section
variable {P : Program} {K : TypeId} {w : World} {b : Nat} {f : Value → Option Value}
theorem MapIs.lt (h : MapIs P K w b f) : b < w.heap.size := by obtain ⟨es, c, hb, _⟩ := h; exact lt_of_heap hb
theorem MapIs.loc {w' : World} (h : MapIs P K w b f) (hk : w'.heap[b]? = w.heap[b]?) : MapIs P K w' b f := by
  obtain ⟨es, c, hb, r⟩ := h
  exact ⟨es, c, hk.trans hb, r⟩
theorem mapIs_made (w : World) : MapIs P K (w.alloc (.map #[] 0)) w.heap.size (fun _ => none) :=
  ⟨#[], 0, heap_alloc_new w _, by simp, by simp, fun x l _ => .inl ⟨by simp, rfl⟩⟩
theorem kept_setBlock {es : Array MapEntry} {c : Nat} (hb : w.heap[b]? = some (.map es c)) (o : Obj) : Kept (fun k => k = b) w (setBlock w b o) :=
  ⟨rfl, rfl, rfl, by simp [setBlock], fun k _ hk => heap_setBlock_other hb o hk⟩
theorem MapIs.look {t e : TypeId} (h : MapIs P K w b f) (Kd : Keyed P K) (ht : P.underlying t = some (.map K e)) {z : Value} (hz : (zeroValue e).run P w = .ok z w) {key : Value} (hk : ∃ l, keyOf P K key = some l) :
    (Instr.lookup t (.map (some b)) key true).run P w = .ok (.tuple #[(f key).getD z, .bool (f key).isSome]) w := by
  obtain ⟨es, c, hb, hr, hn, hf⟩ := h
  obtain ⟨l, hk⟩ := hk
  rcases Kd.find w hk es.toList hr with ⟨h1, h2⟩ | ⟨j, e0, h1, h2, h3⟩
  · rcases hf key l hk with ⟨_, h4⟩ | ⟨e1, m1, k1, _⟩
    · simp [Instr.lookup, run_underlying ht, MapKept.run_getObj_map hb, Kd.check w _ hk, h1, hz, Result.andThen, h4]
    · exact absurd k1 (h2 e1 m1)
  · rcases hf key l hk with ⟨h4, _⟩ | ⟨e1, m1, k1, h5⟩
    · exact absurd h3 (h4 e0 (List.mem_of_getElem? h2))
    · have : e1 = e0 := by
        obtain ⟨i, hi, ei⟩ := List.getElem_of_mem m1
        obtain ⟨hj, ej⟩ := List.getElem?_eq_some_iff.1 h2
        rcases Nat.lt_trichotomy i j with hlt | heq | hgt
        · exact absurd (by rw [ei, ej, k1, h3]) (List.pairwise_iff_getElem.1 hn i j hi hj hlt)
        · subst heq; rw [← ei, ej]
        · exact absurd (by rw [ei, ej, k1, h3]) (List.pairwise_iff_getElem.1 hn j i hj hi hgt)
      subst this
      simp [Instr.lookup, run_underlying ht, MapKept.run_getObj_map hb, Kd.check w _ hk, h1, Result.andThen, h5]

theorem MapIs.store {t e : TypeId} (h : MapIs P K w b f) (Kd : Keyed P K) (ht : P.underlying t = some (.map K e)) {key : Value} (hk : ∃ l, keyOf P K key = some l) (val : Value) :
    ∃ w', (Instr.mapUpdate t (.map (some b)) key val).run P w = .ok () w' ∧ Kept (fun k => k = b) w w' ∧ w'.heap.size = w.heap.size ∧ ∀ f' : Value → Option Value, f' key = some val → (∀ x, x ≠ key → f' x = f x) → MapIs P K w' b f' := by
  obtain ⟨es, c, hb, hr, hn, hf⟩ := h
  obtain ⟨l, hk⟩ := hk
  rcases Kd.find w hk es.toList hr with ⟨h1, h2⟩ | ⟨j, e0, h1, h2, h3⟩
  · refine ⟨setBlock w b (.map (es.push ⟨key, val, c⟩) (c + 1)), ?_, kept_setBlock hb _, by simp [setBlock], fun f' g1 g2 => ⟨_, _, heap_setBlock_same hb _, ?_, ?_, ?_⟩⟩
    · simp [Instr.mapUpdate, run_underlying ht, MapKept.run_getObj_map hb, Kd.check w false hk, h1, MapKept.run_setObj_map _ hb, Result.andThen, setBlock]
    · intro x hx
      simp only [Array.toList_push, List.mem_append, List.mem_singleton] at hx
      rcases hx with hx | rfl
      · exact hr x hx
      · exact ⟨l, hk⟩
    · rw [Array.toList_push, List.pairwise_append]
      refine ⟨hn, by simp, fun x hx y hy => ?_⟩
      rw [List.mem_singleton.1 hy]
      exact h2 x hx
    · intro x lx hx
      by_cases e1 : x = key
      · subst e1
        exact .inr ⟨⟨x, val, c⟩, by simp, rfl, g1⟩
      · rcases hf x lx hx with ⟨a1, a2⟩ | ⟨e2, m2, k2, a2⟩
        · refine .inl ⟨fun y hy => ?_, (g2 x e1).trans a2⟩
          simp only [Array.toList_push, List.mem_append, List.mem_singleton] at hy
          rcases hy with hy | rfl
          · exact a1 y hy
          · exact fun h => e1 h.symm
        · exact .inr ⟨e2, by simp only [Array.toList_push, List.mem_append]; exact .inl m2, k2, (g2 x e1).trans a2⟩
  · have hj : es[j]? = some e0 := by simpa using h2
    obtain ⟨hjl, ej⟩ := List.getElem?_eq_some_iff.1 h2
    have hlist : (es.modify j (fun e' => { e' with key := key, val := val })).toList = es.toList.set j { e0 with key := key, val := val } := by rw [Array.toList_modify, ChangeMaps.modify_eq_set _ _ _ _ h2]
    have other : ∀ i (hi : i < es.toList.length), i ≠ j → es.toList[i].key ≠ key := by
      intro i hi hne
      rw [← h3, ← ej]
      rcases Nat.lt_or_gt_of_ne hne with hlt | hgt
      · exact List.pairwise_iff_getElem.1 hn i j hi hjl hlt
      · exact fun e => List.pairwise_iff_getElem.1 hn j i hjl hi hgt e.symm
    refine ⟨setBlock w b (.map (es.modify j (fun e' => { e' with key := key, val := val })) c), ?_, kept_setBlock hb _, by simp [setBlock], fun f' g1 g2 => ⟨_, _, heap_setBlock_same hb _, ?_, ?_, ?_⟩⟩
    · simp [Instr.mapUpdate, run_underlying ht, MapKept.run_getObj_map hb, Kd.check w false hk, h1, hj, h3, Kd.stays w hk, MapKept.run_setObj_map _ hb, Result.andThen, setBlock]
    · intro x hx
      rw [hlist] at hx
      rcases List.mem_or_eq_of_mem_set hx with hx | rfl
      · exact hr x hx
      · exact ⟨l, hk⟩
    · rw [hlist, List.pairwise_iff_getElem]
      intro i i' hi hi' hlt
      simp only [List.length_set] at hi hi'
      rw [List.getElem_set, List.getElem_set]
      split
      · split
        · omega
        · exact fun e => other i' hi' (by omega) e.symm
      · split
        · exact other i hi (by omega)
        · exact List.pairwise_iff_getElem.1 hn i i' hi hi' hlt
    · intro x lx hx
      rw [hlist]
      by_cases e1 : x = key
      · subst e1
        exact .inr ⟨{ e0 with key := x, val := val }, List.mem_iff_getElem.2 ⟨j, by simpa using hjl, by simp⟩, rfl, g1⟩
      · rcases hf x lx hx with ⟨a1, a2⟩ | ⟨e2, m2, k2, a2⟩
        · refine .inl ⟨fun y hy => ?_, (g2 x e1).trans a2⟩
          rcases List.mem_or_eq_of_mem_set hy with hy | rfl
          · exact a1 y hy
          · exact fun h => e1 h.symm
        · refine .inr ⟨e2, ?_, k2, (g2 x e1).trans a2⟩
          obtain ⟨i, hi, ei⟩ := List.getElem_of_mem m2
          refine List.mem_iff_getElem.2 ⟨i, by simpa using hi, ?_⟩
          rw [List.getElem_set_ne, ei]
          intro e3
          subst e3
          exact e1 (by rw [← k2, ← ei, ej, h3])

theorem MapIs.drop {t e : TypeId} (h : MapIs P K w b f) (Kd : Keyed P K) (ht : P.underlying t = some (.map K e)) {key : Value} (hk : ∃ l, keyOf P K key = some l) :
    ∃ w', (∀ ty, (Builtin.delete_ #[t, K] ty #[.map (some b), key]).run P w = .ok (.tuple #[]) w') ∧ Kept (fun k => k = b) w w' ∧ w'.heap.size = w.heap.size ∧ ∀ f' : Value → Option Value, f' key = none → (∀ x, x ≠ key → f' x = f x) → MapIs P K w' b f' := by
  obtain ⟨es, c, hb, hr, hn, hf⟩ := h
  obtain ⟨l, hk⟩ := hk
  rcases Kd.find w hk es.toList hr with ⟨h1, h2⟩ | ⟨j, e0, h1, h2, h3⟩
  · refine ⟨setBlock w b (.map es c), fun ty => ?_, kept_setBlock hb _, by simp [setBlock], fun f' g1 g2 => ⟨es, c, heap_setBlock_same hb _, hr, hn, ?_⟩⟩
    · simp [Builtin.delete_, run_underlying ht, MapKept.run_getObj_map hb, Kd.check w _ hk, h1, MapKept.run_setObj_map _ hb, Result.andThen, setBlock]
    · intro x lx hx
      by_cases e1 : x = key
      · subst e1
        exact .inl ⟨h2, g1⟩
      · rw [g2 x e1]
        exact hf x lx hx
  · obtain ⟨hjl, ej⟩ := List.getElem?_eq_some_iff.1 h2
    have hjs : j < es.size := by simpa using hjl
    have hsub : (es.eraseIdxIfInBounds j).toList = es.toList.eraseIdx j := by
      unfold Array.eraseIdxIfInBounds
      rw [dif_pos hjs]
      simp
    refine ⟨setBlock w b (.map (es.eraseIdxIfInBounds j) c), fun ty => ?_, kept_setBlock hb _, by simp [setBlock], fun f' g1 g2 => ⟨_, _, heap_setBlock_same hb _, ?_, ?_, ?_⟩⟩
    · simp [Builtin.delete_, run_underlying ht, MapKept.run_getObj_map hb, Kd.check w _ hk, h1, MapKept.run_setObj_map _ hb, Result.andThen, setBlock]
    · intro x hx
      rw [hsub] at hx
      exact hr x ((List.eraseIdx_sublist _ _).subset hx)
    · rw [hsub]
      exact hn.sublist (List.eraseIdx_sublist _ _)
    · intro x lx hx
      rw [hsub]
      by_cases e1 : x = key
      · subst e1
        refine .inl ⟨fun y hy => ?_, g1⟩
        obtain ⟨i, hne, hi⟩ := List.mem_eraseIdx_iff_getElem?.1 hy
        obtain ⟨hil, ei⟩ := List.getElem?_eq_some_iff.1 hi
        rw [← ei, ← h3, ← ej]
        rcases Nat.lt_or_gt_of_ne hne with hlt | hgt
        · exact List.pairwise_iff_getElem.1 hn i j hil hjl hlt
        · exact fun e => List.pairwise_iff_getElem.1 hn j i hjl hil hgt e.symm
      · rcases hf x lx hx with ⟨a1, a2⟩ | ⟨e2, m2, k2, a2⟩
        · exact .inl ⟨fun y hy => a1 y ((List.eraseIdx_sublist _ _).subset hy), (g2 x e1).trans a2⟩
        · refine .inr ⟨e2, ?_, k2, (g2 x e1).trans a2⟩
          obtain ⟨i, hi, ei⟩ := List.getElem_of_mem m2
          refine List.mem_eraseIdx_iff_getElem?.2 ⟨i, ?_, by rw [List.getElem?_eq_getElem hi, ei]⟩
          intro e3
          subst e3
          exact e1 (by rw [← k2, ← ei, ej, h3])

theorem MapIs.wipe {t e : TypeId} (h : MapIs P K w b f) (ht : P.underlying t = some (.map K e)) :
    ∃ w', (∀ ty, (Builtin.clear_ #[t] ty #[.map (some b)]).run P w = .ok (.tuple #[]) w') ∧ Kept (fun k => k = b) w w' ∧ w'.heap.size = w.heap.size ∧ MapIs P K w' b (fun _ => none) := by
  obtain ⟨es, c, hb, hr, hn, hf⟩ := h
  refine ⟨setBlock w b (.map #[] c), fun ty => ?_, kept_setBlock hb _, by simp [setBlock], ⟨#[], c, heap_setBlock_same hb _, by simp, by simp, fun x l _ => .inl ⟨by simp, rfl⟩⟩⟩
  simp [Builtin.clear_, run_underlying ht, MapKept.run_getObj_map hb, MapKept.run_setObj_map _ hb, Result.andThen, setBlock]
end
end Go.Proofs.Ytoejhbecogmdbaa
