/- What RedoAny keeps, step by step. -/
import Derived.Test.YtoejhbecogmdbaaAnyRel
namespace Go.Proofs.Ytoejhbecogmdbaa
open Go.RowKit
set_option linter.unusedVariables false
set_option linter.unusedSimpArgs false

section
variable {o w w' : World} {its : List It} {es : List En}
theorem vals_new {e' : En} {es' : List En} (h : St o (valsI es :: its) w) (hg : e'.g = w.heap.size) (hs : ∀ e ∈ es', e ∈ es ∨ e = e') (hn : (es'.map En.g).Nodup) : St o (valsI es' :: its) (w.alloc (.cells #[.string e'.t, .string behind] 9)) := by
  have hv : ∀ e ∈ es, w.heap[e.g]? = some (.cells #[.string e.t, .string behind] 9 (0, 0)) := h.get 0 rfl
  have := h.set 0 rfl (A' := valsI es') ((kept_alloc w (.cells #[.string e'.t, .string behind] 9)).calm) ?_ hn ?_
  · exact this
  · intro e he
    rcases hs e he with h1 | rfl
    · rw [Below.heap_alloc w _ e.g (lt_of_heap (hv e h1))]
      exact hv e h1
    · rw [hg]
      exact heap_alloc_new w _
  · intro b hb
    obtain ⟨e, he, rfl⟩ := List.mem_map.1 hb
    rcases hs e he with h1 | rfl
    · exact .inl (List.mem_map.2 ⟨e, h1, rfl⟩)
    · exact .inr (by rw [hg]; exact Nat.le_refl _)
theorem vals_nodup (h : St o (valsI es :: its) w) : (es.map En.g).Nodup := by
  have := h.nodup
  rw [List.flatMap_cons, List.nodup_append] at this
  exact this.1
theorem vals_fresh (h : St o (valsI es :: its) w) : ∀ e ∈ es, e.g ≠ w.heap.size := by
  intro e he e1
  have hv : ∀ e ∈ es, w.heap[e.g]? = some (.cells #[.string e.t, .string behind] 9 (0, 0)) := h.get 0 rfl
  have := lt_of_heap (hv e he)
  omega
theorem nodup_set {l : List Nat} (h : l.Nodup) (i : Nat) {b : Nat} (hb : b ∉ l) : (l.set i b).Nodup := by
  rw [List.nodup_iff_pairwise_ne, List.pairwise_iff_getElem] at *
  intro a c ha hc hac
  simp only [List.length_set] at ha hc
  rw [List.getElem_set, List.getElem_set]
  split
  · split
    · omega
    · exact fun e => hb (e ▸ List.getElem_mem hc)
  · split
    · exact fun e => hb (e ▸ List.getElem_mem ha)
    · exact h a c ha hc hac
theorem vals_set {e' : En} (h : St o (valsI es :: its) w) (i : Nat) (hg : e'.g = w.heap.size) : St o (valsI (es.set i e') :: its) (w.alloc (.cells #[.string e'.t, .string behind] 9)) := by
  refine vals_new h hg (fun e he => ?_) ?_
  · rcases List.mem_or_eq_of_mem_set he with h1 | h1
    · exact .inl h1
    · exact .inr h1
  · rw [List.map_set]
    refine nodup_set (vals_nodup h) i ?_
    intro hb
    obtain ⟨e, he, e1⟩ := List.mem_map.1 hb
    exact vals_fresh h e he (e1.trans hg)
theorem vals_snoc {e' : En} (h : St o (valsI es :: its) w) (hg : e'.g = w.heap.size) : St o (valsI (es ++ [e']) :: its) (w.alloc (.cells #[.string e'.t, .string behind] 9)) := by
  refine vals_new h hg (fun e he => ?_) ?_
  · rcases List.mem_append.1 he with h1 | h1
    · exact .inl h1
    · exact .inr (List.mem_singleton.1 h1)
  · rw [List.map_append, List.nodup_append]
    refine ⟨vals_nodup h, by simp, fun a ha b hb e => ?_⟩
    obtain ⟨x, hx, e1⟩ := List.mem_map.1 ha
    simp only [List.map_cons, List.map_nil, List.mem_singleton] at hb
    exact vals_fresh h x hx (by rw [e1, e, hb, hg])
theorem vals_erase (h : St o (valsI es :: its) w) (i : Nat) : St o (valsI (es.eraseIdx i) :: its) w := by
  have hv : ∀ e ∈ es, w.heap[e.g]? = some (.cells #[.string e.t, .string behind] 9 (0, 0)) := h.get 0 rfl
  have := h.set 0 rfl (A' := valsI (es.eraseIdx i)) (Kept.refl _ w) (fun e he => hv e ((List.eraseIdx_sublist _ _).subset he)) ((vals_nodup h).sublist ((List.eraseIdx_sublist _ _).map _)) (fun b hb => ?_)
  · exact this
  · obtain ⟨e, he, rfl⟩ := List.mem_map.1 hb
    exact .inl (List.mem_map.2 ⟨e, (List.eraseIdx_sublist _ _).subset he, rfl⟩)
/-- A row among the things has grown. -/
theorem St.rowGrown {e : TypeId} {z n n' : Nat} {v v' : Value} {xs xs' : List Value} (h : St o its w) (i : Nat) (hi : its[i]? = some (ownI e z v n xs)) (k : Kept (fun b => v.ownBlock = some b) w w') (ho : w'.ownsRow 0 e z v' n' xs') (hf : ∀ b, v'.ownBlock = some b → v.ownBlock = some b ∨ w.heap.size ≤ b) : St o (its.set i (ownI e z v' n' xs')) w' :=
  h.set i hi (k.mono (fun b _ hb => by simp [ownI, hb])) ho (own_nodup v') (fun b hb => by
    have hb' : v'.ownBlock = some b := by simpa [ownI] using hb
    rcases hf b hb' with h1 | h1
    · exact .inl (by simp [ownI, h1])
    · exact .inr h1)
end

section
variable {o w w' : World} {p : Nat} {most : Int} {v : Value} {bm : Nat} {vo vl : Value} {es : List En}
theorem drop_no (h : AnySt o p most v bm vo vl es w) {s : ByteArray} {n : Int} (hk : OKk (KV s n)) (hn : ∀ e ∈ es, ¬ (e.s = s ∧ e.n = n)) :
    Calls Try.prog 14 #[.pointer (some ⟨p, 0, none⟩), KV s n] w fun e w' => e = .returned (.bool false) ∧ AnySt o p most v bm vo vl es w' := by
  refine (dropT_no (any_log h) hk (pair_no hn)).mono ?_
  rintro e w' ⟨rfl, k⟩
  exact ⟨rfl, h.calm k⟩
theorem drop_at (h : AnySt o p most v bm vo vl es w) {i : Nat} {e : En} (hi : es[i]? = some e) :
    Calls Try.prog 14 #[.pointer (some ⟨p, 0, none⟩), KV e.s e.n] w fun r w' => r = .returned (.bool true) ∧ ∃ v', St o [valsI (es.eraseIdx i), ownI 49 2 vo es.length (es.flatMap En.kc), ownI 9 1 vl es.length (es.flatMap En.tc), logI Try.prog 80 85 3 49 OKk p most v' bm ((es.eraseIdx i).map En.pair)] w' := by
  refine (dropT_at (any_log h) (pair_at hi)).mono ?_
  rintro r w' ⟨rfl, k⟩
  obtain ⟨v', hS⟩ := h.turn 3 rfl k
  refine ⟨rfl, v', ?_⟩
  have := vals_erase hS i
  rw [← Go.ChangeMaps.map_eraseIdx] at this
  exact this
theorem kc_set {i : Nat} {e e' : En} (hi : es[i]? = some e) (h1 : e'.s = e.s) (h2 : e'.n = e.n) : (es.set i e').flatMap En.kc = es.flatMap En.kc := by
  obtain ⟨hlt, he⟩ := List.getElem?_eq_some_iff.1 hi
  have e1 : es = es.take i ++ e :: es.drop (i + 1) := by rw [← he, List.getElem_cons_drop, List.take_append_drop]
  have e2 : (es.take i).length = i := by simp; omega
  have e3 : es.set i e' = es.take i ++ e' :: es.drop (i + 1) := by
    rw [List.set_eq_take_append_cons_drop, if_pos hlt]
  rw [e3]
  conv => rhs; rw [e1]
  rw [List.flatMap_append, List.flatMap_append, List.flatMap_cons, List.flatMap_cons]
  simp [En.kc, h1, h2]
/-- Put, the key being there: behind the block of the new list. -/
theorem put_old (h : AnySt o p most v bm vo vl es w) {i : Nat} {e : En} (hi : es[i]? = some e) (t : ByteArray) :
    Calls Try.prog 15 #[.pointer (some ⟨p, 0, none⟩), KV e.s e.n, .slice (some ⟨w.heap.size, 0, none⟩) 2 2] (w.alloc (.cells #[.string t, .string behind] 9)) fun r w' => r = .returned (.int .i64 0) ∧
      ∃ v', St o [valsI (es.set i ⟨e.s, e.n, w.heap.size, t⟩), ownI 49 2 vo es.length (es.flatMap En.kc), ownI 9 1 vl es.length (es.flatMap En.tc), logI Try.prog 80 85 3 49 OKk p most v' bm ((es.set i ⟨e.s, e.n, w.heap.size, t⟩).map En.pair)] w' := by
  have h1 := vals_set (e' := ⟨e.s, e.n, w.heap.size, t⟩) h i rfl
  have hl : LogT (w.alloc (.cells #[.string t, .string behind] 9)) p most v bm (es.map En.pair) := h1.get 3 rfl
  refine (putT_old hl (pair_at hi) (some ⟨w.heap.size, 0, none⟩) 2 2).mono ?_
  rintro r w' ⟨rfl, k⟩
  obtain ⟨v', hS⟩ := h1.turn 3 rfl k
  refine ⟨rfl, v', ?_⟩
  rw [List.map_set]
  exact hS
theorem put_full (h : AnySt o p most v bm vo vl es w) {s : ByteArray} {n : Int} (hk : OKk (KV s n)) (hn : ∀ e ∈ es, ¬ (e.s = s ∧ e.n = n)) (hf : (es.length : Int) = most) (t : ByteArray) :
    Calls Try.prog 15 #[.pointer (some ⟨p, 0, none⟩), KV s n, .slice (some ⟨w.heap.size, 0, none⟩) 2 2] (w.alloc (.cells #[.string t, .string behind] 9)) fun r w' => r = .returned (.int .i64 11) ∧ AnySt o p most v bm vo vl es w' := by
  have h1 := h.alloc (.cells #[.string t, .string behind] 9)
  refine (putT_full (any_log h1) hk (pair_no hn) (by simpa using hf) (some ⟨w.heap.size, 0, none⟩) 2 2).mono ?_
  rintro r w' ⟨rfl, k⟩
  exact ⟨rfl, h1.calm k⟩
theorem put_new (h : AnySt o p most v bm vo vl es w) {s : ByteArray} {n : Int} (hk : OKk (KV s n)) (hn : ∀ e ∈ es, ¬ (e.s = s ∧ e.n = n)) (hf : (es.length : Int) < most) (t : ByteArray) :
    Calls Try.prog 15 #[.pointer (some ⟨p, 0, none⟩), KV s n, .slice (some ⟨w.heap.size, 0, none⟩) 2 2] (w.alloc (.cells #[.string t, .string behind] 9)) fun r w' => r = .returned (.int .i64 0) ∧
      ∃ v', St o [valsI (es ++ [⟨s, n, w.heap.size, t⟩]), ownI 49 2 vo es.length (es.flatMap En.kc), ownI 9 1 vl es.length (es.flatMap En.tc), logI Try.prog 80 85 3 49 OKk p most v' bm ((es ++ [(⟨s, n, w.heap.size, t⟩ : En)]).map En.pair)] w' := by
  have h1 := vals_snoc (e' := ⟨s, n, w.heap.size, t⟩) h rfl
  have hl : LogT (w.alloc (.cells #[.string t, .string behind] 9)) p most v bm (es.map En.pair) := h1.get 3 rfl
  refine (putT_new hl hk (pair_no hn) (by simpa using hf) (some ⟨w.heap.size, 0, none⟩) 2 2).mono ?_
  rintro r w' ⟨rfl, k⟩
  obtain ⟨v', hS⟩ := h1.turn 3 rfl k
  refine ⟨rfl, v', ?_⟩
  rw [List.map_append]
  exact hS
/-- The order in which things are listed does not count. -/
theorem St.perm {its its' : List It} (h : St o its w) (hp : its.Perm its') : St o its' w :=
  ⟨(hp.flatMap_right It.fp).nodup_iff.1 h.nodup, fun i hi => h.all i (hp.mem_iff.2 hi), fun i hi => h.high i (hp.mem_iff.2 hi), h.kept⟩
/-- Put of a new key, other things beside. -/
theorem put_new' {tl : List It} (h : St o (valsI es :: ownI 49 2 vo es.length (es.flatMap En.kc) :: ownI 9 1 vl es.length (es.flatMap En.tc) :: logI Try.prog 80 85 3 49 OKk p most v bm (es.map En.pair) :: tl) w) {s : ByteArray} {n : Int} (hk : OKk (KV s n)) (hn : ∀ e ∈ es, ¬ (e.s = s ∧ e.n = n)) (hf : (es.length : Int) < most) (t : ByteArray) :
    Calls Try.prog 15 #[.pointer (some ⟨p, 0, none⟩), KV s n, .slice (some ⟨w.heap.size, 0, none⟩) 2 2] (w.alloc (.cells #[.string t, .string behind] 9)) fun r w' => r = .returned (.int .i64 0) ∧
      ∃ v', St o (valsI (es ++ [⟨s, n, w.heap.size, t⟩]) :: ownI 49 2 vo es.length (es.flatMap En.kc) :: ownI 9 1 vl es.length (es.flatMap En.tc) :: logI Try.prog 80 85 3 49 OKk p most v' bm ((es ++ [(⟨s, n, w.heap.size, t⟩ : En)]).map En.pair) :: tl) w' := by
  have h1 := vals_snoc (e' := ⟨s, n, w.heap.size, t⟩) h rfl
  have hl : LogT (w.alloc (.cells #[.string t, .string behind] 9)) p most v bm (es.map En.pair) := h1.get 3 rfl
  refine (putT_new hl hk (pair_no hn) (by simpa using hf) (some ⟨w.heap.size, 0, none⟩) 2 2).mono ?_
  rintro r w' ⟨rfl, k⟩
  obtain ⟨v', hS⟩ := h1.turn 3 rfl k
  refine ⟨rfl, v', ?_⟩
  rw [List.map_append]
  exact hS
/-- The text of a key that was there. -/
theorem text_set {i : Nat} {e : En} {g cap b : Nat} {t : ByteArray} (h : St o [valsI (es.set i ⟨e.s, e.n, b, t⟩), ownI 49 2 vo es.length (es.flatMap En.kc), ownI 9 1 (.slice (some ⟨g, 0, none⟩) es.length cap) es.length (es.flatMap En.tc), logI Try.prog 80 85 3 49 OKk p most v bm ((es.set i ⟨e.s, e.n, b, t⟩).map En.pair)] w) (hi : es[i]? = some e) :
    AnySt o p most v bm vo (.slice (some ⟨g, 0, none⟩) es.length cap) (es.set i ⟨e.s, e.n, b, t⟩) (w.setCell ⟨g, i, none⟩ (.string t)) := by
  have hlt := (List.getElem?_eq_some_iff.1 hi).1
  have h2 := h.set 2 rfl (A' := ownI 9 1 (.slice (some ⟨g, 0, none⟩) es.length cap) es.length ((es.flatMap En.tc).set i (.string t))) ((Kept.refl _ w).setCell (.string t) (.inl (by simp [ownI, Value.ownBlock]))) ((show w.ownsRow 0 9 1 (.slice (some ⟨g, 0, none⟩) es.length cap) es.length (es.flatMap En.tc) from h.get 2 rfl).stored i (.string t)).1 (own_nodup (.slice (some ⟨g, 0, none⟩) es.length cap)) (fun b hb => .inl hb)
  unfold AnySt anyIts
  rw [List.length_set, kc_set (e' := ⟨e.s, e.n, b, t⟩) hi rfl rfl]
  have e1 : ∀ l : List En, l.flatMap En.tc = l.map (fun e => .string e.t) := fun l => by
    induction l with
    | nil => rfl
    | cons x r ih => rw [List.flatMap_cons, List.map_cons, ih]; rfl
  rw [e1, List.map_set, ← e1]
  exact h2
end
end Go.Proofs.Ytoejhbecogmdbaa
