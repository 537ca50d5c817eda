/- Rows that are cut, wiped, written over (no program is named here). Maps as functions from keys to values; lists of pairs as rows of cells. No program is named here. A log in memory: its block (bound, row of pairs, map of places), the row's own block, the map's; what a call may turn of it. No program is named here. Keys: which may be, what is asked of their types; sameAsItself. Logs of numbers under numbers: New, Len, find, Get, At, Put. Logs of numbers under numbers: Clear, Keys. -/
import Derived.Test.YthbcbjkgjgmegaaGreatSame
import Derived.Test.YthbcbjkgjgmegaaGreatSmall
import Derived.Test.YthbcbjkgjgmegaaGreatProg
import Derived.Defers
import Derived.Recover
import Derived.Deep.OwnRows
namespace Go.Proofs.YthbcbjkgjgmegaaGreat
open Go.RowKit
set_option linter.unusedVariables false
set_option linter.unusedSimpArgs false

theorem Kept.calm {F : Nat → Prop} {a b : World} (h : Kept (fun _ => False) a b) : Kept F a b := h.mono (fun _ _ f => f.elim)
theorem own_mono {w : World} {B B' : Nat} {e : TypeId} {z : Nat} {v : Value} {n : Nat} {xs : List Value} (h : w.ownsRow B e z v n xs) (hb : B' ≤ B) : w.ownsRow B' e z v n xs := by
  refine ⟨h.1, ?_⟩
  rcases h.2 with hc | ⟨g, cap, cur, rfl, hg, r⟩
  · exact .inl hc
  · exact .inr ⟨g, cap, cur, rfl, Nat.le_trans hb hg, r⟩
theorem own_forms {w : World} {B n : Nat} {v : Value} {e : TypeId} {z : Nat} {xs : List Value} (h : w.ownsRow B e z v n xs) : (v = .slice none 0 0 ∧ n = 0 ∧ xs = []) ∨ ∃ g cap, v = .slice (some ⟨g, 0, none⟩) n cap ∧ B ≤ g ∧ g < w.heap.size ∧ n ≤ cap := by
  rcases h.2 with ⟨h1, h0⟩ | ⟨g, cap, cur, h1, hb, hg, hn, _⟩
  · exact .inl ⟨h1, h0, List.eq_nil_of_length_eq_zero (by rw [h.1, h0]; simp)⟩
  · exact .inr ⟨g, cap, h1, hb, lt_of_heap hg, hn⟩
/-- A row cut at its upper end. -/
theorem own_cut {w : World} {B g n cap : Nat} {e : TypeId} {z : Nat} {xs : List Value} (h : w.ownsRow B e z (.slice (some ⟨g, 0, none⟩) n cap) n xs) {m : Nat} (hm : m ≤ n) : w.ownsRow B e z (.slice (some ⟨g, 0, none⟩) m cap) m (xs.take (m * z)) := by
  have hl := h.1
  have hmz : m * z ≤ n * z := Nat.mul_le_mul_right _ hm
  refine ⟨by simp; omega, ?_⟩
  rcases h.2 with ⟨h1, _⟩ | ⟨g', cap', cur, h1, hb, hg, hn, hc, hs, ht⟩
  · cases h1
  · simp only [Value.slice.injEq, Option.some.injEq, Addr.mk.injEq, and_true, true_and] at h1
    obtain ⟨rfl, rfl⟩ := h1
    refine .inr ⟨g, cap, cur, rfl, hb, hg, by omega, hc, hs, ?_⟩
    rw [← ht, List.take_take, Nat.min_eq_left hmz]

theorem setCells_heap_far {g : Nat} : ∀ (vs : List Value) (o : Nat) (w : World) (k : Nat), k ≠ g → (w.setCells g o vs).heap[k]? = w.heap[k]?
  | [], _, _, _, _ => rfl
  | v :: r, o, w, k, h => by rw [World.setCells, setCells_heap_far r (o + 1) _ k h, heap_setCell_far (by simpa using h)]
theorem setCells_kept {F : Nat → Prop} {g : Nat} {a : World} (hF : F g ∨ a.heap.size ≤ g) : ∀ (vs : List Value) (o : Nat) (w : World), Kept F a w → Kept F a (w.setCells g o vs)
  | [], _, _, h => h
  | v :: r, o, w, h => setCells_kept hF r (o + 1) _ (h.setCell v hF)
theorem setCells_row {g : Nat} {t : TypeId} {fr : Nat × Nat} : ∀ (vs : List Value) (o : Nat) (w : World) (cs : Array Value), w.heap[g]? = some (.cells cs t fr) → ∃ cs', (w.setCells g o vs).heap[g]? = some (.cells cs' t fr) ∧ cs'.size = cs.size ∧ ∀ i, i < o → cs'[i]? = cs[i]?
  | [], _, _, cs, h => ⟨cs, h, rfl, fun _ _ => rfl⟩
  | v :: r, o, w, cs, h => by
    obtain ⟨cs', h1, h2, h3⟩ := setCells_row r (o + 1) _ _ (heap_setCell_at (o := o) h v)
    refine ⟨cs', h1, by simpa using h2, fun i hi => ?_⟩
    rw [h3 i (by omega)]
    simp [Array.getElem?_setIfInBounds_ne (show o ≠ i by omega)]

/-- What lies above m is written over: the row below it stays. -/
theorem own_setCells {w : World} {B g n cap : Nat} {e : TypeId} {z : Nat} {xs : List Value} (h : w.ownsRow B e z (.slice (some ⟨g, 0, none⟩) n cap) n xs) {m : Nat} (hm : m ≤ n) (vs : List Value) : (w.setCells g (m * z) vs).ownsRow B e z (.slice (some ⟨g, 0, none⟩) m cap) m (xs.take (m * z)) := by
  have hcut := own_cut h hm
  refine ⟨hcut.1, ?_⟩
  rcases hcut.2 with ⟨h1, _⟩ | ⟨g', cap', cur, h1, hb, hg, hn, hc, hs, ht⟩
  · cases h1
  · simp only [Value.slice.injEq, Option.some.injEq, Addr.mk.injEq, and_true, true_and] at h1
    obtain ⟨rfl, rfl⟩ := h1
    obtain ⟨cs', a1, a2, a3⟩ := setCells_row vs (m * z) w cur hg
    refine .inr ⟨g, cap, cs', rfl, hb, a1, hn, hc, by omega, ?_⟩
    rw [← ht]
    apply List.ext_getElem?
    intro i
    rw [List.getElem?_take, List.getElem?_take]
    split
    · have := a3 i (by assumption)
      simpa using this
    · rfl

theorem wipe_none {P : Program} (w : World) (t e : TypeId) (ht : P.underlying t = some (.slice e)) (a : Option Addr) (c : Nat) (ty : TypeId) : (Builtin.clear_ #[t] ty #[.slice a 0 c]).run P w = .ok (.tuple #[]) w := by
  cases a <;> simp [Builtin.clear_, run_underlying ht]

theorem zeroCells_one {zv : Value} (h1 : ∀ i, i < zv.cells.size → (zv.cells[i]!).oneCell' = true) (hz : 0 < zv.cells.size) (n : Nat) : ∀ u ∈ (Builtin.zeroCells zv.cells n).toList, u.oneCell' = true := by
  intro u hu
  simp only [Builtin.zeroCells, Array.toList_map, List.mem_map] at hu
  obtain ⟨i, _, rfl⟩ := hu
  exact h1 _ (Nat.mod_lt _ hz)

theorem wipe_run {P : Program} (w : World) (t e : TypeId) (zv : Value) (z : Nat) (ht : P.underlying t = some (.slice e)) (hv : ∀ w, (zeroValue e).run P w = .ok zv w) (hz : zv.cells.size = z) (h0 : 0 < z) (h1 : ∀ i, i < zv.cells.size → (zv.cells[i]!).oneCell' = true)
    {B g n cap : Nat} {xs : List Value} (h : w.ownsRow B e z (.slice (some ⟨g, 0, none⟩) n cap) n xs) {m : Nat} (hm : m < n) :
    ∃ vs, ∀ (ty : TypeId) (c : Nat), (Builtin.clear_ #[t] ty #[.slice (some ⟨g, m * z, none⟩) (n - m) c]).run P w = .ok (.tuple #[]) (w.setCells g (m * z) vs) := by
  refine ⟨(Builtin.zeroCells zv.cells (n - m)).toList, fun ty c => ?_⟩
  have hlen : (Builtin.zeroCells zv.cells (n - m)).toList.length = (n - m) * z := by simp [Builtin.zeroCells, hz]
  have hx := h.1
  have hmul : m * z + (n - m) * z = n * z := by rw [← Nat.add_mul]; congr 1; omega
  have hst := run_storeCells_cells (P := P) g (m * z) (Builtin.zeroCells zv.cells (n - m)).toList 0 w
    (fun j hj => by
      rw [h.cellAt (m * z + 0 + j) (by omega), List.getElem?_eq_getElem (by omega)]
      rfl)
    (fun j hj => h.frozenAt _)
    (zeroCells_one h1 (by omega) _)
  simp only [Nat.add_zero] at hst
  obtain ⟨k, hk⟩ : ∃ k, n - m = k + 1 := ⟨n - m - 1, by omega⟩
  rw [hk] at hst ⊢
  simp [Builtin.clear_, run_underlying ht, hv, hst]
end Go.Proofs.YthbcbjkgjgmegaaGreat

namespace Go.Proofs.YthbcbjkgjgmegaaGreat
open Go.RowKit Go.MapKept
open Go.ChangeMaps (setBlock heap_setBlock_same heap_setBlock_other)
open Go.Maps (Keyed)
set_option linter.unusedVariables false
set_option linter.unusedSimpArgs false

/-- Block b is a map that holds what f says. -/
def MapIs (P : Program) (K : TypeId) (w : World) (b : Nat) (f : Value → Option Value) : Prop :=
  ∃ es clock, w.heap[b]? = some (.map es clock) ∧ (∀ e ∈ es.toList, ∃ l, keyOf P K e.key = some l) ∧ es.toList.Pairwise (fun x y => x.key ≠ y.key) ∧
    ∀ x l, keyOf P K x = some l → ((∀ e ∈ es.toList, e.key ≠ x) ∧ f x = none) ∨ ∃ e ∈ es.toList, e.key = x ∧ f x = some e.val

section
variable {P : Program} {K : TypeId} {w : World} {b : Nat} {f : Value → Option Value}
theorem MapIs.lt (h : MapIs P K w b f) : b < w.heap.size := by obtain ⟨es, c, hb, _⟩ := h; exact lt_of_heap hb
theorem MapIs.loc {w' : World} (h : MapIs P K w b f) (hk : w'.heap[b]? = w.heap[b]?) : MapIs P K w' b f := by
  obtain ⟨es, c, hb, r⟩ := h
  exact ⟨es, c, hk.trans hb, r⟩
theorem mapIs_made (w : World) : MapIs P K (w.alloc (.map #[] 0)) w.heap.size (fun _ => none) :=
  ⟨#[], 0, heap_alloc_new w _, by simp, by simp, fun x l _ => .inl ⟨by simp, rfl⟩⟩
theorem kept_setBlock {es : Array MapEntry} {c : Nat} (hb : w.heap[b]? = some (.map es c)) (o : Obj) : Kept (fun k => k = b) w (setBlock w b o) :=
  ⟨rfl, rfl, rfl, by simp [setBlock], fun k _ hk => heap_setBlock_other hb o hk⟩
theorem MapIs.look {t e : TypeId} (h : MapIs P K w b f) (Kd : Keyed P K) (ht : P.underlying t = some (.map K e)) {z : Value} (hz : (zeroValue e).run P w = .ok z w) {key : Value} (hk : ∃ l, keyOf P K key = some l) :
    (Instr.lookup t (.map (some b)) key true).run P w = .ok (.tuple #[(f key).getD z, .bool (f key).isSome]) w := by
  obtain ⟨es, c, hb, hr, hn, hf⟩ := h
  obtain ⟨l, hk⟩ := hk
  rcases Kd.find w hk es.toList hr with ⟨h1, h2⟩ | ⟨j, e0, h1, h2, h3⟩
  · rcases hf key l hk with ⟨_, h4⟩ | ⟨e1, m1, k1, _⟩
    · simp [Instr.lookup, run_underlying ht, MapKept.run_getObj_map hb, Kd.check w _ hk, h1, hz, Result.andThen, h4]
    · exact absurd k1 (h2 e1 m1)
  · rcases hf key l hk with ⟨h4, _⟩ | ⟨e1, m1, k1, h5⟩
    · exact absurd h3 (h4 e0 (List.mem_of_getElem? h2))
    · have : e1 = e0 := by
        obtain ⟨i, hi, ei⟩ := List.getElem_of_mem m1
        obtain ⟨hj, ej⟩ := List.getElem?_eq_some_iff.1 h2
        rcases Nat.lt_trichotomy i j with hlt | heq | hgt
        · exact absurd (by rw [ei, ej, k1, h3]) (List.pairwise_iff_getElem.1 hn i j hi hj hlt)
        · subst heq; rw [← ei, ej]
        · exact absurd (by rw [ei, ej, k1, h3]) (List.pairwise_iff_getElem.1 hn j i hj hi hgt)
      subst this
      simp [Instr.lookup, run_underlying ht, MapKept.run_getObj_map hb, Kd.check w _ hk, h1, Result.andThen, h5]

theorem MapIs.store {t e : TypeId} (h : MapIs P K w b f) (Kd : Keyed P K) (ht : P.underlying t = some (.map K e)) {key : Value} (hk : ∃ l, keyOf P K key = some l) (val : Value) :
    ∃ w', (Instr.mapUpdate t (.map (some b)) key val).run P w = .ok () w' ∧ Kept (fun k => k = b) w w' ∧ w'.heap.size = w.heap.size ∧ ∀ f' : Value → Option Value, f' key = some val → (∀ x, x ≠ key → f' x = f x) → MapIs P K w' b f' := by
  obtain ⟨es, c, hb, hr, hn, hf⟩ := h
  obtain ⟨l, hk⟩ := hk
  rcases Kd.find w hk es.toList hr with ⟨h1, h2⟩ | ⟨j, e0, h1, h2, h3⟩
  · refine ⟨setBlock w b (.map (es.push ⟨key, val, c⟩) (c + 1)), ?_, kept_setBlock hb _, by simp [setBlock], fun f' g1 g2 => ⟨_, _, heap_setBlock_same hb _, ?_, ?_, ?_⟩⟩
    · simp [Instr.mapUpdate, run_underlying ht, MapKept.run_getObj_map hb, Kd.check w false hk, h1, MapKept.run_setObj_map _ hb, Result.andThen, setBlock]
    · intro x hx
      simp only [Array.toList_push, List.mem_append, List.mem_singleton] at hx
      rcases hx with hx | rfl
      · exact hr x hx
      · exact ⟨l, hk⟩
    · rw [Array.toList_push, List.pairwise_append]
      refine ⟨hn, by simp, fun x hx y hy => ?_⟩
      rw [List.mem_singleton.1 hy]
      exact h2 x hx
    · intro x lx hx
      by_cases e1 : x = key
      · subst e1
        exact .inr ⟨⟨x, val, c⟩, by simp, rfl, g1⟩
      · rcases hf x lx hx with ⟨a1, a2⟩ | ⟨e2, m2, k2, a2⟩
        · refine .inl ⟨fun y hy => ?_, (g2 x e1).trans a2⟩
          simp only [Array.toList_push, List.mem_append, List.mem_singleton] at hy
          rcases hy with hy | rfl
          · exact a1 y hy
          · exact fun h => e1 h.symm
        · exact .inr ⟨e2, by simp only [Array.toList_push, List.mem_append]; exact .inl m2, k2, (g2 x e1).trans a2⟩
  · have hj : es[j]? = some e0 := by simpa using h2
    obtain ⟨hjl, ej⟩ := List.getElem?_eq_some_iff.1 h2
    have hlist : (es.modify j (fun e' => { e' with key := key, val := val })).toList = es.toList.set j { e0 with key := key, val := val } := by rw [Array.toList_modify, ChangeMaps.modify_eq_set _ _ _ _ h2]
    have other : ∀ i (hi : i < es.toList.length), i ≠ j → es.toList[i].key ≠ key := by
      intro i hi hne
      rw [← h3, ← ej]
      rcases Nat.lt_or_gt_of_ne hne with hlt | hgt
      · exact List.pairwise_iff_getElem.1 hn i j hi hjl hlt
      · exact fun e => List.pairwise_iff_getElem.1 hn j i hjl hi hgt e.symm
    refine ⟨setBlock w b (.map (es.modify j (fun e' => { e' with key := key, val := val })) c), ?_, kept_setBlock hb _, by simp [setBlock], fun f' g1 g2 => ⟨_, _, heap_setBlock_same hb _, ?_, ?_, ?_⟩⟩
    · simp [Instr.mapUpdate, run_underlying ht, MapKept.run_getObj_map hb, Kd.check w false hk, h1, hj, h3, Kd.stays w hk, MapKept.run_setObj_map _ hb, Result.andThen, setBlock]
    · intro x hx
      rw [hlist] at hx
      rcases List.mem_or_eq_of_mem_set hx with hx | rfl
      · exact hr x hx
      · exact ⟨l, hk⟩
    · rw [hlist, List.pairwise_iff_getElem]
      intro i i' hi hi' hlt
      simp only [List.length_set] at hi hi'
      rw [List.getElem_set, List.getElem_set]
      split
      · split
        · omega
        · exact fun e => other i' hi' (by omega) e.symm
      · split
        · exact other i hi (by omega)
        · exact List.pairwise_iff_getElem.1 hn i i' hi hi' hlt
    · intro x lx hx
      rw [hlist]
      by_cases e1 : x = key
      · subst e1
        exact .inr ⟨{ e0 with key := x, val := val }, List.mem_iff_getElem.2 ⟨j, by simpa using hjl, by simp⟩, rfl, g1⟩
      · rcases hf x lx hx with ⟨a1, a2⟩ | ⟨e2, m2, k2, a2⟩
        · refine .inl ⟨fun y hy => ?_, (g2 x e1).trans a2⟩
          rcases List.mem_or_eq_of_mem_set hy with hy | rfl
          · exact a1 y hy
          · exact fun h => e1 h.symm
        · refine .inr ⟨e2, ?_, k2, (g2 x e1).trans a2⟩
          obtain ⟨i, hi, ei⟩ := List.getElem_of_mem m2
          refine List.mem_iff_getElem.2 ⟨i, by simpa using hi, ?_⟩
          rw [List.getElem_set_ne, ei]
          intro e3
          subst e3
          exact e1 (by rw [← k2, ← ei, ej, h3])

theorem MapIs.drop {t e : TypeId} (h : MapIs P K w b f) (Kd : Keyed P K) (ht : P.underlying t = some (.map K e)) {key : Value} (hk : ∃ l, keyOf P K key = some l) :
    ∃ w', (∀ ty, (Builtin.delete_ #[t, K] ty #[.map (some b), key]).run P w = .ok (.tuple #[]) w') ∧ Kept (fun k => k = b) w w' ∧ w'.heap.size = w.heap.size ∧ ∀ f' : Value → Option Value, f' key = none → (∀ x, x ≠ key → f' x = f x) → MapIs P K w' b f' := by
  obtain ⟨es, c, hb, hr, hn, hf⟩ := h
  obtain ⟨l, hk⟩ := hk
  rcases Kd.find w hk es.toList hr with ⟨h1, h2⟩ | ⟨j, e0, h1, h2, h3⟩
  · refine ⟨setBlock w b (.map es c), fun ty => ?_, kept_setBlock hb _, by simp [setBlock], fun f' g1 g2 => ⟨es, c, heap_setBlock_same hb _, hr, hn, ?_⟩⟩
    · simp [Builtin.delete_, run_underlying ht, MapKept.run_getObj_map hb, Kd.check w _ hk, h1, MapKept.run_setObj_map _ hb, Result.andThen, setBlock]
    · intro x lx hx
      by_cases e1 : x = key
      · subst e1
        exact .inl ⟨h2, g1⟩
      · rw [g2 x e1]
        exact hf x lx hx
  · obtain ⟨hjl, ej⟩ := List.getElem?_eq_some_iff.1 h2
    have hjs : j < es.size := by simpa using hjl
    have hsub : (es.eraseIdxIfInBounds j).toList = es.toList.eraseIdx j := by
      unfold Array.eraseIdxIfInBounds
      rw [dif_pos hjs]
      simp
    refine ⟨setBlock w b (.map (es.eraseIdxIfInBounds j) c), fun ty => ?_, kept_setBlock hb _, by simp [setBlock], fun f' g1 g2 => ⟨_, _, heap_setBlock_same hb _, ?_, ?_, ?_⟩⟩
    · simp [Builtin.delete_, run_underlying ht, MapKept.run_getObj_map hb, Kd.check w _ hk, h1, MapKept.run_setObj_map _ hb, Result.andThen, setBlock]
    · intro x hx
      rw [hsub] at hx
      exact hr x ((List.eraseIdx_sublist _ _).subset hx)
    · rw [hsub]
      exact hn.sublist (List.eraseIdx_sublist _ _)
    · intro x lx hx
      rw [hsub]
      by_cases e1 : x = key
      · subst e1
        refine .inl ⟨fun y hy => ?_, g1⟩
        obtain ⟨i, hne, hi⟩ := List.mem_eraseIdx_iff_getElem?.1 hy
        obtain ⟨hil, ei⟩ := List.getElem?_eq_some_iff.1 hi
        rw [← ei, ← h3, ← ej]
        rcases Nat.lt_or_gt_of_ne hne with hlt | hgt
        · exact List.pairwise_iff_getElem.1 hn i j hil hjl hlt
        · exact fun e => List.pairwise_iff_getElem.1 hn j i hjl hil hgt e.symm
      · rcases hf x lx hx with ⟨a1, a2⟩ | ⟨e2, m2, k2, a2⟩
        · exact .inl ⟨fun y hy => a1 y ((List.eraseIdx_sublist _ _).subset hy), (g2 x e1).trans a2⟩
        · refine .inr ⟨e2, ?_, k2, (g2 x e1).trans a2⟩
          obtain ⟨i, hi, ei⟩ := List.getElem_of_mem m2
          refine List.mem_eraseIdx_iff_getElem?.2 ⟨i, ?_, by rw [List.getElem?_eq_getElem hi, ei]⟩
          intro e3
          subst e3
          exact e1 (by rw [← k2, ← ei, ej, h3])

theorem MapIs.wipe {t e : TypeId} (h : MapIs P K w b f) (ht : P.underlying t = some (.map K e)) :
    ∃ w', (∀ ty, (Builtin.clear_ #[t] ty #[.map (some b)]).run P w = .ok (.tuple #[]) w') ∧ Kept (fun k => k = b) w w' ∧ w'.heap.size = w.heap.size ∧ MapIs P K w' b (fun _ => none) := by
  obtain ⟨es, c, hb, hr, hn, hf⟩ := h
  refine ⟨setBlock w b (.map #[] c), fun ty => ?_, kept_setBlock hb _, by simp [setBlock], ⟨#[], c, heap_setBlock_same hb _, by simp, by simp, fun x l _ => .inl ⟨by simp, rfl⟩⟩⟩
  simp [Builtin.clear_, run_underlying ht, MapKept.run_getObj_map hb, MapKept.run_setObj_map _ hb, Result.andThen, setBlock]
end
end Go.Proofs.YthbcbjkgjgmegaaGreat

namespace Go.Proofs.YthbcbjkgjgmegaaGreat
open Go.RowKit Go.MapKept
open Go.Maps (Keyed)
set_option linter.unusedVariables false
set_option linter.unusedSimpArgs false

/-- The cells of a pair. -/
def pcells (x : Value × Value) : List Value := x.1.cells.toList ++ [x.2]
def flat (ps : List (Value × Value)) : List Value := ps.flatMap pcells
/-- Every pair takes z cells. -/
def Fine (z : Nat) (x : Value × Value) : Prop := (pcells x).length = z ∧ ∀ u ∈ pcells x, u.oneCell' = true
def Wide (z : Nat) (ps : List (Value × Value)) : Prop := ∀ x ∈ ps, Fine z x
theorem flat_cons (x : Value × Value) (ps : List (Value × Value)) : flat (x :: ps) = pcells x ++ flat ps := rfl
theorem flat_append (a b : List (Value × Value)) : flat (a ++ b) = flat a ++ flat b := by simp [flat]
theorem flat_length {z : Nat} : ∀ {ps : List (Value × Value)}, Wide z ps → (flat ps).length = ps.length * z
  | [], _ => by simp [flat]
  | x :: r, h => by
    rw [flat_cons, List.length_append, (h x (by simp)).1, flat_length (fun y hy => h y (by simp [hy])), List.length_cons, Nat.add_mul]
    omega
theorem psplit {ps : List (Value × Value)} {i : Nat} {x : Value × Value} (hi : ps[i]? = some x) : ∃ a b, ps = a ++ x :: b ∧ a.length = i := by
  obtain ⟨hlt, he⟩ := List.getElem?_eq_some_iff.1 hi
  refine ⟨ps.take i, ps.drop (i + 1), ?_, by simp; omega⟩
  rw [← he, List.getElem_cons_drop, List.take_append_drop]
theorem Wide.left {z : Nat} {a b : List (Value × Value)} (h : Wide z (a ++ b)) : Wide z a := fun x hx => h x (by simp [hx])
theorem Wide.right {z : Nat} {a b : List (Value × Value)} (h : Wide z (a ++ b)) : Wide z b := fun x hx => h x (by simp [hx])
theorem flat_at {z : Nat} {ps : List (Value × Value)} (h : Wide z ps) {i : Nat} {x : Value × Value} (hi : ps[i]? = some x) {j : Nat} (hj : j < z) : (flat ps)[i * z + j]? = (pcells x)[j]? := by
  obtain ⟨a, b, rfl, rfl⟩ := psplit hi
  rw [flat_append, flat_cons, ← flat_length h.left, List.getElem?_append_right (by omega)]
  rw [show (flat a).length + j - (flat a).length = j by omega, List.getElem?_append_left]
  rw [(h x (by simp)).1]
  exact hj
theorem flat_set {z : Nat} {ps : List (Value × Value)} (h : Wide z ps) {i : Nat} {x x' : Value × Value} (hi : ps[i]? = some x) {j : Nat} (hj : j < z) {u : Value} (hx : pcells x' = (pcells x).set j u) : flat (ps.set i x') = (flat ps).set (i * z + j) u := by
  obtain ⟨a, b, rfl, rfl⟩ := psplit hi
  rw [List.set_append_right _ _ (Nat.le_refl _), Nat.sub_self, List.set_cons_zero, flat_append, flat_append, flat_cons, flat_cons, ← flat_length h.left, List.set_append_right _ _ (by omega)]
  rw [show (flat a).length + j - (flat a).length = j by omega, List.set_append_left _ _ (by rw [(h x (by simp)).1]; exact hj), hx]
theorem flat_erase {z : Nat} {ps : List (Value × Value)} (h : Wide z ps) {i : Nat} {x : Value × Value} (hi : ps[i]? = some x) : flat (ps.eraseIdx i) = (flat ps).take (i * z) ++ (flat ps).drop ((i + 1) * z) := by
  obtain ⟨a, b, rfl, rfl⟩ := psplit hi
  have hx : (pcells x).length = z := (h x (by simp)).1
  have e1 : (a ++ x :: b).eraseIdx a.length = a ++ b := by rw [List.eraseIdx_append_of_length_le (Nat.le_refl _)]; simp
  rw [e1, flat_append, flat_append, flat_cons, ← flat_length h.left, List.take_left' rfl]
  congr 1
  rw [show (a.length + 1) * z = (flat a).length + (pcells x).length by rw [flat_length h.left, hx, Nat.add_mul]; omega, ← List.drop_drop, List.drop_left' rfl, List.drop_left' rfl]
theorem flat_ones {z : Nat} {ps : List (Value × Value)} (h : Wide z ps) : ∀ u ∈ flat ps, u.oneCell' = true := by
  intro u hu
  obtain ⟨x, hx, hux⟩ := List.mem_flatMap.1 hu
  exact (h x hx).2 u hux
theorem Wide.set {z : Nat} {ps : List (Value × Value)} (h : Wide z ps) (i : Nat) {x : Value × Value} (hx : Fine z x) : Wide z (ps.set i x) := by
  intro y hy
  rcases List.mem_or_eq_of_mem_set hy with hy | rfl
  · exact h y hy
  · exact hx
theorem Wide.snoc {z : Nat} {ps : List (Value × Value)} (h : Wide z ps) {x : Value × Value} (hx : Fine z x) : Wide z (ps ++ [x]) := by
  intro y hy
  rcases List.mem_append.1 hy with hy | hy
  · exact h y hy
  · rw [List.mem_singleton.1 hy]; exact hx
theorem Wide.erase {z : Nat} {ps : List (Value × Value)} (h : Wide z ps) (i : Nat) : Wide z (ps.eraseIdx i) := fun y hy => h y ((List.eraseIdx_sublist _ _).subset hy)

/-- Cells of a row are written over, in its midst. -/
theorem own_splice {e : TypeId} {z B g n cap : Nat} : ∀ (vs : List Value) (o : Nat) (w : World) (xs : List Value), w.ownsRow B e z (.slice (some ⟨g, 0, none⟩) n cap) n xs → o + vs.length ≤ n * z → (w.setCells g o vs).ownsRow B e z (.slice (some ⟨g, 0, none⟩) n cap) n (xs.take o ++ vs ++ xs.drop (o + vs.length))
  | [], o, w, xs, h, _ => by simpa [World.setCells] using h
  | v :: r, o, w, xs, h, ho => by
    have hl := h.1
    simp only [List.length_cons] at ho
    have := own_splice r (o + 1) _ _ (h.stored o v).1 (by omega)
    rw [World.setCells]
    have e1 : (xs.set o v).take (o + 1) = xs.take o ++ [v] := by
      rw [List.take_set, List.take_succ_eq_append_getElem (by omega : o < xs.length), List.set_append_right _ _ (by simp; omega)]
      simp [List.length_take, Nat.min_eq_left (show o ≤ xs.length by omega)]
    have e2 : (xs.set o v).drop (o + 1 + r.length) = xs.drop (o + (r.length + 1)) := by
      rw [List.drop_set_of_lt (by omega)]
      congr 1
      omega
    rw [e1, e2] at this
    simpa [List.append_assoc] using this

/-- What the map of places says: where each key stands. -/
structure Idx (OK : Value → Prop) (f : Value → Option Value) (ps : List (Value × Value)) : Prop where
  at_ : ∀ (i : Nat) (x : Value × Value), ps[i]? = some x → f x.1 = some (.int .i64 (i : Int))
  no : ∀ k, OK k → (∀ x ∈ ps, x.1 ≠ k) → f k = none
theorem Idx.inj {OK : Value → Prop} {f : Value → Option Value} {ps : List (Value × Value)} (h : Idx OK f ps) {i j : Nat} {x y : Value × Value} (hi : ps[i]? = some x) (hj : ps[j]? = some y) (e : x.1 = y.1) : i = j := by
  have h1 := h.at_ i x hi
  have h2 := h.at_ j y hj
  rw [e, h2] at h1
  simp at h1
  omega

structure LogAt (P : Program) (t e : TypeId) (z : Nat) (K : TypeId) (OK : Value → Prop) (w : World) (p : Nat) (most : Int) (v : Value) (bm : Nat) (ps : List (Value × Value)) : Prop where
  heap : w.heap[p]? = some (.cells #[.int .i64 most, v, .map (some bm)] t (0, 0))
  own : w.ownsRow 0 e z v ps.length (flat ps)
  map : ∃ f, MapIs P K w bm f ∧ Idx OK f ps
  ne1 : v.ownBlock ≠ some p
  ne2 : v.ownBlock ≠ some bm
  ne3 : p ≠ bm
  keys : ∀ x ∈ ps, OK x.1
  wide : Wide z ps
  fits : (ps.length : Int) ≤ most
  most : most ≤ 4096

/-- Its blocks. -/
def foot (p bm : Nat) (v : Value) : List Nat := p :: bm :: v.ownBlock.toList
/-- The row's block stays, or is a new one. -/
def LFresh (w : World) (v v' : Value) : Prop := ∀ g, v'.ownBlock = some g → v.ownBlock = some g ∨ w.heap.size ≤ g
theorem LFresh.refl (w : World) (v : Value) : LFresh w v v := fun _ h => .inl h

section
variable {P : Program} {t e : TypeId} {z : Nat} {K : TypeId} {OK : Value → Prop} {w w' : World} {p : Nat} {most : Int} {v : Value} {bm : Nat} {ps : List (Value × Value)}
theorem LogAt.loc (h : LogAt P t e z K OK w p most v bm ps) (k : ∀ b, b ∈ foot p bm v → w'.heap[b]? = w.heap[b]?) : LogAt P t e z K OK w' p most v bm ps := by
  obtain ⟨f, hf, hi⟩ := h.map
  exact ⟨(k p (by simp [foot])).trans h.heap, own_loc h.own (fun g hg => k g (by simp [foot, hg])), ⟨f, hf.loc (k bm (by simp [foot])), hi⟩, h.ne1, h.ne2, h.ne3, h.keys, h.wide, h.fits, h.most⟩
theorem LogAt.old (h : LogAt P t e z K OK w p most v bm ps) : ∀ b, b ∈ foot p bm v → b < w.heap.size := by
  intro b hb
  obtain ⟨f, hf, _⟩ := h.map
  simp only [foot, List.mem_cons, Option.mem_toList] at hb
  rcases hb with rfl | rfl | hb
  · exact lt_of_heap h.heap
  · exact hf.lt
  · exact (h.own.lt b hb).2
theorem LogAt.calm (h : LogAt P t e z K OK w p most v bm ps) (k : Kept (fun _ => False) w w') : LogAt P t e z K OK w' p most v bm ps :=
  h.loc (fun b hb => k.block b (h.old b hb) (fun f => f))
theorem LogAt.drew (h : LogAt P t e z K OK w p most v bm ps) : LogAt P t e z K OK w.drew p most v bm ps := h.calm (kept_drew w)
theorem LogAt.nodup (h : LogAt P t e z K OK w p most v bm ps) : (foot p bm v).Nodup := by
  have h1 := h.ne1
  have h2 := h.ne2
  have h3 := h.ne3
  unfold foot
  cases hv : v.ownBlock <;> simp_all
  exact ⟨fun e => h1 e.symm, fun e => h2 e.symm⟩
theorem LogAt.small (h : LogAt P t e z K OK w p most v bm ps) : ps.length ≤ 4096 := by
  have := h.fits
  have := h.most
  omega
theorem LogAt.shape (h : LogAt P t e z K OK w p most v bm ps) : ∃ ga ca, v = .slice ga ps.length ca := by
  rcases own_forms h.own with ⟨rfl, h0, _⟩ | ⟨g, cap, rfl, _⟩
  · exact ⟨none, 0, by rw [h0]⟩
  · exact ⟨_, _, rfl⟩
theorem LogAt.c0 (h : LogAt P t e z K OK w p most v bm ps) : w.cell? ⟨p, 0, none⟩ = some (.int .i64 most) := cell_of_heap h.heap
theorem LogAt.c1 (h : LogAt P t e z K OK w p most v bm ps) : w.cell? ⟨p, 1, none⟩ = some v := cell_of_heap h.heap
theorem LogAt.c2 (h : LogAt P t e z K OK w p most v bm ps) : w.cell? ⟨p, 2, none⟩ = some (.map (some bm)) := cell_of_heap h.heap
theorem LogAt.f1 (h : LogAt P t e z K OK w p most v bm ps) : w.frozen? ⟨p, 1, none⟩ = false := frozen_of_heap h.heap
/-- The row, where something stands in it. -/
theorem LogAt.row (h : LogAt P t e z K OK w p most v bm ps) {i : Nat} {x : Value × Value} (hi : ps[i]? = some x) : ∃ g cap, v = .slice (some ⟨g, 0, none⟩) ps.length cap ∧ g < w.heap.size ∧ ps.length ≤ cap ∧ i < ps.length := by
  have hlt := (List.getElem?_eq_some_iff.1 hi).1
  rcases own_forms h.own with ⟨_, h0, _⟩ | ⟨g, cap, rfl, _, hg, hc⟩
  · omega
  · exact ⟨g, cap, rfl, hg, hc, hlt⟩
theorem LogAt.cellAt {g cap : Nat} (h : LogAt P t e z K OK w p most (.slice (some ⟨g, 0, none⟩) ps.length cap) bm ps) {i : Nat} {x : Value × Value} (hi : ps[i]? = some x) {j : Nat} (hj : j < z) : w.cell? ⟨g, i * z + j, none⟩ = (pcells x)[j]? := by
  have hlt := (List.getElem?_eq_some_iff.1 hi).1
  have : i * z + j < ps.length * z := by
    have : (i + 1) * z ≤ ps.length * z := Nat.mul_le_mul_right _ hlt
    rw [Nat.add_mul] at this
    omega
  rw [h.own.cellAt _ this, flat_at h.wide hi hj]
/-- The key is there, or it is not. -/
theorem there_or (ps : List (Value × Value)) (k : Value) : (∃ (i : Nat) (u : Value), ps[i]? = some (k, u)) ∨ ∀ x ∈ ps, x.1 ≠ k := by
  by_cases h : ∃ x ∈ ps, x.1 = k
  · obtain ⟨x, hx, rfl⟩ := h
    obtain ⟨i, hi, e⟩ := List.getElem_of_mem hx
    exact .inl ⟨i, x.2, by rw [List.getElem?_eq_getElem hi, e]⟩
  · exact .inr (fun x hx e => h ⟨x, hx, e⟩)
/-- What a look at the map of places says. -/
theorem LogAt.look_at (h : LogAt P t e z K OK w p most v bm ps) (Kd : Keyed P K) (hOK : ∀ k, OK k → ∃ l, keyOf P K k = some l) {T E : TypeId} (ht : P.underlying T = some (.map K E)) (hz : ∀ w, (zeroValue E).run P w = .ok (.int .i64 0) w) {i : Nat} {k u : Value} (hi : ps[i]? = some (k, u)) :
    (Instr.lookup T (.map (some bm)) k true).run P w = .ok (.tuple #[.int .i64 i, .bool true]) w := by
  obtain ⟨f, hf, hx⟩ := h.map
  rw [hf.look Kd ht (hz w) (hOK k (h.keys (k, u) (List.mem_of_getElem? hi))), hx.at_ i (k, u) hi]
  rfl
theorem LogAt.look_no (h : LogAt P t e z K OK w p most v bm ps) (Kd : Keyed P K) (hOK : ∀ k, OK k → ∃ l, keyOf P K k = some l) {T E : TypeId} (ht : P.underlying T = some (.map K E)) (hz : ∀ w, (zeroValue E).run P w = .ok (.int .i64 0) w) {k : Value} (hk : OK k) (hn : ∀ x ∈ ps, x.1 ≠ k) :
    (Instr.lookup T (.map (some bm)) k true).run P w = .ok (.tuple #[.int .i64 0, .bool false]) w := by
  obtain ⟨f, hf, hx⟩ := h.map
  rw [hf.look Kd ht (hz w) (hOK k hk), hx.no k hk hn]
  rfl
end

/-- A log was turned: its new row and pairs, the rest as before. -/
def Turned (P : Program) (t e : TypeId) (z : Nat) (K : TypeId) (OK : Value → Prop) (w w' : World) (p : Nat) (most : Int) (v : Value) (bm : Nat) (ps : List (Value × Value)) : Prop :=
  ∃ v', LogAt P t e z K OK w' p most v' bm ps ∧ Kept (fun b => b ∈ foot p bm v) w w' ∧ LFresh w v v'

theorem Turned.after {P : Program} {t e : TypeId} {z : Nat} {K : TypeId} {OK : Value → Prop} {w w1 w' : World} {p : Nat} {most : Int} {v : Value} {bm : Nat} {ps : List (Value × Value)} (k : Kept (fun _ => False) w w1) (h : Turned P t e z K OK w1 w' p most v bm ps) : Turned P t e z K OK w w' p most v bm ps := by
  obtain ⟨v', a1, a2, a3⟩ := h
  exact ⟨v', a1, k.calm.trans a2 (fun _ _ f => f), fun b hb => (a3 b hb).imp_right (fun f => Nat.le_trans k.size f)⟩

/-- A log as a thing. -/
def logI (P : Program) (t e : TypeId) (z : Nat) (K : TypeId) (OK : Value → Prop) (p : Nat) (most : Int) (v : Value) (bm : Nat) (ps : List (Value × Value)) : It :=
  ⟨foot p bm v, fun w => LogAt P t e z K OK w p most v bm ps, fun w w' k h => h.loc k, fun w h => h.old⟩

section
variable {P : Program} {t e : TypeId} {z : Nat} {K : TypeId} {OK : Value → Prop} {w w' o : World} {its : List It} {p : Nat} {most : Int} {v : Value} {bm : Nat} {ps ps' : List (Value × Value)}
theorem St.turn (h : St o its w) (i : Nat) (hi : its[i]? = some (logI P t e z K OK p most v bm ps)) (k : Turned P t e z K OK w w' p most v bm ps') : ∃ v', St o (its.set i (logI P t e z K OK p most v' bm ps')) w' := by
  obtain ⟨v', h1, h2, h3⟩ := k
  refine ⟨v', h.set i hi h2 h1 h1.nodup (fun b hb => ?_)⟩
  simp only [logI, foot, List.mem_cons, Option.mem_toList] at hb ⊢
  rcases hb with rfl | rfl | hb
  · exact .inl (.inl rfl)
  · exact .inl (.inr (.inl rfl))
  · rcases h3 b hb with h | h
    · exact .inl (.inr (.inr h))
    · exact .inr h
/-- A new log. -/
theorem made (w : World) (h0 : 0 ≤ most) (hm : most ≤ 4096) : LogAt P t e z K OK ((w.alloc (.map #[] 0)).alloc (.cells #[.int .i64 most, .slice none 0 0, .map (some w.heap.size)] t)) (w.heap.size + 1) most (.slice none 0 0) w.heap.size [] :=
  ⟨by have := heap_alloc_new (w.alloc (.map #[] 0)) (.cells #[.int .i64 most, .slice none 0 0, .map (some w.heap.size)] t); simpa using this, World.ownsRow_nil _ _ _ _,
   ⟨fun _ => none, (mapIs_made w).loc (Below.heap_alloc _ _ _ (by simp)), ⟨fun i x h => by simp at h, fun _ _ _ => rfl⟩⟩, by simp [Value.ownBlock], by simp [Value.ownBlock], by omega, by simp, by intro x hx; simp at hx, by simpa using h0, hm⟩

/-- A value is laid over another, in place. -/
theorem LogAt.set {g cap : Nat} (h : LogAt P t e z K OK w p most (.slice (some ⟨g, 0, none⟩) ps.length cap) bm ps) {i : Nat} {k u : Value} (hi : ps[i]? = some (k, u)) (x : Value) (hx1 : x.oneCell' = true) (j : Nat) (hj : j + 1 = z) :
    Turned P t e z K OK w (w.setCell ⟨g, i * z + j, none⟩ x) p most (.slice (some ⟨g, 0, none⟩) ps.length cap) bm (ps.set i (k, x)) := by
  have hlt := (List.getElem?_eq_some_iff.1 hi).1
  have hw : (pcells (k, u)).length = z := (h.wide _ (List.mem_of_getElem? hi)).1
  have hk : k.cells.size = j := by simp [pcells] at hw; omega
  have hset : pcells (k, x) = (pcells (k, u)).set j x := by
    rw [pcells, pcells, List.set_append_right _ _ (by simp [hk]), show j - k.cells.toList.length = 0 by simp [hk]]
    rfl
  have hb : i * z + j < ps.length * z := by
    have : (i + 1) * z ≤ ps.length * z := Nat.mul_le_mul_right _ hlt
    rw [Nat.add_mul] at this
    omega
  have n1 : p ≠ g := fun e => h.ne1 (by simp [Value.ownBlock, e])
  have n2 : bm ≠ g := fun e => h.ne2 (by simp [Value.ownBlock, e])
  obtain ⟨f, hf, hx⟩ := h.map
  refine ⟨_, ⟨by rw [heap_setCell_far (by simpa using n1)]; exact h.heap, ?_, ⟨f, hf.loc (heap_setCell_far (by simpa using n2)), ?_⟩, h.ne1, h.ne2, h.ne3, ?_, h.wide.set i ⟨by rw [hset, List.length_set]; exact hw, fun y hy => by
    rw [hset] at hy
    rcases List.mem_or_eq_of_mem_set hy with hy | rfl
    · exact (h.wide _ (List.mem_of_getElem? hi)).2 y hy
    · exact hx1⟩, by simpa using h.fits, h.most⟩, (Kept.refl _ w).setCell x (.inl (by simp [foot, Value.ownBlock])), LFresh.refl _ _⟩
  · rw [flat_set h.wide hi (by omega) hset, List.length_set]
    exact (h.own.stored _ _).1
  · refine ⟨fun a y hy => ?_, fun k' hk' hn => hx.no k' hk' (fun y hy e => ?_)⟩
    · rw [List.getElem?_set] at hy
      split at hy
      · rename_i e1
        subst e1
        simp at hy
        obtain ⟨_, rfl⟩ := hy
        exact hx.at_ i (k, u) hi
      · exact hx.at_ a y hy
    · obtain ⟨a, ha, ea⟩ := List.getElem_of_mem hy
      by_cases e1 : a = i
      · subst e1
        have : y = (k, u) := by rw [← ea]; exact (List.getElem?_eq_some_iff.1 hi).2
        subst this
        exact hn (k, x) (List.mem_iff_getElem.2 ⟨a, by simpa using ha, by simp⟩) e
      · exact hn y (List.mem_iff_getElem.2 ⟨a, by simpa using ha, by rw [List.getElem_set_ne (fun e => e1 e.symm), ea]⟩) e
  · intro y hy
    rcases List.mem_or_eq_of_mem_set hy with hy | rfl
    · exact h.keys y hy
    · exact h.keys (k, u) (List.mem_of_getElem? hi)

/-- A pair is laid behind the others: first into the map, then to the row. -/
theorem LogAt.snoc (h : LogAt P t e z K OK w p most v bm ps) {k x : Value} (hk : OK k) (hn : ∀ y ∈ ps, y.1 ≠ k) (hw : Fine z (k, x)) (hr : (ps.length : Int) < most)
    {f : Value → Option Value} (hf : MapIs P K w bm f) (hx : Idx OK f ps) {w1 w2 w3 : World} (k1 : Kept (fun b => b = bm) w w1) (hm : ∀ f' : Value → Option Value, f' k = some (.int .i64 ps.length) → (∀ y, y ≠ k → f' y = f y) → MapIs P K w1 bm f')
    (k2 : Kept (fun _ => False) w1 w2) {g cap : Nat} (hg : w2.grownBy w3 v.ownBlock) (ho : w3.ownsRow 0 e z (.slice (some ⟨g, 0, none⟩) (ps.length + 1) cap) (ps.length + 1) (flat ps ++ pcells (k, x))) (ha : v.ownBlock = some g ∨ w.heap.size ≤ g) :
    Turned P t e z K OK w (w3.setCell ⟨p, 1, none⟩ (.slice (some ⟨g, 0, none⟩) (ps.length + 1) cap)) p most v bm (ps ++ [(k, x)]) := by
  have hp := lt_of_heap h.heap
  have hb := hf.lt
  have K2 : Kept (fun b => b = bm) w w2 := k1.trans k2 (fun _ _ f => f.elim)
  have hkp : Kept (fun b => b ∈ foot p bm v) w w3 := (K2.mono (fun i _ hi => by simp [foot, hi])).grown hg (fun i hi => .inl (by simp [foot, hi]))
  have n1 : g ≠ p := by
    rcases ha with ha | ha
    · exact fun e => h.ne1 (e ▸ ha)
    · omega
  have n2 : g ≠ bm := by
    rcases ha with ha | ha
    · exact fun e => h.ne2 (e ▸ ha)
    · omega
  have h3 : w3.heap[p]? = some (.cells #[.int .i64 most, v, .map (some bm)] t (0, 0)) := by
    rw [hg.block p (Nat.lt_of_lt_of_le hp K2.size) (fun e => h.ne1 e.symm), K2.block p hp h.ne3]
    exact h.heap
  refine ⟨.slice (some ⟨g, 0, none⟩) (ps.length + 1) cap, ⟨by rw [heap_setCell_at h3]; rfl, ?_, ?_, by simpa [Value.ownBlock] using n1, by simpa [Value.ownBlock] using n2, h.ne3, ?_, h.wide.snoc hw, by simp; omega, h.most⟩, hkp.setCell _ (.inl (by simp [foot])), ?_⟩
  · have := ownsRow_setCell_far ho (a := ⟨p, 1, none⟩) (by simpa [Value.ownBlock] using n1) (.slice (some ⟨g, 0, none⟩) (ps.length + 1) cap)
    rw [flat_append, show flat [(k, x)] = pcells (k, x) by simp [flat], List.length_append]
    exact this
  · classical
    let f' : Value → Option Value := fun y => if y = k then some (.int .i64 ps.length) else f y
    have hM := hm f' (by simp [f']) (fun y hy => by simp [f', hy])
    refine ⟨f', hM.loc ?_, ⟨?_, ?_⟩⟩
    · rw [heap_setCell_far (by simpa using h.ne3.symm), hg.block bm (Nat.lt_of_lt_of_le hb K2.size) (fun e => h.ne2 e.symm), k2.block bm (Nat.lt_of_lt_of_le hb k1.size) (fun f => f)]
    · intro i y hy
      rcases Nat.lt_or_ge i ps.length with hlt | hge
      · rw [List.getElem?_append_left hlt] at hy
        have : y.1 ≠ k := hn y (List.mem_of_getElem? hy)
        simp only [f', if_neg this]
        exact hx.at_ i y hy
      · rw [List.getElem?_append_right hge] at hy
        obtain ⟨h0, e0⟩ := List.getElem?_eq_some_iff.1 hy
        simp at h0
        have : i = ps.length := by omega
        subst this
        simp at e0
        subst e0
        simp [f']
    · intro y hy hny
      have e1 : y ≠ k := fun e => hny (k, x) (by simp) e.symm
      simp only [f', if_neg e1]
      exact hx.no y hy (fun a ha => hny a (by simp [ha]))
  · intro y hy
    rcases List.mem_append.1 hy with hy | hy
    · exact h.keys y hy
    · rw [List.mem_singleton.1 hy]; exact hk
  · intro b hb'
    simp [Value.ownBlock] at hb'
    subst hb'
    exact ha
end
end Go.Proofs.YthbcbjkgjgmegaaGreat

namespace Go.Proofs.YthbcbjkgjgmegaaGreat
open Go.RowKit
open Go.Maps (Keyed)
set_option linter.unusedVariables false
set_option linter.unusedSimpArgs false
attribute [local go_sem ↓] Go.wp_at_zero Go.wp_at_succ

/-- Keys that are numbers. -/
def OKi (v : Value) : Prop := ∃ k : Int, v = .int .i64 k ∧ (Lit.int .i64 k).wf = true
theorem lawI : Keyed Tryz.prog 3 := Go.Maps.int_keyed Tryz.underlying3
theorem okI : ∀ k, OKi k → ∃ l, keyOf Tryz.prog 3 k = some l := by
  rintro k ⟨a, rfl, h⟩
  exact ⟨_, Go.Maps.keyOf_int_mk Tryz.underlying3 h⟩
theorem zero3 (w : World) : (zeroValue 3).run Tryz.prog w = .ok (.int .i64 0) w := by kernel_rfl

theorem catchI_idle (p : Addr) (w : World) :
    CallsD Tryz.prog 277 #[.pointer (some p)] .returning w fun e u' w' => e = .returned (.tuple #[]) ∧ u' = .returning ∧ w' = w := by
  refine callsD_of_wpS Tryz.func277 rfl fun c₀ cs hu => ?_
  apply wpS_seq
  apply wpS_region
  simp [wpOpsS, go_sem, recoverD, hu, Tryz.ntmps277, Exit.thenS]
  refine wpS_cond (t := false) (by simp [Act.eval, Array.replicate]) ?_
  simp only [Bool.false_eq_true, if_false]
  refine wpS_of_wp (wp_skip ?_)
  cases c₀
  simp_all [bodyPostS, results, Tryz.results277]
set_option maxRecDepth 100000 in
theorem sameI_any (k : Int) (w : World) :
    Calls Tryz.prog 250 #[.int .i64 k] w fun e w' => e = .returned (.bool true) ∧ Kept (fun _ => False) w w' := by
  have hmf : ∀ (fn : Fn) (first cap : Array Value) (w : World), (Instr.makeFunc fn first cap).run Tryz.prog w = .ok (.func fn first cap) w := fun _ _ _ _ => rfl
  go_enter_defers Tryz.func250, Tryz.ntmps250
  go_wp2
  refine leaves_cons (f := 277) (args := #[.pointer (some ⟨w.heap.size, 0, none⟩)]) (by simp) (by simp [go_sem]) ?_
  refine (catchI_idle ⟨w.heap.size, 0, none⟩ _).mono ?_
  rintro e q' w'' ⟨rfl, rfl, rfl⟩
  simp [Leaves, settle, results, Tryz.results250, go_sem]
  exact ((Kept.refl _ w).alloc _)

end Go.Proofs.YthbcbjkgjgmegaaGreat

namespace Go.Proofs.YthbcbjkgjgmegaaGreat
open Go.RowKit
open Go.Maps (Keyed)
set_option linter.unusedVariables false
set_option linter.unusedSimpArgs false

/-- The log in memory. -/
abbrev LogA (w : World) (p : Nat) (most : Int) (v : Value) (bm : Nat) (ps : List (Value × Value)) : Prop := LogAt Tryz.prog 261 289 2 3 OKi w p most v bm ps
abbrev TurnedA (w w' : World) (p : Nat) (most : Int) (v : Value) (bm : Nat) (ps : List (Value × Value)) : Prop := Turned Tryz.prog 261 289 2 3 OKi w w' p most v bm ps

set_option maxRecDepth 100000 in
theorem newA_no (most : Int) (w : World) (h : ¬ (1 ≤ most ∧ most ≤ 4096)) :
    Calls Tryz.prog 86 #[.int .i64 most] w fun e w' => e = .returned (.tuple #[.pointer none, .int .i64 1]) ∧ w' = w := by
  by_cases h1 : most < 1
  · go_enter Tryz.func86, Tryz.ntmps86
    go_wp2
    go_ret2
    exact ⟨rfl, rfl⟩
  · have h2 : ¬ most ≤ 4096 := by omega
    go_enter Tryz.func86, Tryz.ntmps86
    go_wp2
    go_ret2
    exact ⟨rfl, rfl⟩
set_option maxRecDepth 100000 in
theorem newA_yes (most : Int) (w : World) (h1 : 1 ≤ most) (h2 : most ≤ 4096) :
    Calls Tryz.prog 86 #[.int .i64 most] w fun e w' => e = .returned (.tuple #[.pointer (some ⟨w.heap.size + 1, 0, none⟩), .int .i64 0]) ∧ LogA w' (w.heap.size + 1) most (.slice none 0 0) w.heap.size [] ∧ Kept (fun _ => False) w w' := by
  have hm := made (P := Tryz.prog) (t := 261) (e := 289) (z := 2) (K := 3) (OK := OKi) w (most := most) (by omega) h2
  have hk := ((Kept.refl (fun _ => False) w).alloc (.map #[] 0)).alloc (.cells #[.int .i64 most, .slice none 0 0, .map (some w.heap.size)] 261)
  have hmm := @run_makeMap Tryz.prog
  go_enter Tryz.func86, Tryz.ntmps86
  go_wp2
  go_ret2
  exact ⟨rfl, hm, hk⟩

section
variable {w : World} {p : Nat} {most : Int} {v : Value} {bm : Nat} {ps : List (Value × Value)}
set_option maxRecDepth 100000 in
theorem lenA_any (h : LogA w p most v bm ps) :
    Calls Tryz.prog 134 #[.pointer (some ⟨p, 0, none⟩)] w fun e w' => e = .returned (.int .i64 ps.length) ∧ w' = w := by
  obtain ⟨ga, ca, rfl⟩ := h.shape
  have c1 := h.c1
  clear h
  go_enter Tryz.func134, Tryz.ntmps134
  go_wp2
  go_ret
  exact ⟨rfl, rfl⟩
set_option maxRecDepth 100000 in
theorem findA_at (h : LogA w p most v bm ps) {i : Nat} {k : Int} {u : Value} (hi : ps[i]? = some (.int .i64 k, u)) :
    Calls Tryz.prog 246 #[.pointer (some ⟨p, 0, none⟩), .int .i64 k] w fun e w' => e = .returned (.tuple #[.int .i64 i, .bool true]) ∧ Kept (fun _ => False) w w' := by
  go_enter Tryz.func246, Tryz.ntmps246
  go_wp2_with fail
  refine (sameI_any k w).mono ?_
  rintro e w1 ⟨rfl, k1⟩
  have h1 := h.calm k1
  have c2 := h1.c2
  have hl := h1.look_at lawI okI Tryz.underlying258 zero3 hi
  clear h h1
  go_wp2
  go_ret2
  exact ⟨rfl, k1⟩
set_option maxRecDepth 100000 in
theorem findA_no (h : LogA w p most v bm ps) {k : Int} (hk : (Lit.int .i64 k).wf = true) (hn : ∀ x ∈ ps, x.1 ≠ .int .i64 k) :
    Calls Tryz.prog 246 #[.pointer (some ⟨p, 0, none⟩), .int .i64 k] w fun e w' => e = .returned (.tuple #[.int .i64 0, .bool false]) ∧ Kept (fun _ => False) w w' := by
  go_enter Tryz.func246, Tryz.ntmps246
  go_wp2_with fail
  refine (sameI_any k w).mono ?_
  rintro e w1 ⟨rfl, k1⟩
  have h1 := h.calm k1
  have c2 := h1.c2
  have hl := h1.look_no lawI okI Tryz.underlying258 zero3 ⟨k, rfl, hk⟩ hn
  clear h h1 hn hk
  go_wp2
  go_ret2
  exact ⟨rfl, k1⟩
set_option maxRecDepth 100000 in
theorem getA_at (h : LogA w p most v bm ps) {i : Nat} {k : Int} {u : Value} (hi : ps[i]? = some (.int .i64 k, u)) :
    Calls Tryz.prog 220 #[.pointer (some ⟨p, 0, none⟩), .int .i64 k] w fun e w' => e = .returned (.tuple #[u, .bool true]) ∧ Kept (fun _ => False) w w' := by
  go_enter Tryz.func220, Tryz.ntmps220
  go_wp2_with fail
  refine (findA_at h hi).mono ?_
  rintro e w1 ⟨rfl, k1⟩
  have h1 := h.calm k1
  obtain ⟨g, cap, rfl, hg, hc, hlt⟩ := h1.row hi
  have c1 := h1.c1
  have c3 : w1.cell? ⟨g, i * 2 + 1, none⟩ = some u := h1.cellAt hi (j := 1) (by omega)
  have b1 : (i : Int) < ps.length := by omega
  clear h h1 hi
  go_wp2
  go_ret2
  exact ⟨rfl, k1⟩
set_option maxRecDepth 100000 in
theorem getA_no (h : LogA w p most v bm ps) {k : Int} (hk : (Lit.int .i64 k).wf = true) (hn : ∀ x ∈ ps, x.1 ≠ .int .i64 k) :
    Calls Tryz.prog 220 #[.pointer (some ⟨p, 0, none⟩), .int .i64 k] w fun e w' => e = .returned (.tuple #[.int .i64 0, .bool false]) ∧ Kept (fun _ => False) w w' := by
  go_enter Tryz.func220, Tryz.ntmps220
  go_wp2_with fail
  refine (findA_no h hk hn).mono ?_
  rintro e w1 ⟨rfl, k1⟩
  clear h hn hk
  go_wp2
  go_ret2
  exact ⟨rfl, k1⟩
set_option maxRecDepth 100000 in
set_option maxHeartbeats 1000000 in
theorem atA_no (h : LogA w p most v bm ps) {i : Int} (hi : ¬ (0 ≤ i ∧ i < ps.length)) :
    Calls Tryz.prog 135 #[.pointer (some ⟨p, 0, none⟩), .int .i64 i] w fun e w' => e = .returned (.tuple #[.int .i64 0, .int .i64 0, .int .i64 2]) ∧ Kept (fun _ => False) w w' := by
  have hk : Kept (fun _ => False) w (w.alloc (.cells #[.int .i64 0, .int .i64 0] 289)) := kept_alloc w _
  have hL := lenA_any h
  clear h
  have d0 : (w.alloc (.cells #[.int .i64 0, .int .i64 0] 289)).cell? ⟨w.heap.size, 0, none⟩ = some (.int .i64 0) := cell_of_heap (heap_alloc_new w _)
  have d1 : (w.alloc (.cells #[.int .i64 0, .int .i64 0] 289)).cell? ⟨w.heap.size, 1, none⟩ = some (.int .i64 0) := cell_of_heap (heap_alloc_new w _)
  by_cases h0 : i < 0
  · go_enter Tryz.func135, Tryz.ntmps135
    go_wp2
    go_quiet (fail)
    go_wp2
    exact bodyPost_ret (v := .tuple #[.int .i64 0, .int .i64 0, .int .i64 2]) (by simp [results, Tryz.results135, go_sem]) rfl ⟨rfl, hk.drewN _⟩
  · have h1 : (ps.length : Int) ≤ i := by omega
    clear hi
    go_enter Tryz.func135, Tryz.ntmps135
    go_wp2_with fail
    refine hL.mono ?_
    rintro e w1 ⟨rfl, rfl⟩
    go_wp2
    go_quiet (fail)
    go_wp2
    exact bodyPost_ret (v := .tuple #[.int .i64 0, .int .i64 0, .int .i64 2]) (by simp [results, Tryz.results135, go_sem]) rfl ⟨rfl, hk.drewN _⟩
set_option maxRecDepth 100000 in
set_option maxHeartbeats 1000000 in
theorem atA_ok (h : LogA w p most v bm ps) {i : Nat} {k u : Value} (hi : ps[i]? = some (k, u)) (hk : OKi k) :
    Calls Tryz.prog 135 #[.pointer (some ⟨p, 0, none⟩), .int .i64 i] w fun e w' => e = .returned (.tuple #[k, u, .int .i64 0]) ∧ Kept (fun _ => False) w w' := by
  obtain ⟨k, rfl, _⟩ := hk
  have hL := lenA_any h
  obtain ⟨g, cap, rfl, hg, hc, hlt⟩ := h.row hi
  have c1 := h.c1
  have c3 : w.cell? ⟨g, i * 2, none⟩ = some (.int .i64 k) := h.cellAt hi (j := 0) (by omega)
  have c4 : w.cell? ⟨g, i * 2 + 1, none⟩ = some u := h.cellAt hi (j := 1) (by omega)
  have b0 : ¬ (i : Int) < 0 := by omega
  have b1 : (i : Int) < ps.length := by omega
  have b2 : (0 : Int) ≤ i := by omega
  clear h hi
  go_enter Tryz.func135, Tryz.ntmps135
  go_wp2_with fail
  refine hL.mono ?_
  rintro e w1 ⟨rfl, rfl⟩
  go_wp2
  go_quiet (fail)
  go_wp2
  exact bodyPost_ret (v := .tuple #[.int .i64 k, u, .int .i64 0]) (by simp [results, Tryz.results135, go_sem]) rfl ⟨rfl, (Kept.refl _ w1).drewN _⟩
set_option maxRecDepth 100000 in
set_option maxHeartbeats 1000000 in
theorem putA_old (h : LogA w p most v bm ps) {i : Nat} {k : Int} {u : Value} (hi : ps[i]? = some (.int .i64 k, u)) (x : Int) :
    Calls Tryz.prog 222 #[.pointer (some ⟨p, 0, none⟩), .int .i64 k, .int .i64 x] w fun e w' => e = .returned (.int .i64 0) ∧ TurnedA w w' p most v bm (ps.set i (.int .i64 k, .int .i64 x)) := by
  go_enter Tryz.func222, Tryz.ntmps222
  go_wp2_with fail
  refine (sameI_any k w).mono ?_
  rintro e w1 ⟨rfl, k1⟩
  have h1 := h.calm k1
  have hl := h1.look_at lawI okI Tryz.underlying258 zero3 hi
  obtain ⟨g, cap, rfl, hg, hc, hlt⟩ := h1.row hi
  have c1 := h1.c1
  have c2 := h1.c2
  have c3 : w1.cell? ⟨g, i * 2 + 1, none⟩ = some u := h1.cellAt hi (j := 1) (by omega)
  have f3 : w1.frozen? ⟨g, i * 2 + 1, none⟩ = false := h1.own.frozenAt _
  have b1 : (i : Int) < ps.length := by omega
  have HE := h1.set hi (.int .i64 x) rfl 1 rfl
  clear h h1 hi
  go_wp2
  go_ret
  exact ⟨rfl, HE.after k1⟩
set_option maxRecDepth 100000 in
set_option maxHeartbeats 1000000 in
theorem putA_full (h : LogA w p most v bm ps) {k : Int} (hk : (Lit.int .i64 k).wf = true) (hn : ∀ x ∈ ps, x.1 ≠ .int .i64 k) (hf : (ps.length : Int) = most) (x : Int) :
    Calls Tryz.prog 222 #[.pointer (some ⟨p, 0, none⟩), .int .i64 k, .int .i64 x] w fun e w' => e = .returned (.int .i64 11) ∧ Kept (fun _ => False) w w' := by
  go_enter Tryz.func222, Tryz.ntmps222
  go_wp2_with fail
  refine (sameI_any k w).mono ?_
  rintro e w1 ⟨rfl, k1⟩
  have h1 := h.calm k1
  have hl := h1.look_no lawI okI Tryz.underlying258 zero3 ⟨k, rfl, hk⟩ hn
  have c0 := h1.c0
  have c2 := h1.c2
  have hL : ∀ k, Calls Tryz.prog 134 #[.pointer (some ⟨p, 0, none⟩)] (w1.drewN k) fun e w' => e = .returned (.int .i64 ps.length) ∧ w' = w1.drewN k := fun k => lenA_any (h1.calm ((Kept.refl _ w1).drewN k))
  subst hf
  clear h h1 hn hk
  go_wp2_with fail
  go_quiet (first | (go_at_call 134; exact Calls.quiet_of_same (hL _)))
  go_wp2
  go_ret
  exact ⟨rfl, k1.drewN _⟩
end
theorem Tryz.info289 : (Tryz.prog.info? 289).map (fun i => (i.zero, i.size, i.bytes)) = some (some (.agg #[.int .i64 0, .int .i64 0]), 2, 16) := by kernel_rfl
section
variable {w : World} {p : Nat} {most : Int} {v : Value} {bm : Nat} {ps : List (Value × Value)}
set_option maxRecDepth 100000 in
set_option maxHeartbeats 1000000 in
theorem putA_new (h : LogA w p most v bm ps) {k : Int} (hk : (Lit.int .i64 k).wf = true) (hn : ∀ x ∈ ps, x.1 ≠ .int .i64 k) (hf : (ps.length : Int) < most) (x : Int) :
    Calls Tryz.prog 222 #[.pointer (some ⟨p, 0, none⟩), .int .i64 k, .int .i64 x] w fun e w' => e = .returned (.int .i64 0) ∧ TurnedA w w' p most v bm (ps ++ [(.int .i64 k, .int .i64 x)]) := by
  obtain ⟨i0, hi0, hz0, hz1, hz2⟩ := info_parts Tryz.info289
  go_enter Tryz.func222, Tryz.ntmps222
  go_wp2_with fail
  refine (sameI_any k w).mono ?_
  rintro e w1 ⟨rfl, k1⟩
  have h1 := h.calm k1
  have hl := h1.look_no lawI okI Tryz.underlying258 zero3 ⟨k, rfl, hk⟩ hn
  have c0 := h1.c0
  have c2 := h1.c2
  have hL : ∀ k, Calls Tryz.prog 134 #[.pointer (some ⟨p, 0, none⟩)] (w1.drewN k) fun e w' => e = .returned (.int .i64 ps.length) ∧ w' = w1.drewN k := fun k => lenA_any (h1.calm ((Kept.refl _ w1).drewN k))
  have hne : ((ps.length : Int) == most) = false := by simp; omega
  have hf' : (ps.length : Int) < most := hf
  clear hf
  go_wp2_with fail
  go_quiet (first | (go_at_call 134; exact Calls.quiet_of_same (hL _)))
  go_wp2
  clear hL
  have k2 := k1.drewN nq
  have h2 := (h.calm k2).drew
  clear h1 c0 c2 hl k1
  generalize w1.drewN nq = w2 at *
  have k3 : Kept (fun _ => False) w w2.drew := k2.drew
  have c2 : w2.drew.cell? ⟨p, 2, none⟩ = some (.map (some bm)) := h2.c2
  have hL := lenA_any h2
  obtain ⟨f, hf, hx⟩ := h2.map
  obtain ⟨w3, hst, k4, hsz, hm⟩ := hf.store lawI Tryz.underlying258 (okI (.int .i64 k) ⟨k, rfl, hk⟩) (.int .i64 ps.length)
  go_region_with (go_at_call 134; refine hL.mono ?_; rintro e wx ⟨rfl, rfl⟩)
  all_goals clear hst hL c2
  all_goals (
    have HS : Hid (w3.heap.size = w2.drew.heap.size) := hsz
    have h5 : w3.heap[p]? = some (.cells #[.int .i64 most, v, .map (some bm)] 261 (0, 0)) := (k4.block p (lt_of_heap h2.heap) h2.ne3).trans h2.heap
    have c5 : w3.cell? ⟨p, 1, none⟩ = some v := cell_of_heap h5
    have ho := (own_loc h2.own (w' := w3) (fun b hb => k4.block b ((h2.own.lt b hb).2) (fun e => h2.ne2 (e ▸ hb)))).alloc (.cells #[.int .i64 k, .int .i64 x] 289)
    have hsm := h2.small
    have k5 := kept_alloc w3 (.cells #[.int .i64 k, .int .i64 x] 289)
    have H2 : Hid (LogA w2.drew p most v bm ps ∧ (ps.length : Int) < most ∧ Idx OKi f ps ∧ w3.heap[p]? = some (.cells #[.int .i64 most, v, .map (some bm)] 261 (0, 0)) ∧ ∀ x ∈ ps, x.1 ≠ .int .i64 k) := ⟨h2, hf', hx, h5, hn⟩
    clear hsz h2 h hx h5 hn hf' hne
    go_wp2_with (at_builtin; refine wpList_append_lies _ rfl (.tmp 48) (.tmp 52) 259 rfl 0 289 i0 _ 2 16 Tryz.underlying259 hi0 hz0 hz1 hz2 rfl (by omega) v ps.length (flat ps) rfl ho ⟨w3.heap.size, 0, none⟩ 1 1 [.int .i64 k, .int .i64 x] rfl rfl (World.news_of_block (cs := #[.int .i64 k, .int .i64 x]) (t := 289) (fr := (0, 0)) (heap_alloc_new w3 _)) (by simp [Value.oneCell']) (by omega) (by unfold maxLen; omega) (by omega) (by simp) (w3.heap.size + 1) (by simp) ?_; intro g cap w4 ho4 hg4 ha4 hl4; have c6 : w4.cell? ⟨p, 1, none⟩ = some v := cell_of_heap ((hg4.block p (by have := lt_of_heap H2.out.2.2.2.1; simp; omega) (fun e => H2.out.1.ne1 e.symm)).trans ((Below.heap_alloc w3 _ p (lt_of_heap H2.out.2.2.2.1)).trans H2.out.2.2.2.1)); have f6 : w4.frozen? ⟨p, 1, none⟩ = false := frozen_of_heap ((hg4.block p (by have := lt_of_heap H2.out.2.2.2.1; simp; omega) (fun e => H2.out.1.ne1 e.symm)).trans ((Below.heap_alloc w3 _ p (lt_of_heap H2.out.2.2.2.1)).trans H2.out.2.2.2.1)))
    go_ret
    refine ⟨rfl, Turned.after k3 (H2.out.1.snoc (k := .int .i64 k) (x := .int .i64 x) ⟨k, rfl, hk⟩ H2.out.2.2.2.2 ⟨rfl, by simp [pcells, Value.cells, Value.oneCell']⟩ H2.out.2.1 hf H2.out.2.2.1 k4 hm k5 hg4 ho4 (ha4.imp_right fun e => ?_))⟩
    have := HS.out
    omega)
end
end Go.Proofs.YthbcbjkgjgmegaaGreat

namespace Go.Proofs.YthbcbjkgjgmegaaGreat
open Go.RowKit
set_option linter.unusedVariables false
set_option linter.unusedSimpArgs false

theorem zeroPr (w : World) : (zeroValue 289).run Tryz.prog w = .ok (.agg #[.int .i64 0, .int .i64 0]) w := by kernel_rfl
section
variable {w : World} {p : Nat} {most : Int} {v : Value} {bm : Nat} {ps : List (Value × Value)}
/-- The log behind it: its row was wiped (w2), cut to nothing, the map wiped (w4). -/
theorem LogAt.wiped {P : Program} {t e : TypeId} {z : Nat} {K : TypeId} {OK : Value → Prop} (h : LogAt P t e z K OK w p most v bm ps) {w2 w4 : World} {v' : Value} (k2 : Kept (fun b => v.ownBlock = some b) w w2) (ho : w2.ownsRow 0 e z v' 0 []) (hv : v'.ownBlock = v.ownBlock)
    (k4 : Kept (fun b => b = bm) (w2.setCell ⟨p, 1, none⟩ v') w4) (hf : MapIs P K w4 bm (fun _ => none)) : Turned P t e z K OK w w4 p most v bm [] := by
  have hp := lt_of_heap h.heap
  have h2 : w2.heap[p]? = some (.cells #[.int .i64 most, v, .map (some bm)] t (0, 0)) := by
    rw [k2.block p hp h.ne1]
    exact h.heap
  refine ⟨v', ⟨?_, ?_, ⟨_, hf, ⟨fun i x hx => by simp at hx, fun _ _ _ => rfl⟩⟩, hv ▸ h.ne1, hv ▸ h.ne2, h.ne3, fun y hy => by simp at hy, fun y hy => by simp at hy, ?_, h.most⟩, ?_, fun b hb => .inl (hv ▸ hb)⟩
  · rw [k4.block p (by rw [size_setCell]; exact lt_of_heap h2) h.ne3, heap_setCell_at h2]
    rfl
  · refine own_loc (ownsRow_setCell_far ho (a := ⟨p, 1, none⟩) (hv ▸ h.ne1) v') (fun b hb => ?_)
    exact k4.block b (by rw [size_setCell]; exact (ho.lt b hb).2) (fun e => h.ne2 (by rw [← hv, hb, e]))
  · have := h.fits; simp; omega
  · have a1 : Kept (fun b => b ∈ foot p bm v) w w2 := k2.mono (fun b _ hb => by simp [foot, hb])
    exact (a1.setCell (p := ⟨p, 1, none⟩) v' (.inl (by simp [foot]))).trans k4 (fun b _ hb => by simp [foot, hb])
set_option maxRecDepth 100000 in
set_option maxHeartbeats 1000000 in
theorem clearA_any (h : LogA w p most v bm ps) :
    Calls Tryz.prog 219 #[.pointer (some ⟨p, 0, none⟩)] w fun e w' => e = .returned (.tuple #[]) ∧ TurnedA w w' p most v bm [] := by
  obtain ⟨f, hf, hx⟩ := h.map
  have c1 := h.c1
  have f1 := h.f1
  have hbm := hf.lt
  rcases own_forms h.own with ⟨rfl, h0, _⟩ | ⟨g, cap, rfl, _, hg, hc⟩
  · obtain ⟨w4, hcm, k4, _, hm4⟩ := (hf.loc (w' := w.setCell ⟨p, 1, none⟩ (.slice none 0 0)) (heap_setCell_far (by simpa using h.ne3.symm))).wipe Tryz.underlying258
    have hcl := fun a c ty => wipe_none (P := Tryz.prog) w 259 289 Tryz.underlying259 a c ty
    have c2 : (w.setCell ⟨p, 1, none⟩ (.slice none 0 0)).cell? ⟨p, 2, none⟩ = some (.map (some bm)) := cell_of_heap (heap_setCell_at h.heap _)
    have HE := h.wiped (Kept.refl _ w) (World.ownsRow_nil w 0 289 2) rfl k4 hm4
    clear h hf hx k4 hm4
    go_enter Tryz.func219, Tryz.ntmps219
    go_wp2_with (simp only [hcl, hcm])
    go_end0
    exact ⟨rfl, HE⟩
  · have n1 : p ≠ g := fun e => h.ne1 (by simp [Value.ownBlock, e])
    have n2 : bm ≠ g := fun e => h.ne2 (by simp [Value.ownBlock, e])
    have b1 : (0 : Int) ≤ cap := Int.natCast_nonneg _
    rcases Nat.eq_zero_or_pos ps.length with hz | hz
    · have hcl := fun a c ty => wipe_none (P := Tryz.prog) w 259 289 Tryz.underlying259 a c ty
      obtain ⟨w4, hcm, k4, _, hm4⟩ := (hf.loc (w' := w.setCell ⟨p, 1, none⟩ (.slice (some ⟨g, 0, none⟩) 0 cap)) (heap_setCell_far (by simpa using h.ne3.symm))).wipe Tryz.underlying258
      have c2 : (w.setCell ⟨p, 1, none⟩ (.slice (some ⟨g, 0, none⟩) 0 cap)).cell? ⟨p, 2, none⟩ = some (.map (some bm)) := cell_of_heap (heap_setCell_at h.heap _)
      have HE := h.wiped (v' := .slice (some ⟨g, 0, none⟩) 0 cap) (Kept.refl _ w) (by have := own_cut h.own (Nat.zero_le _); simpa using this) rfl k4 hm4
      rw [hz] at c1 HE
      clear h hf hx k4 hm4 hz hc
      go_enter Tryz.func219, Tryz.ntmps219
      go_wp2_with (simp only [hcl, hcm])
      go_end0
      exact ⟨rfl, by assumption⟩
    · obtain ⟨vs, hcl⟩ := wipe_run (P := Tryz.prog) w 259 289 (.agg #[.int .i64 0, .int .i64 0]) 2 Tryz.underlying259 zeroPr rfl (by omega) (by decide) h.own hz
      simp only [Nat.zero_mul, Nat.sub_zero] at hcl
      have hO := own_setCells h.own (Nat.zero_le _) vs
      have hK := setCells_kept (F := fun b => (Value.slice (some ⟨g, 0, none⟩) ps.length cap).ownBlock = some b) (g := g) (a := w) (.inl rfl) vs 0 w (Kept.refl _ w)
      simp only [Nat.zero_mul, List.take_zero] at hO
      have hp2 : (w.setCells g 0 vs).heap[p]? = some (.cells #[.int .i64 most, .slice (some ⟨g, 0, none⟩) ps.length cap, .map (some bm)] 261 (0, 0)) := (setCells_heap_far vs 0 w p n1).trans h.heap
      have hbm2 : (w.setCells g 0 vs).heap[bm]? = w.heap[bm]? := setCells_heap_far vs 0 w bm n2
      obtain ⟨w4, hcm, k4, _, hm4⟩ := (hf.loc (w' := (w.setCells g 0 vs).setCell ⟨p, 1, none⟩ (.slice (some ⟨g, 0, none⟩) 0 cap)) ((heap_setCell_far (by simpa using h.ne3.symm)).trans hbm2)).wipe Tryz.underlying258
      have c3 : (w.setCells g 0 vs).cell? ⟨p, 1, none⟩ = some (.slice (some ⟨g, 0, none⟩) ps.length cap) := cell_of_heap hp2
      have f3 : (w.setCells g 0 vs).frozen? ⟨p, 1, none⟩ = false := frozen_of_heap hp2
      have c2 : ((w.setCells g 0 vs).setCell ⟨p, 1, none⟩ (.slice (some ⟨g, 0, none⟩) 0 cap)).cell? ⟨p, 2, none⟩ = some (.map (some bm)) := cell_of_heap (heap_setCell_at hp2 _)
      have HE := h.wiped hK hO rfl k4 hm4
      clear h hf hx k4 hm4 hO hK hp2 hbm2
      generalize w.setCells g 0 vs = w2 at *
      go_enter Tryz.func219, Tryz.ntmps219
      go_wp2_with (simp only [hcl, hcm])
      go_end0
      exact ⟨rfl, HE⟩
end
end Go.Proofs.YthbcbjkgjgmegaaGreat
