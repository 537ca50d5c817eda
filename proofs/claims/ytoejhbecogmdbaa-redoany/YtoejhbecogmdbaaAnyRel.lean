/- What RedoAny keeps: the log of lists, its own order and texts, the lists' blocks. An append of whatever is there, as a step of a region that draws its order. -/
import Derived.Test.YtoejhbecogmdbaaKeysT
import Derived.Test.YtoejhbecogmdbaaUp
namespace Go.Proofs.Ytoejhbecogmdbaa
open Go.RowKit
set_option linter.unusedVariables false
set_option linter.unusedSimpArgs false

/-- Rows of parts of one length. -/
theorem fm_length {α : Type} {c : α → List Value} {z : Nat} : ∀ {l : List α}, (∀ a, (c a).length = z) → (l.flatMap c).length = l.length * z
  | [], _ => by simp
  | x :: r, h => by
    rw [List.flatMap_cons, List.length_append, h x, fm_length (l := r) h, List.length_cons, Nat.add_mul]
    omega
theorem fm_at {α : Type} {c : α → List Value} {z : Nat} {l : List α} (h : ∀ a, (c a).length = z) {i : Nat} {x : α} (hi : l[i]? = some x) {j : Nat} (hj : j < z) : (l.flatMap c)[i * z + j]? = (c x)[j]? := by
  obtain ⟨hlt, he⟩ := List.getElem?_eq_some_iff.1 hi
  have e1 : l = l.take i ++ x :: l.drop (i + 1) := by rw [← he, List.getElem_cons_drop, List.take_append_drop]
  have e2 : (l.take i).length = i := by simp; omega
  rw [e1, List.flatMap_append, List.flatMap_cons, List.getElem?_append_right (by rw [fm_length h, e2]; omega), fm_length h, e2, show i * z + j - i * z = j by omega, List.getElem?_append_left (by rw [h x]; exact hj)]
theorem take_some {α : Type} {l : List α} {k j : Nat} {u : α} (h : (l.take k)[j]? = some u) : l[j]? = some u := by
  rw [List.getElem?_take] at h
  split at h
  · exact h
  · cases h
theorem fm_take {α : Type} {c : α → List Value} {z : Nat} (h : ∀ a, (c a).length = z) : ∀ (l : List α) (i : Nat), (l.flatMap c).take (i * z) = (l.take i).flatMap c
  | [], i => by simp
  | x :: r, 0 => by simp
  | x :: r, i + 1 => by
    rw [List.flatMap_cons, List.take_succ_cons, List.flatMap_cons, ← fm_take h r i, show (i + 1) * z = (c x).length + i * z by rw [h x, Nat.add_mul]; omega, List.take_length_add_append]
theorem fm_drop {α : Type} {c : α → List Value} {z : Nat} (h : ∀ a, (c a).length = z) : ∀ (l : List α) (i : Nat), (l.flatMap c).drop (i * z) = (l.drop i).flatMap c
  | [], i => by simp
  | x :: r, 0 => by simp
  | x :: r, i + 1 => by
    rw [List.flatMap_cons, List.drop_succ_cons, ← fm_drop h r i, show (i + 1) * z = (c x).length + i * z by rw [h x, Nat.add_mul]; omega, List.drop_length_add_append]

/-- A key of the log, its list's block and first text. -/
structure En where
  s : ByteArray
  n : Int
  g : Nat
  t : ByteArray
def behind : ByteArray := { data := #[98, 101, 104, 105, 110, 100] }
def En.pair (e : En) : Value × Value := (KV e.s e.n, .slice (some ⟨e.g, 0, none⟩) 2 2)
def En.kc (e : En) : List Value := [.string e.s, .int .i64 e.n]
theorem kc_len (e : En) : e.kc.length = 2 := rfl
def En.tc (e : En) : List Value := [.string e.t]
theorem tc_len (e : En) : e.tc.length = 1 := rfl
theorem kc_one (es : List En) : ∀ {u : Value}, u ∈ es.flatMap En.kc → u.oneCell' = true := by
  intro u hu
  obtain ⟨e, _, he⟩ := List.mem_flatMap.1 hu
  simp [En.kc] at he
  rcases he with rfl | rfl <;> rfl
theorem tc_one (es : List En) : ∀ {u : Value}, u ∈ es.flatMap En.tc → u.oneCell' = true := by
  intro u hu
  obtain ⟨e, _, he⟩ := List.mem_flatMap.1 hu
  simp [En.tc] at he
  subst he
  rfl
theorem fm_erase {α : Type} {c : α → List Value} {z : Nat} {l : List α} (h : ∀ a, (c a).length = z) {i : Nat} (hi : i < l.length) : (l.eraseIdx i).flatMap c = (l.flatMap c).take (i * z) ++ (l.flatMap c).drop ((i + 1) * z) := by
  rw [fm_take h, fm_drop h, ← List.flatMap_append, List.eraseIdx_eq_take_drop_succ]
theorem kflat_es (es : List En) : kflat (es.map En.pair) = es.flatMap En.kc := by
  induction es with
  | nil => rfl
  | cons e r ih =>
    rw [List.map_cons, kflat, List.flatMap_cons, List.flatMap_cons, ← ih]
    rfl
/-- The lists' blocks. -/
def valsI (es : List En) : It :=
  ⟨es.map En.g, fun w => ∀ e ∈ es, w.heap[e.g]? = some (.cells #[.string e.t, .string behind] 9 (0, 0)), fun w w' k h e he => (k e.g (List.mem_map.2 ⟨e, he, rfl⟩)).trans (h e he), fun w h b hb => by
    obtain ⟨e, he, rfl⟩ := List.mem_map.1 hb
    exact lt_of_heap (h e he)⟩
def anyIts (p : Nat) (most : Int) (v : Value) (bm : Nat) (vo vl : Value) (es : List En) : List It :=
  [valsI es, ownI 49 2 vo es.length (es.flatMap En.kc), ownI 9 1 vl es.length (es.flatMap En.tc), logI Try.prog 80 85 3 49 OKk p most v bm (es.map En.pair)]
abbrev AnySt (o : World) (p : Nat) (most : Int) (v : Value) (bm : Nat) (vo vl : Value) (es : List En) (w : World) : Prop := St o (anyIts p most v bm vo vl es) w

section
variable {o w w' : World} {p : Nat} {most : Int} {v : Value} {bm : Nat} {vo vl : Value} {es : List En}
theorem any_log (h : AnySt o p most v bm vo vl es w) : LogT w p most v bm (es.map En.pair) := h.get 3 rfl
theorem any_ord (h : AnySt o p most v bm vo vl es w) : w.ownsRow 0 49 2 vo es.length (es.flatMap En.kc) := h.get 1 rfl
theorem any_txt (h : AnySt o p most v bm vo vl es w) : w.ownsRow 0 9 1 vl es.length (es.flatMap En.tc) := h.get 2 rfl
theorem any_val (h : AnySt o p most v bm vo vl es w) {e : En} (he : e ∈ es) : w.heap[e.g]? = some (.cells #[.string e.t, .string behind] 9 (0, 0)) := (show ∀ e ∈ es, w.heap[e.g]? = some (.cells #[.string e.t, .string behind] 9 (0, 0)) from h.get 0 rfl) e he
theorem any_small (h : AnySt o p most v bm vo vl es w) : es.length ≤ 4096 := by simpa using (any_log h).small
theorem any_fits (h : AnySt o p most v bm vo vl es w) : (es.length : Int) ≤ most := by simpa using (any_log h).fits
theorem ord_at (h : w.ownsRow 0 49 2 vo es.length (es.flatMap En.kc)) {i : Nat} {e : En} (hi : es[i]? = some e) : ∃ g cap, vo = .slice (some ⟨g, 0, none⟩) es.length cap ∧ w.cell? ⟨g, i * 2, none⟩ = some (.string e.s) ∧ w.cell? ⟨g, i * 2 + 1, none⟩ = some (.int .i64 e.n) := by
  have hlt := (List.getElem?_eq_some_iff.1 hi).1
  rcases own_forms h with ⟨_, h0, _⟩ | ⟨g, cap, rfl, _, hg, hc⟩
  · omega
  · exact ⟨g, cap, rfl, by rw [h.cellAt (i * 2) (by omega)]; exact fm_at kc_len hi (j := 0) (by omega), by rw [h.cellAt (i * 2 + 1) (by omega)]; exact fm_at kc_len hi (j := 1) (by omega)⟩
theorem txt_at (h : w.ownsRow 0 9 1 vl es.length (es.flatMap En.tc)) {i : Nat} {e : En} (hi : es[i]? = some e) : ∃ g cap, vl = .slice (some ⟨g, 0, none⟩) es.length cap ∧ w.cell? ⟨g, i, none⟩ = some (.string e.t) := by
  have hlt := (List.getElem?_eq_some_iff.1 hi).1
  rcases own_forms h with ⟨_, h0, _⟩ | ⟨g, cap, rfl, _, hg, hc⟩
  · omega
  · refine ⟨g, cap, rfl, ?_⟩
    rw [h.cellAt i (by omega)]
    have := fm_at tc_len hi (j := 0) (by omega)
    simpa [En.tc] using this
theorem pair_at {i : Nat} {e : En} (hi : es[i]? = some e) : (es.map En.pair)[i]? = some (KV e.s e.n, .slice (some ⟨e.g, 0, none⟩) 2 2) := by
  rw [List.getElem?_map, hi]
  rfl
theorem pair_no {s : ByteArray} {n : Int} (hn : ∀ e ∈ es, ¬ (e.s = s ∧ e.n = n)) : ∀ x ∈ es.map En.pair, x.1 ≠ KV s n := by
  intro x hx e1
  obtain ⟨e, he, rfl⟩ := List.mem_map.1 hx
  simp [En.pair] at e1
  exact hn e he e1
end

/-- An append, whatever there is to be appended. -/
theorem step_append_all {P : Program} {w : World} {ops : Array Oper} {op : Oper} {a : Act} {K : Act → World → Prop} {Q : Exit → Act → World → Prop} {E : Prop} (hgd : op.guard = none) (s x : Operand) (t : TypeId)
    (ho : op.op = .call { callee := .builtin .append, args := #[s, x], argTypes := #[t, t] })
    (e : TypeId) (i : TypeInfo) (z : Value) (size bytes : Nat) (ht : P.underlying t = some (.slice e)) (hi : P.info? e = some i) (hz : i.zero = some z)
    (hsize : i.size = size) (hby : i.bytes = bytes) (hzs : z.cells.size = size) (hsz : 0 < size)
    (b n cap : Nat) (xs : List Value) (hs : a.eval s = .slice (some ⟨b, 0, none⟩) n cap) (hown : w.ownsRow 0 e size (.slice (some ⟨b, 0, none⟩) n cap) n xs)
    (ad : Addr) (m c : Nat) (news : List Value) (hx : a.eval x = .slice (some ad) m c) (hl : news.length = m * size) (hnews : ∀ j u, news[j]? = some u → w.cell? (ad.add j) = some u) (h1 : ∀ u ∈ news, u.oneCell' = true)
    (h63 : n + m ≤ maxLen) (hbytes : (n + m) * bytes ≤ 140737488355328)
    (h : ∀ g cap' w', w'.ownsRow 0 e size (.slice (some ⟨g, 0, none⟩) (n + m) cap') (n + m) (xs ++ news) → w.grownBy w' (some b) → (g = b ∨ g = w.heap.size) → K (a.put op.dst (.slice (some ⟨g, 0, none⟩) (n + m) cap')) w') :
    if Region.wanted op (yielded ops a.tmps) = true then Oper.wp P op a w K Q else E := by
  rcases Nat.eq_zero_or_pos m with rfl | hm
  · have hnil : news = [] := List.eq_nil_of_length_eq_zero (by simpa using hl)
    subst hnil
    have hc : n ≤ cap := by
      rcases own_forms hown with ⟨h1, _⟩ | ⟨g', cap', h1, _, _, hc⟩
      · cases h1
      · cases h1; exact hc
    refine step_append_room hgd s x t ho e i size ht hi hsize b 0 n cap hs ad 0 c [] hx (by simp) (by simp) (by simp) (by omega) (by simp) ?_
    have := h b cap w (by simpa using hown) ⟨rfl, rfl, rfl, Nat.le_refl _, fun _ _ _ => rfl⟩ (.inl rfl)
    simpa [World.setCells] using this
  · refine step_append_lies w hgd s x t ho 0 e i z size bytes ht hi hz hsize hby hzs hsz (.slice (some ⟨b, 0, none⟩) n cap) n xs hs hown ad m c news hx hl hnews h1 hm h63 hbytes (Nat.zero_le _) w.heap.size rfl ?_
    intro g cap' w' a1 a2 a3 a4
    exact h g cap' w' a1 a2 (a3.imp_left (fun e => by simpa [Value.ownBlock] using e.symm))
/-- A text's bytes tell it. -/
theorem keq_iff (s1 s2 : ByteArray) (n1 n2 : Int) : keq s1 s2 n1 n2 = true ↔ s1 = s2 ∧ n1 = n2 := by
  simp only [keq, Bool.and_eq_true, beq_iff_eq]
  constructor
  · rintro ⟨h1, h2⟩
    rw [ByteArray.toList_eq, ByteArray.toList_eq] at h1
    exact ⟨Go.WideShapes.bytes_inj h1, h2⟩
  · rintro ⟨rfl, rfl⟩
    exact ⟨rfl, rfl⟩
end Go.Proofs.Ytoejhbecogmdbaa
