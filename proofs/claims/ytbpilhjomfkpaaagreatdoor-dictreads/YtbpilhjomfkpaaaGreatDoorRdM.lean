/- The document's Do: plain facts. -/
import Derived.Test.YtbpilhjomfkpaaaGreatDoorRpA
import Derived.Lib.SliceRun
namespace Go.Proofs.YtbpilhjomfkpaaaGreatDoor
open Go.RowKit
set_option linter.unusedVariables false
set_option linter.unusedSimpArgs false

theorem key_idx {l : List Pr} (h : Rises l) {i k : Nat} (hi : i < l.length) (hk : k < l.length) (e : l[i].1 = l[k].1) : i = k := by
  rcases Nat.lt_trichotomy i k with hlt | heq | hgt
  · have := List.pairwise_iff_getElem.1 h i k hi hk hlt; omega
  · exact heq
  · have := List.pairwise_iff_getElem.1 h k i hk hi hgt; omega
theorem getD_lt {l : List Pr} {i : Nat} (hi : i < l.length) : l.getD i (0, 0) = l[i] := by simp [List.getD_eq_getElem?_getD, hi]
theorem turn_set {l : List Pr} (h : Rises l) {i : Nat} (hi : i < l.length) {x : Int} (e : (l.getD i (0, 0)).1 = x) (y : Int) : turnP l x y = l.set i (x, y) := by
  rw [getD_lt hi] at e
  apply List.ext_getElem (by simp [turnP])
  intro k h1 h2
  have hk : k < l.length := by simpa [turnP] using h1
  simp only [turnP, List.getElem_map, List.getElem_set]
  by_cases hik : i = k
  · subst hik
    rw [if_pos e, if_pos rfl]
  · rw [if_neg (fun e2 => hik (key_idx h hi hk (by rw [e, e2]))), if_neg hik]
theorem lack_idx {l : List Pr} (h : Rises l) {i : Nat} (hi : i < l.length) {x : Int} (e : (l.getD i (0, 0)).1 = x) : lackP l x = l.take i ++ l.drop (i + 1) := by
  rw [getD_lt hi] at e
  have hs : l = l.take i ++ l[i] :: l.drop (i + 1) := by rw [← List.drop_eq_getElem_cons hi, List.take_append_drop]
  have hp := h
  rw [hs] at hp
  obtain ⟨-, hp2, hp3⟩ := List.pairwise_append.1 hp
  conv => lhs; rw [hs]
  unfold lackP
  rw [List.filter_append, List.filter_cons_of_neg (by simp [e])]
  congr 1
  · rw [List.filter_eq_self]
    intro p hpm
    have := hp3 p hpm l[i] List.mem_cons_self
    simp only [bne_iff_ne, ne_eq]
    omega
  · rw [List.filter_eq_self]
    intro p hpm
    have := (List.pairwise_cons.1 hp2).1 p hpm
    simp only [bne_iff_ne, ne_eq]
    omega
theorem at_idx {l : List Pr} (h : Rises l) {i : Nat} (hi : i < l.length) {x : Int} (e : (l.getD i (0, 0)).1 = x) : atP l x = some (l.getD i (0, 0)).2 := by
  refine atP_of_mem h.apart ?_
  rw [← e]
  have := List.getElem_mem hi
  rw [getD_lt hi]
  exact this
theorem eC_set : ∀ (l : List Pr) (i : Nat) (hi : i < l.length) (y : Int), (eC l).set (i * 2 + 1) (.int .i64 y) = eC (l.set i ((l.getD i (0, 0)).1, y))
  | p :: l, 0, _, y => rfl
  | p :: l, i + 1, hi, y => by
    have ih := eC_set l i (by simpa using hi) y
    have e1 : (i + 1) * 2 + 1 = i * 2 + 1 + 1 + 1 := by omega
    rw [e1]
    simp only [eC, List.set_cons_succ, List.getD_cons_succ]
    rw [ih]
theorem rises_snoc {l : List Pr} {j : Nat} (hj : j < l.length) (h : Rises (l.take j)) (hs : j = 0 ∨ ∃ q, j = q + 1 ∧ (l.getD q (0, 0)).1 < (l.getD j (0, 0)).1) : Rises (l.take (j + 1)) := by
  rw [List.take_succ_eq_append_getElem hj]
  refine List.pairwise_append.2 ⟨h, by simp, fun a ha b hb => ?_⟩
  rw [List.mem_singleton.1 hb]
  rcases hs with rfl | ⟨q, rfl, hq⟩
  · simp at ha
  · rw [getD_lt (by omega : q < l.length), getD_lt hj] at hq
    obtain ⟨i, hi, rfl⟩ := List.getElem_of_mem ha
    rw [List.length_take] at hi
    rw [List.getElem_take]
    by_cases e : i = q
    · subst e; exact hq
    · have h1 : i < (l.take (q + 1)).length := by rw [List.length_take]; omega
      have h2 : q < (l.take (q + 1)).length := by rw [List.length_take]; omega
      have := List.pairwise_iff_getElem.1 h i q h1 h2 (by omega)
      rw [List.getElem_take, List.getElem_take] at this
      omega
theorem rises_not {l : List Pr} {q : Nat} (hj : q + 1 < l.length) (h : ¬ (l.getD q (0, 0)).1 < (l.getD (q + 1) (0, 0)).1) : risesP l = false := by
  cases e : risesP l with
  | false => rfl
  | true =>
    have := List.pairwise_iff_getElem.1 ((rises_iff l).1 e) q (q + 1) (by omega) hj (by omega)
    rw [getD_lt (by omega : q < l.length), getD_lt hj] at h
    exact absurd this h
/-- Where the key was met among the first j entries. -/
def AtI (l : List Pr) (j : Nat) (x op av : Int) : Prop :=
  (op = 5 ∧ av = -1) ∨ (op ≠ 5 ∧ ((av = -1 ∧ ∀ p ∈ l.take j, p.1 ≠ x) ∨ ∃ i : Nat, i < j ∧ av = (i : Int) ∧ (l.getD i (0, 0)).1 = x))
theorem atI_zero (l : List Pr) (x op : Int) : AtI l 0 x op (-1) := by
  by_cases h : op = 5
  · exact .inl ⟨h, rfl⟩
  · exact .inr ⟨h, .inl ⟨rfl, by simp⟩⟩
theorem atI_hit {l : List Pr} {j : Nat} {x op av : Int} (h : AtI l j x op av) (ho : op ≠ 5) (e : (l.getD j (0, 0)).1 = x) : AtI l (j + 1) x op (j : Int) := .inr ⟨ho, .inr ⟨j, by omega, rfl, e⟩⟩
theorem atI_miss {l : List Pr} {j : Nat} (hj : j < l.length) {x op av : Int} (h : AtI l j x op av) (e : op = 5 ∨ (l.getD j (0, 0)).1 ≠ x) : AtI l (j + 1) x op av := by
  rcases h with h | ⟨ho, ⟨hv, hn⟩ | ⟨i, hi, hv, he⟩⟩
  · exact .inl h
  · refine .inr ⟨ho, .inl ⟨hv, fun p hp => ?_⟩⟩
    rw [List.take_succ_eq_append_getElem hj] at hp
    rcases List.mem_append.1 hp with hp | hp
    · exact hn p hp
    · rw [List.mem_singleton.1 hp]
      rcases e with e | e
      · exact absurd e ho
      · rw [getD_lt hj] at e; exact e
  · exact .inr ⟨ho, .inr ⟨i, by omega, hv, he⟩⟩
theorem take_snocE {l : List Pr} {j : Nat} (hj : j < l.length) : l.take (j + 1) = l.take j ++ [l.getD j (0, 0)] := by
  rw [List.take_succ_eq_append_getElem hj, getD_lt hj]
theorem ein_head {W : World} {g o j i : Nat} {l : List Pr} (h : EIn W (some ⟨g, o, none⟩) j l) (hi : i ≤ j) : EIn W (some ⟨g, o, none⟩) i (l.take i) := by
  refine ⟨by rw [List.length_take, ← h.1]; omega, fun h0 => ⟨g, o, rfl, fun k u hu => ?_⟩⟩
  obtain ⟨g', o', e, hc⟩ := h.2 (by omega)
  simp only [Option.some.injEq, Addr.mk.injEq, and_true] at e
  obtain ⟨rfl, rfl⟩ := e
  refine hc k u ?_
  have hk := (List.getElem?_eq_some_iff.1 hu).1
  conv => lhs; rw [← List.take_append_drop i l]
  rw [eC_append, List.getElem?_append_left hk]
  exact hu
theorem ein_tail {W : World} {g o j i : Nat} {l : List Pr} (h : EIn W (some ⟨g, o, none⟩) j l) (hi : i ≤ j) : EIn W (some ⟨g, o + i * 2, none⟩) (j - i) (l.drop i) := by
  refine ⟨by rw [List.length_drop, ← h.1], fun h0 => ⟨g, o + i * 2, rfl, fun k u hu => ?_⟩⟩
  obtain ⟨g', o', e, hc⟩ := h.2 (by omega)
  simp only [Option.some.injEq, Addr.mk.injEq, and_true] at e
  obtain ⟨rfl, rfl⟩ := e
  rw [Nat.add_assoc]
  refine hc (i * 2 + k) u ?_
  have hl : (eC (l.take i)).length = i * 2 := by rw [eC_length, List.length_take, ← h.1, Nat.min_eq_left hi]
  conv => lhs; rw [← List.take_append_drop i l]
  rw [eC_append, List.getElem?_append_right (by omega), hl, Nat.add_sub_cancel_left]
  exact hu
theorem sliceHeadE (g o j lc i : Nat) (hi : i ≤ lc) (W : World) : (Instr.slice 32 (.slice (some ⟨g, o, none⟩) j lc) none (some (.int .i64 (i : Nat))) none).run Tryz.prog W = .ok (.slice (some ⟨g, o, none⟩) i lc) W := by
  have e3 : (0 : Int) ≤ (i : Int) := by omega
  have e4 : (i : Int) ≤ (lc : Int) := by omega
  have e5 : ¬ lc < i := by omega
  simp only [Instr.slice, run_underlying Tryz.underlying32, Instr.sliceBounds, Instr.sliceBound, asIntOf, go_sem]
  simp [go_sem, e3, e4, e5, hi, Tryz.sizeOf41, Addr.add]
theorem sliceTailE (g o j lc i : Nat) (hi : i ≤ j) (hj : j ≤ lc) : ∃ T : Option Addr, T ≠ none ∧ (∀ W, (Instr.slice 32 (.slice (some ⟨g, o, none⟩) j lc) (some (.int .i64 (i : Nat))) none none).run Tryz.prog W = .ok (.slice T (j - i) (lc - i)) W) ∧ ∀ (W : World) (l : List Pr), EIn W (some ⟨g, o, none⟩) j l → EIn W T (j - i) (l.drop i) := by
  refine ⟨if lc = i then some ⟨g, o, none⟩ else some ⟨g, o + i * 2, none⟩, by split <;> simp, fun W => ?_, fun W l h => ?_⟩
  · have e3 : (0 : Int) ≤ (i : Int) := by omega
    have e4 : (i : Int) ≤ (j : Int) := by omega
    have e5 : ¬ j < i := by omega
    simp only [Instr.slice, run_underlying Tryz.underlying32, Instr.sliceBounds, Instr.sliceBound, asIntOf, go_sem]
    by_cases e6 : lc = i
    · simp [go_sem, e3, e4, e5, hi, e6, Tryz.sizeOf41, Addr.add]
    · simp [go_sem, e3, e4, e5, hi, e6, Tryz.sizeOf41, Addr.add]
  · by_cases e : lc = i
    · rw [if_pos e]
      refine ⟨(ein_tail h hi).1, fun h0 => by omega⟩
    · rw [if_neg e]
      exact ein_tail h hi
end Go.Proofs.YtbpilhjomfkpaaaGreatDoor
