/- A pair goes: the map of places while it is mended, and the log behind it. No program is named here. -/
import Derived.Test.YtoejhbecogmdbaaLog
namespace Go.Proofs.Ytoejhbecogmdbaa
open Go.RowKit
set_option linter.unusedVariables false
set_option linter.unusedSimpArgs false

/-- The map of places, right for the first c pairs; what is not a key is not in it. -/
structure Part (OK : Value → Prop) (f : Value → Option Value) (ps : List (Value × Value)) (c : Nat) : Prop where
  at_ : ∀ (a : Nat) (x : Value × Value), ps[a]? = some x → a < c → f x.1 = some (.int .i64 (a : Int))
  no : ∀ k, OK k → (∀ x ∈ ps, x.1 ≠ k) → f k = none
theorem erase_at {ps : List (Value × Value)} {i a : Nat} : (ps.eraseIdx i)[a]? = if a < i then ps[a]? else ps[a + 1]? := List.getElem?_eraseIdx
theorem Part.start {OK : Value → Prop} {f f' : Value → Option Value} {ps : List (Value × Value)} (h : Idx OK f ps) {i : Nat} {k u : Value} (hi : ps[i]? = some (k, u)) (h1 : f' k = none) (h2 : ∀ x, x ≠ k → f' x = f x) : Part OK f' (ps.eraseIdx i) i := by
  refine ⟨fun a x hx ha => ?_, fun y hy hn => ?_⟩
  · rw [erase_at, if_pos ha] at hx
    rw [h2 x.1 (fun e => by have := h.inj hx hi e; omega)]
    exact h.at_ a x hx
  · by_cases e : y = k
    · rw [e]; exact h1
    · rw [h2 y e]
      refine h.no y hy (fun x hx e1 => ?_)
      obtain ⟨a, ha, ea⟩ := List.getElem_of_mem hx
      refine hn x (List.mem_eraseIdx_iff_getElem?.2 ⟨a, fun e2 => ?_, by rw [List.getElem?_eq_getElem ha, ea]⟩) e1
      subst e2
      rw [List.getElem?_eq_getElem ha, ea] at hi
      cases hi
      exact e e1.symm
/-- The key of each place is its own. -/
def Apart (ps : List (Value × Value)) : Prop := ∀ (a b : Nat) (x y : Value × Value), ps[a]? = some x → ps[b]? = some y → x.1 = y.1 → a = b
theorem Idx.apart {OK : Value → Prop} {f : Value → Option Value} {ps : List (Value × Value)} (h : Idx OK f ps) : Apart ps := fun a b x y hx hy e => h.inj hx hy e
theorem Apart.erase {ps : List (Value × Value)} (h : Apart ps) (i : Nat) : Apart (ps.eraseIdx i) := by
  intro a b x y hx hy e
  rw [erase_at] at hx hy
  split at hx <;> split at hy
  · exact h _ _ _ _ hx hy e
  · have := h _ _ _ _ hx hy e; omega
  · have := h _ _ _ _ hx hy e; omega
  · have := h _ _ _ _ hx hy e; omega
theorem Part.step {OK : Value → Prop} {f f' : Value → Option Value} {ps : List (Value × Value)} {c : Nat} (h : Part OK f ps c) (ha : Apart ps) {x : Value × Value} (hx : ps[c]? = some x) (h1 : f' x.1 = some (.int .i64 (c : Int))) (h2 : ∀ y, y ≠ x.1 → f' y = f y) : Part OK f' ps (c + 1) := by
  refine ⟨fun a y hy hc => ?_, fun y hy hn => ?_⟩
  · by_cases e : a = c
    · subst e
      rw [hx] at hy
      cases hy
      exact h1
    · rw [h2 y.1 (fun e1 => e (ha _ _ _ _ hy hx e1))]
      exact h.at_ a y hy (by omega)
  · rw [h2 y (fun e => hn x (List.mem_of_getElem? hx) e.symm)]
    exact h.no y hy hn
theorem Part.done {OK : Value → Prop} {f : Value → Option Value} {ps : List (Value × Value)} {c : Nat} (h : Part OK f ps c) (hc : ps.length ≤ c) : Idx OK f ps :=
  ⟨fun a x hx => h.at_ a x hx (Nat.lt_of_lt_of_le (List.getElem?_eq_some_iff.1 hx).1 hc), h.no⟩

section
variable {P : Program} {t e : TypeId} {z : Nat} {K : TypeId} {OK : Value → Prop} {w : World} {p : Nat} {most : Int} {bm : Nat} {ps : List (Value × Value)}
/-- The log behind it: its row was cut (w3), laid into its block (w4), the map mended (w5). -/
theorem LogAt.gone {g cap i m : Nat} {x : Value × Value} (h : LogAt P t e z K OK w p most (.slice (some ⟨g, 0, none⟩) ps.length cap) bm ps) (hi : ps[i]? = some x) (hm : ps.length = i + 1 + m)
    {w2 w3 w5 : World} (k2 : Kept (fun b => b = bm) w w2) (k3 : Kept (fun b => b = g) w2 w3) (ho : w3.ownsRow 0 e z (.slice (some ⟨g, 0, none⟩) (i + m) cap) (i + m) ((flat ps).take (i * z) ++ (flat ps).drop ((i + 1) * z)))
    (k5 : Kept (fun b => b = bm) (w3.setCell ⟨p, 1, none⟩ (.slice (some ⟨g, 0, none⟩) (i + m) cap)) w5) {f : Value → Option Value} (hf : MapIs P K w5 bm f) (hx : Idx OK f (ps.eraseIdx i)) :
    Turned P t e z K OK w w5 p most (.slice (some ⟨g, 0, none⟩) ps.length cap) bm (ps.eraseIdx i) := by
  have hp := lt_of_heap h.heap
  have n1 : p ≠ g := fun e => h.ne1 (by simp [Value.ownBlock, e])
  have n2 : g ≠ bm := fun e => h.ne2 (by simp [Value.ownBlock, e])
  have hg : g < w.heap.size := h.old g (by simp [foot, Value.ownBlock])
  have hlen : (ps.eraseIdx i).length = i + m := by rw [List.length_eraseIdx, if_pos (by omega)]; omega
  have h3 : w3.heap[p]? = some (.cells #[.int .i64 most, .slice (some ⟨g, 0, none⟩) ps.length cap, .map (some bm)] t (0, 0)) := by
    rw [k3.block p (Nat.lt_of_lt_of_le hp k2.size) n1, k2.block p hp h.ne3]
    exact h.heap
  refine ⟨.slice (some ⟨g, 0, none⟩) (i + m) cap, ⟨?_, ?_, ⟨f, hf, hx⟩, h.ne1, h.ne2, h.ne3, fun y hy => h.keys y ((List.eraseIdx_sublist _ _).subset hy), h.wide.erase i, ?_, h.most⟩, ?_, Fresh.refl _ _⟩
  · rw [k5.block p (by rw [size_setCell]; exact lt_of_heap h3) h.ne3, heap_setCell_at h3]
    rfl
  · rw [hlen, flat_erase h.wide hi]
    refine own_loc (ownsRow_setCell_far ho (a := ⟨p, 1, none⟩) (by simpa [Value.ownBlock] using Ne.symm n1) (.slice (some ⟨g, 0, none⟩) (i + m) cap)) (fun b hb => ?_)
    simp [Value.ownBlock] at hb
    subst hb
    exact k5.block g (by rw [size_setCell]; exact Nat.lt_of_lt_of_le hg (Nat.le_trans k2.size k3.size)) n2
  · rw [hlen]; have := h.fits; omega
  · have a1 : Kept (fun b => b ∈ foot p bm (.slice (some ⟨g, 0, none⟩) ps.length cap)) w w2 := k2.mono (fun b _ hb => by simp [foot, hb])
    have a2 := a1.trans k3 (fun b _ hb => by simp [foot, Value.ownBlock, hb])
    exact (a2.setCell (p := ⟨p, 1, none⟩) (.slice (some ⟨g, 0, none⟩) (i + m) cap) (.inl (by simp [foot]))).trans k5 (fun b _ hb => by simp [foot, hb])
end
end Go.Proofs.Ytoejhbecogmdbaa
