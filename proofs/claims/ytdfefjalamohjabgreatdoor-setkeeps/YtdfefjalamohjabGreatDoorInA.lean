/- The library's Insert of one value into a list of int64 of the call's own. -/
import Derived.Test.YtdfefjalamohjabGreatDoorXs
import Derived.Shelf.Spec.SlicesInsert
import Derived.Lib.AppendZerosOnto
import Derived.Laws.NewBlocks
import Derived.Deep.RegionLaw
namespace Go.Proofs.YtdfefjalamohjabGreatDoor
open Go.RowKit
set_option linter.unusedVariables false
set_option linter.unusedSimpArgs false
attribute [local go_sem ↓] Go.wp_at_zero Go.wp_at_succ

def setL (cs : Array Value) : Nat → List Value → Array Value
  | _, [] => cs
  | o, v :: r => setL (cs.setIfInBounds o v) (o + 1) r
theorem setL_size : ∀ (vs : List Value) (cs : Array Value) (o : Nat), (setL cs o vs).size = cs.size
  | [], cs, o => rfl
  | v :: r, cs, o => by rw [setL, setL_size r]; simp
theorem setL_at : ∀ (vs : List Value) (cs : Array Value) (o j : Nat), o + vs.length ≤ cs.size → (setL cs o vs)[j]? = if o ≤ j ∧ j < o + vs.length then vs[j - o]? else cs[j]?
  | [], cs, o, j, _ => by
    rw [if_neg (by simp only [List.length_nil]; omega)]
    rfl
  | v :: r, cs, o, j, h => by
    simp only [List.length_cons] at h ⊢
    rw [setL, setL_at r _ (o + 1) j (by rw [Array.size_setIfInBounds]; omega)]
    by_cases h1 : o + 1 ≤ j ∧ j < o + 1 + r.length
    · rw [if_pos h1, if_pos (by omega), show j - o = (j - (o + 1)) + 1 by omega, List.getElem?_cons_succ]
    · rw [if_neg h1]
      by_cases h2 : j = o
      · subst h2
        rw [if_pos (by omega), Nat.sub_self, Array.getElem?_setIfInBounds_self_of_lt (by omega)]
        rfl
      · rw [if_neg (by omega), Array.getElem?_setIfInBounds_ne (fun e => h2 e.symm)]
theorem heap_setCells {g : Nat} {t : TypeId} {fr : Nat × Nat} : ∀ (vs : List Value) (o : Nat) (w : World) (cs : Array Value), w.heap[g]? = some (.cells cs t fr) → (w.setCells g o vs).heap[g]? = some (.cells (setL cs o vs) t fr)
  | [], o, w, cs, h => h
  | v :: r, o, w, cs, h => heap_setCells r (o + 1) _ _ (heap_setCell_at h v)
theorem kept_setCells {g : Nat} : ∀ (vs : List Value) (o : Nat) (w : World), Kept (fun b => b = g) w (w.setCells g o vs)
  | [], o, w => Kept.refl _ w
  | v :: r, o, w => ((Kept.refl (fun b => b = g) w).setCell (p := ⟨g, o, none⟩) v (.inl rfl)).trans (kept_setCells r (o + 1) _) (fun _ _ h => h)
/-- A place made, and filled. -/
theorem ins_row {A : Array Value} {xs : List Value} {u : Value} {i n : Nat} (hx : xs.length = n) (hi : i < n) (hA : n + 1 ≤ A.size) (hp : ∀ j, j < i → A[j]? = xs[j]?) :
    (setL (setL A (i + 1) (xs.drop i)) i [u]).toList.take (n + 1) = xs.take i ++ u :: xs.drop i ∧ (setL (setL A i [u]) (i + 1) (xs.drop i)).toList.take (n + 1) = xs.take i ++ u :: xs.drop i := by
  have hd : (xs.drop i).length = n - i := by rw [List.length_drop, hx]
  have hR : ∀ j, j < n + 1 → (xs.take i ++ u :: xs.drop i)[j]? = if j < i then xs[j]? else if j = i then some u else xs[j - 1]? := by
    intro j hj
    have ht : (xs.take i).length = i := by rw [List.length_take, hx]; omega
    by_cases h1 : j < i
    · rw [if_pos h1, List.getElem?_append_left (by rw [ht]; exact h1), List.getElem?_take_of_lt h1]
    · rw [if_neg h1, List.getElem?_append_right (by rw [ht]; omega), ht]
      by_cases h2 : j = i
      · rw [if_pos h2, h2, Nat.sub_self]; rfl
      · rw [if_neg h2, show j - i = (j - i - 1) + 1 by omega, List.getElem?_cons_succ, List.getElem?_drop]
        congr 1
        omega
  have hl : (xs.take i ++ u :: xs.drop i).length = n + 1 := by
    rw [List.length_append, List.length_cons, hd, List.length_take, hx]; omega
  constructor
  · apply List.ext_getElem?
    intro j
    by_cases hj : j < n + 1
    · rw [List.getElem?_take_of_lt hj, hR j hj, Array.getElem?_toList, setL_at _ _ _ _ (by rw [setL_size]; simp only [List.length_cons, List.length_nil]; omega), setL_at _ _ _ _ (by rw [hd]; omega), hd]
      simp only [List.length_cons, List.length_nil]
      by_cases h1 : j < i
      · rw [if_neg (by omega), if_neg (by omega), if_pos h1]; exact hp j h1
      · by_cases h2 : j = i
        · subst h2; rw [if_pos (by omega), if_neg h1, if_pos rfl, Nat.sub_self]; rfl
        · rw [if_neg (by omega), if_pos (by omega), if_neg h1, if_neg h2, List.getElem?_drop]; congr 1; omega
    · rw [List.getElem?_eq_none (by rw [List.length_take]; omega), List.getElem?_eq_none (by omega)]
  · apply List.ext_getElem?
    intro j
    by_cases hj : j < n + 1
    · rw [List.getElem?_take_of_lt hj, hR j hj, Array.getElem?_toList, setL_at _ _ _ _ (by rw [setL_size, hd]; omega), hd, setL_at _ _ _ _ (by simp only [List.length_cons, List.length_nil]; omega)]
      simp only [List.length_cons, List.length_nil]
      by_cases h1 : j < i
      · rw [if_neg (by omega), if_neg (by omega), if_pos h1]; exact hp j h1
      · by_cases h2 : j = i
        · subst h2; rw [if_neg (by omega), if_pos (by omega), if_neg h1, if_pos rfl, Nat.sub_self]; rfl
        · rw [if_pos (by omega), if_neg h1, if_neg h2, List.getElem?_drop]; congr 1; omega
    · rw [List.getElem?_eq_none (by rw [List.length_take]; omega), List.getElem?_eq_none (by omega)]
theorem sliceLo (g o n lc i : Nat) (h1 : i ≤ n) (h2 : n ≤ lc) (h3 : i < lc) (J : Int) (hJ : J = (i : Int)) (W : World) : (Instr.slice 22 (.slice (some ⟨g, o, none⟩) n lc) (some (.int .i64 J)) none none).run Tryz.prog W = .ok (.slice (some ⟨g, o + i, none⟩) (n - i) (lc - i)) W := by
  subst hJ
  have e3 : (0 : Int) ≤ (i : Int) := by omega
  have e5 : ¬ lc - i = 0 := by omega
  have e7 : ¬ lc = i := by omega
  have e8 : (i : Int) ≤ (n : Int) := by omega
  simp only [Instr.slice, run_underlying Tryz.underlying22, Instr.sliceBounds, Instr.sliceBound, asIntOf, go_sem]
  simp [go_sem, e3, e5, e7, e8, h1, h2]
theorem sliceHi (g o n lc k : Nat) (h1 : k ≤ lc) (h0 : 0 < lc) (J : Int) (hJ : J = (k : Int)) (W : World) : (Instr.slice 22 (.slice (some ⟨g, o, none⟩) n lc) none (some (.int .i64 J)) none).run Tryz.prog W = .ok (.slice (some ⟨g, o, none⟩) k lc) W := by
  subst hJ
  have e3 : (0 : Int) ≤ (k : Int) := by omega
  have e5 : ¬ lc = 0 := by omega
  have e8 : (k : Int) ≤ (lc : Int) := by omega
  simp only [Instr.slice, run_underlying Tryz.underlying22, Instr.sliceBounds, Instr.sliceBound, asIntOf, go_sem]
  simp [go_sem, e3, e5, e8, h1]
theorem sliceSome (la : Option Addr) (n lc i : Nat) (h0 : la = none → n = 0 ∧ lc = 0) (h1 : i ≤ n) (h2 : n ≤ lc) (W : World) : ∃ v, (Instr.slice 22 (.slice la n lc) (some (.int .i64 (i : Int))) none none).run Tryz.prog W = .ok v W := by
  have e3 : (0 : Int) ≤ (i : Int) := by omega
  have e8 : (i : Int) ≤ (n : Int) := by omega
  cases la with
  | none =>
    obtain ⟨rfl, rfl⟩ := h0 rfl
    obtain rfl : i = 0 := by omega
    simp only [Instr.slice, run_underlying Tryz.underlying22, Instr.sliceBounds, Instr.sliceBound, asIntOf, go_sem]
    simp [go_sem]
  | some a =>
    by_cases e7 : lc = i
    · subst e7
      simp only [Instr.slice, run_underlying Tryz.underlying22, Instr.sliceBounds, Instr.sliceBound, asIntOf, go_sem]
      simp [go_sem, e3, e8, h1, h2]
    · have e5 : ¬ lc - i = 0 := by omega
      simp only [Instr.slice, run_underlying Tryz.underlying22, Instr.sliceBounds, Instr.sliceBound, asIntOf, go_sem]
      simp [go_sem, e3, e8, e5, e7, h1, h2]
theorem wpList_append_one {ops : Array Oper} {rest : List Oper} {o : Oper} {a : Act} {Q : Exit → Act → World → Prop} (w : World) (hgd : o.guard = none) (s x : Operand)
    (ho : o.op = .call { callee := .builtin .append, args := #[s, x], argTypes := #[22, 22] })
    (v : Value) (n : Nat) (xs : List Value) (hs : a.eval s = v) (hown : w.ownsRow 0 2 1 v n xs) (ad : Addr) (z : Int) (hx : a.eval x = .slice (some ad) 1 1) (hc : w.cell? ad = some (.int .i64 z))
    (h63 : n + 1 ≤ maxLen) (hb : (n + 1) * 8 ≤ 140737488355328)
    (h : ∀ g cap w', w'.ownsRow 0 2 1 (.slice (some ⟨g, 0, none⟩) (n + 1) cap) (n + 1) (xs ++ [.int .i64 z]) → w.grownBy w' v.ownBlock → ((Value.slice (some ⟨g, 0, none⟩) (n + 1) cap).ownBlock = v.ownBlock ∨ (Value.slice (some ⟨g, 0, none⟩) (n + 1) cap).ownBlock = some w.heap.size) → wpList Tryz.prog ops Q rest (a.put o.dst (.slice (some ⟨g, 0, none⟩) (n + 1) cap)) w') :
    wpList Tryz.prog ops Q (o :: rest) a w := by
  obtain ⟨i0, hi0, hz0, hz1, hz2⟩ := info_parts Tryz.infoX
  refine wpList_append_own_at w hgd s x 22 ho 0 2 i0 _ 1 8 Tryz.underlying22 hi0 hz0 hz1 hz2 rfl (by omega) v n xs hs hown ad 1 1 [.int .i64 z] hx rfl ?_ (by simp [Value.oneCell']) h63 hb (Nat.zero_le _) ?_
  · intro j u hu
    obtain ⟨hj, rfl⟩ := List.getElem?_eq_some_iff.1 hu
    obtain rfl : j = 0 := by simpa using hj
    simpa [Addr.add] using hc
  · intro v' w1 hown' hgrow _ hat
    obtain ⟨g', cap', e, _, _⟩ := hown'.form (Nat.succ_pos _)
    subst e
    exact h g' cap' w1 hown' hgrow hat
/-- What is left when x was put in at i. -/
def InsE (o : World) (R : List It) (zs : List Int) (i : Nat) (x : Int) (e : Ending) (w' : World) : Prop :=
  ∃ g cap, e = .returned (.slice (some ⟨g, 0, none⟩) (zs.length + 1) cap) ∧ St o (ownI 2 1 (.slice (some ⟨g, 0, none⟩) (zs.length + 1) cap) (zs.length + 1) (xC (zs.take i ++ x :: zs.drop i)) :: R) w'
set_option maxRecDepth 100000 in
set_option maxHeartbeats 4000000 in
theorem Insert_end {o w : World} {R : List It} {la : Option Addr} {lc gv : Nat} {zs : List Int} {x : Int} (h : St o (ownI 2 1 (.slice la zs.length lc) zs.length (xC zs) :: boxI gv #[.int .i64 x] 2 :: R) w) (hn : zs.length ≤ 60) :
    Calls Tryz.prog 134 #[.slice la zs.length lc, .int .i64 (zs.length : Int), .slice (some ⟨gv, 0, none⟩) 1 1] w (InsE o R zs zs.length x) := by
  have p0 : w.ownsRow 0 2 1 (.slice la zs.length lc) zs.length (xC zs) := h.get 0 rfl
  obtain ⟨la', lc', e, -, hlc, hnil⟩ := own_xin p0
  simp only [Value.slice.injEq, true_and] at e
  obtain ⟨rfl, rfl⟩ := e
  obtain ⟨v0, hs0⟩ := sliceSome la zs.length lc zs.length hnil (Nat.le_refl _) hlc w
  have cx : w.cell? ⟨gv, 0, none⟩ = some (.int .i64 x) := h.cell 1 rfl 0
  have HQ : Hid (∀ g cap w', w'.ownsRow 0 2 1 (.slice (some ⟨g, 0, none⟩) (zs.length + 1) cap) (zs.length + 1) (xC zs ++ [.int .i64 x]) → w.grownBy w' (Value.slice la zs.length lc).ownBlock → ((Value.slice (some ⟨g, 0, none⟩) (zs.length + 1) cap).ownBlock = (Value.slice la zs.length lc).ownBlock ∨ (Value.slice (some ⟨g, 0, none⟩) (zs.length + 1) cap).ownBlock = some w.heap.size) → InsE o R zs zs.length x (.returned (.slice (some ⟨g, 0, none⟩) (zs.length + 1) cap)) w') := hid (fun g cap w' h1 h2 h3 => by
    refine ⟨g, cap, rfl, ?_⟩
    have s1 := h.ownGrow 0 rfl h1 ((Kept.refl _ w).grown h2 (fun k e => .inl e)) (by
      rcases h3 with e | e
      · exact .inl e
      · exact .inr ⟨_, e, Nat.le_refl _⟩)
    rw [List.take_of_length_le (Nat.le_refl _), List.drop_of_length_le (Nat.le_refl _), xC_append]
    have s2 : St o (ownI 2 1 (.slice (some ⟨g, 0, none⟩) (zs.length + 1) cap) (zs.length + 1) (xC zs ++ [.int .i64 x]) :: boxI gv #[.int .i64 x] 2 :: R) w' := s1
    exact (s2.perm (List.Perm.swap _ _ _)).pop)
  generalize InsE o R zs zs.length x = Q at *
  have hb1 : Hid (zs.length + 1 ≤ maxLen) := hid (by unfold maxLen; omega)
  have hb2 : Hid ((zs.length + 1) * 8 ≤ 140737488355328) := hid (by omega)
  clear h hnil hlc hn
  generalize xC zs = xs at *
  generalize zs.length = n at *
  go_enter Tryz.func134, Tryz.ntmps134
  go_wp2_with (first | simp only [hs0] | (at_builtin; refine wpList_append_one _ rfl (.tmp 23) (.tmp 24) rfl _ _ _ rfl p0 ⟨gv, 0, none⟩ x rfl cx hb1.out hb2.out ?_; intro g' cap' w1 hown' hgrow hat))
  exact HQ.out _ _ _ hown' hgrow hat
end Go.Proofs.YtdfefjalamohjabGreatDoor
