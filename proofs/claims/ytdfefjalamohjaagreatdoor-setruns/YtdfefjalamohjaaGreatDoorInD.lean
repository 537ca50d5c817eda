/- The library's Insert of one value into a list of int64 of the call's own. The library's Insert of one value ahead of others: in place, or into a new row. The library's Insert of one value where there is no room; all roads in one. The library's BinarySearch and Delete on a list of int64 of the call's own. -/
import Derived.Test.YtdfefjalamohjaaGreatDoorXs
import Derived.Shelf.Spec.SlicesInsert
import Derived.Lib.AppendZerosOnto
import Derived.Laws.NewBlocks
import Derived.Deep.RegionLaw
import Derived.Test.YtdfefjalamohjaaGreatDoorSeD
import Derived.Test.YtdfefjalamohjaaGreatDoorShelf
import Derived.LoopN
namespace Go.Proofs.YtdfefjalamohjaaGreatDoor
open Go.RowKit
set_option linter.unusedVariables false
set_option linter.unusedSimpArgs false
attribute [local go_sem ↓] Go.wp_at_zero Go.wp_at_succ

def setL (cs : Array Value) : Nat → List Value → Array Value
  | _, [] => cs
  | o, v :: r => setL (cs.setIfInBounds o v) (o + 1) r
theorem setL_size : ∀ (vs : List Value) (cs : Array Value) (o : Nat), (setL cs o vs).size = cs.size
  | [], cs, o => rfl
  | v :: r, cs, o => by rw [setL, setL_size r]; simp
theorem setL_at : ∀ (vs : List Value) (cs : Array Value) (o j : Nat), o + vs.length ≤ cs.size → (setL cs o vs)[j]? = if o ≤ j ∧ j < o + vs.length then vs[j - o]? else cs[j]?
  | [], cs, o, j, _ => by
    rw [if_neg (by simp only [List.length_nil]; omega)]
    rfl
  | v :: r, cs, o, j, h => by
    simp only [List.length_cons] at h ⊢
    rw [setL, setL_at r _ (o + 1) j (by rw [Array.size_setIfInBounds]; omega)]
    by_cases h1 : o + 1 ≤ j ∧ j < o + 1 + r.length
    · rw [if_pos h1, if_pos (by omega), show j - o = (j - (o + 1)) + 1 by omega, List.getElem?_cons_succ]
    · rw [if_neg h1]
      by_cases h2 : j = o
      · subst h2
        rw [if_pos (by omega), Nat.sub_self, Array.getElem?_setIfInBounds_self_of_lt (by omega)]
        rfl
      · rw [if_neg (by omega), Array.getElem?_setIfInBounds_ne (fun e => h2 e.symm)]
theorem heap_setCells {g : Nat} {t : TypeId} {fr : Nat × Nat} : ∀ (vs : List Value) (o : Nat) (w : World) (cs : Array Value), w.heap[g]? = some (.cells cs t fr) → (w.setCells g o vs).heap[g]? = some (.cells (setL cs o vs) t fr)
  | [], o, w, cs, h => h
  | v :: r, o, w, cs, h => heap_setCells r (o + 1) _ _ (heap_setCell_at h v)
theorem kept_setCells {g : Nat} : ∀ (vs : List Value) (o : Nat) (w : World), Kept (fun b => b = g) w (w.setCells g o vs)
  | [], o, w => Kept.refl _ w
  | v :: r, o, w => ((Kept.refl (fun b => b = g) w).setCell (p := ⟨g, o, none⟩) v (.inl rfl)).trans (kept_setCells r (o + 1) _) (fun _ _ h => h)
/-- A place made, and filled. -/
theorem ins_row {A : Array Value} {xs : List Value} {u : Value} {i n : Nat} (hx : xs.length = n) (hi : i < n) (hA : n + 1 ≤ A.size) (hp : ∀ j, j < i → A[j]? = xs[j]?) :
    (setL (setL A (i + 1) (xs.drop i)) i [u]).toList.take (n + 1) = xs.take i ++ u :: xs.drop i ∧ (setL (setL A i [u]) (i + 1) (xs.drop i)).toList.take (n + 1) = xs.take i ++ u :: xs.drop i := by
  have hd : (xs.drop i).length = n - i := by rw [List.length_drop, hx]
  have hR : ∀ j, j < n + 1 → (xs.take i ++ u :: xs.drop i)[j]? = if j < i then xs[j]? else if j = i then some u else xs[j - 1]? := by
    intro j hj
    have ht : (xs.take i).length = i := by rw [List.length_take, hx]; omega
    by_cases h1 : j < i
    · rw [if_pos h1, List.getElem?_append_left (by rw [ht]; exact h1), List.getElem?_take_of_lt h1]
    · rw [if_neg h1, List.getElem?_append_right (by rw [ht]; omega), ht]
      by_cases h2 : j = i
      · rw [if_pos h2, h2, Nat.sub_self]; rfl
      · rw [if_neg h2, show j - i = (j - i - 1) + 1 by omega, List.getElem?_cons_succ, List.getElem?_drop]
        congr 1
        omega
  have hl : (xs.take i ++ u :: xs.drop i).length = n + 1 := by
    rw [List.length_append, List.length_cons, hd, List.length_take, hx]; omega
  constructor
  · apply List.ext_getElem?
    intro j
    by_cases hj : j < n + 1
    · rw [List.getElem?_take_of_lt hj, hR j hj, Array.getElem?_toList, setL_at _ _ _ _ (by rw [setL_size]; simp only [List.length_cons, List.length_nil]; omega), setL_at _ _ _ _ (by rw [hd]; omega), hd]
      simp only [List.length_cons, List.length_nil]
      by_cases h1 : j < i
      · rw [if_neg (by omega), if_neg (by omega), if_pos h1]; exact hp j h1
      · by_cases h2 : j = i
        · subst h2; rw [if_pos (by omega), if_neg h1, if_pos rfl, Nat.sub_self]; rfl
        · rw [if_neg (by omega), if_pos (by omega), if_neg h1, if_neg h2, List.getElem?_drop]; congr 1; omega
    · rw [List.getElem?_eq_none (by rw [List.length_take]; omega), List.getElem?_eq_none (by omega)]
  · apply List.ext_getElem?
    intro j
    by_cases hj : j < n + 1
    · rw [List.getElem?_take_of_lt hj, hR j hj, Array.getElem?_toList, setL_at _ _ _ _ (by rw [setL_size, hd]; omega), hd, setL_at _ _ _ _ (by simp only [List.length_cons, List.length_nil]; omega)]
      simp only [List.length_cons, List.length_nil]
      by_cases h1 : j < i
      · rw [if_neg (by omega), if_neg (by omega), if_pos h1]; exact hp j h1
      · by_cases h2 : j = i
        · subst h2; rw [if_neg (by omega), if_pos (by omega), if_neg h1, if_pos rfl, Nat.sub_self]; rfl
        · rw [if_pos (by omega), if_neg h1, if_neg h2, List.getElem?_drop]; congr 1; omega
    · rw [List.getElem?_eq_none (by rw [List.length_take]; omega), List.getElem?_eq_none (by omega)]
theorem sliceLo (g o n lc i : Nat) (h1 : i ≤ n) (h2 : n ≤ lc) (h3 : i < lc) (J : Int) (hJ : J = (i : Int)) (W : World) : (Instr.slice 24 (.slice (some ⟨g, o, none⟩) n lc) (some (.int .i64 J)) none none).run Tryz.prog W = .ok (.slice (some ⟨g, o + i, none⟩) (n - i) (lc - i)) W := by
  subst hJ
  have e3 : (0 : Int) ≤ (i : Int) := by omega
  have e5 : ¬ lc - i = 0 := by omega
  have e7 : ¬ lc = i := by omega
  have e8 : (i : Int) ≤ (n : Int) := by omega
  simp only [Instr.slice, run_underlying Tryz.underlying24, Instr.sliceBounds, Instr.sliceBound, asIntOf, go_sem]
  simp [go_sem, e3, e5, e7, e8, h1, h2]
theorem sliceHi (g o n lc k : Nat) (h1 : k ≤ lc) (h0 : 0 < lc) (J : Int) (hJ : J = (k : Int)) (W : World) : (Instr.slice 24 (.slice (some ⟨g, o, none⟩) n lc) none (some (.int .i64 J)) none).run Tryz.prog W = .ok (.slice (some ⟨g, o, none⟩) k lc) W := by
  subst hJ
  have e3 : (0 : Int) ≤ (k : Int) := by omega
  have e5 : ¬ lc = 0 := by omega
  have e8 : (k : Int) ≤ (lc : Int) := by omega
  simp only [Instr.slice, run_underlying Tryz.underlying24, Instr.sliceBounds, Instr.sliceBound, asIntOf, go_sem]
  simp [go_sem, e3, e5, e8, h1]
theorem sliceSome (la : Option Addr) (n lc i : Nat) (h0 : la = none → n = 0 ∧ lc = 0) (h1 : i ≤ n) (h2 : n ≤ lc) (W : World) : ∃ v, (Instr.slice 24 (.slice la n lc) (some (.int .i64 (i : Int))) none none).run Tryz.prog W = .ok v W := by
  have e3 : (0 : Int) ≤ (i : Int) := by omega
  have e8 : (i : Int) ≤ (n : Int) := by omega
  cases la with
  | none =>
    obtain ⟨rfl, rfl⟩ := h0 rfl
    obtain rfl : i = 0 := by omega
    simp only [Instr.slice, run_underlying Tryz.underlying24, Instr.sliceBounds, Instr.sliceBound, asIntOf, go_sem]
    simp [go_sem]
  | some a =>
    by_cases e7 : lc = i
    · subst e7
      simp only [Instr.slice, run_underlying Tryz.underlying24, Instr.sliceBounds, Instr.sliceBound, asIntOf, go_sem]
      simp [go_sem, e3, e8, h1, h2]
    · have e5 : ¬ lc - i = 0 := by omega
      simp only [Instr.slice, run_underlying Tryz.underlying24, Instr.sliceBounds, Instr.sliceBound, asIntOf, go_sem]
      simp [go_sem, e3, e8, e5, e7, h1, h2]
theorem wpList_append_one {ops : Array Oper} {rest : List Oper} {o : Oper} {a : Act} {Q : Exit → Act → World → Prop} (w : World) (hgd : o.guard = none) (s x : Operand)
    (ho : o.op = .call { callee := .builtin .append, args := #[s, x], argTypes := #[24, 24] })
    (v : Value) (n : Nat) (xs : List Value) (hs : a.eval s = v) (hown : w.ownsRow 0 2 1 v n xs) (ad : Addr) (z : Int) (hx : a.eval x = .slice (some ad) 1 1) (hc : w.cell? ad = some (.int .i64 z))
    (h63 : n + 1 ≤ maxLen) (hb : (n + 1) * 8 ≤ 140737488355328)
    (h : ∀ g cap w', w'.ownsRow 0 2 1 (.slice (some ⟨g, 0, none⟩) (n + 1) cap) (n + 1) (xs ++ [.int .i64 z]) → w.grownBy w' v.ownBlock → ((Value.slice (some ⟨g, 0, none⟩) (n + 1) cap).ownBlock = v.ownBlock ∨ (Value.slice (some ⟨g, 0, none⟩) (n + 1) cap).ownBlock = some w.heap.size) → wpList Tryz.prog ops Q rest (a.put o.dst (.slice (some ⟨g, 0, none⟩) (n + 1) cap)) w') :
    wpList Tryz.prog ops Q (o :: rest) a w := by
  obtain ⟨i0, hi0, hz0, hz1, hz2⟩ := info_parts Tryz.infoX
  refine wpList_append_own_at w hgd s x 24 ho 0 2 i0 _ 1 8 Tryz.underlying24 hi0 hz0 hz1 hz2 rfl (by omega) v n xs hs hown ad 1 1 [.int .i64 z] hx rfl ?_ (by simp [Value.oneCell']) h63 hb (Nat.zero_le _) ?_
  · intro j u hu
    obtain ⟨hj, rfl⟩ := List.getElem?_eq_some_iff.1 hu
    obtain rfl : j = 0 := by simpa using hj
    simpa [Addr.add] using hc
  · intro v' w1 hown' hgrow _ hat
    obtain ⟨g', cap', e, _, _⟩ := hown'.form (Nat.succ_pos _)
    subst e
    exact h g' cap' w1 hown' hgrow hat
/-- What is left when x was put in at i. -/
def InsE (o : World) (R : List It) (zs : List Int) (i : Nat) (x : Int) (e : Ending) (w' : World) : Prop :=
  ∃ g cap, e = .returned (.slice (some ⟨g, 0, none⟩) (zs.length + 1) cap) ∧ St o (ownI 2 1 (.slice (some ⟨g, 0, none⟩) (zs.length + 1) cap) (zs.length + 1) (xC (zs.take i ++ x :: zs.drop i)) :: R) w'
set_option maxRecDepth 100000 in
set_option maxHeartbeats 4000000 in
theorem Insert_end {o w : World} {R : List It} {la : Option Addr} {lc gv : Nat} {zs : List Int} {x : Int} (h : St o (ownI 2 1 (.slice la zs.length lc) zs.length (xC zs) :: boxI gv #[.int .i64 x] 2 :: R) w) (hn : zs.length ≤ 60) :
    Calls Tryz.prog 79 #[.slice la zs.length lc, .int .i64 (zs.length : Int), .slice (some ⟨gv, 0, none⟩) 1 1] w (InsE o R zs zs.length x) := by
  have p0 : w.ownsRow 0 2 1 (.slice la zs.length lc) zs.length (xC zs) := h.get 0 rfl
  obtain ⟨la', lc', e, -, hlc, hnil⟩ := own_xin p0
  simp only [Value.slice.injEq, true_and] at e
  obtain ⟨rfl, rfl⟩ := e
  obtain ⟨v0, hs0⟩ := sliceSome la zs.length lc zs.length hnil (Nat.le_refl _) hlc w
  have cx : w.cell? ⟨gv, 0, none⟩ = some (.int .i64 x) := h.cell 1 rfl 0
  have HQ : Hid (∀ g cap w', w'.ownsRow 0 2 1 (.slice (some ⟨g, 0, none⟩) (zs.length + 1) cap) (zs.length + 1) (xC zs ++ [.int .i64 x]) → w.grownBy w' (Value.slice la zs.length lc).ownBlock → ((Value.slice (some ⟨g, 0, none⟩) (zs.length + 1) cap).ownBlock = (Value.slice la zs.length lc).ownBlock ∨ (Value.slice (some ⟨g, 0, none⟩) (zs.length + 1) cap).ownBlock = some w.heap.size) → InsE o R zs zs.length x (.returned (.slice (some ⟨g, 0, none⟩) (zs.length + 1) cap)) w') := hid (fun g cap w' h1 h2 h3 => by
    refine ⟨g, cap, rfl, ?_⟩
    have s1 := h.ownGrow 0 rfl h1 ((Kept.refl _ w).grown h2 (fun k e => .inl e)) (by
      rcases h3 with e | e
      · exact .inl e
      · exact .inr ⟨_, e, Nat.le_refl _⟩)
    rw [List.take_of_length_le (Nat.le_refl _), List.drop_of_length_le (Nat.le_refl _), xC_append]
    have s2 : St o (ownI 2 1 (.slice (some ⟨g, 0, none⟩) (zs.length + 1) cap) (zs.length + 1) (xC zs ++ [.int .i64 x]) :: boxI gv #[.int .i64 x] 2 :: R) w' := s1
    exact (s2.perm (List.Perm.swap _ _ _)).pop)
  generalize InsE o R zs zs.length x = Q at *
  have hb1 : Hid (zs.length + 1 ≤ maxLen) := hid (by unfold maxLen; omega)
  have hb2 : Hid ((zs.length + 1) * 8 ≤ 140737488355328) := hid (by omega)
  clear h hnil hlc hn
  generalize xC zs = xs at *
  generalize zs.length = n at *
  go_enter Tryz.func79, Tryz.ntmps79
  go_wp2_with (first | simp only [hs0] | (at_builtin; refine wpList_append_one _ rfl (.tmp 23) (.tmp 24) rfl _ _ _ rfl p0 ⟨gv, 0, none⟩ x rfl cx hb1.out hb2.out ?_; intro g' cap' w1 hown' hgrow hat))
  exact HQ.out _ _ _ hown' hgrow hat
end Go.Proofs.YtdfefjalamohjaaGreatDoor

namespace Go.Proofs.YtdfefjalamohjaaGreatDoor
open Go.RowKit
set_option linter.unusedVariables false
set_option linter.unusedSimpArgs false
attribute [local go_sem ↓] Go.wp_at_zero Go.wp_at_succ

theorem Tryz.sizeX : (Tryz.prog.info? 2).map (·.size) = some 1 := by kernel_rfl
theorem own_block {w : World} {g n cap : Nat} {xs : List Value} (h : w.ownsRow 0 2 1 (.slice (some ⟨g, 0, none⟩) n cap) n xs) : ∃ cur, w.heap[g]? = some (.cells cur 2 (0, 0)) ∧ n ≤ cap ∧ cap ≤ maxLen ∧ cur.size = cap ∧ cur.toList.take n = xs := by
  rcases h.2 with ⟨hv, _⟩ | ⟨g', cap', cur, hv, hb, hg, hn, hc, hs, ht⟩
  · cases hv
  · simp only [Value.slice.injEq, Option.some.injEq, Addr.mk.injEq, true_and, and_true] at hv
    obtain ⟨rfl, rfl⟩ := hv
    exact ⟨cur, hg, hn, hc, by simpa using hs, by simpa using ht⟩
theorem block_own {w : World} {g n cap : Nat} {xs : List Value} {cur : Array Value} (hg : w.heap[g]? = some (.cells cur 2 (0, 0))) (hn : n ≤ cap) (hc : cap ≤ maxLen) (hs : cur.size = cap) (ht : cur.toList.take n = xs) (hl : xs.length = n) : w.ownsRow 0 2 1 (.slice (some ⟨g, 0, none⟩) n cap) n xs :=
  ⟨by rw [hl, Nat.mul_one], .inr ⟨g, cap, cur, rfl, Nat.zero_le _, hg, hn, hc, by rw [hs, Nat.mul_one], by rw [Nat.mul_one]; exact ht⟩⟩
/-- Values laid over a part of a block, out of another place. -/
theorem copyTo {w : World} {g : Nat} {cur : Array Value} (hg : w.heap[g]? = some (.cells cur 2 (0, 0))) (p : Nat) (cs : List Value) (src : Addr) (dl sl : Nat) (hl : cs.length = Nat.min sl dl) (hfit : p + cs.length ≤ cur.size)
    (hsrc : ∀ j v, cs[j]? = some v → w.cell? (src.add j) = some v) (hone : ∀ v ∈ cs, v.oneCell' = true) (ty : TypeId) (dc sc : Nat) :
    (Builtin.copy_ #[24, 24] ty #[.slice (some ⟨g, p, none⟩) dl dc, .slice (some src) sl sc]).run Tryz.prog w = .ok (goInt cs.length) (w.setCells g p cs) := by
  refine run_copy_cells w _ _ ty 2 g p dl dc src sl sc cs Tryz.underlying24 Tryz.sizeX hl hsrc (fun j hj => ?_) (fun j hj => frozen_of_heap hg) hone
  rw [cell_of_heap hg, Array.getElem?_eq_getElem (show p + j < cur.size by omega)]
  rfl
/-- Two blocks have no byte in common. -/
theorem overlaps_no {w : World} {a b : Nat} {ca cb : Array Value} (ha : w.heap[a]? = some (.cells ca 2 (0, 0))) (hb : w.heap[b]? = some (.cells cb 2 (0, 0))) (hne : a ≠ b) (hcb : cb.size ≠ 0) (pb lb kb : Nat) :
    (callFunc 90 #[.slice (some ⟨a, 0, none⟩) 1 1, .slice (some ⟨b, pb, none⟩) lb kb]).run Tryz.prog w = .ok (.value (.bool false)) w := by
  have h1 := run_callFunc_extern (P := Tryz.prog) Tryz.func90 (by kernel_rfl) (by kernel_rfl) (by kernel_rfl) (e := Extern.SlicesOverlaps.overlaps #[24, 24] #[4]) (by kernel_rfl) #[.slice (some ⟨a, 0, none⟩) 1 1, .slice (some ⟨b, pb, none⟩) lb kb] w
  have h2 := Lib.run_overlaps_apart (P := Tryz.prog) w 24 4 2 Tryz.underlying24 1 Tryz.sizeOf2 ⟨a, 0, none⟩ ⟨b, pb, none⟩ 1 1 lb kb hne 2 2 ca.size cb.size (by simp [World.shape?, ha]) (by simp [World.shape?, hb]) hcb (frozen_of_heap ha) (frozen_of_heap ha)
  rw [h1, h2]
  rfl
theorem one_src {w : World} {gv : Nat} {x : Value} {t : TypeId} (h : w.heap[gv]? = some (.cells #[x] t (0, 0))) : ∀ j v, [x][j]? = some v → w.cell? ((⟨gv, 0, none⟩ : Addr).add j) = some v := fun j v hj => by
  obtain ⟨hj0, rfl⟩ := List.getElem?_eq_some_iff.1 hj
  obtain rfl : j = 0 := by simpa using hj0
  rw [Addr.add_lit]
  exact cell_of_heap h
theorem tail_src {w : World} {g n i : Nat} {cur : Array Value} {xs : List Value} (hg : w.heap[g]? = some (.cells cur 2 (0, 0))) (ht : cur.toList.take n = xs) (hx : xs.length = n) : ∀ j v, (xs.drop i)[j]? = some v → w.cell? ((⟨g, i, none⟩ : Addr).add j) = some v := fun j v hj => by
  have hj1 := (List.getElem?_eq_some_iff.1 hj).1
  rw [List.length_drop, hx] at hj1
  rw [List.getElem?_drop, ← ht, List.getElem?_take_of_lt (by omega), Array.getElem?_toList] at hj
  rw [Addr.add_lit, cell_of_heap hg]
  exact hj
set_option maxRecDepth 100000 in
set_option maxHeartbeats 4000000 in
theorem Insert_shift {o w : World} {R : List It} {g cap gv i : Nat} {zs : List Int} {x : Int} (h : St o (ownI 2 1 (.slice (some ⟨g, 0, none⟩) zs.length cap) zs.length (xC zs) :: boxI gv #[.int .i64 x] 2 :: R) w) (hn : zs.length ≤ 60) (hi : i < zs.length) (hroom : zs.length + 1 ≤ cap) :
    Calls Tryz.prog 79 #[.slice (some ⟨g, 0, none⟩) zs.length cap, .int .i64 (i : Int), .slice (some ⟨gv, 0, none⟩) 1 1] w (InsE o R zs i x) := by
  have p0 : w.ownsRow 0 2 1 (.slice (some ⟨g, 0, none⟩) zs.length cap) zs.length (xC zs) := h.get 0 rfl
  obtain ⟨cur, hg, hn1, hcm, hcs, hct⟩ := own_block p0
  have hgv : w.heap[gv]? = some (.cells #[.int .i64 x] 2 (0, 0)) := h.get 1 rfl
  have hne : gv ≠ g := fun e => h.ne 0 1 rfl rfl (by decide) (a := g) (b := gv) (by simp [ownI, Value.ownBlock]) (by simp [boxI]) e.symm
  have hxl := xC_length zs
  have hdl : ((xC zs).drop i).length = zs.length - i := by rw [List.length_drop, hxl]
  have hov := overlaps_no hgv hg hne (by omega) (i + 1)
  have hcp1 := fun ty dc sc => copyTo (w := w.drew) hg (i + 1) ((xC zs).drop i) ⟨g, i, none⟩ (zs.length + 1 - (i + 1)) (zs.length + 1 - i) (by rw [hdl]; simp only [Nat.min_def]; split <;> omega) (by rw [hdl]; omega) (tail_src (w := w.drew) hg hct hxl) (fun v hv => xC_one zs v (List.mem_of_mem_drop hv)) ty dc sc
  obtain ⟨W1, hW1⟩ : ∃ W1, W1 = w.drew.setCells g (i + 1) ((xC zs).drop i) := ⟨_, rfl⟩
  have hg1 : W1.heap[g]? = some (.cells (setL cur (i + 1) ((xC zs).drop i)) 2 (0, 0)) := by rw [hW1]; exact heap_setCells _ _ _ _ hg
  have hk1 : Kept (fun b => b = g) w W1 := by rw [hW1]; exact ((Kept.refl _ w).drew).trans (kept_setCells _ _ _) (fun _ _ h => h)
  have hgv1 : W1.heap[gv]? = some (.cells #[.int .i64 x] 2 (0, 0)) := (hk1.block gv (lt_of_heap hgv) hne).trans hgv
  have hcp2 := fun ty dc => copyTo hg1 i [.int .i64 x] ⟨gv, 0, none⟩ (zs.length + 1 - i) 1 (by simp only [List.length_cons, List.length_nil, Nat.min_def]; split <;> omega) (by rw [setL_size]; simp only [List.length_cons, List.length_nil]; omega) (one_src hgv1) (fun v hv => by rw [List.mem_singleton.1 hv]; rfl) ty dc 1
  rw [← hW1] at hcp1
  have hQ : Hid (InsE o R zs i x (.returned (.slice (some ⟨g, 0, none⟩) (zs.length + 1) cap)) (W1.setCells g i [.int .i64 x])) := hid (by
    refine ⟨g, cap, rfl, ?_⟩
    have hg2 := heap_setCells [.int .i64 x] i W1 _ hg1
    have hir := (ins_row (A := cur) (u := .int .i64 x) hxl hi (by omega) (fun j hj => by rw [← Array.getElem?_toList, ← hct, List.getElem?_take_of_lt (by omega)])).1
    have hrow := block_own (n := zs.length + 1) hg2 hroom hcm (by rw [setL_size, setL_size]; exact hcs) hir (by simp [hxl]; omega)
    have s1 := h.ownGrow 0 rfl hrow ((hk1.trans (kept_setCells _ _ _) (fun _ _ h => h)).mono (fun b _ hb => by simp [Value.ownBlock, hb])) (.inl rfl)
    have e1 : xC (zs.take i ++ x :: zs.drop i) = (xC zs).take i ++ .int .i64 x :: (xC zs).drop i := by simp [xC]
    rw [e1]
    exact (St.perm (its' := boxI gv #[.int .i64 x] 2 :: ownI 2 1 (.slice (some ⟨g, 0, none⟩) (zs.length + 1) cap) (zs.length + 1) ((xC zs).take i ++ .int .i64 x :: (xC zs).drop i) :: R) s1 (List.Perm.swap _ _ _)).pop)
  generalize InsE o R zs i x = Q at *
  have hl1 := sliceLo g 0 zs.length cap i (by omega) (by omega) (by omega) (i : Int) rfl
  have hl2 := sliceHi g 0 zs.length cap (zs.length + 1) hroom (by omega) ((zs.length : Int) + 1) (by push_cast; rfl)
  have hl3 := sliceLo g 0 (zs.length + 1) cap (i + 1) (by omega) (by omega) (by omega) ((i : Int) + 1) (by push_cast; rfl)
  have hl4 := sliceLo g 0 (zs.length + 1) cap i (by omega) (by omega) (by omega) (i : Int) rfl
  simp only [Nat.zero_add] at hl1 hl2 hl3 hl4
  have t1 : ((i : Int) == (zs.length : Int)) = false := by simp; omega
  have t2 : decide ((cap : Int) < (zs.length : Int) + 1) = false := by simp; omega
  have u1 : (zs.length : Int) + 1 ≤ 61 := by omega
  have u2 : (0 : Int) ≤ (zs.length : Int) := by omega
  have u3 : (i : Int) + 1 ≤ 61 := by omega
  have u4 : (0 : Int) ≤ (i : Int) := by omega
  have v1 : (0 : Int) ≤ (i : Int) + 1 := by omega
  have v2 : ((i : Int) + 1).toNat = i + 1 := by omega
  have v3 : ¬ cap = i + 1 := by omega
  have v4 : i ≤ zs.length := by omega
  have v5 : ¬ cap = i := by omega
  have v6 : (i : Int) ≤ (zs.length : Int) + 1 := by omega
  have v7 : (i : Int) ≤ (zs.length : Int) := by omega
  have v8 : i ≤ zs.length + 1 := by omega
  have v9 : IntKind.i64.wrap ((i : Int) + 1) = (i : Int) + 1 := by rw [IntKind.wrap_i64]; omega
  have v10 : (i : Int) + 1 ≤ (zs.length : Int) + 1 := by omega
  have hmx : (Tryz.prog).follows .mixedOrders = true := by kernel_rfl
  clear h p0 hct hcs hgv hdl hxl hg hg1 hk1 hgv1 hn1 hcm hn hroom hi
  clear hW1
  generalize (xC zs).drop i = dd at *
  generalize hnn : zs.length = n at *
  clear hnn
  go_enter Tryz.func79, Tryz.ntmps79
  go_wp2_with (simp only [hl1, hl2, hl3, hl4, hov])
  go_region_law (refine step_copy_runI rfl (.tmp 73) (.tmp 76) 24 24 rfl (.slice (some ⟨g, i + 1, none⟩) (n + 1 - (i + 1)) (cap - (i + 1))) (.slice (some ⟨g, i, none⟩) (n + 1 - i) (cap - i)) (by simp [Act.eval, Act.put]) (by simp [Act.eval, Act.put]) (hcp1 _ _ _) ?_)
  go_wp2_with (first | simp only [hl4] | (at_builtin; refine wpList_copy_runI _ rfl (.tmp 80) (.tmp 81) 24 24 rfl _ _ rfl rfl (hcp2 _ _) ?_))
  exact hQ.out
end Go.Proofs.YtdfefjalamohjaaGreatDoor

namespace Go.Proofs.YtdfefjalamohjaaGreatDoor
open Go.RowKit
set_option linter.unusedVariables false
set_option linter.unusedSimpArgs false
attribute [local go_sem ↓] Go.wp_at_zero Go.wp_at_succ

/-- A list cut, with so many zeros behind it: a new row. -/
theorem append_zeros {w : World} {g n cap i k : Nat} {cur : Array Value} {xs : List Value} (hg : w.heap[g]? = some (.cells cur 2 (0, 0))) (ht : cur.toList.take n = xs) (hx : xs.length = n) (hi : i ≤ n) (hk : 0 < k) (hgrow : cap < i + k) (hsm : i + k ≤ 1000) (J : Int) (hJ : J = (k : Int)) :
    ∃ C A, (∀ ty, (Builtin.append_ #[24, 3] ty #[.slice (some ⟨g, 0, none⟩) i cap, .int .i64 J]).run Tryz.prog w = .ok (.slice (some ⟨w.heap.size, 0, none⟩) (i + k) C) (w.drew.alloc (.cells A 2))) ∧ i + k ≤ C ∧ C ≤ maxLen ∧ A.size = C ∧ ∀ j, j < i → A[j]? = xs[j]? := by
  obtain ⟨i0, hi0, hz0, hz1, hz2⟩ := info_parts Tryz.infoX
  subst hJ
  have htl : (xs.take i).length = i := by rw [List.length_take, hx]; omega
  have hold : (Builtin.firstCells i0.size i (.slice (some ⟨g, 0, none⟩) i cap)).run Tryz.prog w.drew = .ok (xs.take i).toArray w.drew := by
    rw [hz1]
    refine run_firstCells_some w.drew 1 i ⟨g, 0, none⟩ i cap (xs.take i) (by rw [htl]; omega) (fun j v hj => ?_)
    have hj1 := (List.getElem?_eq_some_iff.1 hj).1
    rw [htl] at hj1
    rw [List.getElem?_take_of_lt hj1, ← ht, List.getElem?_take_of_lt (by omega), Array.getElem?_toList] at hj
    rw [Addr.add_lit, show w.drew.cell? _ = _ from cell_of_heap hg, Nat.zero_add]
    exact hj
  have hfit : Builtin.nextslicecap (i + k) cap * i0.bytes ≤ 281474976710656 := by rw [hz2]; exact growslice_fits hgrow (by omega)
  refine ⟨_, _, fun ty => Lib.run_append_grow_zeros w 24 3 ty 2 i0 _ .i64 .i64 Tryz.underlying24 Tryz.underlying3 hi0 hz0 (some ⟨g, 0, none⟩) i cap (xs.take i) hold k hk (by omega) hgrow (by omega) (by rw [hz2]; omega) hfit, ?_, ?_, ?_, ?_⟩
  · exact grownCap_ge w _ _ _
  · exact grownCap_le_maxLen w _ _ _ (by unfold maxLen; omega)
  · have hge := grownCap_ge w (i + k) cap 2
    simp [Builtin.zeroCells, Value.cells, htl]
    omega
  · intro j hj
    rw [Array.getElem?_append_left (by simp [htl]; omega), Array.getElem?_append_left (by simp [htl]; omega)]
    rw [List.getElem?_toArray, List.getElem?_take_of_lt hj]
set_option maxRecDepth 100000 in
set_option maxHeartbeats 4000000 in
theorem Insert_grow {o w : World} {R : List It} {g cap gv i : Nat} {zs : List Int} {x : Int} (h : St o (ownI 2 1 (.slice (some ⟨g, 0, none⟩) zs.length cap) zs.length (xC zs) :: boxI gv #[.int .i64 x] 2 :: R) w) (hn : zs.length ≤ 60) (hi : i < zs.length) (hroom : cap < zs.length + 1) :
    Calls Tryz.prog 79 #[.slice (some ⟨g, 0, none⟩) zs.length cap, .int .i64 (i : Int), .slice (some ⟨gv, 0, none⟩) 1 1] w (InsE o R zs i x) := by
  have p0 : w.ownsRow 0 2 1 (.slice (some ⟨g, 0, none⟩) zs.length cap) zs.length (xC zs) := h.get 0 rfl
  obtain ⟨cur, hg, hn1, hcm, hcs, hct⟩ := own_block p0
  have hgv : w.heap[gv]? = some (.cells #[.int .i64 x] 2 (0, 0)) := h.get 1 rfl
  have hxl := xC_length zs
  have hdl : ((xC zs).drop i).length = zs.length - i := by rw [List.length_drop, hxl]
  obtain ⟨C, A, hap, hC1, hC2, hA, hAj⟩ := append_zeros (cap := cap) (i := i) (k := zs.length + 1 - i) hg hct hxl (by omega) (by omega) (by omega) (by omega) ((zs.length : Int) + 1 - (i : Int)) (by omega)
  rw [show i + (zs.length + 1 - i) = zs.length + 1 by omega] at hap hC1
  obtain ⟨W0, hW0⟩ : ∃ W0, W0 = w.drew.alloc (.cells A 2) := ⟨_, rfl⟩
  rw [← hW0] at hap
  have hG0 : W0.heap[w.heap.size]? = some (.cells A 2 (0, 0)) := by rw [hW0]; exact heap_alloc_new w.drew _
  have hk0 : Kept (fun _ => False) w W0 := by rw [hW0]; exact (kept_drew w).alloc _
  have hg0 : W0.heap[g]? = some (.cells cur 2 (0, 0)) := (hk0.block g (lt_of_heap hg) (fun f => f)).trans hg
  have hgv0 : W0.heap[gv]? = some (.cells #[.int .i64 x] 2 (0, 0)) := (hk0.block gv (lt_of_heap hgv) (fun f => f)).trans hgv
  have hcp1 := fun ty dc => copyTo hG0 i [.int .i64 x] ⟨gv, 0, none⟩ (zs.length + 1 - i) 1 (by simp only [List.length_cons, List.length_nil, Nat.min_def]; split <;> omega) (by simp only [List.length_cons, List.length_nil]; omega) (one_src hgv0) (fun v hv => by rw [List.mem_singleton.1 hv]; rfl) ty dc 1
  obtain ⟨W1, hW1⟩ : ∃ W1, W1 = W0.setCells w.heap.size i [.int .i64 x] := ⟨_, rfl⟩
  rw [← hW1] at hcp1
  have hG1 : W1.heap[w.heap.size]? = some (.cells (setL A i [.int .i64 x]) 2 (0, 0)) := by rw [hW1]; exact heap_setCells _ _ _ _ hG0
  have hk1 : Kept (fun b => b = w.heap.size) W0 W1 := by rw [hW1]; exact kept_setCells _ _ _
  have hg1 : W1.heap[g]? = some (.cells cur 2 (0, 0)) := (hk1.block g (lt_of_heap hg0) (fun e => by have := lt_of_heap hg; omega)).trans hg0
  have hcp2 := fun ty dc sc => copyTo (w := W1.drew) hG1 (i + 1) ((xC zs).drop i) ⟨g, i, none⟩ (zs.length + 1 - (i + 1)) (zs.length - i) (by rw [hdl]; simp only [Nat.min_def]; split <;> omega) (by rw [hdl, setL_size]; omega) (tail_src (w := W1.drew) hg1 hct hxl) (fun v hv => xC_one zs v (List.mem_of_mem_drop hv)) ty dc sc
  have hQ : Hid (InsE o R zs i x (.returned (.slice (some ⟨w.heap.size, 0, none⟩) (zs.length + 1) C)) (W1.drew.setCells w.heap.size (i + 1) ((xC zs).drop i))) := hid (by
    refine ⟨w.heap.size, C, rfl, ?_⟩
    have hg2 := heap_setCells ((xC zs).drop i) (i + 1) W1.drew _ hG1
    have hir := (ins_row (A := A) (u := .int .i64 x) hxl hi (by omega) hAj).2
    have hrow := block_own (n := zs.length + 1) hg2 hC1 hC2 (by rw [setL_size, setL_size]; exact hA) hir (by simp [hxl]; omega)
    have hkk : Kept (fun _ => False) w (W1.drew.setCells w.heap.size (i + 1) ((xC zs).drop i)) :=
      (hk0.trans hk1.drew (fun k hk e => by omega)).trans (kept_setCells _ _ _) (fun k hk e => by omega)
    have e1 : xC (zs.take i ++ x :: zs.drop i) = (xC zs).take i ++ .int .i64 x :: (xC zs).drop i := by simp [xC]
    rw [e1]
    exact h.pop.pop.push _ hkk hrow (own_nodup (.slice (some ⟨w.heap.size, 0, none⟩) (zs.length + 1) C)) (by simp [ownI, Value.ownBlock]))
  generalize InsE o R zs i x = Q at *
  have hl1 := sliceLo g 0 zs.length cap i (by omega) (by omega) (by omega) (i : Int) rfl
  have hl2 := sliceHi g 0 zs.length cap i (by omega) (by omega) (i : Int) rfl
  have hl4 := sliceLo w.heap.size 0 (zs.length + 1) C i (by omega) (by omega) (by omega) (i : Int) rfl
  simp only [Nat.zero_add] at hl1 hl2 hl4
  have t1 : ((i : Int) == (zs.length : Int)) = false := by simp; omega
  have t2 : decide ((cap : Int) < (zs.length : Int) + 1) = true := by simp; omega
  have u1 : (zs.length : Int) + 1 ≤ 61 := by omega
  have u2 : (0 : Int) ≤ (zs.length : Int) := by omega
  have u4 : (0 : Int) ≤ (i : Int) := by omega
  have v1 : (0 : Int) ≤ (i : Int) + 1 := by omega
  have v2 : ((i : Int) + 1).toNat = i + 1 := by omega
  have v3 : ¬ C = i + 1 := by omega
  have v4 : i ≤ zs.length := by omega
  have v5 : ¬ C = i := by omega
  have v5' : ¬ cap = i := by omega
  have v7 : (i : Int) ≤ (zs.length : Int) := by omega
  have v9 : IntKind.i64.wrap ((i : Int) + 1) = (i : Int) + 1 := by rw [IntKind.wrap_i64]; omega
  have v10 : (i : Int) + 1 ≤ (zs.length : Int) + 1 := by omega
  have v11 : -9223372036854775808 ≤ (zs.length : Int) + 1 - (i : Int) := by omega
  have v12 : (zs.length : Int) + 1 - (i : Int) ≤ 9223372036854775807 := by omega
  have hmx : (Tryz.prog).follows .mixedOrders = true := by kernel_rfl
  clear h p0 hct hcs hgv hdl hxl hg hg1 hk1 hn1 hcm hn hroom hi hG0 hk0 hg0 hgv0 hG1 hW0 hW1 hC1 hC2 hA hAj
  generalize (xC zs).drop i = dd at *
  generalize hnn : zs.length = n at *
  generalize hM : w.heap.size = M at *
  clear hnn hM
  go_enter Tryz.func79, Tryz.ntmps79
  go_wp2_with (first | simp only [hl1, hl2, hl4] | (at_builtin; refine Lib.wpList_append_run _ rfl (.tmp 34) (.tmp 39) _ _ rfl _ _ rfl rfl _ _ (hap _) ?_) | (at_builtin; refine wpList_copy_runI _ rfl (.tmp 43) (.tmp 44) 24 24 rfl _ _ rfl rfl (hcp1 _ _) ?_))
  go_region_law (refine step_copy_runI rfl (.tmp 50) (.tmp 53) 24 24 rfl (.slice (some ⟨M, i + 1, none⟩) (n + 1 - (i + 1)) (C - (i + 1))) (.slice (some ⟨g, i, none⟩) (n - i) (cap - i)) (by simp [Act.eval, Act.put]) (by simp [Act.eval, Act.put]) (hcp2 _ _ _) ?_)
  go_wp2
  exact hQ.out
theorem Insert_any {o w : World} {R : List It} {la : Option Addr} {lc gv i : Nat} {zs : List Int} {x : Int} (h : St o (ownI 2 1 (.slice la zs.length lc) zs.length (xC zs) :: boxI gv #[.int .i64 x] 2 :: R) w) (hn : zs.length ≤ 60) (hi : i ≤ zs.length) :
    Calls Tryz.prog 79 #[.slice la zs.length lc, .int .i64 (i : Int), .slice (some ⟨gv, 0, none⟩) 1 1] w (InsE o R zs i x) := by
  by_cases he : i = zs.length
  · subst he
    exact Insert_end h hn
  · obtain ⟨g, cap, e⟩ := h.form 0 rfl (by omega)
    simp only [Value.slice.injEq, true_and] at e
    obtain ⟨rfl, rfl⟩ := e
    by_cases hc : zs.length + 1 ≤ lc
    · exact Insert_shift h hn (by omega) hc
    · exact Insert_grow h hn (by omega) (by omega)
end Go.Proofs.YtdfefjalamohjaaGreatDoor

namespace Go.Proofs.YtdfefjalamohjaaGreatDoor
open Go.RowKit
set_option linter.unusedVariables false
set_option linter.unusedSimpArgs false
attribute [local go_sem ↓] Go.wp_at_zero Go.wp_at_succ

theorem kept_drewN (w : World) (q : Nat) : Kept (fun _ => False) w (w.drewN q) := ⟨rfl, rfl, rfl, Nat.le_refl _, fun _ _ _ => rfl⟩
set_option maxRecDepth 100000 in
set_option maxHeartbeats 2000000 in
theorem Search_any {o w : World} {R : List It} {la : Option Addr} {lc : Nat} {zs : List Int} (x : Int) (h : St o (ownI 2 1 (.slice la zs.length lc) zs.length (xC zs) :: R) w) (hn : zs.length ≤ 60) (hr : risesB zs = true) :
    Calls Tryz.prog 64 #[.slice la zs.length lc, .int .i64 x] w fun e w' => e = .returned (.tuple #[.int .i64 (atS zs x : Nat), .bool (zs.contains x)]) ∧ St o (ownI 2 1 (.slice la zs.length lc) zs.length (xC zs) :: R) w' := by
  have p0 : w.ownsRow 0 2 1 (.slice la zs.length lc) zs.length (xC zs) := h.get 0 rfl
  obtain ⟨la', lc', e, hX, hlc, hnil⟩ := own_xin p0
  simp only [Value.slice.injEq, true_and] at e
  obtain ⟨rfl, rfl⟩ := e
  cases la with
  | none =>
    obtain ⟨h0, rfl⟩ := hnil rfl
    obtain rfl : zs = [] := List.length_eq_zero_iff.1 h0
    have HS := hid h
    clear h p0 hX hlc hnil hn hr h0
    go_enter Tryz.func64, Tryz.ntmps64
    go_wp2
    refine wp_loop_rounds 1 ?_
    simp only [rounds_succ]
    go_wp2
    go_ret2
    exact ⟨rfl, HS.out⟩
  | some a =>
    obtain ⟨g, hga⟩ : ∃ g, a = ⟨g, 0, none⟩ := by
      rcases p0.2 with ⟨hv, _⟩ | ⟨g, cap, cur, hv, _⟩
      · cases hv
      · simp only [Value.slice.injEq, Option.some.injEq] at hv
        exact ⟨g, hv.1⟩
    subst hga
    have hp := rises_pairwise hr
    have := Tryz.slices_BinarySearch_int g 0 zs.length lc zs x w (Nat.le_refl _) (by omega) (fun j hj => by rw [Nat.zero_add]; have := hX.cell hj; rwa [Nat.zero_add] at this) (by
      rw [List.take_of_length_le (Nat.le_refl _)]
      exact hp.imp (fun {a b} hab => by omega))
    refine Calls.mono this ?_
    rintro e w' ⟨rfl, q, rfl⟩
    rw [List.take_of_length_le (Nat.le_refl _)]
    exact ⟨rfl, h.calm (kept_drewN w q)⟩
theorem put_block {w : World} {g q : Nat} {cur : Array Value} {d : Array Int} (hg : w.heap[g]? = some (.cells cur 2 (0, 0))) : ∃ cur', (Go.Sort.putRow (Value.int .i64) (Go.Sort.ahead w q) g 0 d).heap[g]? = some (.cells cur' 2 (0, 0)) ∧ cur'.size = cur.size ∧ Kept (fun b => b = g) w (Go.Sort.putRow (Value.int .i64) (Go.Sort.ahead w q) g 0 d) := by
  refine ⟨Go.Sort.putCells (Value.int .i64) 0 d cur, ?_, by simp [Go.Sort.putCells], ⟨rfl, rfl, rfl, ?_, fun k hk hne => ?_⟩⟩
  · simp [Go.Sort.putRow, Go.Sort.mapBlock, Go.Sort.ahead, Array.getElem?_modify, hg, Go.Sort.onCells]
  · simp [Go.Sort.putRow, Go.Sort.mapBlock, Go.Sort.ahead]
  · have hne' : ¬ g = k := fun e => hne e.symm
    simp [Go.Sort.putRow, Go.Sort.mapBlock, Go.Sort.ahead, Array.getElem?_modify, hne']
theorem Delete_any {o w : World} {R : List It} {g cap i : Nat} {zs : List Int} (h : St o (ownI 2 1 (.slice (some ⟨g, 0, none⟩) zs.length cap) zs.length (xC zs) :: R) w) (hn : zs.length ≤ 60) (hi : i < zs.length) :
    Calls Tryz.prog 80 #[.slice (some ⟨g, 0, none⟩) zs.length cap, .int .i64 (i : Int), .int .i64 ((i : Int) + 1)] w fun e w' => e = .returned (.slice (some ⟨g, 0, none⟩) (zs.length - 1) cap) ∧ St o (ownI 2 1 (.slice (some ⟨g, 0, none⟩) (zs.length - 1) cap) (zs.length - 1) (xC (zs.take i ++ zs.drop (i + 1))) :: R) w' := by
  have p0 : w.ownsRow 0 2 1 (.slice (some ⟨g, 0, none⟩) zs.length cap) zs.length (xC zs) := h.get 0 rfl
  obtain ⟨cur, hg, hn1, hcm, hcs, hct⟩ := own_block p0
  have hH : Go.Sort.Holds (Value.int .i64) w g 0 zs.toArray := fun j hj => by
    have hj' : j < zs.length := by simpa using hj
    refine ⟨?_, frozen_of_heap hg⟩
    rw [Nat.zero_add, p0.cellAt j (by omega), xC_at zs j hj']
    simp [List.getD_eq_getElem?_getD, hj']
  have hd := Tryz.slices_Delete_int g 0 cap i (i + 1) zs w hH hn1 (by unfold maxLen at hcm; omega) (by omega) (by omega)
  rw [show (((i + 1 : Nat)) : Int) = (i : Int) + 1 by push_cast; rfl] at hd
  refine Calls.mono hd ?_
  rintro e w' ⟨rfl, q, rfl⟩
  rw [show i + 1 - i = 1 by omega]
  refine ⟨rfl, ?_⟩
  obtain ⟨cur', hg', hs', hk'⟩ := put_block (q := q) (d := (zs.take i ++ zs.drop (i + 1) ++ List.replicate 1 (0 : Int)).toArray) hg
  have hl : (zs.take i ++ zs.drop (i + 1)).length = zs.length - 1 := by rw [List.length_append, List.length_take, List.length_drop]; omega
  have hcell : ∀ j, j < zs.length - 1 → cur'[j]? = some (.int .i64 ((zs.take i ++ zs.drop (i + 1)).getD j 0)) := fun j hj => by
    have hc := Go.Sort.cell?_putRow (Value.int .i64) (Go.Sort.ahead w q) g 0 zs.toArray (zs.take i ++ zs.drop (i + 1) ++ List.replicate 1 (0 : Int)).toArray (fun j hj => hH j hj) (by simp [hl]; omega) j (by simp; omega)
    rw [Nat.zero_add, cell_of_heap hg'] at hc
    rw [hc]
    have hj2 : j < (zs.take i ++ zs.drop (i + 1)).length := by rw [hl]; exact hj
    have hj3 : j < (zs.take i ++ zs.drop (i + 1) ++ List.replicate 1 (0 : Int)).length := by rw [List.length_append]; omega
    congr 2
    rw [getElem!_pos _ j (by simpa using hj3), List.getElem_toArray, List.getElem_append_left hj2, List.getD_eq_getElem?_getD, List.getElem?_eq_getElem hj2]
    rfl
  have hrow := block_own (n := zs.length - 1) (xs := xC (zs.take i ++ zs.drop (i + 1))) hg' (by omega) hcm (by rw [hs', hcs]) (by
    apply List.ext_getElem?
    intro j
    by_cases hj : j < zs.length - 1
    · rw [List.getElem?_take_of_lt hj, Array.getElem?_toList, hcell j hj, xC_at _ _ (by rw [hl]; exact hj)]
    · rw [List.getElem?_eq_none (by rw [List.length_take]; omega), List.getElem?_eq_none (by rw [xC_length, hl]; omega)]) (by rw [xC_length, hl])
  exact h.ownGrow 0 rfl hrow (hk'.mono (fun b _ hb => by simp [Value.ownBlock, hb])) (.inl rfl)
end Go.Proofs.YtdfefjalamohjaaGreatDoor
