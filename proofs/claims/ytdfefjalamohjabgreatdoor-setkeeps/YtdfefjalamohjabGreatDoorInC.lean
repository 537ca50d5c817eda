/- The library's Insert of one value where there is no room; all roads in one. -/
import Derived.Test.YtdfefjalamohjabGreatDoorInB
namespace Go.Proofs.YtdfefjalamohjabGreatDoor
open Go.RowKit
set_option linter.unusedVariables false
set_option linter.unusedSimpArgs false
attribute [local go_sem ↓] Go.wp_at_zero Go.wp_at_succ

/-- A list cut, with so many zeros behind it: a new row. -/
theorem append_zeros {w : World} {g n cap i k : Nat} {cur : Array Value} {xs : List Value} (hg : w.heap[g]? = some (.cells cur 2 (0, 0))) (ht : cur.toList.take n = xs) (hx : xs.length = n) (hi : i ≤ n) (hk : 0 < k) (hgrow : cap < i + k) (hsm : i + k ≤ 1000) (J : Int) (hJ : J = (k : Int)) :
    ∃ C A, (∀ ty, (Builtin.append_ #[22, 3] ty #[.slice (some ⟨g, 0, none⟩) i cap, .int .i64 J]).run Tryz.prog w = .ok (.slice (some ⟨w.heap.size, 0, none⟩) (i + k) C) (w.drew.alloc (.cells A 2))) ∧ i + k ≤ C ∧ C ≤ maxLen ∧ A.size = C ∧ ∀ j, j < i → A[j]? = xs[j]? := by
  obtain ⟨i0, hi0, hz0, hz1, hz2⟩ := info_parts Tryz.infoX
  subst hJ
  have htl : (xs.take i).length = i := by rw [List.length_take, hx]; omega
  have hold : (Builtin.firstCells i0.size i (.slice (some ⟨g, 0, none⟩) i cap)).run Tryz.prog w.drew = .ok (xs.take i).toArray w.drew := by
    rw [hz1]
    refine run_firstCells_some w.drew 1 i ⟨g, 0, none⟩ i cap (xs.take i) (by rw [htl]; omega) (fun j v hj => ?_)
    have hj1 := (List.getElem?_eq_some_iff.1 hj).1
    rw [htl] at hj1
    rw [List.getElem?_take_of_lt hj1, ← ht, List.getElem?_take_of_lt (by omega), Array.getElem?_toList] at hj
    rw [Addr.add_lit, show w.drew.cell? _ = _ from cell_of_heap hg, Nat.zero_add]
    exact hj
  have hfit : Builtin.nextslicecap (i + k) cap * i0.bytes ≤ 281474976710656 := by rw [hz2]; exact growslice_fits hgrow (by omega)
  refine ⟨_, _, fun ty => Lib.run_append_grow_zeros w 22 3 ty 2 i0 _ .i64 .i64 Tryz.underlying22 Tryz.underlying3 hi0 hz0 (some ⟨g, 0, none⟩) i cap (xs.take i) hold k hk (by omega) hgrow (by omega) (by rw [hz2]; omega) hfit, ?_, ?_, ?_, ?_⟩
  · exact grownCap_ge w _ _ _
  · exact grownCap_le_maxLen w _ _ _ (by unfold maxLen; omega)
  · have hge := grownCap_ge w (i + k) cap 2
    simp [Builtin.zeroCells, Value.cells, htl]
    omega
  · intro j hj
    rw [Array.getElem?_append_left (by simp [htl]; omega), Array.getElem?_append_left (by simp [htl]; omega)]
    rw [List.getElem?_toArray, List.getElem?_take_of_lt hj]
set_option maxRecDepth 100000 in
set_option maxHeartbeats 4000000 in
theorem Insert_grow {o w : World} {R : List It} {g cap gv i : Nat} {zs : List Int} {x : Int} (h : St o (ownI 2 1 (.slice (some ⟨g, 0, none⟩) zs.length cap) zs.length (xC zs) :: boxI gv #[.int .i64 x] 2 :: R) w) (hn : zs.length ≤ 60) (hi : i < zs.length) (hroom : cap < zs.length + 1) :
    Calls Tryz.prog 134 #[.slice (some ⟨g, 0, none⟩) zs.length cap, .int .i64 (i : Int), .slice (some ⟨gv, 0, none⟩) 1 1] w (InsE o R zs i x) := by
  have p0 : w.ownsRow 0 2 1 (.slice (some ⟨g, 0, none⟩) zs.length cap) zs.length (xC zs) := h.get 0 rfl
  obtain ⟨cur, hg, hn1, hcm, hcs, hct⟩ := own_block p0
  have hgv : w.heap[gv]? = some (.cells #[.int .i64 x] 2 (0, 0)) := h.get 1 rfl
  have hxl := xC_length zs
  have hdl : ((xC zs).drop i).length = zs.length - i := by rw [List.length_drop, hxl]
  obtain ⟨C, A, hap, hC1, hC2, hA, hAj⟩ := append_zeros (cap := cap) (i := i) (k := zs.length + 1 - i) hg hct hxl (by omega) (by omega) (by omega) (by omega) ((zs.length : Int) + 1 - (i : Int)) (by omega)
  rw [show i + (zs.length + 1 - i) = zs.length + 1 by omega] at hap hC1
  obtain ⟨W0, hW0⟩ : ∃ W0, W0 = w.drew.alloc (.cells A 2) := ⟨_, rfl⟩
  rw [← hW0] at hap
  have hG0 : W0.heap[w.heap.size]? = some (.cells A 2 (0, 0)) := by rw [hW0]; exact heap_alloc_new w.drew _
  have hk0 : Kept (fun _ => False) w W0 := by rw [hW0]; exact (kept_drew w).alloc _
  have hg0 : W0.heap[g]? = some (.cells cur 2 (0, 0)) := (hk0.block g (lt_of_heap hg) (fun f => f)).trans hg
  have hgv0 : W0.heap[gv]? = some (.cells #[.int .i64 x] 2 (0, 0)) := (hk0.block gv (lt_of_heap hgv) (fun f => f)).trans hgv
  have hcp1 := fun ty dc => copyTo hG0 i [.int .i64 x] ⟨gv, 0, none⟩ (zs.length + 1 - i) 1 (by simp only [List.length_cons, List.length_nil, Nat.min_def]; split <;> omega) (by simp only [List.length_cons, List.length_nil]; omega) (one_src hgv0) (fun v hv => by rw [List.mem_singleton.1 hv]; rfl) ty dc 1
  obtain ⟨W1, hW1⟩ : ∃ W1, W1 = W0.setCells w.heap.size i [.int .i64 x] := ⟨_, rfl⟩
  rw [← hW1] at hcp1
  have hG1 : W1.heap[w.heap.size]? = some (.cells (setL A i [.int .i64 x]) 2 (0, 0)) := by rw [hW1]; exact heap_setCells _ _ _ _ hG0
  have hk1 : Kept (fun b => b = w.heap.size) W0 W1 := by rw [hW1]; exact kept_setCells _ _ _
  have hg1 : W1.heap[g]? = some (.cells cur 2 (0, 0)) := (hk1.block g (lt_of_heap hg0) (fun e => by have := lt_of_heap hg; omega)).trans hg0
  have hcp2 := fun ty dc sc => copyTo (w := W1.drew) hG1 (i + 1) ((xC zs).drop i) ⟨g, i, none⟩ (zs.length + 1 - (i + 1)) (zs.length - i) (by rw [hdl]; simp only [Nat.min_def]; split <;> omega) (by rw [hdl, setL_size]; omega) (tail_src (w := W1.drew) hg1 hct hxl) (fun v hv => xC_one zs v (List.mem_of_mem_drop hv)) ty dc sc
  have hQ : Hid (InsE o R zs i x (.returned (.slice (some ⟨w.heap.size, 0, none⟩) (zs.length + 1) C)) (W1.drew.setCells w.heap.size (i + 1) ((xC zs).drop i))) := hid (by
    refine ⟨w.heap.size, C, rfl, ?_⟩
    have hg2 := heap_setCells ((xC zs).drop i) (i + 1) W1.drew _ hG1
    have hir := (ins_row (A := A) (u := .int .i64 x) hxl hi (by omega) hAj).2
    have hrow := block_own (n := zs.length + 1) hg2 hC1 hC2 (by rw [setL_size, setL_size]; exact hA) hir (by simp [hxl]; omega)
    have hkk : Kept (fun _ => False) w (W1.drew.setCells w.heap.size (i + 1) ((xC zs).drop i)) :=
      (hk0.trans hk1.drew (fun k hk e => by omega)).trans (kept_setCells _ _ _) (fun k hk e => by omega)
    have e1 : xC (zs.take i ++ x :: zs.drop i) = (xC zs).take i ++ .int .i64 x :: (xC zs).drop i := by simp [xC]
    rw [e1]
    exact h.pop.pop.push _ hkk hrow (own_nodup (.slice (some ⟨w.heap.size, 0, none⟩) (zs.length + 1) C)) (by simp [ownI, Value.ownBlock]))
  generalize InsE o R zs i x = Q at *
  have hl1 := sliceLo g 0 zs.length cap i (by omega) (by omega) (by omega) (i : Int) rfl
  have hl2 := sliceHi g 0 zs.length cap i (by omega) (by omega) (i : Int) rfl
  have hl4 := sliceLo w.heap.size 0 (zs.length + 1) C i (by omega) (by omega) (by omega) (i : Int) rfl
  simp only [Nat.zero_add] at hl1 hl2 hl4
  have t1 : ((i : Int) == (zs.length : Int)) = false := by simp; omega
  have t2 : decide ((cap : Int) < (zs.length : Int) + 1) = true := by simp; omega
  have u1 : (zs.length : Int) + 1 ≤ 61 := by omega
  have u2 : (0 : Int) ≤ (zs.length : Int) := by omega
  have u4 : (0 : Int) ≤ (i : Int) := by omega
  have v1 : (0 : Int) ≤ (i : Int) + 1 := by omega
  have v2 : ((i : Int) + 1).toNat = i + 1 := by omega
  have v3 : ¬ C = i + 1 := by omega
  have v4 : i ≤ zs.length := by omega
  have v5 : ¬ C = i := by omega
  have v5' : ¬ cap = i := by omega
  have v7 : (i : Int) ≤ (zs.length : Int) := by omega
  have v9 : IntKind.i64.wrap ((i : Int) + 1) = (i : Int) + 1 := by rw [IntKind.wrap_i64]; omega
  have v10 : (i : Int) + 1 ≤ (zs.length : Int) + 1 := by omega
  have v11 : -9223372036854775808 ≤ (zs.length : Int) + 1 - (i : Int) := by omega
  have v12 : (zs.length : Int) + 1 - (i : Int) ≤ 9223372036854775807 := by omega
  have hmx : (Tryz.prog).follows .mixedOrders = true := by kernel_rfl
  clear h p0 hct hcs hgv hdl hxl hg hg1 hk1 hn1 hcm hn hroom hi hG0 hk0 hg0 hgv0 hG1 hW0 hW1 hC1 hC2 hA hAj
  generalize (xC zs).drop i = dd at *
  generalize hnn : zs.length = n at *
  generalize hM : w.heap.size = M at *
  clear hnn hM
  go_enter Tryz.func134, Tryz.ntmps134
  go_wp2_with (first | simp only [hl1, hl2, hl4] | (at_builtin; refine Lib.wpList_append_run _ rfl (.tmp 34) (.tmp 39) _ _ rfl _ _ rfl rfl _ _ (hap _) ?_) | (at_builtin; refine wpList_copy_runI _ rfl (.tmp 43) (.tmp 44) 22 22 rfl _ _ rfl rfl (hcp1 _ _) ?_))
  go_region_law (refine step_copy_runI rfl (.tmp 50) (.tmp 53) 22 22 rfl (.slice (some ⟨M, i + 1, none⟩) (n + 1 - (i + 1)) (C - (i + 1))) (.slice (some ⟨g, i, none⟩) (n - i) (cap - i)) (by simp [Act.eval, Act.put]) (by simp [Act.eval, Act.put]) (hcp2 _ _ _) ?_)
  go_wp2
  exact hQ.out
theorem Insert_any {o w : World} {R : List It} {la : Option Addr} {lc gv i : Nat} {zs : List Int} {x : Int} (h : St o (ownI 2 1 (.slice la zs.length lc) zs.length (xC zs) :: boxI gv #[.int .i64 x] 2 :: R) w) (hn : zs.length ≤ 60) (hi : i ≤ zs.length) :
    Calls Tryz.prog 134 #[.slice la zs.length lc, .int .i64 (i : Int), .slice (some ⟨gv, 0, none⟩) 1 1] w (InsE o R zs i x) := by
  by_cases he : i = zs.length
  · subst he
    exact Insert_end h hn
  · obtain ⟨g, cap, e⟩ := h.form 0 rfl (by omega)
    simp only [Value.slice.injEq, true_and] at e
    obtain ⟨rfl, rfl⟩ := e
    by_cases hc : zs.length + 1 ≤ lc
    · exact Insert_shift h hn (by omega) hc
    · exact Insert_grow h hn (by omega) (by omega)
end Go.Proofs.YtdfefjalamohjabGreatDoor
