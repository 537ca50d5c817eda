/- The library's Insert of one value ahead of others: in place, or into a new row. -/
import Derived.Test.YtdfefjalamohjabGreatDoorInA
namespace Go.Proofs.YtdfefjalamohjabGreatDoor
open Go.RowKit
set_option linter.unusedVariables false
set_option linter.unusedSimpArgs false
attribute [local go_sem ↓] Go.wp_at_zero Go.wp_at_succ

theorem Tryz.sizeX : (Tryz.prog.info? 2).map (·.size) = some 1 := by kernel_rfl
theorem own_block {w : World} {g n cap : Nat} {xs : List Value} (h : w.ownsRow 0 2 1 (.slice (some ⟨g, 0, none⟩) n cap) n xs) : ∃ cur, w.heap[g]? = some (.cells cur 2 (0, 0)) ∧ n ≤ cap ∧ cap ≤ maxLen ∧ cur.size = cap ∧ cur.toList.take n = xs := by
  rcases h.2 with ⟨hv, _⟩ | ⟨g', cap', cur, hv, hb, hg, hn, hc, hs, ht⟩
  · cases hv
  · simp only [Value.slice.injEq, Option.some.injEq, Addr.mk.injEq, true_and, and_true] at hv
    obtain ⟨rfl, rfl⟩ := hv
    exact ⟨cur, hg, hn, hc, by simpa using hs, by simpa using ht⟩
theorem block_own {w : World} {g n cap : Nat} {xs : List Value} {cur : Array Value} (hg : w.heap[g]? = some (.cells cur 2 (0, 0))) (hn : n ≤ cap) (hc : cap ≤ maxLen) (hs : cur.size = cap) (ht : cur.toList.take n = xs) (hl : xs.length = n) : w.ownsRow 0 2 1 (.slice (some ⟨g, 0, none⟩) n cap) n xs :=
  ⟨by rw [hl, Nat.mul_one], .inr ⟨g, cap, cur, rfl, Nat.zero_le _, hg, hn, hc, by rw [hs, Nat.mul_one], by rw [Nat.mul_one]; exact ht⟩⟩
/-- Values laid over a part of a block, out of another place. -/
theorem copyTo {w : World} {g : Nat} {cur : Array Value} (hg : w.heap[g]? = some (.cells cur 2 (0, 0))) (p : Nat) (cs : List Value) (src : Addr) (dl sl : Nat) (hl : cs.length = Nat.min sl dl) (hfit : p + cs.length ≤ cur.size)
    (hsrc : ∀ j v, cs[j]? = some v → w.cell? (src.add j) = some v) (hone : ∀ v ∈ cs, v.oneCell' = true) (ty : TypeId) (dc sc : Nat) :
    (Builtin.copy_ #[22, 22] ty #[.slice (some ⟨g, p, none⟩) dl dc, .slice (some src) sl sc]).run Tryz.prog w = .ok (goInt cs.length) (w.setCells g p cs) := by
  refine run_copy_cells w _ _ ty 2 g p dl dc src sl sc cs Tryz.underlying22 Tryz.sizeX hl hsrc (fun j hj => ?_) (fun j hj => frozen_of_heap hg) hone
  rw [cell_of_heap hg, Array.getElem?_eq_getElem (show p + j < cur.size by omega)]
  rfl
/-- Two blocks have no byte in common. -/
theorem overlaps_no {w : World} {a b : Nat} {ca cb : Array Value} (ha : w.heap[a]? = some (.cells ca 2 (0, 0))) (hb : w.heap[b]? = some (.cells cb 2 (0, 0))) (hne : a ≠ b) (hcb : cb.size ≠ 0) (pb lb kb : Nat) :
    (callFunc 168 #[.slice (some ⟨a, 0, none⟩) 1 1, .slice (some ⟨b, pb, none⟩) lb kb]).run Tryz.prog w = .ok (.value (.bool false)) w := by
  have h1 := run_callFunc_extern (P := Tryz.prog) Tryz.func168 (by kernel_rfl) (by kernel_rfl) (by kernel_rfl) (e := Extern.SlicesOverlaps.overlaps #[22, 22] #[4]) (by kernel_rfl) #[.slice (some ⟨a, 0, none⟩) 1 1, .slice (some ⟨b, pb, none⟩) lb kb] w
  have h2 := Lib.run_overlaps_apart (P := Tryz.prog) w 22 4 2 Tryz.underlying22 1 Tryz.sizeOf2 ⟨a, 0, none⟩ ⟨b, pb, none⟩ 1 1 lb kb hne 2 2 ca.size cb.size (by simp [World.shape?, ha]) (by simp [World.shape?, hb]) hcb (frozen_of_heap ha) (frozen_of_heap ha)
  rw [h1, h2]
  rfl
theorem one_src {w : World} {gv : Nat} {x : Value} {t : TypeId} (h : w.heap[gv]? = some (.cells #[x] t (0, 0))) : ∀ j v, [x][j]? = some v → w.cell? ((⟨gv, 0, none⟩ : Addr).add j) = some v := fun j v hj => by
  obtain ⟨hj0, rfl⟩ := List.getElem?_eq_some_iff.1 hj
  obtain rfl : j = 0 := by simpa using hj0
  rw [Addr.add_lit]
  exact cell_of_heap h
theorem tail_src {w : World} {g n i : Nat} {cur : Array Value} {xs : List Value} (hg : w.heap[g]? = some (.cells cur 2 (0, 0))) (ht : cur.toList.take n = xs) (hx : xs.length = n) : ∀ j v, (xs.drop i)[j]? = some v → w.cell? ((⟨g, i, none⟩ : Addr).add j) = some v := fun j v hj => by
  have hj1 := (List.getElem?_eq_some_iff.1 hj).1
  rw [List.length_drop, hx] at hj1
  rw [List.getElem?_drop, ← ht, List.getElem?_take_of_lt (by omega), Array.getElem?_toList] at hj
  rw [Addr.add_lit, cell_of_heap hg]
  exact hj
set_option maxRecDepth 100000 in
set_option maxHeartbeats 4000000 in
theorem Insert_shift {o w : World} {R : List It} {g cap gv i : Nat} {zs : List Int} {x : Int} (h : St o (ownI 2 1 (.slice (some ⟨g, 0, none⟩) zs.length cap) zs.length (xC zs) :: boxI gv #[.int .i64 x] 2 :: R) w) (hn : zs.length ≤ 60) (hi : i < zs.length) (hroom : zs.length + 1 ≤ cap) :
    Calls Tryz.prog 134 #[.slice (some ⟨g, 0, none⟩) zs.length cap, .int .i64 (i : Int), .slice (some ⟨gv, 0, none⟩) 1 1] w (InsE o R zs i x) := by
  have p0 : w.ownsRow 0 2 1 (.slice (some ⟨g, 0, none⟩) zs.length cap) zs.length (xC zs) := h.get 0 rfl
  obtain ⟨cur, hg, hn1, hcm, hcs, hct⟩ := own_block p0
  have hgv : w.heap[gv]? = some (.cells #[.int .i64 x] 2 (0, 0)) := h.get 1 rfl
  have hne : gv ≠ g := fun e => h.ne 0 1 rfl rfl (by decide) (a := g) (b := gv) (by simp [ownI, Value.ownBlock]) (by simp [boxI]) e.symm
  have hxl := xC_length zs
  have hdl : ((xC zs).drop i).length = zs.length - i := by rw [List.length_drop, hxl]
  have hov := overlaps_no hgv hg hne (by omega) (i + 1)
  have hcp1 := fun ty dc sc => copyTo (w := w.drew) hg (i + 1) ((xC zs).drop i) ⟨g, i, none⟩ (zs.length + 1 - (i + 1)) (zs.length + 1 - i) (by rw [hdl]; simp only [Nat.min_def]; split <;> omega) (by rw [hdl]; omega) (tail_src (w := w.drew) hg hct hxl) (fun v hv => xC_one zs v (List.mem_of_mem_drop hv)) ty dc sc
  obtain ⟨W1, hW1⟩ : ∃ W1, W1 = w.drew.setCells g (i + 1) ((xC zs).drop i) := ⟨_, rfl⟩
  have hg1 : W1.heap[g]? = some (.cells (setL cur (i + 1) ((xC zs).drop i)) 2 (0, 0)) := by rw [hW1]; exact heap_setCells _ _ _ _ hg
  have hk1 : Kept (fun b => b = g) w W1 := by rw [hW1]; exact ((Kept.refl _ w).drew).trans (kept_setCells _ _ _) (fun _ _ h => h)
  have hgv1 : W1.heap[gv]? = some (.cells #[.int .i64 x] 2 (0, 0)) := (hk1.block gv (lt_of_heap hgv) hne).trans hgv
  have hcp2 := fun ty dc => copyTo hg1 i [.int .i64 x] ⟨gv, 0, none⟩ (zs.length + 1 - i) 1 (by simp only [List.length_cons, List.length_nil, Nat.min_def]; split <;> omega) (by rw [setL_size]; simp only [List.length_cons, List.length_nil]; omega) (one_src hgv1) (fun v hv => by rw [List.mem_singleton.1 hv]; rfl) ty dc 1
  rw [← hW1] at hcp1
  have hQ : Hid (InsE o R zs i x (.returned (.slice (some ⟨g, 0, none⟩) (zs.length + 1) cap)) (W1.setCells g i [.int .i64 x])) := hid (by
    refine ⟨g, cap, rfl, ?_⟩
    have hg2 := heap_setCells [.int .i64 x] i W1 _ hg1
    have hir := (ins_row (A := cur) (u := .int .i64 x) hxl hi (by omega) (fun j hj => by rw [← Array.getElem?_toList, ← hct, List.getElem?_take_of_lt (by omega)])).1
    have hrow := block_own (n := zs.length + 1) hg2 hroom hcm (by rw [setL_size, setL_size]; exact hcs) hir (by simp [hxl]; omega)
    have s1 := h.ownGrow 0 rfl hrow ((hk1.trans (kept_setCells _ _ _) (fun _ _ h => h)).mono (fun b _ hb => by simp [Value.ownBlock, hb])) (.inl rfl)
    have e1 : xC (zs.take i ++ x :: zs.drop i) = (xC zs).take i ++ .int .i64 x :: (xC zs).drop i := by simp [xC]
    rw [e1]
    exact (St.perm (its' := boxI gv #[.int .i64 x] 2 :: ownI 2 1 (.slice (some ⟨g, 0, none⟩) (zs.length + 1) cap) (zs.length + 1) ((xC zs).take i ++ .int .i64 x :: (xC zs).drop i) :: R) s1 (List.Perm.swap _ _ _)).pop)
  generalize InsE o R zs i x = Q at *
  have hl1 := sliceLo g 0 zs.length cap i (by omega) (by omega) (by omega) (i : Int) rfl
  have hl2 := sliceHi g 0 zs.length cap (zs.length + 1) hroom (by omega) ((zs.length : Int) + 1) (by push_cast; rfl)
  have hl3 := sliceLo g 0 (zs.length + 1) cap (i + 1) (by omega) (by omega) (by omega) ((i : Int) + 1) (by push_cast; rfl)
  have hl4 := sliceLo g 0 (zs.length + 1) cap i (by omega) (by omega) (by omega) (i : Int) rfl
  simp only [Nat.zero_add] at hl1 hl2 hl3 hl4
  have t1 : ((i : Int) == (zs.length : Int)) = false := by simp; omega
  have t2 : decide ((cap : Int) < (zs.length : Int) + 1) = false := by simp; omega
  have u1 : (zs.length : Int) + 1 ≤ 61 := by omega
  have u2 : (0 : Int) ≤ (zs.length : Int) := by omega
  have u3 : (i : Int) + 1 ≤ 61 := by omega
  have u4 : (0 : Int) ≤ (i : Int) := by omega
  have v1 : (0 : Int) ≤ (i : Int) + 1 := by omega
  have v2 : ((i : Int) + 1).toNat = i + 1 := by omega
  have v3 : ¬ cap = i + 1 := by omega
  have v4 : i ≤ zs.length := by omega
  have v5 : ¬ cap = i := by omega
  have v6 : (i : Int) ≤ (zs.length : Int) + 1 := by omega
  have v7 : (i : Int) ≤ (zs.length : Int) := by omega
  have v8 : i ≤ zs.length + 1 := by omega
  have v9 : IntKind.i64.wrap ((i : Int) + 1) = (i : Int) + 1 := by rw [IntKind.wrap_i64]; omega
  have v10 : (i : Int) + 1 ≤ (zs.length : Int) + 1 := by omega
  have hmx : (Tryz.prog).follows .mixedOrders = true := by kernel_rfl
  clear h p0 hct hcs hgv hdl hxl hg hg1 hk1 hgv1 hn1 hcm hn hroom hi
  clear hW1
  generalize (xC zs).drop i = dd at *
  generalize hnn : zs.length = n at *
  clear hnn
  go_enter Tryz.func134, Tryz.ntmps134
  go_wp2_with (simp only [hl1, hl2, hl3, hl4, hov])
  go_region_law (refine step_copy_runI rfl (.tmp 73) (.tmp 76) 22 22 rfl (.slice (some ⟨g, i + 1, none⟩) (n + 1 - (i + 1)) (cap - (i + 1))) (.slice (some ⟨g, i, none⟩) (n + 1 - i) (cap - i)) (by simp [Act.eval, Act.put]) (by simp [Act.eval, Act.put]) (hcp1 _ _ _) ?_)
  go_wp2_with (first | simp only [hl4] | (at_builtin; refine wpList_copy_runI _ rfl (.tmp 80) (.tmp 81) 22 22 rfl _ _ rfl rfl (hcp2 _ _) ?_))
  exact hQ.out
end Go.Proofs.YtdfefjalamohjabGreatDoor
