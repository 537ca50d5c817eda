/- The library's BinarySearch and Delete on a list of int64 of the call's own. -/
import Derived.Test.YtdfefjalamohjabGreatDoorInC
import Derived.Test.YtdfefjalamohjabGreatDoorSeD
import Derived.Test.YtdfefjalamohjabGreatDoorShelf
import Derived.LoopN
namespace Go.Proofs.YtdfefjalamohjabGreatDoor
open Go.RowKit
set_option linter.unusedVariables false
set_option linter.unusedSimpArgs false
attribute [local go_sem ↓] Go.wp_at_zero Go.wp_at_succ

theorem kept_drewN (w : World) (q : Nat) : Kept (fun _ => False) w (w.drewN q) := ⟨rfl, rfl, rfl, Nat.le_refl _, fun _ _ _ => rfl⟩
set_option maxRecDepth 100000 in
set_option maxHeartbeats 2000000 in
theorem Search_any {o w : World} {R : List It} {la : Option Addr} {lc : Nat} {zs : List Int} (x : Int) (h : St o (ownI 2 1 (.slice la zs.length lc) zs.length (xC zs) :: R) w) (hn : zs.length ≤ 60) (hr : risesB zs = true) :
    Calls Tryz.prog 93 #[.slice la zs.length lc, .int .i64 x] w fun e w' => e = .returned (.tuple #[.int .i64 (atS zs x : Nat), .bool (zs.contains x)]) ∧ St o (ownI 2 1 (.slice la zs.length lc) zs.length (xC zs) :: R) w' := by
  have p0 : w.ownsRow 0 2 1 (.slice la zs.length lc) zs.length (xC zs) := h.get 0 rfl
  obtain ⟨la', lc', e, hX, hlc, hnil⟩ := own_xin p0
  simp only [Value.slice.injEq, true_and] at e
  obtain ⟨rfl, rfl⟩ := e
  cases la with
  | none =>
    obtain ⟨h0, rfl⟩ := hnil rfl
    obtain rfl : zs = [] := List.length_eq_zero_iff.1 h0
    have HS := hid h
    clear h p0 hX hlc hnil hn hr h0
    go_enter Tryz.func93, Tryz.ntmps93
    go_wp2
    refine wp_loop_rounds 1 ?_
    simp only [rounds_succ]
    go_wp2
    go_ret2
    exact ⟨rfl, HS.out⟩
  | some a =>
    obtain ⟨g, hga⟩ : ∃ g, a = ⟨g, 0, none⟩ := by
      rcases p0.2 with ⟨hv, _⟩ | ⟨g, cap, cur, hv, _⟩
      · cases hv
      · simp only [Value.slice.injEq, Option.some.injEq] at hv
        exact ⟨g, hv.1⟩
    subst hga
    have hp := rises_pairwise hr
    have := Tryz.slices_BinarySearch_int g 0 zs.length lc zs x w (Nat.le_refl _) (by omega) (fun j hj => by rw [Nat.zero_add]; have := hX.cell hj; rwa [Nat.zero_add] at this) (by
      rw [List.take_of_length_le (Nat.le_refl _)]
      exact hp.imp (fun {a b} hab => by omega))
    refine Calls.mono this ?_
    rintro e w' ⟨rfl, q, rfl⟩
    rw [List.take_of_length_le (Nat.le_refl _)]
    exact ⟨rfl, h.calm (kept_drewN w q)⟩
theorem put_block {w : World} {g q : Nat} {cur : Array Value} {d : Array Int} (hg : w.heap[g]? = some (.cells cur 2 (0, 0))) : ∃ cur', (Go.Sort.putRow (Value.int .i64) (Go.Sort.ahead w q) g 0 d).heap[g]? = some (.cells cur' 2 (0, 0)) ∧ cur'.size = cur.size ∧ Kept (fun b => b = g) w (Go.Sort.putRow (Value.int .i64) (Go.Sort.ahead w q) g 0 d) := by
  refine ⟨Go.Sort.putCells (Value.int .i64) 0 d cur, ?_, by simp [Go.Sort.putCells], ⟨rfl, rfl, rfl, ?_, fun k hk hne => ?_⟩⟩
  · simp [Go.Sort.putRow, Go.Sort.mapBlock, Go.Sort.ahead, Array.getElem?_modify, hg, Go.Sort.onCells]
  · simp [Go.Sort.putRow, Go.Sort.mapBlock, Go.Sort.ahead]
  · have hne' : ¬ g = k := fun e => hne e.symm
    simp [Go.Sort.putRow, Go.Sort.mapBlock, Go.Sort.ahead, Array.getElem?_modify, hne']
theorem Delete_any {o w : World} {R : List It} {g cap i : Nat} {zs : List Int} (h : St o (ownI 2 1 (.slice (some ⟨g, 0, none⟩) zs.length cap) zs.length (xC zs) :: R) w) (hn : zs.length ≤ 60) (hi : i < zs.length) :
    Calls Tryz.prog 135 #[.slice (some ⟨g, 0, none⟩) zs.length cap, .int .i64 (i : Int), .int .i64 ((i : Int) + 1)] w fun e w' => e = .returned (.slice (some ⟨g, 0, none⟩) (zs.length - 1) cap) ∧ St o (ownI 2 1 (.slice (some ⟨g, 0, none⟩) (zs.length - 1) cap) (zs.length - 1) (xC (zs.take i ++ zs.drop (i + 1))) :: R) w' := by
  have p0 : w.ownsRow 0 2 1 (.slice (some ⟨g, 0, none⟩) zs.length cap) zs.length (xC zs) := h.get 0 rfl
  obtain ⟨cur, hg, hn1, hcm, hcs, hct⟩ := own_block p0
  have hH : Go.Sort.Holds (Value.int .i64) w g 0 zs.toArray := fun j hj => by
    have hj' : j < zs.length := by simpa using hj
    refine ⟨?_, frozen_of_heap hg⟩
    rw [Nat.zero_add, p0.cellAt j (by omega), xC_at zs j hj']
    simp [List.getD_eq_getElem?_getD, hj']
  have hd := Tryz.slices_Delete_int g 0 cap i (i + 1) zs w hH hn1 (by unfold maxLen at hcm; omega) (by omega) (by omega)
  rw [show (((i + 1 : Nat)) : Int) = (i : Int) + 1 by push_cast; rfl] at hd
  refine Calls.mono hd ?_
  rintro e w' ⟨rfl, q, rfl⟩
  rw [show i + 1 - i = 1 by omega]
  refine ⟨rfl, ?_⟩
  obtain ⟨cur', hg', hs', hk'⟩ := put_block (q := q) (d := (zs.take i ++ zs.drop (i + 1) ++ List.replicate 1 (0 : Int)).toArray) hg
  have hl : (zs.take i ++ zs.drop (i + 1)).length = zs.length - 1 := by rw [List.length_append, List.length_take, List.length_drop]; omega
  have hcell : ∀ j, j < zs.length - 1 → cur'[j]? = some (.int .i64 ((zs.take i ++ zs.drop (i + 1)).getD j 0)) := fun j hj => by
    have hc := Go.Sort.cell?_putRow (Value.int .i64) (Go.Sort.ahead w q) g 0 zs.toArray (zs.take i ++ zs.drop (i + 1) ++ List.replicate 1 (0 : Int)).toArray (fun j hj => hH j hj) (by simp [hl]; omega) j (by simp; omega)
    rw [Nat.zero_add, cell_of_heap hg'] at hc
    rw [hc]
    have hj2 : j < (zs.take i ++ zs.drop (i + 1)).length := by rw [hl]; exact hj
    have hj3 : j < (zs.take i ++ zs.drop (i + 1) ++ List.replicate 1 (0 : Int)).length := by rw [List.length_append]; omega
    congr 2
    rw [getElem!_pos _ j (by simpa using hj3), List.getElem_toArray, List.getElem_append_left hj2, List.getD_eq_getElem?_getD, List.getElem?_eq_getElem hj2]
    rfl
  have hrow := block_own (n := zs.length - 1) (xs := xC (zs.take i ++ zs.drop (i + 1))) hg' (by omega) hcm (by rw [hs', hcs]) (by
    apply List.ext_getElem?
    intro j
    by_cases hj : j < zs.length - 1
    · rw [List.getElem?_take_of_lt hj, Array.getElem?_toList, hcell j hj, xC_at _ _ (by rw [hl]; exact hj)]
    · rw [List.getElem?_eq_none (by rw [List.length_take]; omega), List.getElem?_eq_none (by rw [xC_length, hl]; omega)]) (by rw [xC_length, hl])
  exact h.ownGrow 0 rfl hrow (hk'.mono (fun b _ hb => by simp [Value.ownBlock, hb])) (.inl rfl)
end Go.Proofs.YtdfefjalamohjabGreatDoor
