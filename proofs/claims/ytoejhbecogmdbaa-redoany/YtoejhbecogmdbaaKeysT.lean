/- Logs of lists under a text and a number: At, Keys. -/
import Derived.Test.YtoejhbecogmdbaaDropT
import Derived.Deep.OwnRows
namespace Go.Proofs.Ytoejhbecogmdbaa
open Go.RowKit
set_option linter.unusedVariables false
set_option linter.unusedSimpArgs false

/-- The cells of keys, one behind the other. -/
def kflat (ps : List (Value × Value)) : List Value := ps.flatMap (fun x => x.1.cells.toList)
theorem kflat_take {ps : List (Value × Value)} {c : Nat} (hc : c < ps.length) : kflat (ps.take (c + 1)) = kflat (ps.take c) ++ ps[c].1.cells.toList := by
  rw [List.take_succ_eq_append_getElem hc, kflat, kflat, List.flatMap_append]
  simp
theorem Try.info49 : (Try.prog.info? 49).map (fun i => (i.zero, i.size, i.bytes)) = some (some (.agg #[.string { data := #[] }, .int .i64 0]), 2, 24) := by kernel_rfl
section
variable {w : World} {p : Nat} {most : Int} {v : Value} {bm : Nat} {ps : List (Value × Value)}
set_option maxRecDepth 100000 in
set_option maxHeartbeats 1000000 in
theorem atT_ok (h : LogT w p most v bm ps) {i : Nat} {s : ByteArray} {n : Int} {u : Value} (hi : ps[i]? = some (KV s n, u)) :
    Calls Try.prog 19 #[.pointer (some ⟨p, 0, none⟩), .int .i64 i] w fun e w' => e = .returned (.tuple #[KV s n, u, .int .i64 0]) ∧ Kept (fun _ => False) w w' := by
  have k0 := kept_alloc w (.cells #[.string { data := #[] }, .int .i64 0] 49)
  have h0 := h.calm k0
  have hb := heap_alloc_new w (.cells #[.string { data := #[] }, .int .i64 0] 49)
  obtain ⟨g, cap, rfl, hg, hc, hlt⟩ := h0.row hi
  have hL := lenT_any h0
  have c1 := h0.c1
  have c3 := h0.cellAt hi (j := 0) (by omega)
  have c4 := h0.cellAt hi (j := 1) (by omega)
  have c5 := h0.cellAt hi (j := 2) (by omega)
  have hgB : g < w.heap.size := h.old g (by simp [foot, Value.ownBlock])
  have hpB : p < w.heap.size := lt_of_heap h.heap
  clear h h0
  go_enter Try.func19, Try.ntmps19
  go_wp2_with fail
  generalize w.alloc (.cells #[.string { data := #[] }, .int .i64 0] 49) = w0 at *
  have hgB' : w.heap.size ≠ g := by omega
  have hpB' : w.heap.size ≠ p := by omega
  generalize hBB : w.heap.size = B at *
  have HB : Hid (w.heap.size = B) := hBB
  clear hBB
  refine hL.mono ?_
  rintro e w1 ⟨rfl, rfl⟩
  have e1 : w1.drew.cell? ⟨p, 1, none⟩ = some (.slice (some ⟨g, 0, none⟩) ps.length cap) := c1
  have e3 : w1.drew.cell? ⟨g, i * 3, none⟩ = some (.string s) := c3
  have e4 : w1.drew.cell? ⟨g, i * 3 + 1, none⟩ = some (.int .i64 n) := c4
  have e5 : w1.drew.cell? ⟨g, i * 3 + 2, none⟩ = some u := c5
  have d0 : w1.drew.cell? ⟨B, 0, none⟩ = some (.string { data := #[] }) := cell_of_heap hb
  have d1 : w1.drew.cell? ⟨B, 1, none⟩ = some (.int .i64 0) := cell_of_heap hb
  have f0 : w1.drew.frozen? ⟨B, 0, none⟩ = false := frozen_of_heap hb
  have f1 : w1.drew.frozen? ⟨B, 1, none⟩ = false := frozen_of_heap hb
  have e1' : w1.cell? ⟨p, 1, none⟩ = some (.slice (some ⟨g, 0, none⟩) ps.length cap) := e1
  have e3' : w1.cell? ⟨g, i * 3, none⟩ = some (.string s) := e3
  have e4' : w1.cell? ⟨g, i * 3 + 1, none⟩ = some (.int .i64 n) := e4
  have e5' : w1.cell? ⟨g, i * 3 + 2, none⟩ = some u := e5
  have d0' : w1.cell? ⟨B, 0, none⟩ = some (.string { data := #[] }) := d0
  have d1' : w1.cell? ⟨B, 1, none⟩ = some (.int .i64 0) := d1
  have f0' : w1.frozen? ⟨B, 0, none⟩ = false := f0
  have f1' : w1.frozen? ⟨B, 1, none⟩ = false := f1
  have b1 : (i : Int) < ps.length := by omega
  have b2 : (0 : Int) ≤ i := Int.natCast_nonneg _
  have b3 : ¬ (i : Int) < 0 := by omega
  have HBx : Hid (w1.heap[B]? = some (.cells #[.string { data := #[] }, .int .i64 0] 49 (0, 0))) := hb
  clear c1 c3 c4 c5 hL hb hi
  go_wp2_with fail
  go_region
  have hK : Kept (fun _ => False) w ((w1.setCell ⟨B, 0, none⟩ (.string s)).setCell ⟨B, 1, none⟩ (.int .i64 n)).drew := ((k0.setCell _ (.inr (by rw [HB.out]; exact Nat.le_refl B))).setCell _ (.inr (by rw [HB.out]; exact Nat.le_refl B))).drew
  have hx2 := heap_setCell_at (o := 1) (heap_setCell_at (o := 0) HBx.out (.string s)) (.int .i64 n)
  have y0 : ((w1.setCell ⟨B, 0, none⟩ (.string s)).setCell ⟨B, 1, none⟩ (.int .i64 n)).drew.cell? ⟨B, 0, none⟩ = some (.string s) := cell_of_heap hx2
  have y1 : ((w1.setCell ⟨B, 0, none⟩ (.string s)).setCell ⟨B, 1, none⟩ (.int .i64 n)).drew.cell? ⟨B, 1, none⟩ = some (.int .i64 n) := cell_of_heap hx2
  generalize ((w1.setCell ⟨B, 0, none⟩ (.string s)).setCell ⟨B, 1, none⟩ (.int .i64 n)).drew = w9 at *
  clear hx2
  go_wp2
  exact bodyPost_ret (v := .tuple #[KV s n, u, .int .i64 0]) (by simp [results, Try.results19, go_sem, y0, y1]) rfl ⟨rfl, hK⟩
set_option maxRecDepth 100000 in
set_option maxHeartbeats 1000000 in
theorem keysT_any (h : LogT w p most v bm ps) :
    Calls Try.prog 16 #[.pointer (some ⟨p, 0, none⟩)] w fun e w' => e = .returned (.slice (some ⟨w.heap.size, 0, none⟩) ps.length ps.length) ∧ w'.ownsRow 0 49 2 (.slice (some ⟨w.heap.size, 0, none⟩) ps.length ps.length) ps.length (kflat ps) ∧ Kept (fun _ => False) w w' := by
  obtain ⟨i0, hi0, hz0, hz1, hz2⟩ := info_parts Try.info49
  have hsm := h.small
  have hmk : (Instr.makeSlice 50 (.int .i64 ps.length) (.int .i64 ps.length)).run Try.prog w = .ok (.slice (some ⟨w.heap.size, 0, none⟩) ps.length ps.length) (w.alloc (.cells (madeCells #[.string { data := #[] }, .int .i64 0] (ps.length * 2)) 49)) := by
    have := run_make (P := Try.prog) w 50 49 i0 _ Try.underlying50 hi0 hz0 .i64 .i64 ps.length ps.length (by omega) (by omega) (by rw [hz2]; omega) (by omega)
    rw [this, hz1, Int.toNat_natCast]
    rfl
  have hL := lenT_any h
  obtain ⟨ga, ca, hv⟩ := h.shape
  have kA := kept_alloc w (.cells (madeCells #[.string { data := #[] }, .int .i64 0] (ps.length * 2)) 49)
  have hA := h.calm kA
  have c1 := hA.c1
  rw [hv] at c1
  have hO : (w.alloc (.cells (madeCells #[.string { data := #[] }, .int .i64 0] (ps.length * 2)) 49)).ownsRow 0 49 2 (.slice (some ⟨w.heap.size, 0, none⟩) ps.length ps.length) ps.length (madeCells #[.string { data := #[] }, .int .i64 0] (ps.length * 2)).toList :=
    World.ownsRow_lit w (madeCells #[.string { data := #[] }, .int .i64 0] (ps.length * 2)) ps.length (Nat.zero_le _) (by unfold maxLen; omega) (by simp [madeCells])
  have HH : Hid (LogT (w.alloc (.cells (madeCells #[.string { data := #[] }, .int .i64 0] (ps.length * 2)) 49)) p most v bm ps ∧ v = .slice ga ps.length ca) := ⟨hA, hv⟩
  have HF : Hid (∀ b, b ∈ foot p bm v → b < w.heap.size) := h.old
  clear h hA hv
  generalize madeCells #[.string { data := #[] }, .int .i64 0] (ps.length * 2) = MC at *
  go_enter Try.func16, Try.ntmps16
  go_wp2_with fail
  refine hL.mono ?_
  rintro e w1 ⟨rfl, rfl⟩
  clear hL
  go_wp2_with fail
  clear hmk
  generalize w1.alloc (.cells MC 49) = wA at *
  go_loopw [14] (fun j wr => ∃ c : Nat, j = .int .i64 c ∧ c ≤ ps.length ∧ Kept (fun b => b = w1.heap.size) wA wr ∧ ∃ xs, wr.ownsRow 0 49 2 (.slice (some ⟨w1.heap.size, 0, none⟩) ps.length ps.length) ps.length xs ∧ xs.take (c * 2) = kflat (ps.take c)) (fun j _ => ps.length - (intOf j).toNat)
  case atStart => exact ⟨0, rfl, Nat.zero_le _, Kept.refl _ _, _, hO, by simp [kflat]⟩
  case round =>
    obtain ⟨c, rfl, hc, hk, xs, hr, ht⟩ := hrel
    by_cases hlt : c < ps.length
    · obtain ⟨hA, rfl⟩ := HH.out
      have hx : ps[c]? = some ps[c] := List.getElem?_eq_getElem hlt
      obtain ⟨sc, nc, hkc, hwf⟩ := hA.keys _ (List.mem_of_getElem? hx)
      have hxu : (ps[c].2).oneCell' = true := (hA.wide _ (List.mem_of_getElem? hx)).2 _ (by simp [pcells])
      obtain ⟨g, cap, hv, hg, hcap, _⟩ := hA.row hx
      cases hv
      have hgG : g ≠ w1.heap.size := fun e => by have := HF.out g (by simp [foot, Value.ownBlock]); omega
      have cell : ∀ j, j < 3 → wr.cell? ⟨g, c * 3 + j, none⟩ = (pcells ps[c])[j]? := by
        intro j hj
        rw [World.cell?_of_block (hk.block g hg hgG), hA.cellAt hx hj]
      have hps : ps[c] = (KV sc nc, ps[c].2) := Prod.ext hkc rfl
      have HX : Hid (kflat (ps.take (c + 1)) = kflat (ps.take c) ++ [.string sc, .int .i64 nc]) := by
        show _ = _
        rw [kflat_take hlt, hkc]
        rfl
      generalize ps[c].2 = xu at *
      rw [hps] at cell hx
      have e1 : wr.cell? ⟨g, c * 3, none⟩ = some (.string sc) := cell 0 (by omega)
      have e2 : wr.cell? ⟨g, c * 3 + 1, none⟩ = some (.int .i64 nc) := cell 1 (by omega)
      have e3 : wr.cell? ⟨g, c * 3 + 2, none⟩ = some xu := cell 2 (by omega)
      have b5 : (0 : Int) ≤ c := Int.natCast_nonneg _
      have b6 : (c : Int) < ps.length := by omega
      have hlx := hr.1
      obtain ⟨y, ey⟩ : ∃ y, wr.cell? ⟨w1.heap.size, c * 2, none⟩ = some y := ⟨_, (hr.cellAt (c * 2) (by omega)).trans (List.getElem?_eq_getElem (by omega))⟩
      obtain ⟨y2, ey2⟩ : ∃ y, wr.cell? ⟨w1.heap.size, c * 2 + 1, none⟩ = some y := ⟨_, (hr.cellAt (c * 2 + 1) (by omega)).trans (List.getElem?_eq_getElem (by omega))⟩
      have fy : wr.frozen? ⟨w1.heap.size, c * 2, none⟩ = false := hr.frozenAt _
      have fy2 : wr.frozen? ⟨w1.heap.size, c * 2 + 1, none⟩ = false := hr.frozenAt _
      have hGr : w1.heap.size < wr.heap.size := (hr.lt _ rfl).2
      have dk : (wr.alloc (.cells #[.string sc, .int .i64 nc, xu] 85)).cell? ⟨wr.heap.size, 0, none⟩ = some (.string sc) := cell_of_heap (heap_alloc_new wr _)
      have dk1 : (wr.alloc (.cells #[.string sc, .int .i64 nc, xu] 85)).cell? ⟨wr.heap.size, 1, none⟩ = some (.int .i64 nc) := cell_of_heap (heap_alloc_new wr _)
      have hsv : (store ⟨wr.heap.size, 2, none⟩ xu).run Try.prog (wr.alloc (.cells #[.string sc, .int .i64 nc, .slice none 0 0] 85)) = .ok () (wr.alloc (.cells #[.string sc, .int .i64 nc, xu] 85)) := by
        rw [run_store _ _ _ _ _ hxu, cell_of_heap (heap_alloc_new wr _), show (wr.alloc (.cells #[.string sc, .int .i64 nc, .slice none 0 0] 85)).frozen? ⟨wr.heap.size, 2, none⟩ = false from frozen_of_heap (heap_alloc_new wr _)]
        simp [World.setCell_alloc_at]
      have HK : Hid (Kept (fun b => b = w1.heap.size) wA (((wr.setCell ⟨w1.heap.size, c * 2, none⟩ (.string sc)).setCell ⟨w1.heap.size, c * 2 + 1, none⟩ (.int .i64 nc)).alloc (.cells #[.string sc, .int .i64 nc, xu] 85))) := ((hk.setCell _ (.inl rfl)).setCell _ (.inl rfl)).alloc _
      have HR : Hid ((((wr.setCell ⟨w1.heap.size, c * 2, none⟩ (.string sc)).setCell ⟨w1.heap.size, c * 2 + 1, none⟩ (.int .i64 nc)).alloc (.cells #[.string sc, .int .i64 nc, xu] 85)).ownsRow 0 49 2 (.slice (some ⟨w1.heap.size, 0, none⟩) ps.length ps.length) ps.length ((xs.set (c * 2) (.string sc)).set (c * 2 + 1) (.int .i64 nc))) := ((hr.stored (c * 2) _).1.stored (c * 2 + 1) _).1.alloc _
      have HT : Hid (((xs.set (c * 2) (.string sc)).set (c * 2 + 1) (.int .i64 nc)).take ((c + 1) * 2) = kflat (ps.take (c + 1))) := by
        show _ = _
        have hl2 : c * 2 + 1 < xs.length := by omega
        rw [HX.out, ← ht, List.take_set, List.take_set, show (c + 1) * 2 = c * 2 + 1 + 1 by omega, List.take_succ_eq_append_getElem hl2, List.take_succ_eq_append_getElem (show c * 2 < xs.length by omega)]
        have e0 : (xs.take (c * 2)).length = c * 2 := by rw [List.length_take]; omega
        rw [List.append_assoc, List.set_append_right _ _ (by omega), e0, Nat.sub_self, List.set_append_right _ _ (by omega), e0, show c * 2 + 1 - c * 2 = 1 by omega]
        simp
      clear hx hps hkc cell HX hr hk ht hlx hA HH hO
      go_wp2_with (simp only [hsv])
      go_roundw
      case rel => exact ⟨c + 1, by go_num, by omega, HK.out, _, HR.out, HT.out⟩
      case measure => simp [intOf]; omega
    · obtain rfl : c = ps.length := by omega
      go_wp2
      go_ret
      have hl := hr.1
      rw [List.take_of_length_le (by omega), List.take_length] at ht
      subst ht
      exact ⟨rfl, hr, kA.trans hk (fun i hi e => absurd hi (by omega))⟩
end
end Go.Proofs.Ytoejhbecogmdbaa
