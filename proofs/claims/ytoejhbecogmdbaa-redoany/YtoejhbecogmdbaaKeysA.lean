/- Logs of numbers under numbers: Clear, Keys. -/
import Derived.Test.YtoejhbecogmdbaaDropA
import Derived.Deep.OwnRows
namespace Go.Proofs.Ytoejhbecogmdbaa
open Go.RowKit
set_option linter.unusedVariables false
set_option linter.unusedSimpArgs false

section
variable {w : World} {p : Nat} {most : Int} {v : Value} {bm : Nat} {ps : List (Value × Value)}
/-- The log behind it: its row was wiped (w2), cut to nothing, the map wiped (w4). -/
theorem LogAt.wiped {P : Program} {t e : TypeId} {z : Nat} {K : TypeId} {OK : Value → Prop} (h : LogAt P t e z K OK w p most v bm ps) {w2 w4 : World} {v' : Value} (k2 : Kept (fun b => v.ownBlock = some b) w w2) (ho : w2.ownsRow 0 e z v' 0 []) (hv : v'.ownBlock = v.ownBlock)
    (k4 : Kept (fun b => b = bm) (w2.setCell ⟨p, 1, none⟩ v') w4) (hf : MapIs P K w4 bm (fun _ => none)) : Turned P t e z K OK w w4 p most v bm [] := by
  have hp := lt_of_heap h.heap
  have h2 : w2.heap[p]? = some (.cells #[.int .i64 most, v, .map (some bm)] t (0, 0)) := by
    rw [k2.block p hp h.ne1]
    exact h.heap
  refine ⟨v', ⟨?_, ?_, ⟨_, hf, ⟨fun i x hx => by simp at hx, fun _ _ _ => rfl⟩⟩, hv ▸ h.ne1, hv ▸ h.ne2, h.ne3, fun y hy => by simp at hy, fun y hy => by simp at hy, ?_, h.most⟩, ?_, fun b hb => .inl (hv ▸ hb)⟩
  · rw [k4.block p (by rw [size_setCell]; exact lt_of_heap h2) h.ne3, heap_setCell_at h2]
    rfl
  · refine own_loc (ownsRow_setCell_far ho (a := ⟨p, 1, none⟩) (hv ▸ h.ne1) v') (fun b hb => ?_)
    exact k4.block b (by rw [size_setCell]; exact (ho.lt b hb).2) (fun e => h.ne2 (by rw [← hv, hb, e]))
  · have := h.fits; simp; omega
  · have a1 : Kept (fun b => b ∈ foot p bm v) w w2 := k2.mono (fun b _ hb => by simp [foot, hb])
    exact (a1.setCell (p := ⟨p, 1, none⟩) v' (.inl (by simp [foot]))).trans k4 (fun b _ hb => by simp [foot, hb])
set_option maxRecDepth 100000 in
set_option maxHeartbeats 1000000 in
theorem clearA_any (h : LogA w p most v bm ps) :
    Calls Try.prog 32 #[.pointer (some ⟨p, 0, none⟩)] w fun e w' => e = .returned (.tuple #[]) ∧ TurnedA w w' p most v bm [] := by
  obtain ⟨f, hf, hx⟩ := h.map
  have c1 := h.c1
  have f1 := h.f1
  have hbm := hf.lt
  rcases own_forms h.own with ⟨rfl, h0, _⟩ | ⟨g, cap, rfl, _, hg, hc⟩
  · obtain ⟨w4, hcm, k4, _, hm4⟩ := (hf.loc (w' := w.setCell ⟨p, 1, none⟩ (.slice none 0 0)) (heap_setCell_far (by simpa using h.ne3.symm))).wipe Try.underlying67
    have hcl := fun a c ty => wipe_none (P := Try.prog) w 68 76 Try.underlying68 a c ty
    have c2 : (w.setCell ⟨p, 1, none⟩ (.slice none 0 0)).cell? ⟨p, 2, none⟩ = some (.map (some bm)) := cell_of_heap (heap_setCell_at h.heap _)
    have HE := h.wiped (Kept.refl _ w) (World.ownsRow_nil w 0 76 2) rfl k4 hm4
    clear h hf hx k4 hm4
    go_enter Try.func32, Try.ntmps32
    go_wp2_with (simp only [hcl, hcm])
    go_end0
    exact ⟨rfl, HE⟩
  · have n1 : p ≠ g := fun e => h.ne1 (by simp [Value.ownBlock, e])
    have n2 : bm ≠ g := fun e => h.ne2 (by simp [Value.ownBlock, e])
    have b1 : (0 : Int) ≤ cap := Int.natCast_nonneg _
    rcases Nat.eq_zero_or_pos ps.length with hz | hz
    · have hcl := fun a c ty => wipe_none (P := Try.prog) w 68 76 Try.underlying68 a c ty
      obtain ⟨w4, hcm, k4, _, hm4⟩ := (hf.loc (w' := w.setCell ⟨p, 1, none⟩ (.slice (some ⟨g, 0, none⟩) 0 cap)) (heap_setCell_far (by simpa using h.ne3.symm))).wipe Try.underlying67
      have c2 : (w.setCell ⟨p, 1, none⟩ (.slice (some ⟨g, 0, none⟩) 0 cap)).cell? ⟨p, 2, none⟩ = some (.map (some bm)) := cell_of_heap (heap_setCell_at h.heap _)
      have HE := h.wiped (v' := .slice (some ⟨g, 0, none⟩) 0 cap) (Kept.refl _ w) (by have := own_cut h.own (Nat.zero_le _); simpa using this) rfl k4 hm4
      rw [hz] at c1 HE
      clear h hf hx k4 hm4 hz hc
      go_enter Try.func32, Try.ntmps32
      go_wp2_with (simp only [hcl, hcm])
      go_end0
      exact ⟨rfl, by assumption⟩
    · obtain ⟨vs, hcl⟩ := wipe_run (P := Try.prog) w 68 76 (.agg #[.int .i64 0, .int .i64 0]) 2 Try.underlying68 zero76 rfl (by omega) (by decide) h.own hz
      simp only [Nat.zero_mul, Nat.sub_zero] at hcl
      have hO := own_setCells h.own (Nat.zero_le _) vs
      have hK := setCells_kept (F := fun b => (Value.slice (some ⟨g, 0, none⟩) ps.length cap).ownBlock = some b) (g := g) (a := w) (.inl rfl) vs 0 w (Kept.refl _ w)
      simp only [Nat.zero_mul, List.take_zero] at hO
      have hp2 : (w.setCells g 0 vs).heap[p]? = some (.cells #[.int .i64 most, .slice (some ⟨g, 0, none⟩) ps.length cap, .map (some bm)] 70 (0, 0)) := (setCells_heap_far vs 0 w p n1).trans h.heap
      have hbm2 : (w.setCells g 0 vs).heap[bm]? = w.heap[bm]? := setCells_heap_far vs 0 w bm n2
      obtain ⟨w4, hcm, k4, _, hm4⟩ := (hf.loc (w' := (w.setCells g 0 vs).setCell ⟨p, 1, none⟩ (.slice (some ⟨g, 0, none⟩) 0 cap)) ((heap_setCell_far (by simpa using h.ne3.symm)).trans hbm2)).wipe Try.underlying67
      have c3 : (w.setCells g 0 vs).cell? ⟨p, 1, none⟩ = some (.slice (some ⟨g, 0, none⟩) ps.length cap) := cell_of_heap hp2
      have f3 : (w.setCells g 0 vs).frozen? ⟨p, 1, none⟩ = false := frozen_of_heap hp2
      have c2 : ((w.setCells g 0 vs).setCell ⟨p, 1, none⟩ (.slice (some ⟨g, 0, none⟩) 0 cap)).cell? ⟨p, 2, none⟩ = some (.map (some bm)) := cell_of_heap (heap_setCell_at hp2 _)
      have HE := h.wiped hK hO rfl k4 hm4
      clear h hf hx k4 hm4 hO hK hp2 hbm2
      generalize w.setCells g 0 vs = w2 at *
      go_enter Try.func32, Try.ntmps32
      go_wp2_with (simp only [hcl, hcm])
      go_end0
      exact ⟨rfl, HE⟩
end
theorem Try.info3 : (Try.prog.info? 3).map (fun i => (i.zero, i.size, i.bytes)) = some (some (.int .i64 0), 1, 8) := by kernel_rfl
section
variable {w : World} {p : Nat} {most : Int} {v : Value} {bm : Nat} {ps : List (Value × Value)}
set_option maxRecDepth 100000 in
set_option maxHeartbeats 1000000 in
theorem keysA_any (h : LogA w p most v bm ps) :
    Calls Try.prog 12 #[.pointer (some ⟨p, 0, none⟩)] w fun e w' => e = .returned (.slice (some ⟨w.heap.size, 0, none⟩) ps.length ps.length) ∧ w'.ownsRow 0 3 1 (.slice (some ⟨w.heap.size, 0, none⟩) ps.length ps.length) ps.length (ps.map Prod.fst) ∧ Kept (fun _ => False) w w' := by
  have hsm := h.small
  have hmk := run_make_row' (P := Try.prog) 35 3 (.int .i64 0) 8 Try.underlying35 Try.info3 rfl .i64 .i64 ps.length (by omega) (by omega)
  have hL := lenA_any h
  obtain ⟨ga, ca, hv⟩ := h.shape
  have kA := kept_alloc w (.cells (madeCells #[.int .i64 0] ps.length) 3)
  have hA := h.calm kA
  have c1 := hA.c1
  rw [hv] at c1
  have hO : (w.alloc (.cells (madeCells #[.int .i64 0] ps.length) 3)).ownsRow 0 3 1 (.slice (some ⟨w.heap.size, 0, none⟩) ps.length ps.length) ps.length (madeCells #[.int .i64 0] ps.length).toList :=
    World.ownsRow_lit w (madeCells #[.int .i64 0] ps.length) ps.length (Nat.zero_le _) (by unfold maxLen; omega) (by simp [madeCells])
  have HB : Hid (w.heap.size < (w.alloc (.cells (madeCells #[.int .i64 0] ps.length) 3)).heap.size) := by show _ < _; simp
  have HH : Hid (LogA (w.alloc (.cells (madeCells #[.int .i64 0] ps.length) 3)) p most v bm ps ∧ v = .slice ga ps.length ca) := ⟨hA, hv⟩
  have HF : Hid (∀ b, b ∈ foot p bm v → b < w.heap.size) := h.old
  clear h hA hv
  go_enter Try.func12, Try.ntmps12
  go_wp2_with fail
  refine hL.mono ?_
  rintro e w1 ⟨rfl, rfl⟩
  clear hL
  go_wp2_with fail
  clear hmk
  generalize w1.alloc (.cells (madeCells #[.int .i64 0] ps.length) 3) = wA at *
  go_loopw [14] (fun j wr => ∃ c : Nat, j = .int .i64 c ∧ c ≤ ps.length ∧ Kept (fun b => b = w1.heap.size) wA wr ∧ ∃ xs, wr.ownsRow 0 3 1 (.slice (some ⟨w1.heap.size, 0, none⟩) ps.length ps.length) ps.length xs ∧ xs.take c = (ps.map Prod.fst).take c) (fun j _ => ps.length - (intOf j).toNat)
  case atStart => exact ⟨0, rfl, Nat.zero_le _, Kept.refl _ _, _, hO, by simp⟩
  case round =>
    obtain ⟨c, rfl, hc, hk, xs, hr, ht⟩ := hrel
    by_cases hlt : c < ps.length
    · obtain ⟨hA, rfl⟩ := HH.out
      have hx : ps[c]? = some ps[c] := List.getElem?_eq_getElem hlt
      obtain ⟨kc, hkc, hwf⟩ := hA.keys _ (List.mem_of_getElem? hx)
      have hxu : (ps[c].2).oneCell' = true := (hA.wide _ (List.mem_of_getElem? hx)).2 _ (by simp [pcells])
      obtain ⟨g, cap, hv, hg, hcap, _⟩ := hA.row hx
      cases hv
      have hgG : g ≠ w1.heap.size := fun e => by have := HF.out g (by simp [foot, Value.ownBlock]); omega
      have cell : ∀ j, j < 2 → wr.cell? ⟨g, c * 2 + j, none⟩ = (pcells ps[c])[j]? := by
        intro j hj
        rw [World.cell?_of_block (hk.block g hg hgG), hA.cellAt hx hj]
      have hps : ps[c] = (.int .i64 kc, ps[c].2) := by rw [← hkc]
      generalize ps[c].2 = xu at *
      rw [hps] at cell hx
      have e1 : wr.cell? ⟨g, c * 2, none⟩ = some (.int .i64 kc) := cell 0 (by omega)
      have e2 : wr.cell? ⟨g, c * 2 + 1, none⟩ = some xu := cell 1 (by omega)
      have b5 : (0 : Int) ≤ c := Int.natCast_nonneg _
      have b6 : (c : Int) < ps.length := by omega
      have hlx := hr.1
      obtain ⟨y, ey⟩ : ∃ y, wr.cell? ⟨w1.heap.size, c, none⟩ = some y := ⟨_, (hr.cellAt c (by omega)).trans (List.getElem?_eq_getElem (by omega))⟩
      have hGr : w1.heap.size < wr.heap.size := (hr.lt _ rfl).2
      have HX : Hid ((ps.map Prod.fst).take (c + 1) = (ps.map Prod.fst).take c ++ [.int .i64 kc]) := by
        show _ = _
        rw [List.take_succ_eq_append_getElem (by simpa using hlt)]
        simp [hps]
      have kP := kept_alloc wr (.cells #[.int .i64 kc, xu] 76)
      have hrP := hr.alloc (.cells #[.int .i64 kc, xu] 76)
      have ey' : (wr.alloc (.cells #[.int .i64 kc, xu] 76)).cell? ⟨w1.heap.size, c, none⟩ = some y := (World.cell?_of_block (kP.block _ hGr (fun f => f))).trans ey
      have fy : (wr.alloc (.cells #[.int .i64 kc, xu] 76)).frozen? ⟨w1.heap.size, c, none⟩ = false := hrP.frozenAt c
      have dk : (wr.alloc (.cells #[.int .i64 kc, xu] 76)).cell? ⟨wr.heap.size, 0, none⟩ = some (.int .i64 kc) := cell_of_heap (heap_alloc_new wr _)
      have hsv : (store ⟨wr.heap.size, 1, none⟩ xu).run Try.prog (wr.alloc (.cells #[.int .i64 kc, .int .i64 0] 76)) = .ok () (wr.alloc (.cells #[.int .i64 kc, xu] 76)) := by
        rw [run_store _ _ _ _ _ hxu, cell_of_heap (heap_alloc_new wr _), show (wr.alloc (.cells #[.int .i64 kc, .int .i64 0] 76)).frozen? ⟨wr.heap.size, 1, none⟩ = false from frozen_of_heap (heap_alloc_new wr _)]
        simp [World.setCell_alloc_at]
      have HK : Hid (Kept (fun b => b = w1.heap.size) wA ((wr.setCell ⟨w1.heap.size, c, none⟩ (.int .i64 kc)).alloc (.cells #[.int .i64 kc, xu] 76))) := (hk.setCell _ (.inl rfl)).alloc _
      have HR : Hid (((wr.setCell ⟨w1.heap.size, c, none⟩ (.int .i64 kc)).alloc (.cells #[.int .i64 kc, xu] 76)).ownsRow 0 3 1 (.slice (some ⟨w1.heap.size, 0, none⟩) ps.length ps.length) ps.length (xs.set c (.int .i64 kc))) := (hr.stored c _).1.alloc _
      have HT : Hid ((xs.set c (.int .i64 kc)).take (c + 1) = (ps.map Prod.fst).take (c + 1)) := by
        show _ = _
        rw [HX.out, ← ht, List.take_set, List.take_succ_eq_append_getElem (by omega), List.set_append_right _ _ (by simp; omega)]
        simp [List.length_take, Nat.min_eq_left (show c ≤ xs.length by omega)]
      clear hx hps hkc cell HX hr hk ht hlx hA HH kP hrP ey hO
      go_wp2_with (simp only [hsv])
      go_roundw
      case rel => exact ⟨c + 1, by go_num, by omega, HK.out, _, HR.out, HT.out⟩
      case measure => simp [intOf]; omega
    · obtain rfl : c = ps.length := by omega
      go_wp2
      go_ret
      have hl := hr.1
      rw [List.take_of_length_le (by omega), List.take_of_length_le (by simp)] at ht
      subst ht
      exact ⟨rfl, hr, kA.trans hk (fun i hi e => absurd hi (by omega))⟩
end
end Go.Proofs.Ytoejhbecogmdbaa
