/- The document's stacks: Swap, Copy. -/
import Derived.Test.YtgbhefbhleflhaaRefB
import Derived.Deep.RegionLaw
namespace Go.Proofs.Ytgbhefbhleflhaa
open Go.RowKit
set_option linter.unusedVariables false
set_option linter.unusedSimpArgs false

section
variable {B : Nat} {w : World} {p : Nat} {most : Int} {v : Value} {n : Nat} {xs : List Value}
set_option maxRecDepth 100000 in
theorem swapR_no (hn : n < 2) (h : StackAt 39 3 1 B w p most v n xs) :
    Calls Try.prog 33 #[.pointer (some ⟨p, 0, none⟩)] w fun e w' => e = .returned (.int .i64 12) ∧ w' = w := by
  obtain ⟨ga, ca, rfl⟩ := h.shape
  have c1 := h.c1
  have h2 : (n : Int) < 2 := by omega
  clear h
  go_enter Try.func33, Try.ntmps33
  go_wp2
  go_ret
  exact ⟨rfl, rfl⟩
set_option maxRecDepth 100000 in
set_option maxHeartbeats 1000000 in
theorem swapR_ok {ys : List Int} (h : StackAt 39 3 1 B w p most v (n + 2) (ys.map (Value.int .i64))) :
    Calls Try.prog 33 #[.pointer (some ⟨p, 0, none⟩)] w fun e w' => e = .returned (.int .i64 0) ∧ Turned 39 3 1 B w w' p most v (n + 2) (swapTop (ys.map (Value.int .i64)) n) := by
  have hs := h.small
  have hl := h.own.1
  simp only [List.length_map, Nat.mul_one] at hl
  rcases own_forms h.own with ⟨rfl, h0, _⟩ | ⟨g, cap, rfl, hbg, hgl, hcap⟩
  · omega
  have c1 := h.c1
  have c2 := h.drew.c1
  have e1 := own_at h.own (j := n + 1) (by omega)
  have d0 := own_at h.drew.own (j := n) (by omega)
  have d1 := own_at h.drew.own (j := n + 1) (by omega)
  rw [map_getD ys _ (by omega)] at d0 d1 e1
  have f0 : w.drew.frozen? ⟨g, n, none⟩ = false := h.drew.own.frozenAt n
  have f1 : w.drew.frozen? ⟨g, n + 1, none⟩ = false := h.drew.own.frozenAt (n + 1)
  have O2 := (h.own.stored (n + 1) (.int .i64 (ys.getD n 0))).1
  have hgp : p ≠ g := fun e => h.ne (by simp [Value.ownBlock, e])
  have c3 : (w.setCell ⟨g, n + 1, none⟩ (.int .i64 (ys.getD n 0))).drew.cell? ⟨p, 1, none⟩ = some (.slice (some ⟨g, 0, none⟩) (n + 2) cap) := cell_of_heap ((heap_setCell_far (w := w) (by simpa using hgp)).trans h.heap)
  have d2 : (w.setCell ⟨g, n + 1, none⟩ (.int .i64 (ys.getD n 0))).drew.cell? ⟨g, n, none⟩ = some (.int .i64 (ys.getD n 0)) := by
    have := own_at O2 (j := n) (by omega)
    rw [← List.map_set, map_getD _ _ (by simp; omega), set_getD] at this
    exact this
  have f2 : (w.setCell ⟨g, n + 1, none⟩ (.int .i64 (ys.getD n 0))).drew.frozen? ⟨g, n, none⟩ = false := O2.frozenAt n
  clear O2
  have E := swap_end h.drew _ _ (map_getD ys n (by omega)) (map_getD ys (n + 1) (by omega))
  generalize ys.getD n 0 = u1 at *
  generalize ys.getD (n + 1) 0 = u2 at *
  have b0 : (0 : Int) ≤ n := Int.natCast_nonneg _
  have b4 : ¬ ((n : Int) + 2 < 2) := by omega
  have w1 : IntKind.i64.wrap ((n : Int) + 2 - 1) = n + 1 := by rw [wrap_small (by omega) (by omega)]; omega
  have w2 : IntKind.i64.wrap ((n : Int) + 2 - 2) = n := by rw [wrap_small (by omega) (by omega)]; omega
  have b5 : (n : Int) < n + 2 := by omega
  have b6 : (n : Int) + 1 < n + 2 := by omega
  have b7 : (0 : Int) ≤ n + 1 := by omega
  have b8 : (n : Int) + 2 - 1 = n + 1 := by omega
  have b9 : (n : Int) + 2 - 2 = n := by omega
  clear h hl
  have HE : Hid (Turned 39 3 1 B w ((w.drew.setCell ⟨g, n + 1, none⟩ (.int .i64 u1)).setCell ⟨g, n, none⟩ (.int .i64 u2)) p most (.slice (some ⟨g, 0, none⟩) (n + 2) cap) (n + 2) (swapTop (ys.map (Value.int .i64)) n)) := by
    obtain ⟨v', a1, a2, a3⟩ := E
    exact ⟨v', a1, ⟨a2.os, a2.tape, a2.output, a2.size, a2.block⟩, a3⟩
  clear E
  go_enter Try.func33, Try.ntmps33
  go_wp2_with fail
  go_region
  all_goals
    go_wp2
    go_ret
    exact ⟨rfl, HE.out⟩

theorem ref_made {t e : TypeId} {w : World} {most : Int} : (w.alloc (.cells #[.int .i64 most, .slice none 0 0] t)).heap[w.heap.size]? = some (.cells #[.int .i64 most, .slice none 0 0] t (0, 0)) := heap_alloc_new w _
/-- The end of the document's Copy. -/
theorem copyR_end {w w1 w2 : World} {q : Nat} (h : StackAt 39 3 1 B w p most v n xs) (hq : q = w.heap.size) (h1 : w1.heap[q]? = some (.cells #[.int .i64 most, .slice none 0 0] 39 (0, 0))) (k1 : Kept (fun _ => False) w w1) {v' : Value} (ho : w2.ownsRow w1.heap.size 3 1 v' n xs) (hk : Kept (fun _ => False) w1 w2) :
    StackAt 39 3 1 w.heap.size (w2.setCell ⟨q, 1, none⟩ v') q most v' n xs ∧ Kept (fun _ => False) w (w2.setCell ⟨q, 1, none⟩ v') := by
  subst hq
  have hlt := lt_of_heap h1
  refine ⟨StackAt.put ((hk.block _ hlt (fun f => f)).trans h1) (own_mono ho k1.size) (Nat.le_refl _) (fun e => ?_) h.fits h.most, (k1.trans hk (fun _ _ f => f)).setCell _ (.inr (Nat.le_refl _))⟩
  have := (ho.lt _ e).1
  omega
set_option maxRecDepth 100000 in
set_option maxHeartbeats 1000000 in
theorem copyR_any (h : StackAt 39 3 1 B w p most v n xs) (hx : ∀ u ∈ xs, u.oneCell' = true) :
    Calls Try.prog 10 #[.pointer (some ⟨p, 0, none⟩)] w fun e w' => ∃ p' v', e = .returned (.pointer (some ⟨p', 0, none⟩)) ∧ StackAt 39 3 1 w.heap.size w' p' most v' n xs ∧ Kept (fun _ => False) w w' := by
  obtain ⟨i0, hi0, hz0, hz1, hz2⟩ := info_parts Try.info3
  have c0 := h.c0
  have hs := h.small
  have hl := h.own.1
  simp only [Nat.mul_one] at hl
  go_enter Try.func10, Try.ntmps10
  go_wp2_with fail
  have k1 := (Kept.refl (fun _ => False) w).alloc (.cells #[.int .i64 most, .slice none 0 0] 39)
  have m1 := ref_made (t := 39) (e := 3) (w := w) (most := most)
  obtain ⟨q, hq⟩ : ∃ q, q = w.heap.size := ⟨_, rfl⟩
  rw [← hq] at m1 ⊢
  generalize w.alloc (.cells #[.int .i64 most, .slice none 0 0] 39) = w1 at *
  have h1 := h.calm k1
  have c1 := h1.drew.c1
  have d1 : w1.drew.cell? ⟨q, 1, none⟩ = some (.slice none 0 0) := cell_of_heap m1
  have f1 : w1.drew.frozen? ⟨q, 1, none⟩ = false := frozen_of_heap m1
  have HE : Hid (∀ w2 v', w2.ownsRow w1.heap.size 3 1 v' n xs → Kept (fun _ => False) w1 w2 → StackAt 39 3 1 w.heap.size (w2.setCell ⟨q, 1, none⟩ v') q most v' n xs ∧ Kept (fun _ => False) w (w2.setCell ⟨q, 1, none⟩ v')) := fun w2 v' ho hk => copyR_end h hq m1 k1 ho hk
  have HM : Hid (∀ w2, Kept (fun _ => False) w1 w2 → w2.heap[q]? = some (.cells #[.int .i64 most, .slice none 0 0] 39 (0, 0))) := fun w2 k => (k.block q (lt_of_heap m1) (fun f => f)).trans m1
  have hO := h1.drew.own
  clear h k1 m1 h1 hq c0
  rcases Nat.eq_zero_or_pos n with rfl | hn
  · obtain rfl : xs = [] := List.eq_nil_of_length_eq_zero hl
    obtain ⟨ga, ca, rfl⟩ := own_shape hO
    clear hO
    cases ga
    all_goals
      go_region
      all_goals
        go_wp2
        go_ret
        exact ⟨_, rfl, ⟨_, (HE.out _ _ (World.ownsRow_nil _ _ _ _) (Kept.refl _ w1).drew).1⟩, (HE.out _ _ (World.ownsRow_nil _ _ _ _) (Kept.refl _ w1).drew).2⟩
  · rcases own_forms hO with ⟨rfl, h0, _⟩ | ⟨g, cap, rfl, hbg, hgl, hcap⟩
    · omega
    go_region_law
      ((refine step_append_lies _ (by rfl) _ _ _ (by rfl) w1.heap.size 3 i0 _ 1 8 Try.underlying37 hi0 hz0 hz1 hz2 rfl (by omega) (.slice none 0 0) 0 [] (by rfl) (World.ownsRow_nil _ _ 3 1)
          ⟨g, 0, none⟩ n cap xs (by rfl) (by omega) (hO.cells rfl) hx hn (by unfold maxLen; omega) (by omega) (Nat.le_refl _) w1.heap.size rfl ?_; intro g2 cap2 w2 ho2 hg2 hat hlt
        simp only [Nat.zero_add, List.nil_append] at ho2
        have hk2 : Kept (fun _ => False) w1 w2 := (Kept.refl _ w1).drew.grown hg2 (fun k e => by simp [Value.ownBlock] at e)
        have e4 : w2.cell? ⟨q, 1, none⟩ = some (.slice none 0 0) := cell_of_heap (HM.out _ hk2)
        have ef4 : w2.frozen? ⟨q, 1, none⟩ = false := frozen_of_heap (HM.out _ hk2)))
    all_goals
      go_wp2
      go_ret
      exact ⟨_, rfl, ⟨_, (HE.out _ _ ho2 hk2).1⟩, (HE.out _ _ ho2 hk2).2⟩
end
end Go.Proofs.Ytgbhefbhleflhaa
