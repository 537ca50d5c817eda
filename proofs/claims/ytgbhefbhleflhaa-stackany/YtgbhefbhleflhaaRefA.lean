/- The document's stacks: New, keep. -/
import Derived.Test.YtgbhefbhleflhaaInts
namespace Go.Proofs.Ytgbhefbhleflhaa
open Go.RowKit
set_option linter.unusedVariables false
set_option linter.unusedSimpArgs false

set_option maxRecDepth 100000 in
theorem newR_no (most : Int) (w : World) (h : ¬ (1 ≤ most ∧ most ≤ 256)) :
    Calls Try.prog 8 #[.int .i64 most] w fun e w' => e = .returned (.tuple #[.pointer none, .int .i64 1]) ∧ w' = w := by
  by_cases h1 : most < 1
  · go_enter Try.func8, Try.ntmps8
    go_wp2
    go_ret2
    exact ⟨rfl, rfl⟩
  · have h2 : ¬ most ≤ 256 := by omega
    go_enter Try.func8, Try.ntmps8
    go_wp2
    go_ret2
    exact ⟨rfl, rfl⟩
set_option maxRecDepth 100000 in
theorem newR_yes (most : Int) (w : World) (h1 : 1 ≤ most) (h2 : most ≤ 256) :
    Calls Try.prog 8 #[.int .i64 most] w fun e w' => e = .returned (.tuple #[.pointer (some ⟨w.heap.size, 0, none⟩), .int .i64 0]) ∧ StackAt 39 3 1 w.heap.size w' w.heap.size most (.slice none 0 0) 0 [] ∧ Kept (fun _ => False) w w' := by
  have hm := made (t := 39) (e := 3) (z := 1) w most (by omega) h2
  have hk := (Kept.refl (fun _ => False) w).alloc (.cells #[.int .i64 most, .slice none 0 0] 39)
  go_enter Try.func8, Try.ntmps8
  go_wp2
  go_ret2
  exact ⟨rfl, hm, hk⟩

section
variable {B : Nat} {w : World} {p : Nat} {most : Int} {v : Value} {n : Nat} {xs : List Value}
/-- The end of keep: a new row is laid into the stack. -/
theorem keep_end {t e : TypeId} {z : Nat} {w w2 : World} {v' : Value} {m : Nat} {ys : List Value} (h : StackAt t e z B w p most v n xs) (hB : B ≤ w.heap.size) (hk : Kept (fun _ => False) w w2) (hm : m ≤ n) (ho : w2.ownsRow w.heap.size e z v' m ys) :
    Turned t e z B w (w2.setCell ⟨p, 1, none⟩ v') p most v m ys := by
  have hp := lt_of_heap h.heap
  refine ⟨v', StackAt.put ((hk.block p hp (fun f => f)).trans h.heap) (own_mono ho hB) h.low (fun e => ?_) (by have := h.fits; omega) h.most, hk.calm.setCell _ (.inl (.inl rfl)), fun g hg => .inr (ho.lt g hg).1⟩
  have := (ho.lt p e).1
  omega
set_option maxRecDepth 100000 in
set_option maxHeartbeats 1000000 in
theorem keepR_any (m : Nat) (hm : m ≤ n) (h : StackAt 39 3 1 B w p most v n xs) (hB : B ≤ w.heap.size) (hx : ∀ u ∈ xs, u.oneCell' = true) :
    Calls Try.prog 43 #[.pointer (some ⟨p, 0, none⟩), .int .i64 m] w fun e w' => e = .returned (.tuple #[]) ∧ Turned 39 3 1 B w w' p most v m (xs.take m) := by
  obtain ⟨i0, hi0, hz0, hz1, hz2⟩ := info_parts Try.info3
  have c1 := h.c1
  have f1 := h.f1
  have hs := h.small
  rcases own_forms h.own with ⟨rfl, rfl, rfl⟩ | ⟨g, cap, rfl, hbg, hgl, hcap⟩
  · obtain rfl : m = 0 := by omega
    have E := keep_end h hB (Kept.refl _ w) (Nat.le_refl 0) (World.ownsRow_nil w _ 3 1)
    clear h
    go_enter Try.func43, Try.ntmps43
    go_wp2_with (at_builtin; refine wpList_append_own_none rfl (.tmp 5) (.tmp 11) 37 rfl w.heap.size 3 i0 1 Try.underlying37 hi0 (.slice none 0 0) 0 [] rfl (World.ownsRow_nil w _ 3 1) rfl ?_)
    go_end0
    exact ⟨rfl, E⟩
  · have hcut := own_cut h.own hm
    simp only [Nat.mul_one] at hcut
    have hxt : ∀ u ∈ xs.take m, u.oneCell' = true := fun u hu => hx u (List.mem_of_mem_take hu)
    have b1 : (0 : Int) ≤ m := Int.natCast_nonneg _
    have b2 : (m : Int) ≤ n := by omega
    have b5 : (m : Int) ≤ cap := by omega
    have HC : Hid (∀ w2, Kept (fun _ => False) w w2 → w2.heap[p]? = some (.cells #[.int .i64 most, .slice (some ⟨g, 0, none⟩) n cap] 39 (0, 0))) := fun w2 k => (k.block p (lt_of_heap h.heap) (fun f => f)).trans h.heap
    have HE : Hid (∀ w2 v', Kept (fun _ => False) w w2 → w2.ownsRow w.heap.size 3 1 v' m (xs.take m) → Turned 39 3 1 B w (w2.setCell ⟨p, 1, none⟩ v') p most (.slice (some ⟨g, 0, none⟩) n cap) m (xs.take m)) := fun w2 v' hk ho => keep_end h hB hk hm ho
    have hl : (xs.take m).length = m := by have := hcut.1; omega
    clear h hx
    go_enter Try.func43, Try.ntmps43
    go_wp2_with (at_builtin; refine wpList_append_own_at _ rfl (.tmp 5) (.tmp 11) 37 rfl w.heap.size 3 i0 _ 1 8 Try.underlying37 hi0 hz0 hz1 hz2 rfl (by omega) (.slice none 0 0) 0 [] rfl (World.ownsRow_nil w _ 3 1) ⟨g, 0, none⟩ m cap (xs.take m) rfl (by omega) (hcut.cells rfl) hxt (by unfold maxLen; omega) (by omega) (by simp) ?_; intro v1 w1 ho1 hg1 _ _; simp only [Nat.zero_add, List.nil_append] at ho1; have hk1 : Kept (fun _ => False) w w1 := (Kept.refl _ w).grown hg1 (fun k e => by simp [Value.ownBlock] at e); have hh1 := HC.out _ hk1; have c3 : w1.cell? ⟨p, 1, none⟩ = some (.slice (some ⟨g, 0, none⟩) n cap) := cell_of_heap hh1; have f3 : w1.frozen? ⟨p, 1, none⟩ = false := frozen_of_heap hh1; clear hh1; obtain ⟨ga, ca, rfl⟩ := own_shape ho1)
    go_end0
    exact ⟨rfl, HE.out _ _ hk1 ho1⟩
end
end Go.Proofs.Ytgbhefbhleflhaa
