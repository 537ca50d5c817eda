/- Stacks of things: Peek. -/
import Derived.Test.YtgbhefbhleflhaaThings
namespace Go.Proofs.Ytgbhefbhleflhaa
open Go.RowKit
set_option linter.unusedVariables false
set_option linter.unusedSimpArgs false
attribute [local go_sem ↓] Go.wp_at_zero Go.wp_at_succ

def Th.zero : Th := ⟨{ data := #[] }, 0, 0⟩
section
variable {B : Nat} {w : World} {p : Nat} {most : Int} {v : Value} {n : Nat} {xs : List Value}
set_option maxRecDepth 100000 in
set_option maxHeartbeats 1000000 in
theorem peekT_no (k : Int) (hk : ¬ k < n) (h : StackAt 74 56 3 B w p most v n xs) :
    Calls Try.prog 27 #[.pointer (some ⟨p, 0, none⟩), .int .i64 k] w fun e w' => e = .returned (.tuple #[Th.zero.val, .int .i64 2]) ∧ Kept (fun _ => False) w w' := by
  have h0 : ¬ k < 0 := by omega
  have h1 : (n : Int) ≤ k := by omega
  clear hk
  go_enter Try.func27, Try.ntmps27
  go_wp2_with fail
  have k0 := (Kept.refl (fun _ => False) w).alloc (.cells #[.string { data := #[] }, .int .i64 0, .int .i64 0] 56)
  have hbx := heap_alloc_new w (.cells #[.string { data := #[] }, .int .i64 0, .int .i64 0] 56)
  generalize w.alloc (.cells #[.string { data := #[] }, .int .i64 0, .int .i64 0] 56) = W0 at k0 hbx ⊢
  generalize hbb : w.heap.size = bx at hbx ⊢
  refine (lenT_any (h.calm k0)).mono ?_
  rintro e w1 ⟨rfl, rfl⟩
  have b0 : w1.cell? ⟨bx, 0, none⟩ = some (.string { data := #[] }) := cell_of_heap hbx
  have b1 : w1.cell? ⟨bx, 1, none⟩ = some (.int .i64 0) := cell_of_heap hbx
  have b2 : w1.cell? ⟨bx, 2, none⟩ = some (.int .i64 0) := cell_of_heap hbx
  have f0 : w1.frozen? ⟨bx, 0, none⟩ = false := frozen_of_heap hbx
  have f1 : w1.frozen? ⟨bx, 1, none⟩ = false := frozen_of_heap hbx
  have f2 : w1.frozen? ⟨bx, 2, none⟩ = false := frozen_of_heap hbx
  have hlt := lt_of_heap hbx
  have hbe : w.heap.size ≤ bx := Nat.le_of_eq hbb
  have HK : Hid (∀ o (v0 v1 v2 : Value), Kept (fun _ => False) w ((((w1.setCell ⟨bx, 0, none⟩ v0).setCell ⟨bx, 1, none⟩ v1).setCell ⟨bx, 2, none⟩ v2).alloc o)) := fun o v0 v1 v2 => (((k0.setCell _ (.inr hbe)).setCell _ (.inr hbe)).setCell _ (.inr hbe)).alloc o
  clear h k0 hbx hbb hbe
  go_wp2
  exact bodyPost_ret (v := .tuple #[Th.zero.val, .int .i64 2]) (by simp [results, Try.results27, go_sem, b0, b1, b2, Th.zero, Th.val, hlt, Nat.ne_of_lt hlt]) rfl ⟨rfl, HK.out _ _ _ _⟩
set_option maxRecDepth 100000 in
set_option maxHeartbeats 1000000 in
theorem peekT_ok (ts : List Th) (t : Th) (k j : Nat) (hk : j + k + 1 = n) (hn : ts.length = n) (ht : ts[j]? = some t) (h : StackAt 74 56 3 B w p most v n (thCells ts)) :
    Calls Try.prog 27 #[.pointer (some ⟨p, 0, none⟩), .int .i64 k] w fun e w' => e = .returned (.tuple #[t.val, .int .i64 0]) ∧ Kept (fun _ => False) w w' := by
  have hjl : j < ts.length := by omega
  obtain ⟨s, a, b⟩ := t
  obtain ⟨q0, q1, q2⟩ := thCells_at ts j hjl
  have he : ts[j] = ⟨s, a, b⟩ := by rw [List.getElem?_eq_getElem hjl] at ht; exact Option.some.inj ht
  rw [he] at q0 q1 q2
  have hl := thCells_length ts
  rw [hn] at hl
  clear ht he hjl hn
  have hs := h.small
  have k0 := (Kept.refl (fun _ => False) w).alloc (.cells #[.string { data := #[] }, .int .i64 0, .int .i64 0] 56)
  have hbx := heap_alloc_new w (.cells #[.string { data := #[] }, .int .i64 0, .int .i64 0] 56)
  go_enter Try.func27, Try.ntmps27
  go_wp2_with fail
  generalize w.alloc (.cells #[.string { data := #[] }, .int .i64 0, .int .i64 0] 56) = W0 at k0 hbx ⊢
  generalize hbb : w.heap.size = bx at hbx ⊢
  have h0 := h.calm k0
  have c1 := h0.c1
  rcases own_forms h0.own with ⟨_, hz, _⟩ | ⟨g, cap, rfl, hbg, hgl, hcap⟩
  · omega
  have hgb : g < bx := by
    have := (h.own.lt g rfl).2
    omega
  have d0 : W0.cell? ⟨g, j * 3, none⟩ = some (.string s) := (h0.own.cellAt (j * 3) (by omega)).trans q0
  have d1 : W0.cell? ⟨g, j * 3 + 1, none⟩ = some (.int .i64 a) := (h0.own.cellAt (j * 3 + 1) (by omega)).trans q1
  have d2 : W0.cell? ⟨g, j * 3 + 2, none⟩ = some (.int .i64 b) := (h0.own.cellAt (j * 3 + 2) (by omega)).trans q2
  have b0 : W0.cell? ⟨bx, 0, none⟩ = some (.string { data := #[] }) := cell_of_heap hbx
  have b1 : W0.cell? ⟨bx, 1, none⟩ = some (.int .i64 0) := cell_of_heap hbx
  have b2 : W0.cell? ⟨bx, 2, none⟩ = some (.int .i64 0) := cell_of_heap hbx
  have f0 : W0.frozen? ⟨bx, 0, none⟩ = false := frozen_of_heap hbx
  have f1 : W0.frozen? ⟨bx, 1, none⟩ = false := frozen_of_heap hbx
  have f2 : W0.frozen? ⟨bx, 2, none⟩ = false := frozen_of_heap hbx
  have hbe : w.heap.size ≤ bx := Nat.le_of_eq hbb
  have HK : Hid (∀ (v0 v1 v2 : Value), Kept (fun _ => False) w ((((W0).setCell ⟨bx, 0, none⟩ v0).setCell ⟨bx, 1, none⟩ v1).setCell ⟨bx, 2, none⟩ v2).drew) := fun v0 v1 v2 => (((k0.setCell _ (.inr hbe)).setCell _ (.inr hbe)).setCell _ (.inr hbe)).drew
  have hL0 := lenT_any h0
  have hL := lenT_any h0.drew
  have i0 : ¬ (k : Int) < 0 := by omega
  have i1 : (k : Int) < n := by omega
  have hw : IntKind.i64.wrap (IntKind.i64.wrap ((n : Int) - 1) - k) = j := by rw [wrap_small (x := (n : Int) - 1) (by omega) (by omega), wrap_small (by omega) (by omega)]; omega
  have i2 : (0 : Int) ≤ j := Int.natCast_nonneg _
  have i3 : (j : Int) < n := by omega
  have hne : g ≠ bx := by omega
  clear hk h h0 k0 hbx hbb hbe q0 q1 q2 hl
  refine hL0.mono ?_
  rintro e w1 ⟨rfl, rfl⟩
  simp only [Th.val]
  go_wp2_with fail
  go_region_with (go_at_call 25; refine hL.mono ?_; rintro e w2 ⟨rfl, rfl⟩)
  all_goals
    go_wp2
    exact bodyPost_ret (v := .tuple #[.agg #[.string s, .int .i64 a, .int .i64 b], .int .i64 0]) (by simp [results, Try.results27, go_sem, b0, b1, b2]) rfl ⟨rfl, HK.out _ _ _⟩
end
end Go.Proofs.Ytgbhefbhleflhaa
