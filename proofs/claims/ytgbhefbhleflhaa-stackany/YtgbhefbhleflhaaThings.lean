/- Things, and stacks of them: Push. -/
import Derived.Test.YtgbhefbhleflhaaStkT
import Derived.Deep.RegionLaw
namespace Go.Proofs.Ytgbhefbhleflhaa
open Go.RowKit
set_option linter.unusedVariables false
set_option linter.unusedSimpArgs false
attribute [local go_sem ↓] Go.wp_at_zero Go.wp_at_succ

/-- A thing. -/
structure Th where
  s : ByteArray
  a : Int
  b : Int
def Th.val (t : Th) : Value := .agg #[.string t.s, .int .i64 t.a, .int .i64 t.b]
def Th.cells (t : Th) : List Value := [.string t.s, .int .i64 t.a, .int .i64 t.b]
def thCells : List Th → List Value
  | [] => []
  | t :: l => t.cells ++ thCells l
theorem thCells_length (l : List Th) : (thCells l).length = l.length * 3 := by
  induction l with
  | nil => rfl
  | cons t l ih => simp [thCells, Th.cells, ih]; omega
theorem thCells_at (l : List Th) : ∀ k (hk : k < l.length), (thCells l)[k * 3]? = some (.string l[k].s) ∧ (thCells l)[k * 3 + 1]? = some (.int .i64 l[k].a) ∧ (thCells l)[k * 3 + 2]? = some (.int .i64 l[k].b) := by
  induction l with
  | nil => intro k hk; simp at hk
  | cons t l ih =>
    intro k hk
    cases k with
    | zero => simp [thCells, Th.cells]
    | succ k =>
      have := ih k (by simpa using hk)
      have e : ∀ i, (thCells (t :: l))[(k + 1) * 3 + i]? = (thCells l)[k * 3 + i]? := fun i => by
        rw [show (k + 1) * 3 + i = 3 + (k * 3 + i) by omega]
        simp only [thCells]
        rw [List.getElem?_append_right (by simp [Th.cells])]
        simp [Th.cells]
      have e0 := e 0
      simp only [Nat.add_zero] at e0
      rw [e0, e 1, e 2]
      simpa using this
theorem thCells_append (l k : List Th) : thCells (l ++ k) = thCells l ++ thCells k := by
  induction l with
  | nil => rfl
  | cons a l ih => simp [thCells, ih]
theorem thCells_take (l : List Th) : ∀ m, (thCells l).take (m * 3) = thCells (l.take m) := by
  induction l with
  | nil => intro m; simp [thCells]
  | cons t l ih =>
    intro m
    cases m with
    | zero => simp [thCells]
    | succ m =>
      rw [show (m + 1) * 3 = m * 3 + 3 by omega]
      simp only [thCells, Th.cells, List.cons_append, List.nil_append, List.take_succ_cons, ih]

theorem grown_undrew {w w' : World} {r : Option Nat} (h : w.drew.grownBy w' r) : w.grownBy w' r := ⟨h.os, h.tape, h.output, h.size, h.block⟩
theorem Try.info56 : (Try.prog.info? 56).map (fun i => (i.zero, i.size, i.bytes)) = some (some (.agg #[.string { data := #[] }, .int .i64 0, .int .i64 0]), 3, 32) := by kernel_rfl

section
variable {B : Nat} {w : World} {p : Nat} {most : Int} {v : Value} {n : Nat} {xs : List Value}
set_option maxRecDepth 100000 in
set_option maxHeartbeats 1000000 in
theorem pushT_ok (t : Th) (hr : (n : Int) < most) (h : StackAt 74 56 3 B w p most v n xs) (hB : B ≤ w.heap.size) :
    Calls Try.prog 21 #[.pointer (some ⟨p, 0, none⟩), t.val] w fun e w' => e = .returned (.int .i64 0) ∧ Turned 74 56 3 B w w' p most v (n + 1) (xs ++ t.cells) := by
  obtain ⟨s, a, b⟩ := t
  obtain ⟨i0, hi0, hz0, hz1, hz2⟩ := info_parts Try.info56
  have hs := h.small
  have hne : ((most - (n : Int)) == 0) = false := by simp; omega
  simp only [Th.val, Th.cells]
  go_enter Try.func21, Try.ntmps21
  go_wp2_with fail
  have k0 := (Kept.refl (fun _ => False) w).alloc (.cells #[.string s, .int .i64 a, .int .i64 b] 56)
  have hbx := heap_alloc_new w (.cells #[.string s, .int .i64 a, .int .i64 b] 56)
  generalize w.alloc (.cells #[.string s, .int .i64 a, .int .i64 b] 56) = W0 at k0 hbx ⊢
  generalize hbb : w.heap.size = bx at hbx ⊢
  refine (roomT_any (h.calm k0)).mono ?_
  rintro e w1 ⟨rfl, k, rfl⟩
  have k1 := k0.drewN k
  replace hbx : (W0.drewN k).heap[bx]? = _ := hbx
  generalize W0.drewN k = w1 at *
  have h1 := (h.calm k1)
  have hB1 : B ≤ w1.heap.size := Nat.le_trans hB k1.size
  clear k0
  have b0 : w1.cell? ⟨bx, 0, none⟩ = some (.string s) := cell_of_heap hbx
  have b1 : w1.cell? ⟨bx, 1, none⟩ = some (.int .i64 a) := cell_of_heap hbx
  have b2 : w1.cell? ⟨bx, 2, none⟩ = some (.int .i64 b) := cell_of_heap hbx
  have c1 := h1.c1
  have f1 := h1.f1
  have hown := h1.own
  have fA : ∀ c t, (w1.alloc (.cells c t)).frozen? ⟨p, 1, none⟩ = false := fun c t => by rw [frozen?_alloc_cells]; exact f1
  have HH : Hid (StackAt 74 56 3 B w p most v n xs) := h
  have H1 : Hid (w1.heap[p]? = some (.cells #[.int .i64 most, v] 74 (0, 0)) ∧ v.ownBlock ≠ some p) := ⟨h1.heap, h1.ne⟩
  have HR : Hid ((n : Int) < most) := hr
  have HW : Hid (w.heap.size ≤ w1.heap.size) := k1.size
  have HK : Hid (Kept (fun _ => False) w w1) := k1
  have lm := lt_of_heap h1.heap
  obtain ⟨ga, ca, rfl⟩ := h1.shape
  clear h h1 hr k1 hbx hbb
  go_wp2_with fail
  go_region_law
    ((refine step_append_lies _ (by rfl) _ _ _ (by rfl) B 56 i0 _ 3 32 Try.underlying72 hi0 hz0 hz1 hz2 rfl (by omega) (.slice ga n ca) n xs (by rfl) ((hown.alloc _).drew)
        ⟨w1.heap.size, 0, none⟩ 1 1 [.string s, .int .i64 a, .int .i64 b] (by rfl) (by rfl) (World.news_of_block (cs := #[.string s, .int .i64 a, .int .i64 b]) (t := 56) (fr := (0, 0)) (heap_alloc_new w1 _)) (by simp [Value.oneCell'])
        (by omega) (by unfold maxLen; omega) (by omega) (by simp; omega) (w1.heap.size + 1) (by simp) ?_; intro g cap w2 ho2 hg2 ha2 hl2
      have hh2 := grown_heap H1.out.1 (grown_undrew hg2) H1.out.2
      have e4 : w2.cell? ⟨p, 1, none⟩ = some (.slice ga n ca) := cell_of_heap hh2
      have ef4 : w2.frozen? ⟨p, 1, none⟩ = false := frozen_of_heap hh2))
  all_goals
    go_wp2
    go_ret
    refine ⟨rfl, push_end HH.out hB ((HK.out.alloc _).drew) ho2 hg2 (ha2.imp_right fun e => ?_) HR.out⟩
    have := HW.out
    omega
end
end Go.Proofs.Ytgbhefbhleflhaa
