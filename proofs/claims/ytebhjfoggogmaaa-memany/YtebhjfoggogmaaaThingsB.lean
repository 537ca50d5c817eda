/- Trade of the code's rows of things, with no meter. -/
import Derived.Test.YtebhjfoggogmaaaThings
namespace Go.Proofs.Ytebhjfoggogmaaa
open Go.RowKit
set_option linter.unusedVariables false
set_option linter.unusedSimpArgs false
attribute [local go_sem ↓] Go.wp_at_zero Go.wp_at_succ

/-- Three boxes, one behind the other. -/
theorem three (w : World) (o1 o2 o3 : Obj) : Kept (fun _ => False) w (((w.alloc o1).alloc o2).alloc o3) ∧ (((w.alloc o1).alloc o2).alloc o3).heap[w.heap.size]? = some o1 ∧ (((w.alloc o1).alloc o2).alloc o3).heap[w.heap.size + 1]? = some o2 ∧ (((w.alloc o1).alloc o2).alloc o3).heap[w.heap.size + 1 + 1]? = some o3 ∧ (((w.alloc o1).alloc o2).alloc o3).heap.size = w.heap.size + 3 := by
  have s1 : (w.alloc o1).heap.size = w.heap.size + 1 := by simp
  have s2 : ((w.alloc o1).alloc o2).heap.size = w.heap.size + 1 + 1 := by simp
  have a1 := heap_alloc_new w o1
  have a2 := heap_alloc_new (w.alloc o1) o2
  have a3 := heap_alloc_new ((w.alloc o1).alloc o2) o3
  rw [s1] at a2
  rw [s2] at a3
  refine ⟨((boxed0 w o1).trans (boxed0 _ o2) (fun _ _ f => f)).trans (boxed0 _ o3) (fun _ _ f => f), ?_, ?_, a3, by simp⟩
  · rw [Below.heap_alloc _ _ _ (by omega), Below.heap_alloc _ _ _ (by omega)]; exact a1
  · rw [Below.heap_alloc _ _ _ (by omega)]; exact a2

set_option maxRecDepth 100000 in
set_option maxHeartbeats 1000000 in
theorem tradeT_out (r : Nat) (c : Nat) (ts : List Th) (k : Nat) (t u : Th) (w : World) (h : RowT w r c ts) (hk : ¬ k < ts.length) :
    Calls Try.prog 27 #[.pointer (some ⟨r, 0, none⟩), .int .i64 k, t.val, u.val] w fun e w' => e = .returned (.tuple #[Th.zero.val, .bool false, .int .i64 2]) ∧ Kept (fun _ => False) w w' := by
  obtain ⟨s1, a1, b1⟩ := t
  obtain ⟨s2, a2, b2⟩ := u
  simp only [Th.val]
  go_enter Try.func27, Try.ntmps27
  go_wp2_with fail
  obtain ⟨k3, p1, p2, p3, p4⟩ := three w (.cells #[.string s1, .int .i64 a1, .int .i64 b1] 66) (.cells #[.string s2, .int .i64 a2, .int .i64 b2] 66) (.cells #[.string { data := #[] }, .int .i64 0, .int .i64 0] 66)
  generalize ((w.alloc (.cells #[.string s1, .int .i64 a1, .int .i64 b1] 66)).alloc (.cells #[.string s2, .int .i64 a2, .int .i64 b2] 66)).alloc (.cells #[.string { data := #[] }, .int .i64 0, .int .i64 0] 66) = W0 at *
  have h0 := h.kept k3 (fun f => f) (fun f => f)
  have c0 : W0.cell? ⟨w.heap.size + 1 + 1, 0, none⟩ = some (.string { data := #[] }) := cell_of_heap p3
  have c1 : W0.cell? ⟨w.heap.size + 1 + 1, 1, none⟩ = some (.int .i64 0) := cell_of_heap p3
  have c2 : W0.cell? ⟨w.heap.size + 1 + 1, 2, none⟩ = some (.int .i64 0) := cell_of_heap p3
  have f0 : W0.frozen? ⟨w.heap.size + 1 + 1, 0, none⟩ = false := frozen_of_heap p3
  have f1 : W0.frozen? ⟨w.heap.size + 1 + 1, 1, none⟩ = false := frozen_of_heap p3
  have f2 : W0.frozen? ⟨w.heap.size + 1 + 1, 2, none⟩ = false := frozen_of_heap p3
  have le2 : w.heap.size ≤ w.heap.size + 1 + 1 := by omega
  have HK : Hid (∀ (o : Obj) (v0 v1 v2 : Value), Kept (fun _ => False) w ((((W0.setCell ⟨w.heap.size + 1 + 1, 0, none⟩ v0).setCell ⟨w.heap.size + 1 + 1, 1, none⟩ v1).setCell ⟨w.heap.size + 1 + 1, 2, none⟩ v2).alloc o)) := fun o v0 v1 v2 => (((k3.setCell _ (.inr le2)).setCell _ (.inr le2)).setCell _ (.inr le2)).alloc o
  refine (hasT_out r c ts k _ h0 hk).mono ?_
  rintro e w1 ⟨rfl, rfl⟩
  clear h0 p1 p2 p3 k3 h
  go_wp2_with fail
  exact bodyPost_ret (v := .tuple #[.agg #[.string { data := #[] }, .int .i64 0, .int .i64 0], .bool false, .int .i64 2]) (by simp [results, Try.results27, go_sem, c0, c1, c2, p4]) rfl ⟨rfl, HK.out _ _ _ _⟩

set_option maxRecDepth 100000 in
set_option maxHeartbeats 1000000 in
theorem tradeT_hit (r : Nat) (c : Nat) (ts : List Th) (k : Nat) (t u : Th) (w : World) (h : RowT w r c ts) (hk : k < ts.length) (hb : teq ts[k].s t.s ts[k].a ts[k].b t.a t.b = true) :
    Calls Try.prog 27 #[.pointer (some ⟨r, 0, none⟩), .int .i64 k, t.val, u.val] w fun e w' => e = .returned (.tuple #[ts[k].val, .bool true, .int .i64 0]) ∧ RowT w' r c (ts.set k u) ∧ Kept (fun i => i = c) w w' := by
  have hlr := lt_of_heap h.row
  have hlc := lt_of_heap h.cells
  obtain ⟨s1, a1, b1⟩ := t
  obtain ⟨s2, a2, b2⟩ := u
  generalize ht : ts[k] = tk at hb ⊢
  obtain ⟨s, a, b⟩ := tk
  simp only [Th.val] at hb ⊢
  have hi0 : (0 : Int) ≤ (k : Int) := Int.natCast_nonneg _
  have hi1 : (k : Int) < (ts.length : Int) := by omega
  have HT : Hid (ts[k] = ⟨s, a, b⟩) := ht
  have hsame : ∀ W, Calls Try.prog 45 #[.agg #[.string s, .int .i64 a, .int .i64 b], .agg #[.string s1, .int .i64 a1, .int .i64 b1]] W fun e w' => e = .returned (.bool true) ∧ Kept (fun _ => False) W w' := fun W => hb ▸ sameT_any s s1 a b a1 b1 W
  clear ht hb
  go_enter Try.func27, Try.ntmps27
  go_wp2_with fail
  obtain ⟨k3, p1, p2, p3, p4⟩ := three w (.cells #[.string s1, .int .i64 a1, .int .i64 b1] 66) (.cells #[.string s2, .int .i64 a2, .int .i64 b2] 66) (.cells #[.string { data := #[] }, .int .i64 0, .int .i64 0] 66)
  generalize ((w.alloc (.cells #[.string s1, .int .i64 a1, .int .i64 b1] 66)).alloc (.cells #[.string s2, .int .i64 a2, .int .i64 b2] 66)).alloc (.cells #[.string { data := #[] }, .int .i64 0, .int .i64 0] 66) = W0 at *
  have h0 := h.kept k3 (fun f => f) (fun f => f)
  refine (hasT_in r c ts k _ h0 hk).mono ?_
  rintro e w1 ⟨rfl, rfl⟩
  have d := h0.cell k hk
  rw [HT.out] at d
  obtain ⟨d0, d1, d2⟩ := d
  simp only at d0 d1 d2
  have e2 : w1.cell? ⟨r, 2, none⟩ = some (.slice (some ⟨c, 0, none⟩) ts.length ts.length) := cell_of_heap h0.row
  have q0 : w1.cell? ⟨w.heap.size, 0, none⟩ = some (.string s1) := cell_of_heap p1
  have q1 : w1.cell? ⟨w.heap.size, 1, none⟩ = some (.int .i64 a1) := cell_of_heap p1
  have q2 : w1.cell? ⟨w.heap.size, 2, none⟩ = some (.int .i64 b1) := cell_of_heap p1
  have lc : c < w.heap.size + 3 := by omega
  have ne1 : ¬ c = w.heap.size + 3 := by omega
  go_wp2_with fail
  have k4 := boxed0 w1 (.cells #[.string s, .int .i64 a, .int .i64 b] 66)
  have p5 := heap_alloc_new w1 (.cells #[.string s, .int .i64 a, .int .i64 b] 66)
  rw [p4] at p5
  have z4 : (w1.alloc (.cells #[.string s, .int .i64 a, .int .i64 b] 66)).heap.size = w.heap.size + 4 := by simp [p4]
  generalize w1.alloc (.cells #[.string s, .int .i64 a, .int .i64 b] 66) = w2 at *
  refine (hsame w2).mono ?_
  rintro e w3 ⟨rfl, k5⟩
  have k6 : Kept (fun _ => False) w1 w3 := k4.trans k5 (fun _ _ f => f)
  have hR := h0.kept k6 (fun f => f) (fun f => f)
  have P2 := (k6.block _ (lt_of_heap p2) (fun f => f)).trans p2
  have P3 := (k6.block _ (lt_of_heap p3) (fun f => f)).trans p3
  have P5 := (k5.block _ (lt_of_heap p5) (fun f => f)).trans p5
  have kw : Kept (fun _ => False) w w3 := k3.trans k6 (fun _ _ f => f)
  have d := hR.cell k hk
  rw [HT.out] at d
  obtain ⟨g0, g1, g2⟩ := d
  simp only at g0 g1 g2
  have j0 : w3.cell? ⟨r, 0, none⟩ = some (.pointer none) := cell_of_heap hR.row
  have j1 : w3.cell? ⟨r, 1, none⟩ = some (.int .i64 0) := cell_of_heap hR.row
  have j2 : w3.cell? ⟨r, 2, none⟩ = some (.slice (some ⟨c, 0, none⟩) ts.length ts.length) := cell_of_heap hR.row
  have x0 : w3.cell? ⟨w.heap.size + 1, 0, none⟩ = some (.string s2) := cell_of_heap P2
  have x1 : w3.cell? ⟨w.heap.size + 1, 1, none⟩ = some (.int .i64 a2) := cell_of_heap P2
  have x2 : w3.cell? ⟨w.heap.size + 1, 2, none⟩ = some (.int .i64 b2) := cell_of_heap P2
  have y0 : w3.cell? ⟨w.heap.size + 1 + 1, 0, none⟩ = some (.string { data := #[] }) := cell_of_heap P3
  have y1 : w3.cell? ⟨w.heap.size + 1 + 1, 1, none⟩ = some (.int .i64 0) := cell_of_heap P3
  have y2 : w3.cell? ⟨w.heap.size + 1 + 1, 2, none⟩ = some (.int .i64 0) := cell_of_heap P3
  have v0 : w3.frozen? ⟨w.heap.size + 1 + 1, 0, none⟩ = false := frozen_of_heap P3
  have v1 : w3.frozen? ⟨w.heap.size + 1 + 1, 1, none⟩ = false := frozen_of_heap P3
  have v2 : w3.frozen? ⟨w.heap.size + 1 + 1, 2, none⟩ = false := frozen_of_heap P3
  have z0 : w3.cell? ⟨w.heap.size + 3, 0, none⟩ = some (.string s) := cell_of_heap P5
  have z1 : w3.cell? ⟨w.heap.size + 3, 1, none⟩ = some (.int .i64 a) := cell_of_heap P5
  have z2 : w3.cell? ⟨w.heap.size + 3, 2, none⟩ = some (.int .i64 b) := cell_of_heap P5
  have l0 : w3.frozen? ⟨c, k * 3, none⟩ = false := frozen_of_heap hR.cells
  have l1 : w3.frozen? ⟨c, k * 3 + 1, none⟩ = false := frozen_of_heap hR.cells
  have l2 : w3.frozen? ⟨c, k * 3 + 2, none⟩ = false := frozen_of_heap hR.cells
  have n1 : ¬ c = w.heap.size + 1 := by omega
  have n2 : ¬ c = w.heap.size + 1 + 1 := by omega
  have n3 : ¬ w.heap.size + 1 = c := by omega
  have n4 : ¬ w.heap.size + 1 + 1 = c := by omega
  have n5 : ¬ w.heap.size + 3 = c := by omega
  have le2 : w.heap.size ≤ w.heap.size + 1 + 1 := by omega
  have kc : Kept (fun i => i = c) w w3 := kw.mono (fun _ _ f => f.elim)
  have HK : Hid (∀ v0 v1 v2 : Value, Kept (fun i => i = c) w ((((((w3.setCell ⟨c, k * 3, none⟩ (.string s2)).setCell ⟨c, k * 3 + 1, none⟩ (.int .i64 a2)).setCell ⟨c, k * 3 + 2, none⟩ (.int .i64 b2)).setCell ⟨w.heap.size + 1 + 1, 0, none⟩ v0).setCell ⟨w.heap.size + 1 + 1, 1, none⟩ v1).setCell ⟨w.heap.size + 1 + 1, 2, none⟩ v2)) :=
    fun v0 v1 v2 => (((((kc.setCell _ (.inl rfl)).setCell _ (.inl rfl)).setCell _ (.inl rfl)).setCell _ (.inr le2)).setCell _ (.inr le2)).setCell _ (.inr le2)
  have HR : Hid (∀ v0 v1 v2 : Value, RowT ((((((w3.setCell ⟨c, k * 3, none⟩ (.string s2)).setCell ⟨c, k * 3 + 1, none⟩ (.int .i64 a2)).setCell ⟨c, k * 3 + 2, none⟩ (.int .i64 b2)).setCell ⟨w.heap.size + 1 + 1, 0, none⟩ v0).setCell ⟨w.heap.size + 1 + 1, 1, none⟩ v1).setCell ⟨w.heap.size + 1 + 1, 2, none⟩ v2) r c (ts.set k ⟨s2, a2, b2⟩)) :=
    fun v0 v1 v2 => (hR.stored k hk ⟨s2, a2, b2⟩).kept ((((Kept.refl (fun i => i = w.heap.size + 1 + 1) _).setCell _ (.inl rfl)).setCell _ (.inl rfl)).setCell _ (.inl rfl)) (by omega) (by omega)
  clear kc
  clear k3 k4 k5 k6 kw p1 p2 p3 p5 P2 P3 P5 h0 h hR d0 d1 d2 e2 q0 q1 q2 hsame z4 p4 lc ne1
  go_wp2_with fail
  go_region_held3 (fun w' => w'.cell? ⟨r, 0, none⟩ = some (.pointer none) ∧ w'.cell? ⟨r, 1, none⟩ = some (.int .i64 0)) (first | go_keep)
    (first | (go_at_call 42; refine (note_nil _ _ _ _ _).mono ?_; rintro e w' ⟨rfl, rfl⟩))
  go_wp2_with fail
  go_region
  all_goals
    go_wp2
    exact bodyPost_ret (v := .tuple #[.agg #[.string s, .int .i64 a, .int .i64 b], .bool true, .int .i64 0]) (by simp [results, Try.results27, go_sem, y0, y1, y2, n1, n2, n3, n4]) rfl ⟨rfl, (HR.out _ _ _).drew.drew, (HK.out _ _ _).drew.drew⟩

set_option maxRecDepth 100000 in
set_option maxHeartbeats 1000000 in
theorem tradeT_miss (r : Nat) (c : Nat) (ts : List Th) (k : Nat) (t u : Th) (w : World) (h : RowT w r c ts) (hk : k < ts.length) (hb : teq ts[k].s t.s ts[k].a ts[k].b t.a t.b = false) :
    Calls Try.prog 27 #[.pointer (some ⟨r, 0, none⟩), .int .i64 k, t.val, u.val] w fun e w' => e = .returned (.tuple #[ts[k].val, .bool false, .int .i64 0]) ∧ RowT w' r c ts ∧ Kept (fun _ => False) w w' := by
  have hlr := lt_of_heap h.row
  have hlc := lt_of_heap h.cells
  obtain ⟨s1, a1, b1⟩ := t
  obtain ⟨s2, a2, b2⟩ := u
  generalize ht : ts[k] = tk at hb ⊢
  obtain ⟨s, a, b⟩ := tk
  simp only [Th.val] at hb ⊢
  have hi0 : (0 : Int) ≤ (k : Int) := Int.natCast_nonneg _
  have hi1 : (k : Int) < (ts.length : Int) := by omega
  have HT : Hid (ts[k] = ⟨s, a, b⟩) := ht
  have hsame : ∀ W, Calls Try.prog 45 #[.agg #[.string s, .int .i64 a, .int .i64 b], .agg #[.string s1, .int .i64 a1, .int .i64 b1]] W fun e w' => e = .returned (.bool false) ∧ Kept (fun _ => False) W w' := fun W => hb ▸ sameT_any s s1 a b a1 b1 W
  clear ht hb
  go_enter Try.func27, Try.ntmps27
  go_wp2_with fail
  obtain ⟨k3, p1, p2, p3, p4⟩ := three w (.cells #[.string s1, .int .i64 a1, .int .i64 b1] 66) (.cells #[.string s2, .int .i64 a2, .int .i64 b2] 66) (.cells #[.string { data := #[] }, .int .i64 0, .int .i64 0] 66)
  generalize ((w.alloc (.cells #[.string s1, .int .i64 a1, .int .i64 b1] 66)).alloc (.cells #[.string s2, .int .i64 a2, .int .i64 b2] 66)).alloc (.cells #[.string { data := #[] }, .int .i64 0, .int .i64 0] 66) = W0 at *
  have h0 := h.kept k3 (fun f => f) (fun f => f)
  refine (hasT_in r c ts k _ h0 hk).mono ?_
  rintro e w1 ⟨rfl, rfl⟩
  have d := h0.cell k hk
  rw [HT.out] at d
  obtain ⟨d0, d1, d2⟩ := d
  simp only at d0 d1 d2
  have e2 : w1.cell? ⟨r, 2, none⟩ = some (.slice (some ⟨c, 0, none⟩) ts.length ts.length) := cell_of_heap h0.row
  have q0 : w1.cell? ⟨w.heap.size, 0, none⟩ = some (.string s1) := cell_of_heap p1
  have q1 : w1.cell? ⟨w.heap.size, 1, none⟩ = some (.int .i64 a1) := cell_of_heap p1
  have q2 : w1.cell? ⟨w.heap.size, 2, none⟩ = some (.int .i64 b1) := cell_of_heap p1
  have lc : c < w.heap.size + 3 := by omega
  have ne1 : ¬ c = w.heap.size + 3 := by omega
  go_wp2_with fail
  have k4 := boxed0 w1 (.cells #[.string s, .int .i64 a, .int .i64 b] 66)
  have p5 := heap_alloc_new w1 (.cells #[.string s, .int .i64 a, .int .i64 b] 66)
  rw [p4] at p5
  have z4 : (w1.alloc (.cells #[.string s, .int .i64 a, .int .i64 b] 66)).heap.size = w.heap.size + 4 := by simp [p4]
  generalize w1.alloc (.cells #[.string s, .int .i64 a, .int .i64 b] 66) = w2 at *
  refine (hsame w2).mono ?_
  rintro e w3 ⟨rfl, k5⟩
  have k6 : Kept (fun _ => False) w1 w3 := k4.trans k5 (fun _ _ f => f)
  have hR := h0.kept k6 (fun f => f) (fun f => f)
  have P2 := (k6.block _ (lt_of_heap p2) (fun f => f)).trans p2
  have P3 := (k6.block _ (lt_of_heap p3) (fun f => f)).trans p3
  have P5 := (k5.block _ (lt_of_heap p5) (fun f => f)).trans p5
  have kw : Kept (fun _ => False) w w3 := k3.trans k6 (fun _ _ f => f)
  have d := hR.cell k hk
  rw [HT.out] at d
  obtain ⟨g0, g1, g2⟩ := d
  simp only at g0 g1 g2
  have j0 : w3.cell? ⟨r, 0, none⟩ = some (.pointer none) := cell_of_heap hR.row
  have j1 : w3.cell? ⟨r, 1, none⟩ = some (.int .i64 0) := cell_of_heap hR.row
  have j2 : w3.cell? ⟨r, 2, none⟩ = some (.slice (some ⟨c, 0, none⟩) ts.length ts.length) := cell_of_heap hR.row
  have x0 : w3.cell? ⟨w.heap.size + 1, 0, none⟩ = some (.string s2) := cell_of_heap P2
  have x1 : w3.cell? ⟨w.heap.size + 1, 1, none⟩ = some (.int .i64 a2) := cell_of_heap P2
  have x2 : w3.cell? ⟨w.heap.size + 1, 2, none⟩ = some (.int .i64 b2) := cell_of_heap P2
  have y0 : w3.cell? ⟨w.heap.size + 1 + 1, 0, none⟩ = some (.string { data := #[] }) := cell_of_heap P3
  have y1 : w3.cell? ⟨w.heap.size + 1 + 1, 1, none⟩ = some (.int .i64 0) := cell_of_heap P3
  have y2 : w3.cell? ⟨w.heap.size + 1 + 1, 2, none⟩ = some (.int .i64 0) := cell_of_heap P3
  have v0 : w3.frozen? ⟨w.heap.size + 1 + 1, 0, none⟩ = false := frozen_of_heap P3
  have v1 : w3.frozen? ⟨w.heap.size + 1 + 1, 1, none⟩ = false := frozen_of_heap P3
  have v2 : w3.frozen? ⟨w.heap.size + 1 + 1, 2, none⟩ = false := frozen_of_heap P3
  have z0 : w3.cell? ⟨w.heap.size + 3, 0, none⟩ = some (.string s) := cell_of_heap P5
  have z1 : w3.cell? ⟨w.heap.size + 3, 1, none⟩ = some (.int .i64 a) := cell_of_heap P5
  have z2 : w3.cell? ⟨w.heap.size + 3, 2, none⟩ = some (.int .i64 b) := cell_of_heap P5
  have l0 : w3.frozen? ⟨c, k * 3, none⟩ = false := frozen_of_heap hR.cells
  have l1 : w3.frozen? ⟨c, k * 3 + 1, none⟩ = false := frozen_of_heap hR.cells
  have l2 : w3.frozen? ⟨c, k * 3 + 2, none⟩ = false := frozen_of_heap hR.cells
  have n1 : ¬ c = w.heap.size + 1 := by omega
  have n2 : ¬ c = w.heap.size + 1 + 1 := by omega
  have n3 : ¬ w.heap.size + 1 = c := by omega
  have n4 : ¬ w.heap.size + 1 + 1 = c := by omega
  have n5 : ¬ w.heap.size + 3 = c := by omega
  have le2 : w.heap.size ≤ w.heap.size + 1 + 1 := by omega
  have HK : Hid (∀ v0 v1 v2 : Value, Kept (fun _ => False) w (((w3.setCell ⟨w.heap.size + 1 + 1, 0, none⟩ v0).setCell ⟨w.heap.size + 1 + 1, 1, none⟩ v1).setCell ⟨w.heap.size + 1 + 1, 2, none⟩ v2)) :=
    fun v0 v1 v2 => ((kw.setCell _ (.inr le2)).setCell _ (.inr le2)).setCell _ (.inr le2)
  have HR : Hid (∀ v0 v1 v2 : Value, RowT (((w3.setCell ⟨w.heap.size + 1 + 1, 0, none⟩ v0).setCell ⟨w.heap.size + 1 + 1, 1, none⟩ v1).setCell ⟨w.heap.size + 1 + 1, 2, none⟩ v2) r c ts) :=
    fun v0 v1 v2 => hR.kept ((((Kept.refl (fun i => i = w.heap.size + 1 + 1) _).setCell _ (.inl rfl)).setCell _ (.inl rfl)).setCell _ (.inl rfl)) (by omega) (by omega)
  clear k3 k4 k5 k6 kw p1 p2 p3 p5 P2 P3 P5 h0 h hR d0 d1 d2 e2 q0 q1 q2 hsame z4 p4 lc ne1
  go_wp2_with fail
  go_region_held3 (fun w' => w'.cell? ⟨r, 0, none⟩ = some (.pointer none) ∧ w'.cell? ⟨r, 1, none⟩ = some (.int .i64 0)) (first | go_keep)
    (first | (go_at_call 42; refine (note_nil _ _ _ _ _).mono ?_; rintro e w' ⟨rfl, rfl⟩))
  go_wp2
  exact bodyPost_ret (v := .tuple #[.agg #[.string s, .int .i64 a, .int .i64 b], .bool false, .int .i64 0]) (by simp [results, Try.results27, go_sem, y0, y1, y2, n1, n2, n3, n4]) rfl ⟨rfl, (HR.out _ _ _).drew, (HK.out _ _ _).drew⟩
end Go.Proofs.Ytebhjfoggogmaaa
