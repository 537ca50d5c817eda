/- A step over a stack and the document's: push, pop, peek, swap, cut, clear. -/
import Derived.Test.YtgbhefbhleflhaaTwo
namespace Go.Proofs.Ytgbhefbhleflhaa
open Go.RowKit
set_option linter.unusedVariables false
set_option linter.unusedSimpArgs false
section
variable {B : Nat} {w : World} {p q : Nat} {most : Int} {v u : Value} {ys : List Int}

set_option maxRecDepth 100000 in
set_option maxHeartbeats 1000000 in
theorem does_push (h : Two B w p q most v u ys) (o : Bool) (x : Int) :
    Calls Try.prog 11 #[.pointer (some ⟨p, 0, none⟩), .pointer (some ⟨q, 0, none⟩), .agg #[.bool o, .int .i64 1, .int .i64 x]] w fun e w' => e = .returned (.bool true) ∧ Did B w w' p q most v u := by
  go_enter Try.func11, Try.ntmps11
  go_wp2_with fail
  have k0 := (Kept.refl (fun _ => False) w).alloc (.cells #[.bool o, .int .i64 1, .int .i64 x] 32)
  have hb := heap_alloc_new w (.cells #[.bool o, .int .i64 1, .int .i64 x] 32)
  generalize w.alloc (.cells #[.bool o, .int .i64 1, .int .i64 x] 32) = W0 at k0 hb ⊢
  generalize hbb : w.heap.size = b at hb ⊢
  have h0 := h.calm k0
  have HBB : Hid (w.heap.size = b) := hbb
  clear hbb
  by_cases hr : (ys.length : Int) < most
  · refine (pushI_ok x hr h0.a h0.hB).mono ?_
    rintro e w1 ⟨rfl, t1⟩
    obtain ⟨hx1, hB1⟩ := h0.ref t1
    have c2 : w1.cell? ⟨b, 2, none⟩ = some (.int .i64 x) := cell_of_heap (h.box k0 t1 HBB.out hb)
    go_wp2_with fail
    refine (pushR_ok x hr hx1 hB1).mono ?_
    rintro e w2 ⟨rfl, t2⟩
    go_wp2
    go_ret
    exact ⟨rfl, h.both k0 t1 t2 (ys ++ [x]) (by simp) (by simp)⟩
  · have hq : (ys.length : Int) = most := by have := h.a.fits; omega
    refine (pushI_full (.int .i64 x) hq h0.a).mono ?_
    rintro e w1 ⟨rfl, k1⟩
    have h1 := h0.calm k1
    have c2 : w1.cell? ⟨b, 2, none⟩ = some (.int .i64 x) := cell_of_heap ((k1.block b (lt_of_heap hb) (fun f => f)).trans hb)
    go_wp2_with fail
    refine (pushR_full x hq h1.x).mono ?_
    rintro e w2 ⟨rfl, k2⟩
    go_wp2
    go_ret
    exact ⟨rfl, h.did ((k0.trans k1 (fun _ _ f => f)).trans k2 (fun _ _ f => f))⟩
theorem map_take (ys : List Int) (n : Nat) : (ys.map (Value.int .i64)).take n = (ys.take n).map (Value.int .i64) := by
  rw [List.map_take]

set_option maxRecDepth 100000 in
set_option maxHeartbeats 1000000 in
theorem does_pop (h : Two B w p q most v u ys) (o : Bool) (x : Int) :
    Calls Try.prog 11 #[.pointer (some ⟨p, 0, none⟩), .pointer (some ⟨q, 0, none⟩), .agg #[.bool o, .int .i64 2, .int .i64 x]] w fun e w' => e = .returned (.bool true) ∧ Did B w w' p q most v u := by
  go_enter Try.func11, Try.ntmps11
  go_wp2_with fail
  have k0 := (Kept.refl (fun _ => False) w).alloc (.cells #[.bool o, .int .i64 2, .int .i64 x] 32)
  have hb := heap_alloc_new w (.cells #[.bool o, .int .i64 2, .int .i64 x] 32)
  generalize w.alloc (.cells #[.bool o, .int .i64 2, .int .i64 x] 32) = W0 at k0 hb ⊢
  generalize hbb : w.heap.size = b at hb ⊢
  have h0 := h.calm k0
  have HBB : Hid (w.heap.size = b) := hbb
  clear hbb
  rcases hn : ys.length with _ | n
  · have e1 := h0.a
    have e2 := h0.x
    rw [hn] at e1 e2
    refine (popI_no e1).mono ?_
    rintro e w1 ⟨rfl, rfl⟩
    clear hn
    go_wp2_with fail
    refine (popR_no e2).mono ?_
    rintro e w2 ⟨rfl, rfl⟩
    go_wp2
    go_ret
    exact ⟨rfl, h.did k0⟩
  · have e1 := h0.a
    rw [hn] at e1
    have P1 := popI_ok e1
    rw [map_getD ys n (by omega)] at P1
    refine P1.mono ?_
    rintro e w1 ⟨rfl, t1⟩
    obtain ⟨hx1, hB1⟩ := h0.ref t1
    rw [hn] at hx1
    have P2 := popR_ok hx1 hB1
    have HN : Hid (ys.length = n + 1) := hn
    generalize ys.getD n 0 = z at P1 P2 ⊢
    have hzz : (z == z) = true := by simp
    clear hn P1
    go_wp2_with fail
    refine P2.mono ?_
    rintro e w2 ⟨rfl, t2⟩
    go_wp2
    go_ret
    exact ⟨rfl, h.both k0 t1 t2 (ys.take n) (by have := HN.out; simp; omega) (map_take ys n)⟩

set_option maxRecDepth 100000 in
set_option maxHeartbeats 1000000 in
theorem does_peek (h : Two B w p q most v u ys) (o : Bool) (x : Int) :
    Calls Try.prog 11 #[.pointer (some ⟨p, 0, none⟩), .pointer (some ⟨q, 0, none⟩), .agg #[.bool o, .int .i64 3, .int .i64 x]] w fun e w' => e = .returned (.bool true) ∧ Did B w w' p q most v u := by
  go_enter Try.func11, Try.ntmps11
  go_wp2_with fail
  have k0 := (Kept.refl (fun _ => False) w).alloc (.cells #[.bool o, .int .i64 3, .int .i64 x] 32)
  have hb := heap_alloc_new w (.cells #[.bool o, .int .i64 3, .int .i64 x] 32)
  generalize w.alloc (.cells #[.bool o, .int .i64 3, .int .i64 x] 32) = W0 at k0 hb ⊢
  generalize hbb : w.heap.size = b at hb ⊢
  have h0 := h.calm k0
  have HBB : Hid (w.heap.size = b) := hbb
  clear hbb
  by_cases hk : 0 ≤ x ∧ x < ys.length
  · obtain ⟨k, rfl⟩ : ∃ k : Nat, x = k := ⟨x.toNat, by omega⟩
    obtain ⟨j, hj⟩ : ∃ j, j + k + 1 = ys.length := ⟨ys.length - 1 - k, by omega⟩
    have P1 := peekI_ok k j hj h0.a
    rw [map_getD ys j (by omega)] at P1
    refine P1.mono ?_
    rintro e w1 ⟨rfl, d, rfl⟩
    have kd : Kept (fun _ => False) W0 (W0.drewN d) := (Kept.refl _ W0).drewN d
    have h1 := h0.calm kd
    have c2 : (W0.drewN d).cell? ⟨b, 2, none⟩ = some (.int .i64 k) := cell_of_heap hb
    have P2 := peekR_ok k j hj h1.x
    rw [map_getD ys j (by omega)] at P2
    generalize W0.drewN d = w1 at *
    generalize ys.getD j 0 = z at P1 P2 ⊢
    have hzz : (z == z) = true := by simp
    clear P1 hk hj
    go_wp2_with fail
    refine P2.mono ?_
    rintro e w2 ⟨rfl, d2, rfl⟩
    go_wp2
    go_ret
    exact ⟨rfl, h.did ((k0.trans kd (fun _ _ f => f)).drewN d2)⟩
  · refine (peekI_no x hk h0.a).mono ?_
    rintro e w1 ⟨rfl, rfl⟩
    have c2 : w1.cell? ⟨b, 2, none⟩ = some (.int .i64 x) := cell_of_heap hb
    have P2 := peekR_no x hk h0.x
    clear hk
    go_wp2_with fail
    refine P2.mono ?_
    rintro e w2 ⟨rfl, rfl⟩
    go_wp2
    go_ret
    exact ⟨rfl, h.did k0⟩

theorem swap_map (ys : List Int) (n : Nat) (hn : n + 2 = ys.length) : swapTop (ys.map (Value.int .i64)) n = ((ys.set (n + 1) (ys.getD n 0)).set n (ys.getD (n + 1) 0)).map (Value.int .i64) := by
  unfold swapTop
  rw [map_getD ys n (by omega), map_getD ys (n + 1) (by omega), List.map_set, List.map_set]

set_option maxRecDepth 100000 in
set_option maxHeartbeats 1000000 in
theorem does_swap (h : Two B w p q most v u ys) (o : Bool) (x : Int) :
    Calls Try.prog 11 #[.pointer (some ⟨p, 0, none⟩), .pointer (some ⟨q, 0, none⟩), .agg #[.bool o, .int .i64 4, .int .i64 x]] w fun e w' => e = .returned (.bool true) ∧ Did B w w' p q most v u := by
  go_enter Try.func11, Try.ntmps11
  go_wp2_with fail
  have k0 := (Kept.refl (fun _ => False) w).alloc (.cells #[.bool o, .int .i64 4, .int .i64 x] 32)
  have hb := heap_alloc_new w (.cells #[.bool o, .int .i64 4, .int .i64 x] 32)
  generalize w.alloc (.cells #[.bool o, .int .i64 4, .int .i64 x] 32) = W0 at k0 hb ⊢
  generalize hbb : w.heap.size = b at hb ⊢
  have h0 := h.calm k0
  have HBB : Hid (w.heap.size = b) := hbb
  clear hbb
  by_cases hn : ys.length < 2
  · refine (swapI_no hn h0.a).mono ?_
    rintro e w1 ⟨rfl, rfl⟩
    have P2 := swapR_no hn h0.x
    clear hn
    go_wp2_with fail
    refine P2.mono ?_
    rintro e w2 ⟨rfl, rfl⟩
    go_wp2
    go_ret
    exact ⟨rfl, h.did k0⟩
  · obtain ⟨n, hn2⟩ : ∃ n, n + 2 = ys.length := ⟨ys.length - 2, by omega⟩
    have e1 := h0.a
    rw [← hn2] at e1
    refine (swapI_ok e1).mono ?_
    rintro e w1 ⟨rfl, t1⟩
    obtain ⟨hx1, hB1⟩ := h0.ref t1
    rw [← hn2] at hx1
    have P2 := swapR_ok hx1
    have HN : Hid (n + 2 = ys.length) := hn2
    clear hn hn2 e1 hx1
    go_wp2_with fail
    refine P2.mono ?_
    rintro e w2 ⟨rfl, t2⟩
    go_wp2
    go_ret
    exact ⟨rfl, h.both k0 t1 t2 _ (by have := HN.out; simp; omega) (swap_map ys n HN.out)⟩

set_option maxRecDepth 100000 in
set_option maxHeartbeats 1000000 in
theorem does_cut (h : Two B w p q most v u ys) (o : Bool) (x : Int) :
    Calls Try.prog 11 #[.pointer (some ⟨p, 0, none⟩), .pointer (some ⟨q, 0, none⟩), .agg #[.bool o, .int .i64 5, .int .i64 x]] w fun e w' => e = .returned (.bool true) ∧ Did B w w' p q most v u := by
  go_enter Try.func11, Try.ntmps11
  go_wp2_with fail
  have k0 := (Kept.refl (fun _ => False) w).alloc (.cells #[.bool o, .int .i64 5, .int .i64 x] 32)
  have hb := heap_alloc_new w (.cells #[.bool o, .int .i64 5, .int .i64 x] 32)
  generalize w.alloc (.cells #[.bool o, .int .i64 5, .int .i64 x] 32) = W0 at k0 hb ⊢
  generalize hbb : w.heap.size = b at hb ⊢
  have h0 := h.calm k0
  have HBB : Hid (w.heap.size = b) := hbb
  clear hbb
  by_cases hk : x < 0
  · refine (cutI_neg x hk).mono ?_
    rintro e w1 ⟨rfl, rfl⟩
    have c2 : w1.cell? ⟨b, 2, none⟩ = some (.int .i64 x) := cell_of_heap hb
    have P2 := cutR_neg (w := w1) (p := q) x hk
    clear hk
    go_wp2_with fail
    refine P2.mono ?_
    rintro e w2 ⟨rfl, rfl⟩
    go_wp2
    go_ret
    exact ⟨rfl, h.did k0⟩
  · by_cases hl : (ys.length : Int) < x
    · refine (cutI_over x hl h0.a).mono ?_
      rintro e w1 ⟨rfl, rfl⟩
      have c2 : w1.cell? ⟨b, 2, none⟩ = some (.int .i64 x) := cell_of_heap hb
      have P2 := cutR_over x hl h0.x
      clear hk hl
      go_wp2_with fail
      refine P2.mono ?_
      rintro e w2 ⟨rfl, rfl⟩
      go_wp2
      go_ret
      exact ⟨rfl, h.did k0⟩
    · obtain ⟨m, hm⟩ : ∃ m : Nat, x = ys.length - m := ⟨(ys.length - x).toNat, by omega⟩
      refine (cutI_ok m (by omega) h0.a x hm).mono ?_
      rintro e w1 ⟨rfl, t1⟩
      rw [Nat.mul_one] at t1
      obtain ⟨hx1, hB1⟩ := h0.ref t1
      have c2 : w1.cell? ⟨b, 2, none⟩ = some (.int .i64 x) := cell_of_heap (h.box k0 t1 HBB.out hb)
      have P2 := cutR_ok m (by omega) hx1 hB1 (ints_one ys) x hm
      have HM : Hid (m ≤ ys.length) := (by omega : m ≤ ys.length)
      clear hk hl hm
      go_wp2_with fail
      refine P2.mono ?_
      rintro e w2 ⟨rfl, t2⟩
      go_wp2
      go_ret
      exact ⟨rfl, h.both k0 t1 t2 (ys.take m) (by have := HM.out; simp; omega) (map_take ys m)⟩

set_option maxRecDepth 100000 in
set_option maxHeartbeats 1000000 in
theorem does_clear (h : Two B w p q most v u ys) (o : Bool) (x : Int) :
    Calls Try.prog 11 #[.pointer (some ⟨p, 0, none⟩), .pointer (some ⟨q, 0, none⟩), .agg #[.bool o, .int .i64 6, .int .i64 x]] w fun e w' => e = .returned (.bool true) ∧ Did B w w' p q most v u := by
  go_enter Try.func11, Try.ntmps11
  go_wp2_with fail
  have k0 := (Kept.refl (fun _ => False) w).alloc (.cells #[.bool o, .int .i64 6, .int .i64 x] 32)
  have hb := heap_alloc_new w (.cells #[.bool o, .int .i64 6, .int .i64 x] 32)
  generalize w.alloc (.cells #[.bool o, .int .i64 6, .int .i64 x] 32) = W0 at k0 hb ⊢
  generalize hbb : w.heap.size = b at hb ⊢
  have h0 := h.calm k0
  have HBB : Hid (w.heap.size = b) := hbb
  clear hbb
  refine (clearI_any h0.a).mono ?_
  rintro e w1 ⟨rfl, t1⟩
  obtain ⟨hx1, hB1⟩ := h0.ref t1
  have c1 := hx1.c1
  have f1 := hx1.f1
  obtain ⟨ga, ca, rfl⟩ := hx1.shape
  have t2 := keep_end hx1 hB1 (Kept.refl _ w1) (Nat.zero_le _) (World.ownsRow_nil w1 _ 3 1)
  clear hx1
  go_wp2
  go_ret
  exact ⟨rfl, h.both k0 t1 t2 [] rfl rfl⟩

set_option maxRecDepth 100000 in
set_option maxHeartbeats 1000000 in
theorem does_else (h : Two B w p q most v u ys) (o : Bool) (x : Int)  (kind : Int) (hk : ¬ (1 ≤ kind ∧ kind ≤ 7)) :
    Calls Try.prog 11 #[.pointer (some ⟨p, 0, none⟩), .pointer (some ⟨q, 0, none⟩), .agg #[.bool o, .int .i64 kind, .int .i64 x]] w fun e w' => e = .returned (.bool true) ∧ Did B w w' p q most v u := by
  have k0 := (Kept.refl (fun _ => False) w).alloc (.cells #[.bool o, .int .i64 kind, .int .i64 x] 32)
  have e1 : (kind == 1) = false := by simp; omega
  have e2 : (kind == 2) = false := by simp; omega
  have e3 : (kind == 3) = false := by simp; omega
  have e4 : (kind == 4) = false := by simp; omega
  have e5 : (kind == 5) = false := by simp; omega
  have e6 : (kind == 6) = false := by simp; omega
  have e7 : (kind == 7) = false := by simp; omega
  clear hk
  go_enter Try.func11, Try.ntmps11
  go_wp2
  go_ret
  exact ⟨rfl, h.did k0⟩
end
end Go.Proofs.Ytgbhefbhleflhaa
