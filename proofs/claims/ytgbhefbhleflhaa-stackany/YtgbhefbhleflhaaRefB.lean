/- The document's stacks: Push, Pop, Peek, Cut. -/
import Derived.Test.YtgbhefbhleflhaaRefA
namespace Go.Proofs.Ytgbhefbhleflhaa
open Go.RowKit
set_option linter.unusedVariables false
set_option linter.unusedSimpArgs false

section
variable {B : Nat} {w : World} {p : Nat} {most : Int} {v : Value} {n : Nat} {xs : List Value}
theorem turned_drew {t e : TypeId} {z : Nat} {w' : World} {k : Nat} (h : Turned t e z B (w.drewN k) w' p most v n xs) : Turned t e z B w w' p most v n xs := by
  obtain ⟨v', a1, a2, a3⟩ := h
  exact ⟨v', a1, ⟨a2.os, a2.tape, a2.output, a2.size, a2.block⟩, a3⟩
set_option maxRecDepth 100000 in
theorem pushR_full (x : Int) (hr : (n : Int) = most) (h : StackAt 39 3 1 B w p most v n xs) :
    Calls Try.prog 30 #[.pointer (some ⟨p, 0, none⟩), .int .i64 x] w fun e w' => e = .returned (.int .i64 11) ∧ Kept (fun _ => False) w w' := by
  obtain ⟨ga, ca, rfl⟩ := h.shape
  subst hr
  have c0 := h.c0
  have c1 := h.c1
  have b : (n : Int) ≤ n := Int.le_refl _
  clear h
  go_enter Try.func30, Try.ntmps30
  go_wp2_with fail
  go_quiet (fail)
  go_wp2
  go_ret
  exact ⟨rfl, (Kept.refl _ w).drewN _⟩
set_option maxRecDepth 100000 in
set_option maxHeartbeats 1000000 in
theorem pushR_ok (x : Int) (hr : (n : Int) < most) (h : StackAt 39 3 1 B w p most v n xs) (hB : B ≤ w.heap.size) :
    Calls Try.prog 30 #[.pointer (some ⟨p, 0, none⟩), .int .i64 x] w fun e w' => e = .returned (.int .i64 0) ∧ Turned 39 3 1 B w w' p most v (n + 1) (xs ++ [.int .i64 x]) := by
  obtain ⟨i0, hi0, hz0, hz1, hz2⟩ := info_parts Try.info3
  obtain ⟨ga, ca, rfl⟩ := h.shape
  have hs := h.small
  have c0 := h.c0
  have c1 := h.c1
  have b : ¬ most ≤ (n : Int) := by omega
  have HH : Hid (StackAt 39 3 1 B w p most (.slice ga n ca) n xs) := h
  have HR : Hid ((n : Int) < most) := hr
  clear h hr
  go_enter Try.func30, Try.ntmps30
  go_wp2_with fail
  go_quiet (fail)
  have h1 := HH.out.calm ((Kept.refl _ w).drewN nq)
  have k1 := ((Kept.refl (fun _ => False) w).drewN nq).alloc (.cells #[.int .i64 x] 3)
  have HZ : Hid ((w.drewN nq).heap.size = w.heap.size) := rfl
  generalize w.drewN nq = w1 at *
  clear c0 c1
  have c1 := h1.c1
  have ho := h1.own.alloc (.cells #[.int .i64 x] 3)
  have hB1 : B ≤ w1.heap.size := HZ.out ▸ hB
  have H1 : Hid (w1.heap[p]? = some (.cells #[.int .i64 most, .slice ga n ca] 39 (0, 0)) ∧ (Value.slice ga n ca).ownBlock ≠ some p) := ⟨h1.heap, h1.ne⟩
  clear h1
  go_wp2_with (at_builtin; refine wpList_append_lies _ rfl (.tmp 19) (.tmp 21) 37 rfl B 3 i0 _ 1 8 Try.underlying37 hi0 hz0 hz1 hz2 rfl (by omega) (.slice ga n ca) n xs rfl ho ⟨w1.heap.size, 0, none⟩ 1 1 [.int .i64 x] rfl rfl (World.news_of_block (cs := #[.int .i64 x]) (t := 3) (fr := (0, 0)) (heap_alloc_new w1 _)) (by simp [Value.oneCell']) (by omega) (by unfold maxLen; omega) (by omega) (by simp; omega) (w1.heap.size + 1) (by simp) ?_; intro g cap w2 ho2 hg2 ha2 hl2; have hh2 := grown_heap H1.out.1 hg2 H1.out.2; have c3 : w2.cell? ⟨p, 1, none⟩ = some (.slice ga n ca) := cell_of_heap hh2; have f3 : w2.frozen? ⟨p, 1, none⟩ = false := frozen_of_heap hh2; clear hh2)
  go_ret
  refine ⟨rfl, push_end HH.out hB k1 ho2 hg2 (ha2.imp_right fun e => ?_) HR.out⟩
  have := HZ.out
  omega
set_option maxRecDepth 100000 in
theorem popR_no (h : StackAt 39 3 1 B w p most v 0 xs) :
    Calls Try.prog 31 #[.pointer (some ⟨p, 0, none⟩)] w fun e w' => e = .returned (.tuple #[.int .i64 0, .int .i64 12]) ∧ w' = w := by
  obtain ⟨ga, ca, rfl⟩ := h.shape
  have c1 := h.c1
  clear h
  go_enter Try.func31, Try.ntmps31
  go_wp2
  go_ret2
  exact ⟨rfl, rfl⟩
set_option maxRecDepth 100000 in
set_option maxHeartbeats 1000000 in
theorem popR_ok {ys : List Int} (h : StackAt 39 3 1 B w p most v (n + 1) (ys.map (Value.int .i64))) (hB : B ≤ w.heap.size) :
    Calls Try.prog 31 #[.pointer (some ⟨p, 0, none⟩)] w fun e w' => e = .returned (.tuple #[.int .i64 (ys.getD n 0), .int .i64 0]) ∧ Turned 39 3 1 B w w' p most v n ((ys.map (Value.int .i64)).take n) := by
  have hD := keepR_any n (by omega) h hB (by intro u hu; obtain ⟨x, _, rfl⟩ := List.mem_map.1 hu; rfl)
  have hs := h.small
  have hl := h.own.1
  simp only [List.length_map, Nat.mul_one] at hl
  rcases own_forms h.own with ⟨rfl, h0, _⟩ | ⟨g, cap, rfl, hbg, hgl, hcap⟩
  · omega
  have c1 := h.c1
  have d0 := own_at h.own (j := n) (by omega)
  rw [map_getD ys _ (by omega)] at d0
  generalize ys.getD n 0 = u at *
  have b0 : (0 : Int) ≤ n := Int.natCast_nonneg _
  have b1 : (n : Int) < n + 1 := by omega
  have b2 : ((n : Int) + 1 == 0) = false := by simp; omega
  clear h hl
  go_enter Try.func31, Try.ntmps31
  go_wp2_with fail
  refine hD.mono ?_
  rintro e w1 ⟨rfl, E⟩
  go_wp2
  go_ret2
  exact ⟨rfl, E⟩
set_option maxRecDepth 100000 in
theorem peekR_no (k : Int) (hk : ¬ (0 ≤ k ∧ k < n)) (h : StackAt 39 3 1 B w p most v n xs) :
    Calls Try.prog 32 #[.pointer (some ⟨p, 0, none⟩), .int .i64 k] w fun e w' => e = .returned (.tuple #[.int .i64 0, .int .i64 2]) ∧ w' = w := by
  obtain ⟨ga, ca, rfl⟩ := h.shape
  have c1 := h.c1
  clear h
  by_cases h0 : k < 0
  · go_enter Try.func32, Try.ntmps32
    go_wp2
    go_ret2
    exact ⟨rfl, rfl⟩
  · have h1 : (n : Int) ≤ k := by omega
    clear hk
    go_enter Try.func32, Try.ntmps32
    go_wp2
    go_ret2
    exact ⟨rfl, rfl⟩
set_option maxRecDepth 100000 in
set_option maxHeartbeats 1000000 in
theorem peekR_ok (k j : Nat) (hk : j + k + 1 = n) (h : StackAt 39 3 1 B w p most v n xs) :
    Calls Try.prog 32 #[.pointer (some ⟨p, 0, none⟩), .int .i64 k] w fun e w' => e = .returned (.tuple #[xs.getD j undef, .int .i64 0]) ∧ ∃ k, w' = w.drewN k := by
  have hs := h.small
  have c1 := h.c1
  rcases own_forms h.own with ⟨rfl, h0, _⟩ | ⟨g, cap, rfl, hbg, hgl, hcap⟩
  · omega
  have hc := own_at h.own (show j < n by omega)
  generalize xs.getD j undef = u at *
  clear h
  have h0 : ¬ (k : Int) < 0 := by omega
  have h1 : (k : Int) < n := by omega
  have hw : IntKind.i64.wrap (IntKind.i64.wrap ((n : Int) - 1) - k) = j := by rw [wrap_small (x := (n : Int) - 1) (by omega) (by omega), wrap_small (by omega) (by omega)]; omega
  have b1 : (0 : Int) ≤ j := Int.natCast_nonneg _
  have b2 : (j : Int) < n := by omega
  have HK : Hid (j + k + 1 = n) := hk
  clear hk
  go_enter Try.func32, Try.ntmps32
  go_wp2_with fail
  go_quiet (fail)
  go_wp2
  go_ret2
  exact ⟨rfl, _, rfl⟩
set_option maxRecDepth 100000 in
theorem cutR_neg (k : Int) (hk : k < 0) :
    Calls Try.prog 35 #[.pointer (some ⟨p, 0, none⟩), .int .i64 k] w fun e w' => e = .returned (.int .i64 1) ∧ w' = w := by
  go_enter Try.func35, Try.ntmps35
  go_wp2
  go_ret
  exact ⟨rfl, rfl⟩
set_option maxRecDepth 100000 in
theorem cutR_over (k : Int) (hk : (n : Int) < k) (h : StackAt 39 3 1 B w p most v n xs) :
    Calls Try.prog 35 #[.pointer (some ⟨p, 0, none⟩), .int .i64 k] w fun e w' => e = .returned (.int .i64 12) ∧ w' = w := by
  obtain ⟨ga, ca, rfl⟩ := h.shape
  have c1 := h.c1
  have h0 : ¬ k < 0 := by omega
  have h1 : ¬ k ≤ n := by omega
  clear h
  go_enter Try.func35, Try.ntmps35
  go_wp2
  go_ret
  exact ⟨rfl, rfl⟩
set_option maxRecDepth 100000 in
set_option maxHeartbeats 1000000 in
theorem cutR_ok (m : Nat) (hm : m ≤ n) (h : StackAt 39 3 1 B w p most v n xs) (hB : B ≤ w.heap.size) (hx : ∀ u ∈ xs, u.oneCell' = true) (k : Int) (hk : k = n - m) :
    Calls Try.prog 35 #[.pointer (some ⟨p, 0, none⟩), .int .i64 k] w fun e w' => e = .returned (.int .i64 0) ∧ Turned 39 3 1 B w w' p most v m (xs.take m) := by
  obtain ⟨ga, ca, rfl⟩ := h.shape
  have c1 := h.c1
  have hs := h.small
  have hD := keepR_any m hm h hB hx
  have h0 : ¬ k < 0 := by omega
  have h1 : k ≤ n := by omega
  have hw : (n : Int) - k = m := by omega
  clear h hk
  go_enter Try.func35, Try.ntmps35
  go_wp2_with fail
  refine hD.mono ?_
  rintro e w2 ⟨rfl, E⟩
  go_wp2
  go_ret
  exact ⟨rfl, E⟩
end
end Go.Proofs.Ytgbhefbhleflhaa
