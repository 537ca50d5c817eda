/- Stacks of ints, further on: Pop, Clear, Swap, Clone, All, Copy. -/
import Derived.Test.YtgbhefbhleflhaaStkI
import Derived.BigRegion
namespace Go.Proofs.Ytgbhefbhleflhaa
open Go.RowKit
set_option linter.unusedVariables false
set_option linter.unusedSimpArgs false
section
variable {B : Nat} {w : World} {p : Nat} {most : Int} {v : Value} {n : Nat} {xs : List Value}
set_option maxRecDepth 100000 in
theorem popI_no (h : StackAt 67 3 1 B w p most v 0 xs) :
    Calls Try.prog 17 #[.pointer (some ⟨p, 0, none⟩)] w fun e w' => e = .returned (.tuple #[.int .i64 0, .int .i64 12]) ∧ w' = w := by
  have hP := peekI_no 0 (by simp) h
  clear h
  go_enter Try.func17, Try.ntmps17
  go_wp2_with fail
  refine hP.mono ?_
  rintro e w1 ⟨rfl, rfl⟩
  clear hP
  go_wp2
  go_ret2
  exact ⟨rfl, rfl⟩
set_option maxRecDepth 100000 in
theorem popI_ok (h : StackAt 67 3 1 B w p most v (n + 1) xs) :
    Calls Try.prog 17 #[.pointer (some ⟨p, 0, none⟩)] w fun e w' => e = .returned (.tuple #[xs.getD n undef, .int .i64 0]) ∧ Turned 67 3 1 B w w' p most v n (xs.take n) := by
  have hP := peekI_ok 0 n (by omega) h
  have hD := fun k => dropI_any n (by omega) (h.calm ((Kept.refl _ w).drewN k)) 1 (by omega)
  simp only [Nat.mul_one] at hD
  have hT : ∀ k w', Turned 67 3 1 B (w.drewN k) w' p most v n (xs.take n) → Turned 67 3 1 B w w' p most v n (xs.take n) := fun k w' ⟨v', a1, a2, a3⟩ => ⟨v', a1, ⟨a2.os, a2.tape, a2.output, a2.size, a2.block⟩, a3⟩
  generalize xs.getD n undef = u at *
  clear h
  go_enter Try.func17, Try.ntmps17
  go_wp2_with fail
  refine hP.mono ?_
  rintro e w1 ⟨rfl, k, rfl⟩
  clear hP
  go_wp2_with fail
  refine (hD k).mono ?_
  rintro e w2 ⟨rfl, E⟩
  go_wp2
  go_ret2
  exact ⟨rfl, hT k _ E⟩
set_option maxRecDepth 100000 in
theorem clearI_any (h : StackAt 67 3 1 B w p most v n xs) :
    Calls Try.prog 36 #[.pointer (some ⟨p, 0, none⟩)] w fun e w' => e = .returned (.tuple #[]) ∧ Turned 67 3 1 B w w' p most v 0 [] := by
  have hL := lenI_any h
  have hD := dropI_any 0 (Nat.zero_le _) h n (by omega)
  simp only [Nat.zero_mul, List.take_zero] at hD
  clear h
  go_enter Try.func36, Try.ntmps36
  go_wp2_with fail
  refine hL.mono ?_
  rintro e w1 ⟨rfl, rfl⟩
  clear hL
  go_wp2_with fail
  refine hD.mono ?_
  rintro e w2 ⟨rfl, E⟩
  go_wp2
  go_end0
  exact ⟨rfl, E⟩
set_option maxRecDepth 100000 in
theorem swapI_no (hn : n < 2) (h : StackAt 67 3 1 B w p most v n xs) :
    Calls Try.prog 29 #[.pointer (some ⟨p, 0, none⟩)] w fun e w' => e = .returned (.int .i64 12) ∧ w' = w := by
  have hL := lenI_any h
  have h2 : (n : Int) < 2 := by omega
  clear h
  go_enter Try.func29, Try.ntmps29
  go_wp2_with fail
  refine hL.mono ?_
  rintro e w1 ⟨rfl, rfl⟩
  clear hL
  go_wp2
  go_ret
  exact ⟨rfl, rfl⟩

theorem cloneI_nil :
    Calls Try.prog 37 #[.slice none 0 0] w fun e w' => e = .returned (.slice none 0 0) ∧ w' = w := by
  have hq := Lib.run_eql_slice_nil (P := Try.prog) w 37 3 none 0 0 0 0 Try.underlying37
  go_enter Try.func37, Try.ntmps37
  go_wp2
  go_ret
  exact ⟨rfl, rfl⟩
set_option maxRecDepth 100000 in
set_option maxHeartbeats 1000000 in
theorem cloneI_some {g cap : Nat} (h : w.ownsRow B 3 1 (.slice (some ⟨g, 0, none⟩) n cap) n xs) (hx : ∀ u ∈ xs, u.oneCell' = true) (hs : n ≤ 256) :
    Calls Try.prog 37 #[.slice (some ⟨g, 0, none⟩) n cap] w fun e w' => ∃ v', e = .returned v' ∧ w'.ownsRow w.heap.size 3 1 v' n xs ∧ Kept (fun _ => False) w w' := by
  obtain ⟨i0, hi0, hz0, hz1, hz2⟩ := info_parts Try.info3
  have hq := Lib.run_eql_slice_nil (P := Try.prog) w 37 3 (some ⟨g, 0, none⟩) n cap 0 0 Try.underlying37
  have hown0 := World.ownsRow_made (base := w.heap.size) (e := 3) (size := 1) w #[] 0 (Nat.le_refl _) (Nat.zero_le _) rfl
  have k0 := (Kept.refl (fun _ => False) w).alloc (.cells #[] 3)
  have hsrc := h.alloc (.cells #[] 3)
  have hl := h.1
  clear h
  go_enter Try.func37, Try.ntmps37
  go_wp2_with (at_builtin; refine wpList_append_own_at _ rfl (.tmp 5) (.tmp 6) 37 rfl w.heap.size 3 i0 _ 1 8 Try.underlying37 hi0 hz0 hz1 hz2 rfl (by omega) (.slice (some ⟨w.heap.size, 0, none⟩) 0 0) 0 [] rfl hown0 ⟨g, 0, none⟩ n cap xs rfl (by omega) (hsrc.cells rfl) hx (by unfold maxLen; omega) (by omega) (by simp) ?_; intro v1 w1 ho1 hg1 _ _)
  go_ret
  simp only [Nat.zero_add, List.nil_append] at ho1
  exact ⟨_, rfl, ho1, k0.grown hg1 (fun k e => .inr (by simp [Value.ownBlock] at e; omega))⟩
theorem cloneI_any (h : w.ownsRow B 3 1 v n xs) (hx : ∀ u ∈ xs, u.oneCell' = true) (hs : n ≤ 256) :
    Calls Try.prog 37 #[v] w fun e w' => ∃ v', e = .returned v' ∧ w'.ownsRow w.heap.size 3 1 v' n xs ∧ Kept (fun _ => False) w w' := by
  rcases own_forms h with ⟨rfl, rfl, rfl⟩ | ⟨g, cap, rfl, hbg, hgl, hcap⟩
  · exact cloneI_nil.mono fun e w' ⟨he, hw⟩ => by subst hw; exact ⟨_, he, World.ownsRow_nil _ _ _ _, Kept.refl _ _⟩
  · exact cloneI_some h hx hs
set_option maxRecDepth 100000 in
theorem allI_any (h : StackAt 67 3 1 B w p most v n xs) (hx : ∀ u ∈ xs, u.oneCell' = true) :
    Calls Try.prog 15 #[.pointer (some ⟨p, 0, none⟩)] w fun e w' => ∃ v', e = .returned v' ∧ w'.ownsRow w.heap.size 3 1 v' n xs ∧ Kept (fun _ => False) w w' := by
  have hC := cloneI_any h.own hx h.small
  have c1 := h.c1
  clear h
  go_enter Try.func15, Try.ntmps15
  go_wp2_with fail
  refine hC.mono ?_
  rintro e w1 ⟨v', rfl, ho, hk⟩
  go_wp2
  go_ret
  exact ⟨_, rfl, ho, hk⟩
theorem own_shape {e : TypeId} {z : Nat} (h : w.ownsRow B e z v n xs) : ∃ ga ca, v = .slice ga n ca := by
  rcases own_forms h with ⟨rfl, rfl, _⟩ | ⟨g, cap, rfl, _⟩
  · exact ⟨_, _, rfl⟩
  · exact ⟨_, _, rfl⟩
theorem copy_end {t e : TypeId} {w w1 : World} (h : StackAt t e 1 B w p most v n xs) {v' : Value} (ho : w1.ownsRow w.heap.size e 1 v' n xs) (hk : Kept (fun _ => False) w w1) :
    StackAt t e 1 w.heap.size (w1.alloc (.cells #[.int .i64 most, v'] t)) w1.heap.size most v' n xs ∧ Kept (fun _ => False) w (w1.alloc (.cells #[.int .i64 most, v'] t)) :=
  ⟨⟨heap_alloc_new w1 _, ho.alloc _, hk.size, fun e => by have := (ho.lt _ e).2; omega, h.fits, h.most⟩, hk.alloc _⟩
set_option maxRecDepth 100000 in
set_option maxHeartbeats 1000000 in
theorem copyI_any (h : StackAt 67 3 1 B w p most v n xs) (hx : ∀ u ∈ xs, u.oneCell' = true) :
    Calls Try.prog 9 #[.pointer (some ⟨p, 0, none⟩)] w fun e w' => ∃ p' v', e = .returned (.pointer (some ⟨p', 0, none⟩)) ∧ StackAt 67 3 1 w.heap.size w' p' most v' n xs ∧ Kept (fun _ => False) w w' := by
  have hA := allI_any h.drew hx
  have c0 : w.drew.cell? ⟨p, 0, none⟩ = some (.int .i64 most) := h.drew.c0
  have HC : Hid (∀ w', Kept (fun _ => False) w.drew w' → w'.cell? ⟨p, 0, none⟩ = some (.int .i64 most)) := fun w' k => (h.drew.calm k).c0
  have HE : Hid (∀ w1 v', w1.ownsRow w.heap.size 3 1 v' n xs → Kept (fun _ => False) w.drew w1 → StackAt 67 3 1 w.heap.size (w1.alloc (.cells #[.int .i64 most, v'] 67)) w1.heap.size most v' n xs ∧ Kept (fun _ => False) w (w1.alloc (.cells #[.int .i64 most, v'] 67))) := fun w1 v' ho hk => copy_end h ho ⟨hk.os, hk.tape, hk.output, hk.size, hk.block⟩
  clear h
  go_enter Try.func9, Try.ntmps9
  go_wp2_with fail
  go_region_with (go_at_call 15; refine hA.mono ?_; rintro e w1 ⟨v', rfl, ho, hk⟩; obtain ⟨ga, ca, rfl⟩ := own_shape ho; have c3 := HC.out _ hk)
  all_goals
    go_wp2
    go_ret
    exact ⟨_, _, rfl, HE.out _ _ ho hk⟩
/-- The two uppermost ones change places. -/
def swapTop (xs : List Value) (n : Nat) : List Value := (xs.set (n + 1) (xs.getD n undef)).set n (xs.getD (n + 1) undef)
theorem swap_end {t e : TypeId} {w : World} {g cap : Nat} (h : StackAt t e 1 B w p most (.slice (some ⟨g, 0, none⟩) (n + 2) cap) (n + 2) xs) (u1 u2 : Value) (h1 : xs.getD n undef = u1) (h2 : xs.getD (n + 1) undef = u2) :
    Turned t e 1 B w ((w.setCell ⟨g, n + 1, none⟩ u1).setCell ⟨g, n, none⟩ u2) p most (.slice (some ⟨g, 0, none⟩) (n + 2) cap) (n + 2) (swapTop xs n) := by
  have hgp : p ≠ g := fun e => h.ne (by simp [Value.ownBlock, e])
  have hk : Kept (Foot p (.slice (some ⟨g, 0, none⟩) (n + 2) cap)) w ((w.setCell ⟨g, n + 1, none⟩ u1).setCell ⟨g, n, none⟩ u2) := ((Kept.refl _ w).setCell _ (.inl (.inr rfl))).setCell _ (.inl (.inr rfl))
  refine ⟨_, ⟨?_, ?_, h.low, h.ne, h.fits, h.most⟩, hk, Fresh.refl _ _⟩
  · rw [heap_setCell_far (by simpa using hgp), heap_setCell_far (by simpa using hgp)]
    exact h.heap
  · have := ((h.own.stored (n + 1) u1).1.stored n u2).1
    unfold swapTop
    rw [h1, h2]
    exact this
theorem set_getD (ys : List Int) (n : Nat) (a : Int) : (ys.set (n + 1) a).getD n 0 = ys.getD n 0 := by
  simp
theorem map_getD (ys : List Int) (j : Nat) (hj : j < ys.length) : (ys.map (Value.int .i64)).getD j undef = .int .i64 (ys.getD j 0) := by
  simp [hj]
set_option maxRecDepth 100000 in
set_option maxHeartbeats 1000000 in
theorem swapI_ok {ys : List Int} (h : StackAt 67 3 1 B w p most v (n + 2) (ys.map (Value.int .i64))) :
    Calls Try.prog 29 #[.pointer (some ⟨p, 0, none⟩)] w fun e w' => e = .returned (.int .i64 0) ∧ Turned 67 3 1 B w w' p most v (n + 2) (swapTop (ys.map (Value.int .i64)) n) := by
  have hL := lenI_any h
  have hs := h.small
  have hl := h.own.1
  simp only [List.length_map, Nat.mul_one] at hl
  rcases own_forms h.own with ⟨rfl, h0, _⟩ | ⟨g, cap, rfl, hbg, hgl, hcap⟩
  · omega
  have c1 := h.drew.c1
  have d0 := own_at h.drew.own (j := n) (by omega)
  have d1 := own_at h.drew.own (j := n + 1) (by omega)
  rw [map_getD ys _ (by omega)] at d0 d1
  have f0 : w.drew.frozen? ⟨g, n, none⟩ = false := h.drew.own.frozenAt n
  have f1 : w.drew.frozen? ⟨g, n + 1, none⟩ = false := h.drew.own.frozenAt (n + 1)
  have O2 := (h.own.stored (n + 1) (.int .i64 (ys.getD n 0))).1
  have d2 : (w.setCell ⟨g, n + 1, none⟩ (.int .i64 (ys.getD n 0))).drew.cell? ⟨g, n, none⟩ = some (.int .i64 (ys.getD n 0)) := by
    have := own_at O2 (j := n) (by omega)
    rw [← List.map_set, map_getD _ _ (by simp; omega), set_getD] at this
    exact this
  have f2 : (w.setCell ⟨g, n + 1, none⟩ (.int .i64 (ys.getD n 0))).drew.frozen? ⟨g, n, none⟩ = false := O2.frozenAt n
  clear O2
  have E := swap_end h.drew _ _ (map_getD ys n (by omega)) (map_getD ys (n + 1) (by omega))
  generalize ys.getD n 0 = u1 at *
  generalize ys.getD (n + 1) 0 = u2 at *
  have b0 : (0 : Int) ≤ n := Int.natCast_nonneg _
  have b4 : ¬ ((n : Int) + 2 < 2) := by omega
  have w1 : IntKind.i64.wrap ((n : Int) + 2 - 1) = n + 1 := by rw [wrap_small (by omega) (by omega)]; omega
  have w2 : IntKind.i64.wrap ((n : Int) + 2 - 2) = n := by rw [wrap_small (by omega) (by omega)]; omega
  have b5 : (n : Int) < n + 2 := by omega
  have b6 : (n : Int) + 1 < n + 2 := by omega
  have b7 : (0 : Int) ≤ n + 1 := by omega
  clear h hl
  simp only [Int.natCast_add, Int.cast_ofNat_Int] at hL
  have HE : Hid (Turned 67 3 1 B w ((w.drew.setCell ⟨g, n + 1, none⟩ (.int .i64 u1)).setCell ⟨g, n, none⟩ (.int .i64 u2)) p most (.slice (some ⟨g, 0, none⟩) (n + 2) cap) (n + 2) (swapTop (ys.map (Value.int .i64)) n)) := by
    obtain ⟨v', a1, a2, a3⟩ := E
    exact ⟨v', a1, ⟨a2.os, a2.tape, a2.output, a2.size, a2.block⟩, a3⟩
  clear E
  go_enter Try.func29, Try.ntmps29
  go_wp2_with fail
  refine hL.mono ?_
  rintro e w1 ⟨rfl, rfl⟩
  clear hL
  go_wp2_with fail
  go_region
  all_goals
    go_wp2
    go_ret
    exact ⟨rfl, HE.out⟩
end
end Go.Proofs.Ytgbhefbhleflhaa
