/- Stacks of things: New, Len, Room, drop, Cut. -/
import Derived.Test.YtgbhefbhleflhaaProg
import Derived.Test.YtgbhefbhleflhaaWipe
namespace Go.Proofs.Ytgbhefbhleflhaa
open Go.RowKit
set_option linter.unusedVariables false
set_option linter.unusedSimpArgs false

set_option maxRecDepth 100000 in
theorem newT_no (most : Int) (w : World) (h : ¬ (1 ≤ most ∧ most ≤ 256)) :
    Calls Try.prog 19 #[.int .i64 most] w fun e w' => e = .returned (.tuple #[.pointer none, .int .i64 1]) ∧ w' = w := by
  by_cases h1 : most < 1
  · go_enter Try.func19, Try.ntmps19
    go_wp2
    go_ret2
    exact ⟨rfl, rfl⟩
  · have h2 : ¬ most ≤ 256 := by omega
    go_enter Try.func19, Try.ntmps19
    go_wp2
    go_ret2
    exact ⟨rfl, rfl⟩
set_option maxRecDepth 100000 in
theorem newT_yes (most : Int) (w : World) (h1 : 1 ≤ most) (h2 : most ≤ 256) :
    Calls Try.prog 19 #[.int .i64 most] w fun e w' => e = .returned (.tuple #[.pointer (some ⟨w.heap.size, 0, none⟩), .int .i64 0]) ∧ StackAt 74 56 3 w.heap.size w' w.heap.size most (.slice none 0 0) 0 [] ∧ Kept (fun _ => False) w w' := by
  have hm := made (t := 74) (e := 56) (z := 3) w most (by omega) h2
  have hk := (Kept.refl (fun _ => False) w).alloc (.cells #[.int .i64 most, .slice none 0 0] 74)
  go_enter Try.func19, Try.ntmps19
  go_wp2
  go_ret2
  exact ⟨rfl, hm, hk⟩

section
variable {B : Nat} {w : World} {p : Nat} {most : Int} {v : Value} {n : Nat} {xs : List Value}
set_option maxRecDepth 100000 in
theorem lenT_any (h : StackAt 74 56 3 B w p most v n xs) :
    Calls Try.prog 25 #[.pointer (some ⟨p, 0, none⟩)] w fun e w' => e = .returned (.int .i64 n) ∧ w' = w := by
  obtain ⟨ga, ca, rfl⟩ := h.shape
  have c1 := h.c1
  clear h
  go_enter Try.func25, Try.ntmps25
  go_wp2
  go_ret
  exact ⟨rfl, rfl⟩
set_option maxRecDepth 100000 in
theorem roomT_any (h : StackAt 74 56 3 B w p most v n xs) :
    Calls Try.prog 40 #[.pointer (some ⟨p, 0, none⟩)] w fun e w' => e = .returned (.int .i64 (most - n)) ∧ ∃ k, w' = w.drewN k := by
  have c0 := h.c0
  have hL : ∀ k, Calls Try.prog 25 #[.pointer (some ⟨p, 0, none⟩)] (w.drewN k) fun e w' => e = .returned (.int .i64 n) ∧ w' = w.drewN k := fun k => lenT_any (h.calm ((Kept.refl _ w).drewN k))
  have b1 := h.fits
  have b2 := h.most
  have b3 : (0 : Int) ≤ n := Int.natCast_nonneg _
  clear h
  go_enter Try.func40, Try.ntmps40
  go_wp2_with fail
  go_quiet (first | (go_at_call 25; exact Calls.quiet_of_same (hL _)))
  go_wp2
  go_ret
  exact ⟨rfl, _, rfl⟩

theorem zeroT (w : World) : (zeroValue 56).run Try.prog w = .ok (.agg #[.string { data := #[] }, .int .i64 0, .int .i64 0]) w := by kernel_rfl
set_option maxRecDepth 100000 in
set_option maxHeartbeats 1000000 in
theorem dropT_any (m : Nat) (hm : m ≤ n) (h : StackAt 74 56 3 B w p most v n xs) (k : Int) (hk : k = n - m) :
    Calls Try.prog 42 #[.pointer (some ⟨p, 0, none⟩), .int .i64 k] w fun e w' => e = .returned (.tuple #[]) ∧ Turned 74 56 3 B w w' p most v m (xs.take (m * 3)) := by
  have c1 := h.c1
  have f1 := h.f1
  have hL := lenT_any h
  have hs := h.small
  rcases own_forms h.own with ⟨rfl, rfl, rfl⟩ | ⟨g, cap, rfl, hbg, hgl, hcap⟩
  · obtain rfl : m = 0 := by omega
    obtain rfl : k = 0 := by simpa using hk
    have hcl := fun a c ty => wipe_none (P := Try.prog) w 72 56 Try.underlying72 a c ty
    have E := drop_end h (Kept.refl (Foot p (.slice none 0 0)) w) rfl (Nat.le_refl 0) (by simpa using h.own) rfl
    clear h hk
    go_enter Try.func42, Try.ntmps42
    go_wp2_with fail
    refine hL.mono ?_
    rintro e w1 ⟨rfl, rfl⟩
    clear hL
    go_wp2_with (simp only [hcl])
    go_end0
    exact ⟨rfl, E⟩
  have b1 : (0 : Int) ≤ m := Int.natCast_nonneg _
  have b2 : (m : Int) ≤ n := by omega
  have b3 : (n : Int) ≤ cap := by omega
  have b4 : (n : Int) ≤ 256 := by omega
  have b5 : (m : Int) ≤ cap := by omega
  have hw : wrap64 ((n : Int) - k) = m := by subst hk; simp [wrap64]; omega
  rcases Nat.lt_or_ge m n with hlt | hge
  · obtain ⟨vs, hcl⟩ := wipe_run (P := Try.prog) w 72 56 (.agg #[.string { data := #[] }, .int .i64 0, .int .i64 0]) 3 Try.underlying72 zeroT rfl (by omega) (by decide) h.own hlt
    try simp only [Nat.mul_one] at hcl
    have hmc : ¬ cap = m := by omega
    have hO := own_setCells h.own hm vs
    have hK := setCells_kept (F := Foot p (.slice (some ⟨g, 0, none⟩) n cap)) (g := g) (.inl (.inr rfl)) vs (m * 3) w (Kept.refl _ w)
    have hgp : p ≠ g := fun e => h.ne (by simp [Value.ownBlock, e])
    have hh := setCells_heap_far (g := g) vs (m * 3) w p hgp
    have c2 : (w.setCells g (m * 3) vs).cell? ⟨p, 1, none⟩ = some (.slice (some ⟨g, 0, none⟩) n cap) := cell_of_heap (hh.trans h.heap)
    have f2 : (w.setCells g (m * 3) vs).frozen? ⟨p, 1, none⟩ = false := frozen_of_heap (hh.trans h.heap)
    have E := drop_end h hK hh hm hO rfl
    try simp only [Nat.mul_one] at E c2 f2
    clear h hk hK hO hh hm hlt
    go_enter Try.func42, Try.ntmps42
    go_wp2_with fail
    refine hL.mono ?_
    rintro e w1 ⟨rfl, rfl⟩
    clear hL
    go_wp2_with (simp only [hcl])
    go_end0
    exact ⟨rfl, by simpa using E⟩
  · obtain rfl : m = n := by omega
    have hcl := fun a c ty => wipe_none (P := Try.prog) w 72 56 Try.underlying72 a c ty
    have E := drop_end h (Kept.refl (Foot p (.slice (some ⟨g, 0, none⟩) m cap)) w) rfl (Nat.le_refl m) (own_cut h.own (Nat.le_refl m)) rfl
    have hmm : m - m = 0 := by omega
    clear h hk hm hge
    go_enter Try.func42, Try.ntmps42
    go_wp2_with fail
    refine hL.mono ?_
    rintro e w1 ⟨rfl, rfl⟩
    clear hL
    by_cases hcm : cap = m
    · go_wp2_with (simp only [hcl])
      go_end0
      exact ⟨rfl, by simpa [hcm] using E⟩
    · go_wp2_with (simp only [hcl])
      go_end0
      exact ⟨rfl, by simpa using E⟩
end

section
variable {B : Nat} {w : World} {p : Nat} {most : Int} {v : Value} {n : Nat} {xs : List Value}
set_option maxRecDepth 100000 in
theorem cutT_neg (k : Int) (hk : k < 0) :
    Calls Try.prog 23 #[.pointer (some ⟨p, 0, none⟩), .int .i64 k] w fun e w' => e = .returned (.int .i64 1) ∧ w' = w := by
  go_enter Try.func23, Try.ntmps23
  go_wp2
  go_ret
  exact ⟨rfl, rfl⟩
set_option maxRecDepth 100000 in
theorem cutT_over (k : Int) (hk : (n : Int) < k) (h : StackAt 74 56 3 B w p most v n xs) :
    Calls Try.prog 23 #[.pointer (some ⟨p, 0, none⟩), .int .i64 k] w fun e w' => e = .returned (.int .i64 12) ∧ w' = w := by
  have hL := lenT_any h
  have h0 : ¬ k < 0 := by omega
  have h1 : ¬ k ≤ n := by omega
  clear h
  go_enter Try.func23, Try.ntmps23
  go_wp2_with fail
  refine hL.mono ?_
  rintro e w1 ⟨rfl, rfl⟩
  clear hL
  go_wp2
  go_ret
  exact ⟨rfl, rfl⟩
set_option maxRecDepth 100000 in
theorem cutT_ok (m : Nat) (hm : m ≤ n) (h : StackAt 74 56 3 B w p most v n xs) (k : Int) (hk : k = n - m) :
    Calls Try.prog 23 #[.pointer (some ⟨p, 0, none⟩), .int .i64 k] w fun e w' => e = .returned (.int .i64 0) ∧ Turned 74 56 3 B w w' p most v m (xs.take (m * 3)) := by
  have hL := lenT_any h
  have hD := dropT_any m hm h k hk
  have h0 : ¬ k < 0 := by omega
  have h1 : k ≤ n := by omega
  clear h hk
  go_enter Try.func23, Try.ntmps23
  go_wp2_with fail
  refine hL.mono ?_
  rintro e w1 ⟨rfl, rfl⟩
  clear hL
  go_wp2_with fail
  refine hD.mono ?_
  rintro e w2 ⟨rfl, E⟩
  go_wp2
  go_ret
  exact ⟨rfl, E⟩
end

end Go.Proofs.Ytgbhefbhleflhaa
