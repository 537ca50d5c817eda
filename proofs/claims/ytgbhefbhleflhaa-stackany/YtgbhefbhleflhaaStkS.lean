/- Stacks of texts: New, Len, Room, drop, Cut, Push, Peek. -/
import Derived.Test.YtgbhefbhleflhaaProg
import Derived.Test.YtgbhefbhleflhaaWipe
namespace Go.Proofs.Ytgbhefbhleflhaa
open Go.RowKit
set_option linter.unusedVariables false
set_option linter.unusedSimpArgs false

set_option maxRecDepth 100000 in
theorem newS_no (most : Int) (w : World) (h : ¬ (1 ≤ most ∧ most ≤ 256)) :
    Calls Try.prog 18 #[.int .i64 most] w fun e w' => e = .returned (.tuple #[.pointer none, .int .i64 1]) ∧ w' = w := by
  by_cases h1 : most < 1
  · go_enter Try.func18, Try.ntmps18
    go_wp2
    go_ret2
    exact ⟨rfl, rfl⟩
  · have h2 : ¬ most ≤ 256 := by omega
    go_enter Try.func18, Try.ntmps18
    go_wp2
    go_ret2
    exact ⟨rfl, rfl⟩
set_option maxRecDepth 100000 in
theorem newS_yes (most : Int) (w : World) (h1 : 1 ≤ most) (h2 : most ≤ 256) :
    Calls Try.prog 18 #[.int .i64 most] w fun e w' => e = .returned (.tuple #[.pointer (some ⟨w.heap.size, 0, none⟩), .int .i64 0]) ∧ StackAt 71 9 1 w.heap.size w' w.heap.size most (.slice none 0 0) 0 [] ∧ Kept (fun _ => False) w w' := by
  have hm := made (t := 71) (e := 9) (z := 1) w most (by omega) h2
  have hk := (Kept.refl (fun _ => False) w).alloc (.cells #[.int .i64 most, .slice none 0 0] 71)
  go_enter Try.func18, Try.ntmps18
  go_wp2
  go_ret2
  exact ⟨rfl, hm, hk⟩

section
variable {B : Nat} {w : World} {p : Nat} {most : Int} {v : Value} {n : Nat} {xs : List Value}
set_option maxRecDepth 100000 in
theorem lenS_any (h : StackAt 71 9 1 B w p most v n xs) :
    Calls Try.prog 24 #[.pointer (some ⟨p, 0, none⟩)] w fun e w' => e = .returned (.int .i64 n) ∧ w' = w := by
  obtain ⟨ga, ca, rfl⟩ := h.shape
  have c1 := h.c1
  clear h
  go_enter Try.func24, Try.ntmps24
  go_wp2
  go_ret
  exact ⟨rfl, rfl⟩
set_option maxRecDepth 100000 in
theorem roomS_any (h : StackAt 71 9 1 B w p most v n xs) :
    Calls Try.prog 39 #[.pointer (some ⟨p, 0, none⟩)] w fun e w' => e = .returned (.int .i64 (most - n)) ∧ ∃ k, w' = w.drewN k := by
  have c0 := h.c0
  have hL : ∀ k, Calls Try.prog 24 #[.pointer (some ⟨p, 0, none⟩)] (w.drewN k) fun e w' => e = .returned (.int .i64 n) ∧ w' = w.drewN k := fun k => lenS_any (h.calm ((Kept.refl _ w).drewN k))
  have b1 := h.fits
  have b2 := h.most
  have b3 : (0 : Int) ≤ n := Int.natCast_nonneg _
  clear h
  go_enter Try.func39, Try.ntmps39
  go_wp2_with fail
  go_quiet (first | (go_at_call 24; exact Calls.quiet_of_same (hL _)))
  go_wp2
  go_ret
  exact ⟨rfl, _, rfl⟩

theorem zeroS (w : World) : (zeroValue 9).run Try.prog w = .ok (.string { data := #[] }) w := by kernel_rfl
set_option maxRecDepth 100000 in
set_option maxHeartbeats 1000000 in
theorem dropS_any (m : Nat) (hm : m ≤ n) (h : StackAt 71 9 1 B w p most v n xs) (k : Int) (hk : k = n - m) :
    Calls Try.prog 41 #[.pointer (some ⟨p, 0, none⟩), .int .i64 k] w fun e w' => e = .returned (.tuple #[]) ∧ Turned 71 9 1 B w w' p most v m (xs.take (m * 1)) := by
  have c1 := h.c1
  have f1 := h.f1
  have hL := lenS_any h
  have hs := h.small
  rcases own_forms h.own with ⟨rfl, rfl, rfl⟩ | ⟨g, cap, rfl, hbg, hgl, hcap⟩
  · obtain rfl : m = 0 := by omega
    obtain rfl : k = 0 := by simpa using hk
    have hcl := fun a c ty => wipe_none (P := Try.prog) w 47 9 Try.underlying47 a c ty
    have E := drop_end h (Kept.refl (Foot p (.slice none 0 0)) w) rfl (Nat.le_refl 0) (by simpa using h.own) rfl
    clear h hk
    go_enter Try.func41, Try.ntmps41
    go_wp2_with fail
    refine hL.mono ?_
    rintro e w1 ⟨rfl, rfl⟩
    clear hL
    go_wp2_with (simp only [hcl])
    go_end0
    exact ⟨rfl, E⟩
  have b1 : (0 : Int) ≤ m := Int.natCast_nonneg _
  have b2 : (m : Int) ≤ n := by omega
  have b3 : (n : Int) ≤ cap := by omega
  have b4 : (n : Int) ≤ 256 := by omega
  have b5 : (m : Int) ≤ cap := by omega
  have hw : wrap64 ((n : Int) - k) = m := by subst hk; simp [wrap64]; omega
  rcases Nat.lt_or_ge m n with hlt | hge
  · obtain ⟨vs, hcl⟩ := wipe_run (P := Try.prog) w 47 9 (.string { data := #[] }) 1 Try.underlying47 zeroS rfl (by omega) (by decide) h.own hlt
    try simp only [Nat.mul_one] at hcl
    have hmc : ¬ cap = m := by omega
    have hO := own_setCells h.own hm vs
    have hK := setCells_kept (F := Foot p (.slice (some ⟨g, 0, none⟩) n cap)) (g := g) (.inl (.inr rfl)) vs (m * 1) w (Kept.refl _ w)
    have hgp : p ≠ g := fun e => h.ne (by simp [Value.ownBlock, e])
    have hh := setCells_heap_far (g := g) vs (m * 1) w p hgp
    have c2 : (w.setCells g (m * 1) vs).cell? ⟨p, 1, none⟩ = some (.slice (some ⟨g, 0, none⟩) n cap) := cell_of_heap (hh.trans h.heap)
    have f2 : (w.setCells g (m * 1) vs).frozen? ⟨p, 1, none⟩ = false := frozen_of_heap (hh.trans h.heap)
    have E := drop_end h hK hh hm hO rfl
    try simp only [Nat.mul_one] at E c2 f2
    clear h hk hK hO hh hm hlt
    go_enter Try.func41, Try.ntmps41
    go_wp2_with fail
    refine hL.mono ?_
    rintro e w1 ⟨rfl, rfl⟩
    clear hL
    go_wp2_with (simp only [hcl])
    go_end0
    exact ⟨rfl, by simpa using E⟩
  · obtain rfl : m = n := by omega
    have hcl := fun a c ty => wipe_none (P := Try.prog) w 47 9 Try.underlying47 a c ty
    have E := drop_end h (Kept.refl (Foot p (.slice (some ⟨g, 0, none⟩) m cap)) w) rfl (Nat.le_refl m) (own_cut h.own (Nat.le_refl m)) rfl
    have hmm : m - m = 0 := by omega
    clear h hk hm hge
    go_enter Try.func41, Try.ntmps41
    go_wp2_with fail
    refine hL.mono ?_
    rintro e w1 ⟨rfl, rfl⟩
    clear hL
    by_cases hcm : cap = m
    · go_wp2_with (simp only [hcl])
      go_end0
      exact ⟨rfl, by simpa [hcm] using E⟩
    · go_wp2_with (simp only [hcl])
      go_end0
      exact ⟨rfl, by simpa using E⟩
end

section
variable {B : Nat} {w : World} {p : Nat} {most : Int} {v : Value} {n : Nat} {xs : List Value}
set_option maxRecDepth 100000 in
theorem cutS_neg (k : Int) (hk : k < 0) :
    Calls Try.prog 22 #[.pointer (some ⟨p, 0, none⟩), .int .i64 k] w fun e w' => e = .returned (.int .i64 1) ∧ w' = w := by
  go_enter Try.func22, Try.ntmps22
  go_wp2
  go_ret
  exact ⟨rfl, rfl⟩
set_option maxRecDepth 100000 in
theorem cutS_over (k : Int) (hk : (n : Int) < k) (h : StackAt 71 9 1 B w p most v n xs) :
    Calls Try.prog 22 #[.pointer (some ⟨p, 0, none⟩), .int .i64 k] w fun e w' => e = .returned (.int .i64 12) ∧ w' = w := by
  have hL := lenS_any h
  have h0 : ¬ k < 0 := by omega
  have h1 : ¬ k ≤ n := by omega
  clear h
  go_enter Try.func22, Try.ntmps22
  go_wp2_with fail
  refine hL.mono ?_
  rintro e w1 ⟨rfl, rfl⟩
  clear hL
  go_wp2
  go_ret
  exact ⟨rfl, rfl⟩
set_option maxRecDepth 100000 in
theorem cutS_ok (m : Nat) (hm : m ≤ n) (h : StackAt 71 9 1 B w p most v n xs) (k : Int) (hk : k = n - m) :
    Calls Try.prog 22 #[.pointer (some ⟨p, 0, none⟩), .int .i64 k] w fun e w' => e = .returned (.int .i64 0) ∧ Turned 71 9 1 B w w' p most v m (xs.take (m * 1)) := by
  have hL := lenS_any h
  have hD := dropS_any m hm h k hk
  have h0 : ¬ k < 0 := by omega
  have h1 : k ≤ n := by omega
  clear h hk
  go_enter Try.func22, Try.ntmps22
  go_wp2_with fail
  refine hL.mono ?_
  rintro e w1 ⟨rfl, rfl⟩
  clear hL
  go_wp2_with fail
  refine hD.mono ?_
  rintro e w2 ⟨rfl, E⟩
  go_wp2
  go_ret
  exact ⟨rfl, E⟩
set_option maxRecDepth 100000 in
theorem pushS_full (x : Value) (hr : (n : Int) = most) (h : StackAt 71 9 1 B w p most v n xs) :
    Calls Try.prog 20 #[.pointer (some ⟨p, 0, none⟩), x] w fun e w' => e = .returned (.int .i64 11) ∧ Kept (fun _ => False) w w' := by
  have hR := roomS_any h
  rw [show most - (n : Int) = 0 by omega] at hR
  clear hr h
  go_enter Try.func20, Try.ntmps20
  go_wp2_with fail
  refine hR.mono ?_
  rintro e w1 ⟨rfl, k, rfl⟩
  clear hR
  go_wp2
  go_ret
  exact ⟨rfl, (Kept.refl _ w).drewN k⟩
end

theorem Try.info9 : (Try.prog.info? 9).map (fun i => (i.zero, i.size, i.bytes)) = some (some (.string { data := #[] }), 1, 16) := by kernel_rfl
section
variable {B : Nat} {w : World} {p : Nat} {most : Int} {v : Value} {n : Nat} {xs : List Value}
set_option maxRecDepth 100000 in
set_option maxHeartbeats 1000000 in
theorem pushS_ok (x : ByteArray) (hr : (n : Int) < most) (h : StackAt 71 9 1 B w p most v n xs) (hB : B ≤ w.heap.size) :
    Calls Try.prog 20 #[.pointer (some ⟨p, 0, none⟩), .string x] w fun e w' => e = .returned (.int .i64 0) ∧ Turned 71 9 1 B w w' p most v (n + 1) (xs ++ [.string x]) := by
  obtain ⟨i0, hi0, hz0, hz1, hz2⟩ := info_parts Try.info9
  have hR := roomS_any h
  have hs := h.small
  have hne : ((most - (n : Int)) == 0) = false := by simp; omega
  go_enter Try.func20, Try.ntmps20
  go_wp2_with fail
  refine hR.mono ?_
  rintro e w1 ⟨rfl, k, rfl⟩
  clear hR
  have h1 := h.calm ((Kept.refl _ w).drewN k)
  have k1 := ((Kept.refl (fun _ => False) w).drewN k).alloc (.cells #[.string x] 9)
  have HZ : Hid ((w.drewN k).heap.size = w.heap.size) := rfl
  generalize w.drewN k = w1 at *
  have c1 := h1.c1
  have ho := h1.own.alloc (.cells #[.string x] 9)
  have hB1 : B ≤ w1.heap.size := HZ.out ▸ hB
  have HH : Hid (StackAt 71 9 1 B w p most v n xs) := h
  have H1 : Hid (w1.heap[p]? = some (.cells #[.int .i64 most, v] 71 (0, 0)) ∧ v.ownBlock ≠ some p) := ⟨h1.heap, h1.ne⟩
  have HR : Hid ((n : Int) < most) := hr
  clear h h1 hr
  go_wp2_with (at_builtin; refine wpList_append_lies _ rfl (.tmp 12) (.tmp 14) 47 rfl B 9 i0 _ 1 16 Try.underlying47 hi0 hz0 hz1 hz2 rfl (by omega) v n xs rfl ho ⟨w1.heap.size, 0, none⟩ 1 1 [.string x] rfl rfl (World.news_of_block (cs := #[.string x]) (t := 9) (fr := (0, 0)) (heap_alloc_new w1 _)) (by simp [Value.oneCell']) (by omega) (by unfold maxLen; omega) (by omega) (by simp; omega) (w1.heap.size + 1) (by simp) ?_; intro g cap w2 ho2 hg2 ha2 hl2; have hh2 := grown_heap H1.out.1 hg2 H1.out.2; have c3 : w2.cell? ⟨p, 1, none⟩ = some v := cell_of_heap hh2; have f3 : w2.frozen? ⟨p, 1, none⟩ = false := frozen_of_heap hh2; clear hh2)
  go_ret
  refine ⟨rfl, push_end HH.out hB k1 ho2 hg2 (ha2.imp_right fun e => ?_) HR.out⟩
  have := HZ.out
  omega
end

section
variable {B : Nat} {w : World} {p : Nat} {most : Int} {v : Value} {n : Nat} {xs : List Value}
set_option maxRecDepth 100000 in
set_option maxHeartbeats 1000000 in
theorem peekS_no (k : Int) (hk : ¬ (0 ≤ k ∧ k < n)) (h : StackAt 71 9 1 B w p most v n xs) :
    Calls Try.prog 26 #[.pointer (some ⟨p, 0, none⟩), .int .i64 k] w fun e w' => e = .returned (.tuple #[.string { data := #[] }, .int .i64 2]) ∧ w' = w := by
  have hL := lenS_any h
  clear h
  by_cases h0 : k < 0
  · go_enter Try.func26, Try.ntmps26
    go_wp2
    go_ret2
    exact ⟨rfl, rfl⟩
  · have h1 : (n : Int) ≤ k := by omega
    clear hk
    go_enter Try.func26, Try.ntmps26
    go_wp2_with fail
    refine hL.mono ?_
    rintro e w1 ⟨rfl, rfl⟩
    go_wp2
    go_ret2
    exact ⟨rfl, rfl⟩
set_option maxRecDepth 100000 in
set_option maxHeartbeats 1000000 in
theorem peekS_ok (k j : Nat) (hk : j + k + 1 = n) (h : StackAt 71 9 1 B w p most v n xs) :
    Calls Try.prog 26 #[.pointer (some ⟨p, 0, none⟩), .int .i64 k] w fun e w' => e = .returned (.tuple #[xs.getD j undef, .int .i64 0]) ∧ ∃ k, w' = w.drewN k := by
  have hL : ∀ k, Calls Try.prog 24 #[.pointer (some ⟨p, 0, none⟩)] (w.drewN k) fun e w' => e = .returned (.int .i64 n) ∧ w' = w.drewN k := fun k => lenS_any (h.calm ((Kept.refl _ w).drewN k))
  have hL0 := lenS_any h
  have hs := h.small
  have c1 := h.c1
  rcases own_forms h.own with ⟨rfl, h0, _⟩ | ⟨g, cap, rfl, hbg, hgl, hcap⟩
  · omega
  have hc := own_at h.own (show j < n by omega)
  generalize xs.getD j undef = u at *
  clear h
  have h0 : ¬ (k : Int) < 0 := by omega
  have h1 : (k : Int) < n := by omega
  have hw : IntKind.i64.wrap (IntKind.i64.wrap ((n : Int) - 1) - k) = j := by rw [wrap_small (x := (n : Int) - 1) (by omega) (by omega), wrap_small (by omega) (by omega)]; omega
  have b1 : (0 : Int) ≤ j := Int.natCast_nonneg _
  have b2 : (j : Int) < n := by omega
  have HK : Hid (j + k + 1 = n) := hk
  clear hk
  go_enter Try.func26, Try.ntmps26
  go_wp2_with fail
  refine hL0.mono ?_
  rintro e w1 ⟨rfl, rfl⟩
  go_wp2_with fail
  go_quiet (first | (go_at_call 24; exact Calls.quiet_of_same (hL _)))
  go_wp2
  go_ret2
  exact ⟨rfl, _, rfl⟩
end

end Go.Proofs.Ytgbhefbhleflhaa
