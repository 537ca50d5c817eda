/- StackPlays's walk: two stacks, each of which may become a copy of the other one: every call in every order. -/
import Derived.Test.YtgbhefbhleflhaaFour
import Derived.Deep.CutBlock
namespace Go.Proofs.Ytgbhefbhleflhaa
open Go.RowKit
set_option linter.unusedVariables false
set_option linter.unusedSimpArgs false
attribute [local go_sem ↓] Go.wp_at_zero Go.wp_at_succ

set_option maxRecDepth 100000 in
set_option maxHeartbeats 1000000 in
theorem plays_no1 (one two : Int) (s : Value) (w : World) (h1 : ¬ (1 ≤ one ∧ one ≤ 256)) (h2 : ¬ (1 ≤ two ∧ two ≤ 256)) :
    Calls Try.prog 3 #[.int .i64 one, .int .i64 two, s] w fun e w' => e = .returned (.bool true) ∧ Kept (fun _ => False) w w' := by
  have P1 := fun W => newI_no one W h1
  have P2 := fun W => newR_no one W h1
  have P3 := fun W => newI_no two W h2
  have P4 := fun W => newR_no two W h2
  clear h1 h2
  go_enter Try.func3, Try.ntmps3
  go_wp2_with fail
  refine (awake_any _).mono ?_
  rintro e wa ⟨rfl, hka⟩
  go_wp2_with fail
  refine (P1 _).mono ?_
  rintro e w1 ⟨rfl, rfl⟩
  go_wp2_with fail
  refine (P2 _).mono ?_
  rintro e w1 ⟨rfl, rfl⟩
  go_wp2_with fail
  refine (P3 _).mono ?_
  rintro e w1 ⟨rfl, rfl⟩
  go_wp2_with fail
  refine (P4 _).mono ?_
  rintro e w1 ⟨rfl, rfl⟩
  go_wp2
  go_ret
  exact ⟨rfl, hka⟩
set_option maxRecDepth 100000 in
set_option maxHeartbeats 1000000 in
theorem plays_no2 (one two : Int) (s : Value) (w : World) (h1 : ¬ (1 ≤ one ∧ one ≤ 256)) (h2 : 1 ≤ two ∧ two ≤ 256) :
    Calls Try.prog 3 #[.int .i64 one, .int .i64 two, s] w fun e w' => e = .returned (.bool true) ∧ Kept (fun _ => False) w w' := by
  have P1 := fun W => newI_no one W h1
  have P2 := fun W => newR_no one W h1
  have P3 := fun W => newI_yes two W h2.1 h2.2
  have P4 := fun W => newR_yes two W h2.1 h2.2
  clear h1 h2
  go_enter Try.func3, Try.ntmps3
  go_wp2_with fail
  refine (awake_any _).mono ?_
  rintro e wa ⟨rfl, hka⟩
  go_wp2_with fail
  refine (P1 _).mono ?_
  rintro e w1 ⟨rfl, rfl⟩
  go_wp2_with fail
  refine (P2 _).mono ?_
  rintro e w1 ⟨rfl, rfl⟩
  go_wp2_with fail
  refine (P3 _).mono ?_
  rintro e w2 ⟨rfl, _, k1⟩
  go_wp2_with fail
  refine (P4 _).mono ?_
  rintro e w3 ⟨rfl, _, k2⟩
  go_wp2
  go_ret
  exact ⟨rfl, (hka.trans k1 (fun _ _ f => f)).trans k2 (fun _ _ f => f)⟩
set_option maxRecDepth 100000 in
set_option maxHeartbeats 1000000 in
theorem plays_no3 (one two : Int) (s : Value) (w : World) (h1 : 1 ≤ one ∧ one ≤ 256) (h2 : ¬ (1 ≤ two ∧ two ≤ 256)) :
    Calls Try.prog 3 #[.int .i64 one, .int .i64 two, s] w fun e w' => e = .returned (.bool true) ∧ Kept (fun _ => False) w w' := by
  have P1 := fun W => newI_yes one W h1.1 h1.2
  have P2 := fun W => newR_yes one W h1.1 h1.2
  have P3 := fun W => newI_no two W h2
  have P4 := fun W => newR_no two W h2
  clear h1 h2
  go_enter Try.func3, Try.ntmps3
  go_wp2_with fail
  refine (awake_any _).mono ?_
  rintro e wa ⟨rfl, hka⟩
  go_wp2_with fail
  refine (P1 _).mono ?_
  rintro e w2 ⟨rfl, _, k1⟩
  go_wp2_with fail
  refine (P2 _).mono ?_
  rintro e w3 ⟨rfl, _, k2⟩
  go_wp2_with fail
  refine (P3 _).mono ?_
  rintro e w1 ⟨rfl, rfl⟩
  go_wp2_with fail
  refine (P4 _).mono ?_
  rintro e w1 ⟨rfl, rfl⟩
  go_wp2
  go_ret
  exact ⟨rfl, (hka.trans k1 (fun _ _ f => f)).trans k2 (fun _ _ f => f)⟩

set_option maxRecDepth 100000 in
set_option maxHeartbeats 1000000 in
theorem plays_yes (one two : Int) (a : Option Addr) (len cap : Nat) (f : Nat → OpD) (w : World) (hs : ScriptAt w a len f) (h1 : 1 ≤ one ∧ one ≤ 256) (h2 : 1 ≤ two ∧ two ≤ 256) :
    Calls Try.prog 3 #[.int .i64 one, .int .i64 two, .slice a len cap] w fun e w' => e = .returned (.bool true) ∧ Kept (fun _ => False) w w' := by
  have HS : Hid (ScriptAt w a len f) := hs
  clear hs
  go_enter Try.func3, Try.ntmps3
  go_wp2_with fail
  refine (awake_any _).mono ?_
  rintro e wa ⟨rfl, hka⟩
  go_wp2_with fail
  refine (newI_yes one _ h1.1 h1.2).mono ?_
  rintro e w1 ⟨rfl, a1, k1⟩
  go_wp2_with fail
  refine (newR_yes one _ h1.1 h1.2).mono ?_
  rintro e w2 ⟨rfl, x1, k2⟩
  go_wp2_with fail
  refine (newI_yes two _ h2.1 h2.2).mono ?_
  rintro e w3 ⟨rfl, b1, k3⟩
  go_wp2_with fail
  refine (newR_yes two _ h2.1 h2.2).mono ?_
  rintro e w4 ⟨rfl, y1, k4⟩
  have F0 := Four.made hka a1 k1 x1 k2 b1 k3 y1 k4
  clear hka a1 k1 x1 k2 b1 k3 y1 k4 h1 h2
  go_wp2_with fail
  go_loopw [8, 10, 12, 14, 16] (fun a x b y i wr => ∃ (k pa px pb py : Nat) (va vx vb vy : Value) (ma mb : Int) (ra rb : List Int), a = .pointer (some ⟨pa, 0, none⟩) ∧ x = .pointer (some ⟨px, 0, none⟩) ∧ b = .pointer (some ⟨pb, 0, none⟩) ∧ y = .pointer (some ⟨py, 0, none⟩) ∧ i = .int .i64 k ∧ k ≤ len ∧ Four w wr pa px pb py va vx vb vy ma mb ra rb) (fun _ _ _ _ i _ => len - (intOf i).toNat)
  case atStart => exact ⟨0, _, _, _, _, _, _, _, _, _, _, _, _, rfl, rfl, rfl, rfl, rfl, Nat.zero_le _, F0⟩
  case round =>
    clear F0
    obtain ⟨k, pa, px, pb, py, va, vx, vb, vy, ma, mb, ra, rb, rfl, rfl, rfl, rfl, rfl, hk, F⟩ := hrel
    by_cases hlt : k < len
    · obtain ⟨b0, off, rfl, hreach, hops⟩ : ∃ b off, a = some ⟨b, off, none⟩ ∧ len * 24 ≤ 140737488351232 ∧ ∀ i, i < len → OpAt w b (off + i * 3) (f i) := by
        rcases HS.out with h0 | h
        · omega
        · exact h
      have ho := (hops k hlt).below (F.kept.below (Nat.le_refl _) (fun _ _ f => f)) (Nat.le_refl _)
      clear hops
      generalize f k = o at ho
      obtain ⟨other, kind, x⟩ := o
      obtain ⟨o0, o1, o2⟩ := ho
      simp only at o0 o1 o2
      have hi0 : (0 : Int) ≤ (k : Int) := Int.natCast_nonneg _
      have hi1 : (k : Int) < (len : Int) := by omega
      have hkb : (k : Int) ≤ 5864062014634 := by omega
      clear hreach
      go_upto_block 2 with fail
      have k0 := (Kept.refl (fun _ => False) wr).alloc (.cells #[.bool other, .int .i64 kind, .int .i64 x] 32)
      have F0 := F.calm k0
      have hbx := heap_alloc_new wr (.cells #[.bool other, .int .i64 kind, .int .i64 x] 32)
      generalize wr.alloc (.cells #[.bool other, .int .i64 kind, .int .i64 x] 32) = W0 at k0 F0 hbx ⊢
      generalize hbb : wr.heap.size = bx at hbx ⊢
      have b1 : W0.cell? ⟨bx, 0, none⟩ = some (.bool other) := cell_of_heap hbx
      have b2 : W0.cell? ⟨bx, 1, none⟩ = some (.int .i64 kind) := cell_of_heap hbx
      have b3 : W0.cell? ⟨bx, 2, none⟩ = some (.int .i64 x) := cell_of_heap hbx
      clear F o0 o1 o2 k0 hbx hbb
      go_cut [8, 10, 12, 14, 17] from 80 to 176 (fun a x b y ok wx => ∃ (pa px pb py : Nat) (va vx vb vy : Value) (ma mb : Int) (ra rb : List Int), a = .pointer (some ⟨pa, 0, none⟩) ∧ x = .pointer (some ⟨px, 0, none⟩) ∧ b = .pointer (some ⟨pb, 0, none⟩) ∧ y = .pointer (some ⟨py, 0, none⟩) ∧ ok = .bool true ∧ Four w wx pa px pb py va vx vb vy ma mb ra rb)
      case first =>
        cases other
        · by_cases hk8 : kind = 8
          · subst hk8
            go_wp2_with fail
            refine (copyI_any F0.a.a (ints_one ra)).mono ?_
            rintro e w5 ⟨p', v', rfl, cb, k5⟩
            have F5 := F0.calm k5
            clear b1 b2 b3
            go_wp2_with fail
            refine (copyR_any F5.a.x (ints_one ra)).mono ?_
            rintro e w6 ⟨q', u', rfl, cy', k6⟩
            have FT := (F0.swap.copied cb k5 cy' k6).swap
            clear F0 F5 cb k5 cy' k6
            go_wp2
            go_meet
            exact ⟨_, _, _, _, _, _, _, _, _, _, _, _, rfl, rfl, rfl, rfl, rfl, FT⟩
          · have e8 : (kind == 8) = false := by simp; exact hk8
            clear hk8
            go_wp2_with fail
            refine (does_any F0.a ⟨false, kind, x⟩).mono ?_
            rintro e w6 ⟨rfl, hd⟩
            obtain ⟨va', vx', ra', FT⟩ := F0.did hd
            clear F0 hd b1 b2 b3
            go_wp2
            go_meet
            exact ⟨_, _, _, _, _, _, _, _, _, _, _, _, rfl, rfl, rfl, rfl, rfl, FT⟩
        · by_cases hk8 : kind = 8
          · subst hk8
            go_wp2_with fail
            refine (copyI_any F0.b.a (ints_one rb)).mono ?_
            rintro e w5 ⟨p', v', rfl, cb, k5⟩
            have F5 := F0.calm k5
            clear b1 b2 b3
            go_wp2_with fail
            refine (copyR_any F5.b.x (ints_one rb)).mono ?_
            rintro e w6 ⟨q', u', rfl, cy', k6⟩
            have FT := F0.copied cb k5 cy' k6
            clear F0 F5 cb k5 cy' k6
            go_wp2
            go_meet
            exact ⟨_, _, _, _, _, _, _, _, _, _, _, _, rfl, rfl, rfl, rfl, rfl, FT⟩
          · have e8 : (kind == 8) = false := by simp; exact hk8
            clear hk8
            go_wp2_with fail
            refine (does_any F0.b ⟨true, kind, x⟩).mono ?_
            rintro e w6 ⟨rfl, hd⟩
            obtain ⟨vb', vy', rb', FT⟩ := F0.did2 hd
            clear F0 hd b1 b2 b3
            go_wp2
            go_meet
            exact ⟨_, _, _, _, _, _, _, _, _, _, _, _, rfl, rfl, rfl, rfl, rfl, FT⟩
      case rest =>
        clear F0 b1 b2 b3
        obtain ⟨pa, px, pb, py, va, vx, vb, vy, ma, mb, ra, rb, rfl, rfl, rfl, rfl, rfl, FT⟩ := hcut
        obtain ⟨gx, cx, hvx⟩ := FT.a.x.shape
        obtain ⟨gy, cy, hvy⟩ := FT.b.x.shape
        subst hvx hvy
        have LNa : ∀ W, Four w W pa px pb py va (.slice gx ra.length cx) vb (.slice gy rb.length cy) ma mb ra rb → Calls Try.prog 12 #[.pointer (some ⟨pa, 0, none⟩)] W fun e w' => e = .returned (.int .i64 ra.length) ∧ Four w w' pa px pb py va (.slice gx ra.length cx) vb (.slice gy rb.length cy) ma mb ra rb := fun W h => (lenI_any h.a.a).mono fun e w' ⟨he, hw⟩ => ⟨he, hw ▸ h⟩
        have LNb : ∀ W, Four w W pa px pb py va (.slice gx ra.length cx) vb (.slice gy rb.length cy) ma mb ra rb → Calls Try.prog 12 #[.pointer (some ⟨pb, 0, none⟩)] W fun e w' => e = .returned (.int .i64 rb.length) ∧ Four w w' pa px pb py va (.slice gx ra.length cx) vb (.slice gy rb.length cy) ma mb ra rb := fun W h => (lenI_any h.b.a).mono fun e w' ⟨he, hw⟩ => ⟨he, hw ▸ h⟩
        have RMa : ∀ W, Four w W pa px pb py va (.slice gx ra.length cx) vb (.slice gy rb.length cy) ma mb ra rb → Calls Try.prog 13 #[.pointer (some ⟨pa, 0, none⟩)] W fun e w' => e = .returned (.int .i64 (ma - ra.length)) ∧ Four w w' pa px pb py va (.slice gx ra.length cx) vb (.slice gy rb.length cy) ma mb ra rb := fun W h => (roomI_any h.a.a).mono fun e w' ⟨he, d, hw⟩ => ⟨he, hw ▸ h.calm ((Kept.refl _ W).drewN d)⟩
        have RMb : ∀ W, Four w W pa px pb py va (.slice gx ra.length cx) vb (.slice gy rb.length cy) ma mb ra rb → Calls Try.prog 13 #[.pointer (some ⟨pb, 0, none⟩)] W fun e w' => e = .returned (.int .i64 (mb - rb.length)) ∧ Four w w' pa px pb py va (.slice gx ra.length cx) vb (.slice gy rb.length cy) ma mb ra rb := fun W h => (roomI_any h.b.a).mono fun e w' ⟨he, d, hw⟩ => ⟨he, hw ▸ h.calm ((Kept.refl _ W).drewN d)⟩
        have C1 : Hid (∀ W, Four w W pa px pb py va (.slice gx ra.length cx) vb (.slice gy rb.length cy) ma mb ra rb → W.cell? ⟨px, 1, none⟩ = some (.slice gx ra.length cx)) := fun W h => h.a.x.c1
        have C2 : Hid (∀ W, Four w W pa px pb py va (.slice gx ra.length cx) vb (.slice gy rb.length cy) ma mb ra rb → W.cell? ⟨py, 1, none⟩ = some (.slice gy rb.length cy)) := fun W h => h.b.x.c1
        have C3 : Hid (∀ W, Four w W pa px pb py va (.slice gx ra.length cx) vb (.slice gy rb.length cy) ma mb ra rb → W.cell? ⟨px, 0, none⟩ = some (.int .i64 ma)) := fun W h => h.a.x.c0
        have C4 : Hid (∀ W, Four w W pa px pb py va (.slice gx ra.length cx) vb (.slice gy rb.length cy) ma mb ra rb → W.cell? ⟨py, 0, none⟩ = some (.int .i64 mb)) := fun W h => h.b.x.c0
        have n1 : ((ra.length : Int) != (ra.length : Int)) = false := by simp
        have n2 : ((rb.length : Int) != (rb.length : Int)) = false := by simp
        have r1 : ((ma - (ra.length : Int)) != IntKind.i64.wrap (ma - (ra.length : Int))) = false := by have := FT.a.a.fits; have := FT.a.a.most; rw [wrap_small (by omega) (by omega)]; simp
        have r2 : ((mb - (rb.length : Int)) != IntKind.i64.wrap (mb - (rb.length : Int))) = false := by have := FT.b.a.fits; have := FT.b.a.most; rw [wrap_small (by omega) (by omega)]; simp
        go_wp2_with fail
        have hD : Four w wc.drew pa px pb py va (.slice gx ra.length cx) vb (.slice gy rb.length cy) ma mb ra rb := FT.calm ((Kept.refl _ wc).drew)
        have c1 := C1.out _ hD
        have c2 := C2.out _ hD
        have c3 := C3.out _ hD
        have c4 := C4.out _ hD
        clear FT
        go_region_held3 (fun w' => w'.cell? ⟨px, 1, none⟩ = some (.slice gx ra.length cx) ∧ w'.cell? ⟨py, 1, none⟩ = some (.slice gy rb.length cy) ∧ w'.cell? ⟨px, 0, none⟩ = some (.int .i64 ma) ∧ w'.cell? ⟨py, 0, none⟩ = some (.int .i64 mb) ∧ Four w w' pa px pb py va (.slice gx ra.length cx) vb (.slice gy rb.length cy) ma mb ra rb)
          (first | exact ⟨C1.out _ hD, C2.out _ hD, C3.out _ hD, C4.out _ hD, hD⟩)
          (first | (go_at_call_of 12 pa; refine (LNa _ hD).mono ?_; rintro e w' ⟨rfl, hD⟩) | (go_at_call_of 12 pb; refine (LNb _ hD).mono ?_; rintro e w' ⟨rfl, hD⟩) | (go_at_call_of 13 pa; refine (RMa _ hD).mono ?_; rintro e w' ⟨rfl, hD⟩) | (go_at_call_of 13 pb; refine (RMb _ hD).mono ?_; rintro e w' ⟨rfl, hD⟩))
        clear LNa LNb RMa RMb C1 C2 C3 C4 c1 c2 c3 c4
        go_wp2
        go_roundw
        case rel => exact ⟨k + 1, _, _, _, _, _, _, _, _, _, _, _, _, rfl, rfl, rfl, rfl, by go_num, by omega, hD⟩
        case measure => simp [intOf]; omega
    · have hke : ¬ (k : Int) < (len : Int) := by omega
      clear HS hlt hk
      have FT := F
      clear F
      obtain ⟨gx, cx, hvx⟩ := FT.a.x.shape
      obtain ⟨gy, cy, hvy⟩ := FT.b.x.shape
      subst hvx hvy
      have ALa : ∀ W, Four w W pa px pb py va (.slice gx ra.length cx) vb (.slice gy rb.length cy) ma mb ra rb → Calls Try.prog 15 #[.pointer (some ⟨pa, 0, none⟩)] W fun e w' => ∃ ga ca, e = .returned (.slice ga ra.length ca) ∧ IntsIn w' ga ra.length ra ∧ Four w w' pa px pb py va (.slice gx ra.length cx) vb (.slice gy rb.length cy) ma mb ra rb := by
        intro W h
        refine (allI_any h.a.a (ints_one ra)).mono ?_
        rintro e w' ⟨v', rfl, ho, hk⟩
        obtain ⟨ga, ca, rfl⟩ := own_shape ho
        exact ⟨ga, ca, rfl, owned_ints ho, h.calm hk⟩
      have ALb : ∀ W, Four w W pa px pb py va (.slice gx ra.length cx) vb (.slice gy rb.length cy) ma mb ra rb → Calls Try.prog 15 #[.pointer (some ⟨pb, 0, none⟩)] W fun e w' => ∃ ga ca, e = .returned (.slice ga rb.length ca) ∧ IntsIn w' ga rb.length rb ∧ Four w w' pa px pb py va (.slice gx ra.length cx) vb (.slice gy rb.length cy) ma mb ra rb := by
        intro W h
        refine (allI_any h.b.a (ints_one rb)).mono ?_
        rintro e w' ⟨v', rfl, ho, hk⟩
        obtain ⟨ga, ca, rfl⟩ := own_shape ho
        exact ⟨ga, ca, rfl, owned_ints ho, h.calm hk⟩
      have SMa : ∀ W ga ca, IntsIn W ga ra.length ra → Four w W pa px pb py va (.slice gx ra.length cx) vb (.slice gy rb.length cy) ma mb ra rb → Calls Try.prog 14 #[.slice ga ra.length ca, .slice gx ra.length cx] W fun e w' => e = .returned (.bool true) ∧ Four w w' pa px pb py va (.slice gx ra.length cx) vb (.slice gy rb.length cy) ma mb ra rb := by
        intro W ga ca hi h
        refine (sameInts_true ga gx ra.length ca cx _ W hi (owned_ints h.a.x.own) (by have := h.a.a.small; omega)).mono ?_
        rintro e w' ⟨rfl, d, rfl⟩
        exact ⟨rfl, h.calm ((Kept.refl _ W).drewN d)⟩
      have SMb : ∀ W ga ca, IntsIn W ga rb.length rb → Four w W pa px pb py va (.slice gx ra.length cx) vb (.slice gy rb.length cy) ma mb ra rb → Calls Try.prog 14 #[.slice ga rb.length ca, .slice gy rb.length cy] W fun e w' => e = .returned (.bool true) ∧ Four w w' pa px pb py va (.slice gx ra.length cx) vb (.slice gy rb.length cy) ma mb ra rb := by
        intro W ga ca hi h
        refine (sameInts_true ga gy rb.length ca cy _ W hi (owned_ints h.b.x.own) (by have := h.b.a.small; omega)).mono ?_
        rintro e w' ⟨rfl, d, rfl⟩
        exact ⟨rfl, h.calm ((Kept.refl _ W).drewN d)⟩
      have C1 : Hid (∀ W, Four w W pa px pb py va (.slice gx ra.length cx) vb (.slice gy rb.length cy) ma mb ra rb → W.cell? ⟨px, 1, none⟩ = some (.slice gx ra.length cx)) := fun W h => h.a.x.c1
      have C2 : Hid (∀ W, Four w W pa px pb py va (.slice gx ra.length cx) vb (.slice gy rb.length cy) ma mb ra rb → W.cell? ⟨py, 1, none⟩ = some (.slice gy rb.length cy)) := fun W h => h.b.x.c1
      go_wp2_with fail
      have hD : Four w wr.drew pa px pb py va (.slice gx ra.length cx) vb (.slice gy rb.length cy) ma mb ra rb := FT.calm ((Kept.refl _ wr).drew)
      have c1 := C1.out _ hD
      have c2 := C2.out _ hD
      clear FT
      go_region_held3 (fun w' => w'.cell? ⟨px, 1, none⟩ = some (.slice gx ra.length cx) ∧ w'.cell? ⟨py, 1, none⟩ = some (.slice gy rb.length cy) ∧ Four w w' pa px pb py va (.slice gx ra.length cx) vb (.slice gy rb.length cy) ma mb ra rb)
        (first | exact ⟨C1.out _ hD, C2.out _ hD, hD⟩)
        (first | (go_at_call_of 15 pa; refine (ALa _ hD).mono ?_; rintro e w' ⟨ga, ca, rfl, hI, hD⟩) | (go_at_call_of 15 pb; refine (ALb _ hD).mono ?_; rintro e w' ⟨ga, ca, rfl, hI, hD⟩) | (go_at_call_of 14 gx; refine (SMa _ _ _ hI hD).mono ?_; rintro e w' ⟨rfl, hD⟩) | (go_at_call_of 14 gy; refine (SMb _ _ _ hI hD).mono ?_; rintro e w' ⟨rfl, hD⟩))
      go_wp2
      go_ret
      exact ⟨rfl, hD.kept⟩
end Go.Proofs.Ytgbhefbhleflhaa
