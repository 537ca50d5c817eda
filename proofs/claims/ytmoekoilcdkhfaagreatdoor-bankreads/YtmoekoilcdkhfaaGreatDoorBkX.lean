/- The document's Read; which of so many things a number speaks of. -/
import Derived.Test.YtmoekoilcdkhfaaGreatDoorBkV
namespace Go.Proofs.YtmoekoilcdkhfaaGreatDoor
open Go.RowKit
set_option linter.unusedVariables false
set_option linter.unusedSimpArgs false
attribute [local go_sem ↓] Go.wp_at_zero Go.wp_at_succ

section
variable {w : World}
set_option maxRecDepth 100000 in
set_option maxHeartbeats 4000000 in
theorem rRead_any (la : Option Addr) (m lc : Nat) (zs : List Int) (base n : Int) (w : World) (hX : XIn w la m zs) (hm : m * 8 ≤ 140737488355328) :
    Calls Tryz.prog 18 #[.slice la m lc, .int .i64 base, .int .i64 n] w fun e w' =>
      if fitsM base n m = true then ∃ v, e = .returned (.tuple #[v, .int .i64 0]) ∧ St w [ownI 2 1 v n.toNat (xC ((zs.drop base.toNat).take n.toNat))] w' else e = .returned (.tuple #[.slice none 0 0, .int .i64 170]) ∧ w' = w := by
  obtain ⟨i0, hi0, hz0, hz1, hz2⟩ := info_parts Tryz.infoX
  have hQ := fun W => rRoom_any n W
  by_cases h : fitsM base n m = true
  · simp only [if_pos h]
    unfold fitsM at h
    simp only [Bool.and_eq_true, decide_eq_true_eq] at h
    obtain ⟨h0, hb0, hb1⟩ := h
    obtain ⟨h1, h2, h3⟩ := room_pos h0
    rw [h3] at hb1 hQ
    obtain ⟨k, rfl⟩ : ∃ k : Nat, n = (k : Int) := ⟨n.toNat, by omega⟩
    obtain ⟨i, rfl⟩ : ∃ i : Nat, base = (i : Int) := ⟨base.toNat, by omega⟩
    simp only [Int.toNat_natCast]
    obtain ⟨g, o, rfl⟩ := hX.addr (by omega)
    have HX := hid (hX.part i k (by omega))
    have HML := hid hX.1
    have hik : i + k ≤ m := by omega
    generalize hys : (zs.drop i).take k = ys at *
    have HYL : Hid (ys.length = k) := HX.out.1.symm
    have tz : ((k : Int) == 0) = false := by simp; omega
    have tb : decide ((i : Int) < 0) = false := by simp
    have tc : decide ((m : Int) < (i : Int)) = false := decide_eq_false (by omega)
    have td : decide ((m : Int) - (i : Int) < (k : Int)) = false := decide_eq_false (by omega)
    have te : decide (m < i) = false := decide_eq_false (by omega)
    have hs0 : St w [ownI 2 1 (.slice none 0 0) 0 (xC (ys.take 0))] w := (St.nil w).own (Kept.refl _ _) (World.ownsRow_nil _ _ _ _)
    have HS0 := hid hs0
    clear hX hys h0 h3 hb1 hs0
    go_enter Tryz.func18, Tryz.ntmps18
    go_wp2_with (go_at_call 12; refine (hQ _).mono ?_; rintro e w' ⟨rfl, rfl⟩)
    go_loopw [8, 9] (fun v q wr => ∃ j : Nat, q = .int .i64 j ∧ j ≤ k ∧ St w' [ownI 2 1 v j (xC (ys.take j))] wr) (fun _ q _ => k - (intOf q).toNat)
    case atStart => exact ⟨0, rfl, Nat.zero_le _, HS0.out⟩
    case round =>
      clear HS0
      obtain ⟨j, rfl, hj, hst⟩ := hrel
      by_cases hlt : j < k
      · have c1 := (HX.out.kept hst.same).cell hlt
        have e0 : o + i + j = o + (i + j) := by omega
        rw [e0] at c1
        have hown : wr.ownsRow 0 2 1 u8 j (xC (ys.take j)) := hst.get 0 rfl
        have HT : Hid (xC (ys.take (j + 1)) = xC (ys.take j) ++ [.int .i64 (ys.getD j 0)]) := by
          show _ = _
          have hyl := HYL.out
          rw [List.take_succ_eq_append_getElem (by omega), xC_append]
          simp [xC, List.getD_eq_getElem?_getD, show j < ys.length by omega]
        generalize ys.getD j 0 = z at *
        have hbs := buildX1 wr z
        have h0 : (0 : Int) ≤ (i : Int) + (j : Int) := by omega
        have h1' : (i : Int) + (j : Int) < (m : Int) := by omega
        have h2' : ((i : Int) + (j : Int)).toNat = i + j := by omega
        have HG : Hid (∀ g2 cap2 w1, w1.ownsRow 0 2 1 (.slice (some ⟨g2, 0, none⟩) (j + 1) cap2) (j + 1) (xC (ys.take j) ++ [.int .i64 z]) → (wr.alloc (.cells #[.int .i64 z] 2)).grownBy w1 u8.ownBlock → (u8.ownBlock = some g2 ∨ g2 = wr.heap.size + 1) → St w' [ownI 2 1 (.slice (some ⟨g2, 0, none⟩) (j + 1) cap2) (j + 1) (xC (ys.take (j + 1)))] w1) := by
          intro g2 cap2 w1 p1 p2 p3
          rw [HT.out]
          exact hst.growAt 0 rfl p1 p2 p3
        clear hst HT e0
        generalize xC (ys.take j) = XX at *
        go_wp2_with (first | (at_builtin; refine wpList_append_lies _ rfl (.tmp 36) (.tmp 43) 24 rfl 0 2 i0 _ 1 8 Tryz.underlying24 hi0 hz0 hz1 hz2 rfl (by omega) u8 j XX rfl (hown.alloc _) ⟨wr.heap.size, 0, none⟩ 1 1 [.int .i64 z] rfl rfl (World.news_of_block (cs := #[.int .i64 z]) (t := 2) (fr := (0, 0)) (heap_alloc_new wr _)) (by simp [Value.oneCell']) (by omega) (by unfold maxLen; omega) (by omega) (Nat.zero_le _) (wr.heap.size + 1) (by simp) ?_; intro g2 cap2 w8 ho8 hg8 ha8 hl8; replace ho8 := hid (HG.out _ _ _ ho8 hg8 ha8); clear hg8 ha8 hl8) | simp only [hbs])
        go_roundw
        case rel => exact ⟨j + 1, by simp, by omega, ho8.out⟩
        case measure => simp [intOf]; omega
      · have h1' : ¬ (j : Int) < (k : Int) := by omega
        have hjk : j = k := by omega
        have HS : Hid (St w' [ownI 2 1 u8 k (xC ys)] wr) := by
          have h9 := hst
          rw [hjk, show ys.take k = ys from List.take_of_length_le (by have := HYL.out; omega)] at h9
          exact h9
        have hown : wr.ownsRow 0 2 1 u8 k (xC ys) := HS.out.get 0 rfl
        obtain ⟨va, vc, rfl⟩ : ∃ va vc, u8 = .slice va k vc := by
          rcases hown.2 with ⟨rfl, hn⟩ | ⟨g, cap, cur, rfl, _⟩
          · exact ⟨none, 0, by rw [hn]⟩
          · exact ⟨_, _, rfl⟩
        clear hst hjk hown
        go_wp2
        go_ret2
        exact ⟨_, rfl, HS.out⟩
  · simp only [if_neg h]
    have hw : roomM n = 0 ∨ (roomM n ≠ 0 ∧ base < 0) ∨ (roomM n ≠ 0 ∧ 0 ≤ base ∧ (m : Int) < base) ∨ (roomM n ≠ 0 ∧ 0 ≤ base ∧ base ≤ m ∧ (m : Int) - base < n) := by
      unfold fitsM at h
      simp only [Bool.and_eq_true, decide_eq_true_eq] at h
      by_cases hr : roomM n = 0
      · exact .inl hr
      · have h5 : 0 ≤ roomM n := by unfold roomM; split <;> omega
        obtain ⟨_, _, h6⟩ := room_pos (n := n) (by omega)
        rw [h6] at h
        by_cases h7 : base < 0
        · exact .inr (.inl ⟨hr, h7⟩)
        · by_cases h8 : (m : Int) < base
          · exact .inr (.inr (.inl ⟨hr, by omega, h8⟩))
          · refine .inr (.inr (.inr ⟨hr, by omega, by omega, ?_⟩))
            rw [h6] at hr
            have : ¬ (0 < n ∧ 0 ≤ base ∧ base ≤ (m : Int) - n) := h
            obtain ⟨h9, _, _⟩ := room_pos (n := n) (by rw [h6]; omega)
            omega
    clear hX h
    generalize roomM n = r at *
    rcases hw with rfl | ⟨hr, hb⟩ | ⟨hr, hb, hc⟩ | ⟨hr, hb, hc, hd⟩
    · go_enter Tryz.func18, Tryz.ntmps18
      go_wp2_with (go_at_call 12; refine (hQ _).mono ?_; rintro e w' ⟨rfl, rfl⟩)
      go_ret2
      exact ⟨rfl, rfl⟩
    · have tz : (r == 0) = false := by simpa using hr
      have tb : decide (base < 0) = true := decide_eq_true hb
      clear hr hb
      go_enter Tryz.func18, Tryz.ntmps18
      go_wp2_with (go_at_call 12; refine (hQ _).mono ?_; rintro e w' ⟨rfl, rfl⟩)
      go_ret2
      exact ⟨rfl, rfl⟩
    · have tz : (r == 0) = false := by simpa using hr
      have tb : decide (base < 0) = false := decide_eq_false (by omega)
      have tc : decide ((m : Int) < base) = true := decide_eq_true hc
      clear hr hb
      go_enter Tryz.func18, Tryz.ntmps18
      go_wp2_with (go_at_call 12; refine (hQ _).mono ?_; rintro e w' ⟨rfl, rfl⟩)
      go_ret2
      exact ⟨rfl, rfl⟩
    · have tz : (r == 0) = false := by simpa using hr
      have tb : decide (base < 0) = false := decide_eq_false (by omega)
      have tc : decide ((m : Int) < base) = false := decide_eq_false (by omega)
      have td : decide ((m : Int) - base < n) = true := decide_eq_true hd
      clear hr
      go_enter Tryz.func18, Tryz.ntmps18
      go_wp2_with (go_at_call 12; refine (hQ _).mono ?_; rintro e w' ⟨rfl, rfl⟩)
      go_ret2
      exact ⟨rfl, rfl⟩
set_option maxHeartbeats 1000000 in
theorem pick_any (c : Int) (n : Nat) (w : World) (hn : 0 < n) (hn2 : n ≤ 9223372036854775807) (h0 : -9223372036854775808 ≤ c) (h1 : c ≤ 9223372036854775807) : Calls Tryz.prog 20 #[.int .i64 c, .int .i64 n] w fun e w' => (∃ k : Nat, k < n ∧ e = .returned (.int .i64 k)) ∧ w' = w := by
  have key : ∀ z : Int, 0 ≤ z → ∃ k : Nat, k < n ∧ z.tmod n = (k : Int) := fun z hz => by
    refine ⟨(z.tmod n).toNat, ?_, ?_⟩
    · have := Int.tmod_lt_of_pos z (show (0 : Int) < n by omega)
      have h2 := Int.tmod_nonneg (n : Int) hz
      omega
    · have h2 := Int.tmod_nonneg (n : Int) hz
      omega
  have hnz : ¬ (n : Int) = 0 := by omega
  by_cases hc : c < 0
  · obtain ⟨k, hk, ek⟩ := key (-(c + 1)) (by omega)
    have tc : decide (c < 0) = true := decide_eq_true hc
    clear key
    go_enter Tryz.func20, Tryz.ntmps20
    go_wp2_with (simp only [ek])
    go_ret
    exact ⟨⟨k, hk, by first | rfl | (simp; omega) | (simp [ek])⟩, rfl⟩
  · obtain ⟨k, hk, ek⟩ := key c (by omega)
    have tc : decide (c < 0) = false := decide_eq_false hc
    clear key
    go_enter Tryz.func20, Tryz.ntmps20
    go_wp2_with (simp only [ek])
    go_ret
    exact ⟨⟨k, hk, by first | rfl | (simp; omega) | (simp [ek])⟩, rfl⟩
end
end Go.Proofs.YtmoekoilcdkhfaaGreatDoor
