/- The document's Read; which of so many things a number speaks of. BankReads, walked. -/
import Derived.Test.YtmoekoilcdkhfaaGreatDoorBkV
namespace Go.Proofs.YtmoekoilcdkhfaaGreatDoor
open Go.RowKit
set_option linter.unusedVariables false
set_option linter.unusedSimpArgs false
attribute [local go_sem ↓] Go.wp_at_zero Go.wp_at_succ

section
variable {w : World}
set_option maxRecDepth 100000 in
set_option maxHeartbeats 4000000 in
theorem rRead_any (la : Option Addr) (m lc : Nat) (zs : List Int) (base n : Int) (w : World) (hX : XIn w la m zs) (hm : m * 8 ≤ 140737488355328) :
    Calls Tryz.prog 18 #[.slice la m lc, .int .i64 base, .int .i64 n] w fun e w' =>
      if fitsM base n m = true then ∃ v, e = .returned (.tuple #[v, .int .i64 0]) ∧ St w [ownI 2 1 v n.toNat (xC ((zs.drop base.toNat).take n.toNat))] w' else e = .returned (.tuple #[.slice none 0 0, .int .i64 170]) ∧ w' = w := by
  obtain ⟨i0, hi0, hz0, hz1, hz2⟩ := info_parts Tryz.infoX
  have hQ := fun W => rRoom_any n W
  by_cases h : fitsM base n m = true
  · simp only [if_pos h]
    unfold fitsM at h
    simp only [Bool.and_eq_true, decide_eq_true_eq] at h
    obtain ⟨h0, hb0, hb1⟩ := h
    obtain ⟨h1, h2, h3⟩ := room_pos h0
    rw [h3] at hb1 hQ
    obtain ⟨k, rfl⟩ : ∃ k : Nat, n = (k : Int) := ⟨n.toNat, by omega⟩
    obtain ⟨i, rfl⟩ : ∃ i : Nat, base = (i : Int) := ⟨base.toNat, by omega⟩
    simp only [Int.toNat_natCast]
    obtain ⟨g, o, rfl⟩ := hX.addr (by omega)
    have HX := hid (hX.part i k (by omega))
    have HML := hid hX.1
    have hik : i + k ≤ m := by omega
    generalize hys : (zs.drop i).take k = ys at *
    have HYL : Hid (ys.length = k) := HX.out.1.symm
    have tz : ((k : Int) == 0) = false := by simp; omega
    have tb : decide ((i : Int) < 0) = false := by simp
    have tc : decide ((m : Int) < (i : Int)) = false := decide_eq_false (by omega)
    have td : decide ((m : Int) - (i : Int) < (k : Int)) = false := decide_eq_false (by omega)
    have te : decide (m < i) = false := decide_eq_false (by omega)
    have hs0 : St w [ownI 2 1 (.slice none 0 0) 0 (xC (ys.take 0))] w := (St.nil w).own (Kept.refl _ _) (World.ownsRow_nil _ _ _ _)
    have HS0 := hid hs0
    clear hX hys h0 h3 hb1 hs0
    go_enter Tryz.func18, Tryz.ntmps18
    go_wp2_with (go_at_call 12; refine (hQ _).mono ?_; rintro e w' ⟨rfl, rfl⟩)
    go_loopw [8, 9] (fun v q wr => ∃ j : Nat, q = .int .i64 j ∧ j ≤ k ∧ St w' [ownI 2 1 v j (xC (ys.take j))] wr) (fun _ q _ => k - (intOf q).toNat)
    case atStart => exact ⟨0, rfl, Nat.zero_le _, HS0.out⟩
    case round =>
      clear HS0
      obtain ⟨j, rfl, hj, hst⟩ := hrel
      by_cases hlt : j < k
      · have c1 := (HX.out.kept hst.same).cell hlt
        have e0 : o + i + j = o + (i + j) := by omega
        rw [e0] at c1
        have hown : wr.ownsRow 0 2 1 u8 j (xC (ys.take j)) := hst.get 0 rfl
        have HT : Hid (xC (ys.take (j + 1)) = xC (ys.take j) ++ [.int .i64 (ys.getD j 0)]) := by
          show _ = _
          have hyl := HYL.out
          rw [List.take_succ_eq_append_getElem (by omega), xC_append]
          simp [xC, List.getD_eq_getElem?_getD, show j < ys.length by omega]
        generalize ys.getD j 0 = z at *
        have hbs := buildX1 wr z
        have h0 : (0 : Int) ≤ (i : Int) + (j : Int) := by omega
        have h1' : (i : Int) + (j : Int) < (m : Int) := by omega
        have h2' : ((i : Int) + (j : Int)).toNat = i + j := by omega
        have HG : Hid (∀ g2 cap2 w1, w1.ownsRow 0 2 1 (.slice (some ⟨g2, 0, none⟩) (j + 1) cap2) (j + 1) (xC (ys.take j) ++ [.int .i64 z]) → (wr.alloc (.cells #[.int .i64 z] 2)).grownBy w1 u8.ownBlock → (u8.ownBlock = some g2 ∨ g2 = wr.heap.size + 1) → St w' [ownI 2 1 (.slice (some ⟨g2, 0, none⟩) (j + 1) cap2) (j + 1) (xC (ys.take (j + 1)))] w1) := by
          intro g2 cap2 w1 p1 p2 p3
          rw [HT.out]
          exact hst.growAt 0 rfl p1 p2 p3
        clear hst HT e0
        generalize xC (ys.take j) = XX at *
        go_wp2_with (first | (at_builtin; refine wpList_append_lies _ rfl (.tmp 36) (.tmp 43) 24 rfl 0 2 i0 _ 1 8 Tryz.underlying24 hi0 hz0 hz1 hz2 rfl (by omega) u8 j XX rfl (hown.alloc _) ⟨wr.heap.size, 0, none⟩ 1 1 [.int .i64 z] rfl rfl (World.news_of_block (cs := #[.int .i64 z]) (t := 2) (fr := (0, 0)) (heap_alloc_new wr _)) (by simp [Value.oneCell']) (by omega) (by unfold maxLen; omega) (by omega) (Nat.zero_le _) (wr.heap.size + 1) (by simp) ?_; intro g2 cap2 w8 ho8 hg8 ha8 hl8; replace ho8 := hid (HG.out _ _ _ ho8 hg8 ha8); clear hg8 ha8 hl8) | simp only [hbs])
        go_roundw
        case rel => exact ⟨j + 1, by simp, by omega, ho8.out⟩
        case measure => simp [intOf]; omega
      · have h1' : ¬ (j : Int) < (k : Int) := by omega
        have hjk : j = k := by omega
        have HS : Hid (St w' [ownI 2 1 u8 k (xC ys)] wr) := by
          have h9 := hst
          rw [hjk, show ys.take k = ys from List.take_of_length_le (by have := HYL.out; omega)] at h9
          exact h9
        have hown : wr.ownsRow 0 2 1 u8 k (xC ys) := HS.out.get 0 rfl
        obtain ⟨va, vc, rfl⟩ : ∃ va vc, u8 = .slice va k vc := by
          rcases hown.2 with ⟨rfl, hn⟩ | ⟨g, cap, cur, rfl, _⟩
          · exact ⟨none, 0, by rw [hn]⟩
          · exact ⟨_, _, rfl⟩
        clear hst hjk hown
        go_wp2
        go_ret2
        exact ⟨_, rfl, HS.out⟩
  · simp only [if_neg h]
    have hw : roomM n = 0 ∨ (roomM n ≠ 0 ∧ base < 0) ∨ (roomM n ≠ 0 ∧ 0 ≤ base ∧ (m : Int) < base) ∨ (roomM n ≠ 0 ∧ 0 ≤ base ∧ base ≤ m ∧ (m : Int) - base < n) := by
      unfold fitsM at h
      simp only [Bool.and_eq_true, decide_eq_true_eq] at h
      by_cases hr : roomM n = 0
      · exact .inl hr
      · have h5 : 0 ≤ roomM n := by unfold roomM; split <;> omega
        obtain ⟨_, _, h6⟩ := room_pos (n := n) (by omega)
        rw [h6] at h
        by_cases h7 : base < 0
        · exact .inr (.inl ⟨hr, h7⟩)
        · by_cases h8 : (m : Int) < base
          · exact .inr (.inr (.inl ⟨hr, by omega, h8⟩))
          · refine .inr (.inr (.inr ⟨hr, by omega, by omega, ?_⟩))
            rw [h6] at hr
            have : ¬ (0 < n ∧ 0 ≤ base ∧ base ≤ (m : Int) - n) := h
            obtain ⟨h9, _, _⟩ := room_pos (n := n) (by rw [h6]; omega)
            omega
    clear hX h
    generalize roomM n = r at *
    rcases hw with rfl | ⟨hr, hb⟩ | ⟨hr, hb, hc⟩ | ⟨hr, hb, hc, hd⟩
    · go_enter Tryz.func18, Tryz.ntmps18
      go_wp2_with (go_at_call 12; refine (hQ _).mono ?_; rintro e w' ⟨rfl, rfl⟩)
      go_ret2
      exact ⟨rfl, rfl⟩
    · have tz : (r == 0) = false := by simpa using hr
      have tb : decide (base < 0) = true := decide_eq_true hb
      clear hr hb
      go_enter Tryz.func18, Tryz.ntmps18
      go_wp2_with (go_at_call 12; refine (hQ _).mono ?_; rintro e w' ⟨rfl, rfl⟩)
      go_ret2
      exact ⟨rfl, rfl⟩
    · have tz : (r == 0) = false := by simpa using hr
      have tb : decide (base < 0) = false := decide_eq_false (by omega)
      have tc : decide ((m : Int) < base) = true := decide_eq_true hc
      clear hr hb
      go_enter Tryz.func18, Tryz.ntmps18
      go_wp2_with (go_at_call 12; refine (hQ _).mono ?_; rintro e w' ⟨rfl, rfl⟩)
      go_ret2
      exact ⟨rfl, rfl⟩
    · have tz : (r == 0) = false := by simpa using hr
      have tb : decide (base < 0) = false := decide_eq_false (by omega)
      have tc : decide ((m : Int) < base) = false := decide_eq_false (by omega)
      have td : decide ((m : Int) - base < n) = true := decide_eq_true hd
      clear hr
      go_enter Tryz.func18, Tryz.ntmps18
      go_wp2_with (go_at_call 12; refine (hQ _).mono ?_; rintro e w' ⟨rfl, rfl⟩)
      go_ret2
      exact ⟨rfl, rfl⟩
set_option maxHeartbeats 1000000 in
theorem pick_any (c : Int) (n : Nat) (w : World) (hn : 0 < n) (hn2 : n ≤ 9223372036854775807) (h0 : -9223372036854775808 ≤ c) (h1 : c ≤ 9223372036854775807) : Calls Tryz.prog 20 #[.int .i64 c, .int .i64 n] w fun e w' => (∃ k : Nat, k < n ∧ e = .returned (.int .i64 k)) ∧ w' = w := by
  have key : ∀ z : Int, 0 ≤ z → ∃ k : Nat, k < n ∧ z.tmod n = (k : Int) := fun z hz => by
    refine ⟨(z.tmod n).toNat, ?_, ?_⟩
    · have := Int.tmod_lt_of_pos z (show (0 : Int) < n by omega)
      have h2 := Int.tmod_nonneg (n : Int) hz
      omega
    · have h2 := Int.tmod_nonneg (n : Int) hz
      omega
  have hnz : ¬ (n : Int) = 0 := by omega
  by_cases hc : c < 0
  · obtain ⟨k, hk, ek⟩ := key (-(c + 1)) (by omega)
    have tc : decide (c < 0) = true := decide_eq_true hc
    clear key
    go_enter Tryz.func20, Tryz.ntmps20
    go_wp2_with (simp only [ek])
    go_ret
    exact ⟨⟨k, hk, by first | rfl | (simp; omega) | (simp [ek])⟩, rfl⟩
  · obtain ⟨k, hk, ek⟩ := key c (by omega)
    have tc : decide (c < 0) = false := decide_eq_false hc
    clear key
    go_enter Tryz.func20, Tryz.ntmps20
    go_wp2_with (simp only [ek])
    go_ret
    exact ⟨⟨k, hk, by first | rfl | (simp; omega) | (simp [ek])⟩, rfl⟩
end
end Go.Proofs.YtmoekoilcdkhfaaGreatDoor

namespace Go.Proofs.YtmoekoilcdkhfaaGreatDoor
open Go.RowKit
set_option linter.unusedVariables false
set_option linter.unusedSimpArgs false
attribute [local go_sem ↓] Go.wp_at_zero Go.wp_at_succ

theorem row_xin {o w : World} {R : List It} {g n cap : Nat} {zs : List Int} (h : St o (rowI g n cap zs :: R) w) : XIn w (some ⟨g, 0, none⟩) n zs :=
  ⟨row_len h, fun _ => ⟨g, 0, rfl, fun j hj => by rw [Nat.zero_add]; exact row_cell h hj⟩⟩
theorem own_slice {w : World} {base t n : Nat} {v : Value} {xs : List Value} (h : w.ownsRow base t 1 v n xs) : ∃ la lc, v = .slice la n lc := by
  rcases h.2 with ⟨rfl, hn⟩ | ⟨g, cap, cur, rfl, _⟩
  · exact ⟨none, 0, by rw [hn]⟩
  · exact ⟨_, _, rfl⟩
/-- Two that read alike. -/
theorem reads_same {la lb : Option Addr} {m lc ld k k1 : Nat} {zs : List Int} {w : World} (h : XIn w la k zs) (h' : XIn w lb k zs) (hk : k ≤ 1000000) : Calls Tryz.prog 13 #[.slice la k lc, .slice lb k ld] w fun e w' => e = .returned (.bool true) ∧ Kept (fun _ => False) w w' := by
  have := same_any la lb k k lc ld zs zs h h' (by omega)
  rw [decide_eq_true rfl] at this
  exact this
set_option maxRecDepth 100000 in
set_option maxHeartbeats 8000000 in
theorem reads_walk (la : Option Addr) (m lc : Nat) (cs : List Int) (base n : Int) (lb : Option Addr) (ml ld : Nat) (l : List Int) (seed at_ x : Int) (w : World) (hE : Env w) (hC : CameX w la m lc cs) (hD : CameX w lb ml ld l) (ha0 : -9223372036854775808 ≤ at_) (ha1 : at_ ≤ 9223372036854775807) :
    Calls Tryz.prog 5 #[.slice la m lc, .int .i64 base, .int .i64 n, .slice lb ml ld, .int .i64 seed, .int .i64 at_, .int .i64 x] w fun e w' => e = .returned (.bool true) ∧ Kept (fun _ => False) w w' := by
  have hA := awake_any w hE
  have HC := hid hC
  have HD := hid hD
  have hm8 : m * 8 ≤ 140737488351232 := by have := hC.2; omega
  have hQ := fun W => rRoom_any n W
  clear hE hC hD
  go_enter Tryz.func5, Tryz.ntmps5
  go_upto_region 2 with (go_at_call 9; refine hA.mono ?_; rintro e w1 ⟨rfl, k1⟩; clear hA)
  have h2 := Copied_any la m lc cs w1 (HC.out.kept k1).1 (by omega)
  go_upto_region 3 with (go_at_call 16; refine h2.mono ?_; rintro e w2 ⟨vo, rfl, s2⟩)
  have s2' := s2.base k1
  obtain ⟨lo, co, rfl⟩ := own_slice (s2.get 0 rfl : w2.ownsRow 0 2 1 vo m (xC cs))
  have hmc : m = cs.length := HC.out.1.1
  have hxo : XIn w2 lo m cs ∧ m ≤ co := by
    obtain ⟨la', lc', e, hx, hle, _⟩ := own_xin (show w2.ownsRow 0 2 1 (.slice lo m co) cs.length (xC cs) by rw [← hmc]; exact s2.get 0 rfl)
    simp only [Value.slice.injEq] at e
    obtain ⟨rfl, _, rfl⟩ := e
    rw [← hmc] at hx
    exact ⟨hx, by omega⟩
  have HXO := hid hxo
  have HS2 := hid s2'
  have h3 := Read_any lo m co cs base n w2 hxo.1 hxo.2 (by omega)
  clear h2 s2 s2' hxo hmc
  by_cases hf : fitsM base n m = true
  · simp only [if_pos hf] at h3
    go_upto_region 4 with (go_at_call 17; refine h3.mono ?_; rintro e w3 ⟨va, rfl, s3⟩)
    have h4 := rRead_any la m lc cs base n w3 ((HC.out.kept (HS2.out.same)).kept s3.same).1 (by omega)
    simp only [if_pos hf] at h4
    have hn64 : n.toNat ≤ 64 := by
      unfold fitsM at hf
      simp only [Bool.and_eq_true, decide_eq_true_eq] at hf
      have := room_pos hf.1
      omega
    have HS3 := hid s3
    clear h3 s3 hf
    generalize (cs.drop base.toNat).take n.toNat = ys at *
    generalize n.toNat = kk at *
    go_upto_region 5 with (go_at_call 18; refine h4.mono ?_; rintro e w4 ⟨vb, rfl, s4⟩)
    obtain ⟨ga, ca, rfl⟩ := own_slice (HS3.out.get 0 rfl : w3.ownsRow 0 2 1 va kk (xC ys))
    obtain ⟨gb, cb, rfl⟩ := own_slice (s4.get 0 rfl : w4.ownsRow 0 2 1 vb kk (xC ys))
    have hyl : kk = ys.length := by
      have := (HS3.out.get 0 rfl : w3.ownsRow 0 2 1 (.slice ga kk ca) kk (xC ys)).1
      rw [xC_length] at this
      omega
    have hxa : XIn w4 ga kk ys := by
      have h9 := HS3.out.get 0 rfl
      obtain ⟨la', lc', e, hx, _⟩ := own_xin (show w3.ownsRow 0 2 1 (.slice ga kk ca) ys.length (xC ys) by rw [← hyl]; exact h9)
      simp only [Value.slice.injEq] at e
      obtain ⟨rfl, _, _⟩ := e
      rw [← hyl] at hx
      exact hx.kept s4.same
    have hxb : XIn w4 gb kk ys := by
      have h9 := s4.get 0 rfl
      obtain ⟨la', lc', e, hx, _⟩ := own_xin (show w4.ownsRow 0 2 1 (.slice gb kk cb) ys.length (xC ys) by rw [← hyl]; exact h9)
      simp only [Value.slice.injEq] at e
      obtain ⟨rfl, _, _⟩ := e
      rw [← hyl] at hx
      exact hx
    have q1 := reads_same (m := 0) (k1 := 0) (lc := ca) (ld := cb) hxa hxb (by omega)
    have K4 := (HS3.out.same).trans s4.same (fun _ _ f => f)
    clear h4 s4 hxa hxb hyl HS3 hn64
    go_upto_region 6 with (go_at_call 13; refine q1.mono ?_; rintro e w5 ⟨rfl, k5⟩)
    have K5 := K4.trans k5 (fun _ _ f => f)
    have q2 := same_any lo la m m co lc cs cs (HXO.out.1.kept K5) ((HC.out.kept HS2.out.same).kept K5).1 (by omega)
    rw [decide_eq_true rfl] at q2
    have KW := HS2.out.same.trans K5 (fun _ _ f => f)
    clear q1 K4 k5
    go_upto_region 9 with (go_at_call 13; refine q2.mono ?_; rintro e w6 ⟨rfl, k6⟩)
    have HK6 := hid (KW.trans k6 (fun _ _ f => f))
    clear q2 k6 KW K5 HXO HS2 k1
    by_cases hr : roomM n = 0
    · have tz : (roomM n == 0) = true := by simp [hr]
      generalize roomM n = r at *
      clear hr
      go_wp2_with (go_at_call 12; refine (hQ _).mono ?_; rintro e w' ⟨rfl, rfl⟩)
      go_ret
      exact ⟨rfl, HK6.out⟩
    · have hr0 : 0 < roomM n := by
        have : 0 ≤ roomM n := by unfold roomM; split <;> omega
        omega
      obtain ⟨hn1, hn2, hn3⟩ := room_pos hr0
      rw [hn3] at hQ
      have hMay : (ml : Int) ≤ n ∨ n < (ml : Int) := by omega
      clear hr hr0 hn3
      have tz : (n == 0) = false := by simp; omega
      rcases hMay with hle | hgt
      · have tg : decide (n < (ml : Int)) = false := decide_eq_false (by omega)
        obtain ⟨k, rfl⟩ : ∃ k : Nat, n = (k : Int) := ⟨n.toNat, by omega⟩
        have tg2 : decide (k < ml) = false := decide_eq_false (by omega)
        have hL := Lay_any lb ml ld l (k : Int) seed w6 (HD.out.kept HK6.out).1 (by omega) (by omega)
        simp only [Int.toNat_natCast] at hL
        go_upto_region 12 with (first | (go_at_call 12; refine (hQ _).mono ?_; rintro e w' ⟨rfl, rfl⟩) | (go_at_call 19; refine hL.mono ?_; rintro e w7 ⟨vc, rfl, s7⟩))
        have hk0 : 0 < k := by omega
        have hk64 : k ≤ 64 := by omega
        obtain ⟨gc, cc, rfl⟩ := s7.form 0 rfl hk0
        have hcc : k ≤ cc := by
          rcases (s7.get 0 rfl : w7.ownsRow 0 2 1 (.slice (some ⟨gc, 0, none⟩) k cc) k (xC (padM k l))).2 with ⟨e, _⟩ | ⟨g', c', cur, e, _, _, h1, _⟩
          · cases e
          · simp only [Value.slice.injEq] at e
            omega
        have HS7 : Hid (St w [rowI gc k cc (padM k l)] w7) := s7.base HK6.out
        have hfit : fitsM 0 (k : Int) k = true := by
          unfold fitsM roomM
          rw [if_pos ⟨by omega, by omega⟩]
          simp
          omega
        have HFit := hid hfit
        have HPick : Hid (∀ W, Calls Tryz.prog 20 #[.int .i64 at_, .int .i64 k] W fun e w' => (∃ q : Nat, q < k ∧ e = .returned (.int .i64 q)) ∧ w' = W) := fun W => pick_any at_ k W hk0 (by omega) ha0 ha1
        clear hL s7 hfit tz tg tg2 hle hn1 hn2 hQ
        go_wp2
        go_loopw [24] (fun i wr => ∃ (j : Nat) (ys : List Int), i = .int .i64 j ∧ j ≤ 2 ∧ St w [rowI gc k cc ys] wr) (fun i _ => 2 - (intOf i).toNat)
        case atStart => exact ⟨0, _, rfl, by omega, HS7.out⟩
        case round =>
          clear HS7
          obtain ⟨j, ys, rfl, hj, hst⟩ := hrel
          by_cases hlt : j < 2
          · have h1 : (j : Int) < 2 := by omega
            have hyl : k = ys.length := row_len hst
            have HYL := hid hyl
            have p1 := Copied_any (some ⟨gc, 0, none⟩) k cc ys wr (row_xin hst) (by omega)
            have HST := hid hst
            clear hst hyl
            go_upto_region 16 with (go_at_call 16; refine p1.mono ?_; rintro e wa ⟨vd, rfl, sa⟩)
            obtain ⟨gd, cd, rfl⟩ := sa.form 0 rfl hk0
            have hsa := HST.out.calm sa.same
            have p2 := Read_any (some ⟨gc, 0, none⟩) k cc ys 0 (k : Int) wa (row_xin hsa) hcc (by omega)
            simp only [if_pos HFit.out, Int.toNat_natCast, Int.toNat_zero, List.drop_zero] at p2
            rw [show ys.take k = ys from List.take_of_length_le (by have := HYL.out; omega)] at p2
            have sA : St w [rowI gd k cd ys, rowI gc k cc ys] wa := HST.out.join sa
            have HSA := hid sA
            clear p1 sa hsa sA HST
            go_upto_region 17 with (go_at_call 17; refine p2.mono ?_; rintro e wb ⟨ve, rfl, sb⟩)
            obtain ⟨ge, ce, rfl⟩ := sb.form 0 rfl hk0
            have sB : St w [rowI ge k ce ys, rowI gd k cd ys, rowI gc k cc ys] wb := HSA.out.join sb
            have hxc : ∀ {R : List It} {W : World}, St w R W → R[2]? = some (rowI gc k cc ys) → XIn W (some ⟨gc, 0, none⟩) k ys := fun hs hi => ⟨HYL.out, fun _ => ⟨gc, 0, rfl, fun q hq => by rw [Nat.zero_add, hs.ownCell 2 hi q (by omega)]; exact xC_at ys q (by have := HYL.out; omega)⟩⟩
            have p3 := rRead_any (some ⟨gc, 0, none⟩) k cc ys 0 (k : Int) wb (hxc sB rfl) (by omega)
            simp only [if_pos HFit.out, Int.toNat_natCast, Int.toNat_zero, List.drop_zero] at p3
            rw [show ys.take k = ys from List.take_of_length_le (by have := HYL.out; omega)] at p3
            have HSB := hid sB
            clear p2 sb sB hxc
            go_upto_region 18 with (go_at_call 18; refine p3.mono ?_; rintro e wd ⟨vf, rfl, sd⟩)
            obtain ⟨gf, cf, rfl⟩ := sd.form 0 rfl hk0
            have sB2 := HSB.out.calm sd.same
            have hxf : XIn wd (some ⟨gf, 0, none⟩) k ys := row_xin sd
            have p4 := reads_same (m := 0) (k1 := 0) (lc := ce) (ld := cf) (row_xin sB2) hxf (by omega)
            have HSB2 := hid sB2
            clear p3 sd sB2 hxf HSB HSA
            go_upto_region 21 with (go_at_call 13; refine p4.mono ?_; rintro e wf ⟨rfl, kf⟩)
            have HSF := hid (HSB2.out.calm kf)
            clear p4 kf HSB2
            go_wp2
            go_loopw [31] (fun i wr2 => ∃ (q : Nat) (zs : List Int), i = .int .i64 q ∧ q ≤ k ∧ St w [rowI ge k ce zs, rowI gd k cd ys, rowI gc k cc ys] wr2) (fun i _ => k - (intOf i).toNat)
            case atStart => exact ⟨0, _, rfl, Nat.zero_le _, HSF.out⟩
            case round =>
              clear HSF
              obtain ⟨q, zs, rfl, hq, hs2⟩ := hrel
              by_cases hlq : q < k
              · have c1 := row_cell hs2 hlq
                have f1 := row_frozen hs2 q
                have g0 : (0 : Int) ≤ (q : Int) := Int.natCast_nonneg _
                have g1 : (q : Int) < (k : Int) := by omega
                have HT := hid (row_set hs2 hlq (-777))
                clear hs2
                generalize zs.getD q 0 = zz at *
                go_wp2
                go_roundw
                case rel => exact ⟨q + 1, _, by simp, by omega, HT.out⟩
                case measure => simp [intOf]; omega
              · have g1 : ¬ (q : Int) < (k : Int) := by omega
                have hs3 := hs2.pop
                have p5 := reads_same (m := 0) (k1 := 0) (lc := cc) (ld := cd) (row_xin hs3.swap) (row_xin hs3) (by omega)
                have HS3' := hid hs3
                clear hs2 hs3
                go_upto_region 28 with (go_at_call 13; refine p5.mono ?_; rintro e wg ⟨rfl, kg⟩)
                have sg := (HS3'.out.calm kg).pop
                clear p5 kg HS3'
                have HRW : Hid (∀ q', q' < k → wg.cell? ⟨gc, q', none⟩ = some (.int .i64 (ys.getD q' 0)) ∧ wg.frozen? ⟨gc, q', none⟩ = false ∧ wg.drew.cell? ⟨gc, q', none⟩ = some (.int .i64 (ys.getD q' 0)) ∧ wg.drew.frozen? ⟨gc, q', none⟩ = false ∧ St w [rowI gc k cc (ys.set q' x)] (wg.setCell ⟨gc, q', none⟩ (.int .i64 x))) := fun q' hq' => ⟨row_cell sg hq', row_frozen sg q', row_cell sg.drew hq', row_frozen sg.drew q', row_set sg hq' x⟩
                clear sg
                go_wp2_with (go_at_call 20; refine (HPick.out _).mono ?_; rintro e w' ⟨⟨q', hq', rfl⟩, rfl⟩; obtain ⟨r1, r2, r3, r4, r5⟩ := HRW.out q' hq'; have R5 := hid r5; clear r5 HRW; have g2 : (0 : Int) ≤ (q' : Int) := Int.natCast_nonneg _; have g3 : (q' : Int) < (k : Int) := (by omega); generalize ys.getD q' 0 = zz at *)
                go_roundw
                case rel => exact ⟨j + 1, _, by simp, by omega, R5.out⟩
                case measure => simp [intOf]; omega
          · have h1 : ¬ (j : Int) < 2 := by omega
            have HK := hid hst.same
            clear hst
            go_wp2
            go_ret
            exact ⟨rfl, HK.out⟩
      · have tg : decide (n < (ml : Int)) = true := decide_eq_true hgt
        go_wp2_with (go_at_call 12; refine (hQ _).mono ?_; rintro e w' ⟨rfl, rfl⟩)
        go_ret
        exact ⟨rfl, HK6.out⟩
  · simp only [if_neg hf] at h3
    go_upto_region 4 with (go_at_call 17; refine h3.mono ?_; rintro e w3 ⟨rfl, rfl⟩)
    have h4 := rRead_any la m lc cs base n w3 (HC.out.kept HS2.out.same).1 (by omega)
    simp only [if_neg hf] at h4
    clear h3 hf
    go_upto_region 5 with (go_at_call 18; refine h4.mono ?_; rintro e w4 ⟨rfl, rfl⟩)
    have q1 := reads_same (m := 0) (k1 := 0) (la := none) (lb := none) (lc := 0) (ld := 0) (k := 0) (zs := []) (w := w4) ⟨rfl, fun h => by omega⟩ ⟨rfl, fun h => by omega⟩ (by omega)
    clear h4
    go_upto_region 6 with (go_at_call 13; refine q1.mono ?_; rintro e w5 ⟨rfl, k5⟩)
    have q2 := same_any lo la m m co lc cs cs (HXO.out.1.kept k5) ((HC.out.kept HS2.out.same).kept k5).1 (by omega)
    rw [decide_eq_true rfl] at q2
    have KW := HS2.out.same.trans k5 (fun _ _ f => f)
    clear q1
    go_upto_region 9 with (go_at_call 13; refine q2.mono ?_; rintro e w6 ⟨rfl, k6⟩)
    have HK6 := hid (KW.trans k6 (fun _ _ f => f))
    clear q2 k6 k5 KW HXO HS2 k1
    by_cases hr : roomM n = 0
    · have tz : (roomM n == 0) = true := by simp [hr]
      generalize roomM n = r at *
      clear hr
      go_wp2_with (go_at_call 12; refine (hQ _).mono ?_; rintro e w' ⟨rfl, rfl⟩)
      go_ret
      exact ⟨rfl, HK6.out⟩
    · have hr0 : 0 < roomM n := by
        have : 0 ≤ roomM n := by unfold roomM; split <;> omega
        omega
      obtain ⟨hn1, hn2, hn3⟩ := room_pos hr0
      rw [hn3] at hQ
      have hMay : (ml : Int) ≤ n ∨ n < (ml : Int) := by omega
      clear hr hr0 hn3
      have tz : (n == 0) = false := by simp; omega
      rcases hMay with hle | hgt
      · have tg : decide (n < (ml : Int)) = false := decide_eq_false (by omega)
        obtain ⟨k, rfl⟩ : ∃ k : Nat, n = (k : Int) := ⟨n.toNat, by omega⟩
        have tg2 : decide (k < ml) = false := decide_eq_false (by omega)
        have hL := Lay_any lb ml ld l (k : Int) seed w6 (HD.out.kept HK6.out).1 (by omega) (by omega)
        simp only [Int.toNat_natCast] at hL
        go_upto_region 12 with (first | (go_at_call 12; refine (hQ _).mono ?_; rintro e w' ⟨rfl, rfl⟩) | (go_at_call 19; refine hL.mono ?_; rintro e w7 ⟨vc, rfl, s7⟩))
        have hk0 : 0 < k := by omega
        have hk64 : k ≤ 64 := by omega
        obtain ⟨gc, cc, rfl⟩ := s7.form 0 rfl hk0
        have hcc : k ≤ cc := by
          rcases (s7.get 0 rfl : w7.ownsRow 0 2 1 (.slice (some ⟨gc, 0, none⟩) k cc) k (xC (padM k l))).2 with ⟨e, _⟩ | ⟨g', c', cur, e, _, _, h1, _⟩
          · cases e
          · simp only [Value.slice.injEq] at e
            omega
        have HS7 : Hid (St w [rowI gc k cc (padM k l)] w7) := s7.base HK6.out
        have hfit : fitsM 0 (k : Int) k = true := by
          unfold fitsM roomM
          rw [if_pos ⟨by omega, by omega⟩]
          simp
          omega
        have HFit := hid hfit
        have HPick : Hid (∀ W, Calls Tryz.prog 20 #[.int .i64 at_, .int .i64 k] W fun e w' => (∃ q : Nat, q < k ∧ e = .returned (.int .i64 q)) ∧ w' = W) := fun W => pick_any at_ k W hk0 (by omega) ha0 ha1
        clear hL s7 hfit tz tg tg2 hle hn1 hn2 hQ
        go_wp2
        go_loopw [24] (fun i wr => ∃ (j : Nat) (ys : List Int), i = .int .i64 j ∧ j ≤ 2 ∧ St w [rowI gc k cc ys] wr) (fun i _ => 2 - (intOf i).toNat)
        case atStart => exact ⟨0, _, rfl, by omega, HS7.out⟩
        case round =>
          clear HS7
          obtain ⟨j, ys, rfl, hj, hst⟩ := hrel
          by_cases hlt : j < 2
          · have h1 : (j : Int) < 2 := by omega
            have hyl : k = ys.length := row_len hst
            have HYL := hid hyl
            have p1 := Copied_any (some ⟨gc, 0, none⟩) k cc ys wr (row_xin hst) (by omega)
            have HST := hid hst
            clear hst hyl
            go_upto_region 16 with (go_at_call 16; refine p1.mono ?_; rintro e wa ⟨vd, rfl, sa⟩)
            obtain ⟨gd, cd, rfl⟩ := sa.form 0 rfl hk0
            have hsa := HST.out.calm sa.same
            have p2 := Read_any (some ⟨gc, 0, none⟩) k cc ys 0 (k : Int) wa (row_xin hsa) hcc (by omega)
            simp only [if_pos HFit.out, Int.toNat_natCast, Int.toNat_zero, List.drop_zero] at p2
            rw [show ys.take k = ys from List.take_of_length_le (by have := HYL.out; omega)] at p2
            have sA : St w [rowI gd k cd ys, rowI gc k cc ys] wa := HST.out.join sa
            have HSA := hid sA
            clear p1 sa hsa sA HST
            go_upto_region 17 with (go_at_call 17; refine p2.mono ?_; rintro e wb ⟨ve, rfl, sb⟩)
            obtain ⟨ge, ce, rfl⟩ := sb.form 0 rfl hk0
            have sB : St w [rowI ge k ce ys, rowI gd k cd ys, rowI gc k cc ys] wb := HSA.out.join sb
            have hxc : ∀ {R : List It} {W : World}, St w R W → R[2]? = some (rowI gc k cc ys) → XIn W (some ⟨gc, 0, none⟩) k ys := fun hs hi => ⟨HYL.out, fun _ => ⟨gc, 0, rfl, fun q hq => by rw [Nat.zero_add, hs.ownCell 2 hi q (by omega)]; exact xC_at ys q (by have := HYL.out; omega)⟩⟩
            have p3 := rRead_any (some ⟨gc, 0, none⟩) k cc ys 0 (k : Int) wb (hxc sB rfl) (by omega)
            simp only [if_pos HFit.out, Int.toNat_natCast, Int.toNat_zero, List.drop_zero] at p3
            rw [show ys.take k = ys from List.take_of_length_le (by have := HYL.out; omega)] at p3
            have HSB := hid sB
            clear p2 sb sB hxc
            go_upto_region 18 with (go_at_call 18; refine p3.mono ?_; rintro e wd ⟨vf, rfl, sd⟩)
            obtain ⟨gf, cf, rfl⟩ := sd.form 0 rfl hk0
            have sB2 := HSB.out.calm sd.same
            have hxf : XIn wd (some ⟨gf, 0, none⟩) k ys := row_xin sd
            have p4 := reads_same (m := 0) (k1 := 0) (lc := ce) (ld := cf) (row_xin sB2) hxf (by omega)
            have HSB2 := hid sB2
            clear p3 sd sB2 hxf HSB HSA
            go_upto_region 21 with (go_at_call 13; refine p4.mono ?_; rintro e wf ⟨rfl, kf⟩)
            have HSF := hid (HSB2.out.calm kf)
            clear p4 kf HSB2
            go_wp2
            go_loopw [31] (fun i wr2 => ∃ (q : Nat) (zs : List Int), i = .int .i64 q ∧ q ≤ k ∧ St w [rowI ge k ce zs, rowI gd k cd ys, rowI gc k cc ys] wr2) (fun i _ => k - (intOf i).toNat)
            case atStart => exact ⟨0, _, rfl, Nat.zero_le _, HSF.out⟩
            case round =>
              clear HSF
              obtain ⟨q, zs, rfl, hq, hs2⟩ := hrel
              by_cases hlq : q < k
              · have c1 := row_cell hs2 hlq
                have f1 := row_frozen hs2 q
                have g0 : (0 : Int) ≤ (q : Int) := Int.natCast_nonneg _
                have g1 : (q : Int) < (k : Int) := by omega
                have HT := hid (row_set hs2 hlq (-777))
                clear hs2
                generalize zs.getD q 0 = zz at *
                go_wp2
                go_roundw
                case rel => exact ⟨q + 1, _, by simp, by omega, HT.out⟩
                case measure => simp [intOf]; omega
              · have g1 : ¬ (q : Int) < (k : Int) := by omega
                have hs3 := hs2.pop
                have p5 := reads_same (m := 0) (k1 := 0) (lc := cc) (ld := cd) (row_xin hs3.swap) (row_xin hs3) (by omega)
                have HS3' := hid hs3
                clear hs2 hs3
                go_upto_region 28 with (go_at_call 13; refine p5.mono ?_; rintro e wg ⟨rfl, kg⟩)
                have sg := (HS3'.out.calm kg).pop
                clear p5 kg HS3'
                have HRW : Hid (∀ q', q' < k → wg.cell? ⟨gc, q', none⟩ = some (.int .i64 (ys.getD q' 0)) ∧ wg.frozen? ⟨gc, q', none⟩ = false ∧ wg.drew.cell? ⟨gc, q', none⟩ = some (.int .i64 (ys.getD q' 0)) ∧ wg.drew.frozen? ⟨gc, q', none⟩ = false ∧ St w [rowI gc k cc (ys.set q' x)] (wg.setCell ⟨gc, q', none⟩ (.int .i64 x))) := fun q' hq' => ⟨row_cell sg hq', row_frozen sg q', row_cell sg.drew hq', row_frozen sg.drew q', row_set sg hq' x⟩
                clear sg
                go_wp2_with (go_at_call 20; refine (HPick.out _).mono ?_; rintro e w' ⟨⟨q', hq', rfl⟩, rfl⟩; obtain ⟨r1, r2, r3, r4, r5⟩ := HRW.out q' hq'; have R5 := hid r5; clear r5 HRW; have g2 : (0 : Int) ≤ (q' : Int) := Int.natCast_nonneg _; have g3 : (q' : Int) < (k : Int) := (by omega); generalize ys.getD q' 0 = zz at *)
                go_roundw
                case rel => exact ⟨j + 1, _, by simp, by omega, R5.out⟩
                case measure => simp [intOf]; omega
          · have h1 : ¬ (j : Int) < 2 := by omega
            have HK := hid hst.same
            clear hst
            go_wp2
            go_ret
            exact ⟨rfl, HK.out⟩
      · have tg : decide (n < (ml : Int)) = true := decide_eq_true hgt
        go_wp2_with (go_at_call 12; refine (hQ _).mono ?_; rintro e w' ⟨rfl, rfl⟩)
        go_ret
        exact ⟨rfl, HK6.out⟩
end Go.Proofs.YtmoekoilcdkhfaaGreatDoor
