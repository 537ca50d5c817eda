/- The document's Read. -/
import Derived.Test.YtahokdgodhhchaaGreatDoorDqB
import Derived.Test.YtahokdgodhhchaaGreatDoorDqL
namespace Go.Proofs.YtahokdgodhhchaaGreatDoor
open Go.RowKit
set_option linter.unusedVariables false
set_option linter.unusedSimpArgs false
attribute [local go_sem ↓] Go.wp_at_zero Go.wp_at_succ

theorem mod_next {f j n : Nat} (hn : 0 < n) : (f + (j + 1)) % n = if (f + j) % n + 1 = n then 0 else (f + j) % n + 1 := by
  have h := Nat.mod_lt (f + j) hn
  rw [← Nat.add_assoc, Nat.add_mod]
  by_cases h1 : n = 1
  · subst h1
    simp [Nat.mod_one]
  · rw [Nat.mod_eq_of_lt (show 1 < n by omega)]
    split
    · rename_i e
      rw [e, Nat.mod_self]
    · rw [Nat.mod_eq_of_lt (by omega)]
set_option maxRecDepth 100000 in
set_option maxHeartbeats 8000000 in
theorem rRead_any (la : Option Addr) (m lc : Nat) (zs : List Int) (base n : Int) (w : World) (hX : XIn w la m zs) (hm : m ≤ 4611686018427387904) :
    Calls Tryz.prog 18 #[.slice la m lc, .int .i64 base, .int .i64 n] w (ReadE zs base n w) := by
  have hml := hX.1
  have hQ := fun W => rRoom_any n W
  by_cases h : fitsS base n m = true
  · have hfz : fitsS base n zs.length = true := by rw [← hml]; exact h
    unfold fitsS at h
    simp only [Bool.and_eq_true, decide_eq_true_eq] at h
    obtain ⟨h0, hb0, hb1⟩ := h
    obtain ⟨h1, h2, h3⟩ := roomS_pos h0
    rw [h3] at hb1 hQ
    obtain ⟨k, rfl⟩ : ∃ k : Nat, n = (k : Int) := ⟨n.toNat, by omega⟩
    obtain ⟨i, rfl⟩ : ∃ i : Nat, base = (i : Int) := ⟨base.toNat, by omega⟩
    obtain ⟨g, o, rfl⟩ := hX.addr (by omega)
    have hP := hX.part i (2 + k) (by omega)
    have HQ : Hid (∀ e w', (match readM ((zs.drop i).take (2 + k)) k with
        | some ks => ∃ v, e = .returned (.tuple #[v, .int .i64 0]) ∧ St w [lstI v ks] w'
        | none => e = .returned (.tuple #[.slice none 0 0, .int .i64 201]) ∧ Kept (fun _ => False) w w') → ReadE zs (i : Int) (k : Int) w e w') := fun e w' hh => by
      unfold ReadE
      rw [if_pos hfz]
      simp only [Int.toNat_natCast]
      exact hh
    generalize ReadE zs (i : Int) (k : Int) w = Q at *
    generalize (zs.drop i).take (2 + k) = P at *
    have c0 : w.cell? ⟨g, o + i, none⟩ = some (.int .i64 (P.getD 0 0)) := hP.cell (j := 0) (by omega)
    have c1 : w.cell? ⟨g, o + (i + 1), none⟩ = some (.int .i64 (P.getD 1 0)) := hP.cell (j := 1) (by omega)
    have tz : ((2 + (k : Int)) == 0) = false := by simp; omega
    have tb : decide ((i : Int) < 0) = false := by simp
    have tc : decide ((m : Int) < (i : Int)) = false := decide_eq_false (by omega)
    have td : decide ((m : Int) - (i : Int) < 2 + (k : Int)) = false := decide_eq_false (by omega)
    have te : decide (m < i) = false := decide_eq_false (by omega)
    have p0 : (i : Int) < (m : Int) := by omega
    have p1 : (i : Int) + 1 < (m : Int) := by omega
    have p2 : (0 : Int) ≤ (i : Int) := by omega
    have p3 : (0 : Int) ≤ (i : Int) + 1 := by omega
    have p4 : ((i : Int) + 1).toNat = i + 1 := by omega
    have HM := hid hb1
    have HM9 := hid hm
    have hk : k ≤ 100 := by omega
    have hk0 : 0 < k := by omega
    clear hX hfz h0 h3 hml hb0 hb1
    unfold readM at HQ
    cases ho : ringB P k with
    | false =>
      rw [ho] at HQ
      unfold ringB at ho
      have HP := hid hP
      clear hP
      generalize P.getD 0 0 = f at *
      generalize P.getD 1 0 = c at *
      by_cases a0 : f < 0
      · have u0 : decide (f < 0) = true := decide_eq_true a0
        clear ho a0
        go_enter Tryz.func18, Tryz.ntmps18
        go_wp2_with (go_at_call 12; refine (hQ _).mono ?_; rintro e w' ⟨rfl, rfl⟩)
        exact HQ.out _ _ ⟨rfl, Kept.refl _ _⟩
      · have u0 : decide (f < 0) = false := decide_eq_false a0
        by_cases a1 : (k : Int) ≤ f
        · have u1 : decide ((k : Int) ≤ f) = true := decide_eq_true a1
          clear ho a0 a1
          go_enter Tryz.func18, Tryz.ntmps18
          go_wp2_with (go_at_call 12; refine (hQ _).mono ?_; rintro e w' ⟨rfl, rfl⟩)
          exact HQ.out _ _ ⟨rfl, Kept.refl _ _⟩
        · have u1 : decide ((k : Int) ≤ f) = false := decide_eq_false a1
          by_cases a2 : c < 0
          · have u2 : decide (c < 0) = true := decide_eq_true a2
            clear ho a0 a1 a2
            go_enter Tryz.func18, Tryz.ntmps18
            go_wp2_with (go_at_call 12; refine (hQ _).mono ?_; rintro e w' ⟨rfl, rfl⟩)
            exact HQ.out _ _ ⟨rfl, Kept.refl _ _⟩
          · have u2 : decide (c < 0) = false := decide_eq_false a2
            have a3 : (k : Int) < c := by
              by_cases a3 : (k : Int) < c
              · exact a3
              · exfalso
                simp only [Bool.and_eq_false_iff, decide_eq_false_iff_not] at ho
                omega
            have u3 : decide ((k : Int) < c) = true := decide_eq_true a3
            clear ho a0 a1 a2 a3
            go_enter Tryz.func18, Tryz.ntmps18
            go_wp2_with (go_at_call 12; refine (hQ _).mono ?_; rintro e w' ⟨rfl, rfl⟩)
            exact HQ.out _ _ ⟨rfl, Kept.refl _ _⟩
    | true =>
      rw [ho] at HQ
      obtain ⟨f, c, hf1, hc1, e0, e1⟩ := ring_parts ho
      rw [e0, e1] at HQ
      rw [e0] at c0
      rw [e1] at c1
      simp only [Int.toNat_natCast, if_true] at HQ
      have HP := hid hP
      have u0 : decide ((f : Int) < 0) = false := by simp
      have u1 : decide ((k : Int) ≤ (f : Int)) = false := decide_eq_false (by omega)
      have u2 : decide ((c : Int) < 0) = false := by simp
      have u3 : decide ((k : Int) < (c : Int)) = false := decide_eq_false (by omega)
      have v1 : decide (k ≤ f) = false := decide_eq_false (by omega)
      have v3 : decide (k < c) = false := decide_eq_false (by omega)
      have HF := hid hf1
      have HC := hid hc1
      have HS0 : Hid (St w [lstI (.slice none 0 0) (valsM P k f 0)] w) := hid (lst_nil (St.nil w))
      have hmod0 : (f + 0) % k = f := by rw [Nat.add_zero]; exact Nat.mod_eq_of_lt hf1
      have HM0 := hid hmod0
      have hb1 := fun W x => buildX1 W x
      clear ho e0 e1 hP hf1 hc1 hmod0
      go_enter Tryz.func18, Tryz.ntmps18
      go_wp2_with (go_at_call 12; refine (hQ _).mono ?_; rintro e w' ⟨rfl, rfl⟩)
      go_loopw [11, 12, 13] (fun v a q wr => ∃ j : Nat, q = .int .i64 j ∧ a = .int .i64 (((f + j) % k : Nat) : Int) ∧ j ≤ c ∧ St w' [lstI v (valsM P k f j)] wr) (fun _ _ q _ => c - (intOf q).toNat)
      case atStart => exact ⟨0, rfl, by rw [HM0.out], Nat.zero_le _, HS0.out⟩
      case round =>
        obtain ⟨j, rfl, rfl, hj, hs⟩ := hrel
        by_cases hlt : j < c
        · have b1 := HM.out
          have b2 := HM9.out
          have b3 := HF.out
          have b4 := HC.out
          have hr : (f + j) % k < k := Nat.mod_lt _ hk0
          have hX1 := HP.out.kept hs.same
          have d1 : wr.cell? ⟨g, o + (i + 2 + (f + j) % k), none⟩ = some (.int .i64 (P.getD (2 + (f + j) % k) 0)) := by
            have := hX1.cell (j := 2 + (f + j) % k) (by omega)
            rw [show o + i + (2 + (f + j) % k) = o + (i + 2 + (f + j) % k) by omega] at this
            exact this
          have HV : Hid (valsM P k f (j + 1) = valsM P k f j ++ [P.getD (2 + (f + j) % k) 0]) := hid (valsM_succ P k f j)
          have HNx := hid (mod_next (f := f) (j := j) hk0)
          have hlen : (valsM P k f j).length = j := valsM_length _ _ _ _
          have HS6 := hid (fun z => lst_under hs z)
          have HLn := hid hlen
          generalize P.getD (2 + (f + j) % k) 0 = u at *
          generalize hR : (f + j) % k = r at *
          have n1 : ((i : Int) + 2 + (r : Int)).toNat = i + 2 + r := by omega
          have z1 : (0 : Int) ≤ (i : Int) + 2 + (r : Int) := by omega
          have z2 : (i : Int) + 2 + (r : Int) < (m : Int) := by omega
          have z3 : (i : Int) + 2 ≤ 9223372036854775807 := by omega
          have t1 : (j : Int) < (c : Int) := by omega
          have t0 : (0 : Int) ≤ (j : Int) := by omega
          have t2 : (j : Int) ≤ 100 := by omega
          have t3 : (r : Int) ≤ 100 := by omega
          have t4 : (0 : Int) ≤ (r : Int) := by omega
          have HJ := hid hlt
          clear hX1 hs hlen hj hlt b1 b2 b3 b4
          by_cases hw : r + 1 = k
          · have w1 : (((r : Int) + 1) == (k : Int)) = true := by simp; omega
            have HN0 : Hid ((f + (j + 1)) % k = 0) := hid (by rw [HNx.out, if_pos hw])
            clear hw HNx hr
            go_wp2_with (first | simp only [hb1] | (at_builtin; refine wpList_app_st (HS6.out u) rfl _ _ rfl rfl (some ⟨wr.heap.size, 0, none⟩) 1 1 rfl (zs := [u]) (st_xin (HS6.out u) 1 rfl rfl) (fun e => by cases e) (by have := HLn.out; simp; omega) ?_; intro v6 w6 s6; have HS7 := hid (lst_drop1 s6); clear s6))
            go_roundw
            case rel => exact ⟨j + 1, by push_cast; rfl, by rw [HN0.out]; rfl, by have := HJ.out; omega, by rw [HV.out]; exact HS7.out⟩
            case measure =>
              have := HJ.out
              simp [intOf]
              omega
          · have w1 : (((r : Int) + 1) == (k : Int)) = false := by simp; omega
            have HN0 : Hid ((f + (j + 1)) % k = r + 1) := hid (by rw [HNx.out, if_neg hw])
            clear hw HNx hr
            go_wp2_with (first | simp only [hb1] | (at_builtin; refine wpList_app_st (HS6.out u) rfl _ _ rfl rfl (some ⟨wr.heap.size, 0, none⟩) 1 1 rfl (zs := [u]) (st_xin (HS6.out u) 1 rfl rfl) (fun e => by cases e) (by have := HLn.out; simp; omega) ?_; intro v6 w6 s6; have HS7 := hid (lst_drop1 s6); clear s6))
            go_roundw
            case rel => exact ⟨j + 1, by push_cast; rfl, by rw [HN0.out]; push_cast; rfl, by have := HJ.out; omega, by rw [HV.out]; exact HS7.out⟩
            case measure =>
              have := HJ.out
              simp [intOf]
              omega
        · obtain rfl : j = c := by omega
          have HS := hid hs
          clear hs hlt hj
          go_wp2
          exact HQ.out _ _ ⟨_, rfl, HS.out⟩
  · have HQ : Hid (∀ e w', e = .returned (.tuple #[.slice none 0 0, .int .i64 200]) → Kept (fun _ => False) w w' → ReadE zs base n w e w') := fun e w' h1 h2 => by
      unfold ReadE
      rw [if_neg (by rw [← hml]; exact h)]
      exact ⟨h1, h2⟩
    generalize ReadE zs base n w = Q at *
    have hr0 := roomS_le n
    unfold fitsS at h
    generalize roomS n = r at *
    clear hX hml
    by_cases a0 : 0 < r
    · have tz : (r == 0) = false := by simp; omega
      by_cases a1 : base < 0
      · have t1 : decide (base < 0) = true := decide_eq_true a1
        clear h a0 a1
        go_enter Tryz.func18, Tryz.ntmps18
        go_wp2_with (go_at_call 12; refine (hQ _).mono ?_; rintro e w' ⟨rfl, rfl⟩)
        exact HQ.out _ _ rfl (Kept.refl _ _)
      · have t1 : decide (base < 0) = false := decide_eq_false a1
        by_cases a2 : (m : Int) < base
        · have t2 : decide ((m : Int) < base) = true := decide_eq_true a2
          clear h a0 a1 a2
          go_enter Tryz.func18, Tryz.ntmps18
          go_wp2_with (go_at_call 12; refine (hQ _).mono ?_; rintro e w' ⟨rfl, rfl⟩)
          exact HQ.out _ _ rfl (Kept.refl _ _)
        · have t2 : decide ((m : Int) < base) = false := decide_eq_false a2
          have a3 : (m : Int) - base < r := by
            by_cases a3 : (m : Int) - base < r
            · exact a3
            · exfalso
              apply h
              simp only [Bool.and_eq_true, decide_eq_true_eq]
              omega
          have t3 : decide ((m : Int) - base < r) = true := decide_eq_true a3
          have b0 : 0 ≤ base := by omega
          have b1 : base ≤ (m : Int) := by omega
          clear h a0 a1 a2
          go_enter Tryz.func18, Tryz.ntmps18
          go_wp2_with (go_at_call 12; refine (hQ _).mono ?_; rintro e w' ⟨rfl, rfl⟩)
          exact HQ.out _ _ rfl (Kept.refl _ _)
    · have tz : (r == 0) = true := by simp; omega
      clear h a0
      go_enter Tryz.func18, Tryz.ntmps18
      go_wp2_with (go_at_call 12; refine (hQ _).mono ?_; rintro e w' ⟨rfl, rfl⟩)
      exact HQ.out _ _ rfl (Kept.refl _ _)
end Go.Proofs.YtahokdgodhhchaaGreatDoor
