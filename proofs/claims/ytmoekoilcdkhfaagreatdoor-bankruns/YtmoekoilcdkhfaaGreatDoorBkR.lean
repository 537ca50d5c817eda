/- The statements' own small functions and the document's bank. -/
import Derived.Test.YtmoekoilcdkhfaaGreatDoorBkU
import Derived.Laws.CopyOwn
namespace Go.Proofs.YtmoekoilcdkhfaaGreatDoor
open Go.RowKit
set_option linter.unusedVariables false
set_option linter.unusedSimpArgs false
attribute [local go_sem ↓] Go.wp_at_zero Go.wp_at_succ

section
variable {w : World}
set_option maxRecDepth 100000 in
set_option maxHeartbeats 1000000 in
theorem same_any (la lb : Option Addr) (na nb ca cb : Nat) (a b : List Int) (hA : XIn w la na a) (hB : XIn w lb nb b) (hn : na ≤ 8796093022208000) :
    Calls Tryz.prog 13 #[.slice la na ca, .slice lb nb cb] w fun e w' => e = .returned (.bool (decide (a = b))) ∧ Kept (fun _ => False) w w' := by
  have HA := hid hA
  have HB := hid hB
  by_cases hl : na = nb
  · subst hl
    have t0 : ((na : Int) != na) = false := by simp
    have HLe : Hid (a.length = na ∧ b.length = na) := ⟨hA.1.symm, hB.1.symm⟩
    clear hA hB
    go_enter Tryz.func13, Tryz.ntmps13
    go_wp2
    go_loopw [5] (fun i wr => ∃ j : Nat, i = .int .i64 j ∧ j ≤ na ∧ (∀ k, k < j → a.getD k 0 = b.getD k 0) ∧ Kept (fun _ => False) w wr) (fun i _ => na - (intOf i).toNat)
    case atStart => exact ⟨0, rfl, Nat.zero_le _, fun k h => by omega, Kept.refl _ _⟩
    case round =>
      obtain ⟨j, rfl, hj, hs, hk⟩ := hrel
      have HS := hid hs
      clear hs
      by_cases hlt : j < na
      · obtain ⟨ga, oa, rfl⟩ := HA.out.addr (by omega)
        obtain ⟨gb, ob, rfl⟩ := HB.out.addr (by omega)
        have x0 := (HA.out.kept hk.drew).cell hlt
        have y0 := (HB.out.kept hk.drew).cell hlt
        have h0 : (0 : Int) ≤ (j : Int) := Int.natCast_nonneg _
        have h1 : (j : Int) < (na : Int) := by omega
        have HN : Hid (a.getD j 0 ≠ b.getD j 0 → decide (a = b) = false) := fun h => by
          rw [decide_eq_false_iff_not]
          intro e
          exact h (by rw [e])
        have HY : Hid (a.getD j 0 = b.getD j 0 → ∀ k, k < j + 1 → a.getD k 0 = b.getD k 0) := fun h k hk => by
          by_cases e : k = j
          · rw [e]; exact h
          · exact HS.out k (by omega)
        generalize a.getD j 0 = x at *
        generalize b.getD j 0 = y at *
        by_cases hxy : x = y
        · have hv : (x != y) = false := by simp [hxy]
          have HY2 := hid (HY.out hxy)
          clear HS HN HY hxy
          go_upto_region 6 with fail
          go_region
          go_wp2
          go_roundw
          case rel => exact ⟨j + 1, by simp, by omega, HY2.out, hk.drew⟩
          case measure => simp [intOf]; omega
        · have hv : (x != y) = true := by simpa using hxy
          have HF := hid (HN.out hxy)
          clear HS HN HY hxy
          go_upto_region 6 with fail
          go_region
          go_wp2
          go_ret
          exact ⟨by rw [HF.out]; rfl, hk.drew⟩
      · have h1 : ¬ (j : Int) < (na : Int) := by omega
        have HF : Hid (decide (a = b) = true) := by
          show decide (a = b) = true
          rw [decide_eq_true_eq]
          apply List.ext_getElem (by rw [HLe.out.1, HLe.out.2])
          intro k k1 k2
          have := HS.out k (by have := HLe.out.1; omega)
          simpa [List.getD_eq_getElem?_getD, k1, k2] using this
        clear HS
        go_wp2
        go_ret
        exact ⟨by rw [HF.out]; rfl, hk⟩
  · have t0 : ((na : Int) != nb) = true := by simp; omega
    have hf : decide (a = b) = false := by
      rw [decide_eq_false_iff_not]
      intro e
      exact hl (by rw [hA.1, hB.1, e])
    rw [hf]
    clear hA hB HA HB hf
    go_enter Tryz.func13, Tryz.ntmps13
    go_wp2
    go_ret
    exact ⟨rfl, Kept.refl _ _⟩
theorem codeBank_any (b : Bool) (w : World) : Calls Tryz.prog 15 #[.bool b] w fun e w' => e = .returned (.int .i64 (if b = true then 0 else 170)) ∧ w' = w := by
  cases b with
  | true =>
    go_enter Tryz.func15, Tryz.ntmps15
    go_wp2
    go_ret
    exact ⟨rfl, rfl⟩
  | false =>
    go_enter Tryz.func15, Tryz.ntmps15
    go_wp2
    go_ret
    exact ⟨rfl, rfl⟩
theorem rRoom_any (n : Int) (w : World) : Calls Tryz.prog 12 #[.int .i64 n] w fun e w' => e = .returned (.int .i64 (roomM n)) ∧ w' = w := by
  unfold roomM
  by_cases h1 : 1 ≤ n
  · by_cases h2 : n ≤ 64
    · rw [if_pos ⟨h1, h2⟩]
      go_enter Tryz.func12, Tryz.ntmps12
      go_wp2
      go_ret
      exact ⟨rfl, rfl⟩
    · rw [if_neg (by omega)]
      have t2 : decide (n ≤ 64) = false := by simpa using h2
      go_enter Tryz.func12, Tryz.ntmps12
      go_wp2
      go_ret
      exact ⟨rfl, rfl⟩
  · rw [if_neg (by omega)]
    have t2 : decide (1 ≤ n) = false := by simpa using h1
    go_enter Tryz.func12, Tryz.ntmps12
    go_wp2
    go_ret
    exact ⟨rfl, rfl⟩
theorem rStart_any (n : Int) (w : World) : Calls Tryz.prog 14 #[.int .i64 n] w fun e w' => ∃ v, e = .returned v ∧ St w [ownI 2 1 v (roomM n).toNat (xC (List.replicate (roomM n).toNat 0))] w' := by
  have hR := rRoom_any n w
  have h0 : 0 ≤ roomM n := by unfold roomM; split <;> omega
  have h1 : roomM n ≤ 64 := by unfold roomM; split <;> omega
  generalize roomM n = r at *
  obtain ⟨k, rfl⟩ : ∃ k : Nat, r = (k : Int) := ⟨r.toNat, by omega⟩
  simp only [Int.toNat_natCast]
  have hm := makeX k (k : Int) rfl (by omega) w
  have HS : Hid (St w [ownI 2 1 (.slice (some ⟨w.heap.size, 0, none⟩) k k) k (xC (List.replicate k 0))] (w.alloc (.cells (xC (List.replicate k 0)).toArray 2))) := by
    have := (St.nil w).new64 (List.replicate k 0) (by rw [List.length_replicate]; unfold maxLen; omega)
    rw [List.length_replicate] at this
    exact this
  generalize xC (List.replicate k 0) = zz at *
  go_enter Tryz.func14, Tryz.ntmps14
  go_wp2_with (first | (go_at_call 12; refine hR.mono ?_; rintro e w1 ⟨rfl, rfl⟩) | simp only [hm])
  go_ret
  exact ⟨_, rfl, HS.out⟩
end
set_option maxRecDepth 100000 in
set_option maxHeartbeats 2000000 in
theorem rooms_walk (n : Int) (w : World) (hE : Env w) : Calls Tryz.prog 4 #[.int .i64 n] w fun e w' => e = .returned (.bool true) ∧ Kept (fun _ => False) w w' := by
  have hA := awake_any w hE
  have hR := fun W => Room_any n W
  have hQ := fun W => rRoom_any n W
  have HSt : Hid (∀ W, Calls Tryz.prog 11 #[.int .i64 n] W fun e w' => ∃ la lc, e = .returned (.tuple #[.slice la (roomM n).toNat lc, .int .i64 (if decide (0 < roomM n) = true then 0 else 170)]) ∧ XIn w' la (roomM n).toNat (List.replicate (roomM n).toNat 0) ∧ Kept (fun _ => False) W w') := fun W => (Start_any n W).mono fun e w' h => by
    by_cases h0 : 0 < roomM n
    · rw [if_pos h0] at h
      obtain ⟨v, rfl, s⟩ := h
      obtain ⟨h1, h2, h3⟩ := room_pos h0
      obtain ⟨la, lc, rfl, hx, _⟩ := own_xin (zs := List.replicate n.toNat 0) (show w'.ownsRow 0 2 1 v (List.replicate n.toNat (0 : Int)).length (xC (List.replicate n.toNat 0)) by rw [List.length_replicate]; exact s.get 0 rfl)
      rw [List.length_replicate] at hx ⊢
      rw [h3]
      exact ⟨la, lc, by rw [if_pos (by simp; omega)], hx, s.same⟩
    · rw [if_neg h0] at h
      obtain ⟨rfl, rfl⟩ := h
      rw [room_zero h0]
      exact ⟨none, 0, rfl, ⟨rfl, fun h => by simp at h⟩, Kept.refl _ _⟩
  have HRS : Hid (∀ W, Calls Tryz.prog 14 #[.int .i64 n] W fun e w' => ∃ la lc, e = .returned (.slice la (roomM n).toNat lc) ∧ XIn w' la (roomM n).toNat (List.replicate (roomM n).toNat 0) ∧ Kept (fun _ => False) W w') := fun W => (rStart_any n W).mono fun e w' h => by
    obtain ⟨v, rfl, s⟩ := h
    obtain ⟨la, lc, rfl, hx, _⟩ := own_xin (zs := List.replicate (roomM n).toNat 0) (show w'.ownsRow 0 2 1 v (List.replicate (roomM n).toNat (0 : Int)).length (xC (List.replicate (roomM n).toNat 0)) by rw [List.length_replicate]; exact s.get 0 rfl)
    rw [List.length_replicate] at hx ⊢
    exact ⟨la, lc, rfl, hx, s.same⟩
  have hC := fun W => codeBank_any (decide (0 < roomM n)) W
  have hr1 : roomM n ≤ 64 := by unfold roomM; split <;> omega
  have hK : (roomM n).toNat ≤ 64 := by omega
  have t9 : (roomM n == roomM n) = true := by simp
  clear hE hr1
  generalize hk : (roomM n).toNat = k at *
  generalize hz : List.replicate k (0 : Int) = zz at *
  generalize roomM n = r at *
  generalize hcc : (if decide (0 < r) = true then (0 : Int) else 170) = cc at *
  have t8 : (cc == cc) = true := by simp
  clear hk hz hcc
  go_enter Tryz.func4, Tryz.ntmps4
  go_upto_region 3 with (first | (go_at_call 9; refine hA.mono ?_; rintro e w1 ⟨rfl, k1⟩; clear hA) | (go_at_call 10; refine (hR _).mono ?_; rintro e w' ⟨rfl, rfl⟩))
  have h3 := HSt.out w'
  go_upto_region 4 with (go_at_call 11; refine h3.mono ?_; rintro e w2 ⟨la, lc, rfl, x2, k2⟩)
  have h4 := HRS.out w2
  clear h3 HSt
  have HX := hid x2
  have HSm : Hid (∀ W lb cb, Kept (fun _ => False) w2 W → XIn W lb k zz → Calls Tryz.prog 13 #[.slice la k lc, .slice lb k cb] W fun e w' => e = .returned (.bool true) ∧ Kept (fun _ => False) W w') := fun W lb cb kW hb => by
    have := same_any la lb k k lc cb zz zz (HX.out.kept kW) hb (by omega)
    rw [show decide (zz = zz) = true by simp] at this
    exact this
  clear x2 HRS
  go_upto_region 6 with (first | (go_at_call 12; refine (hQ _).mono ?_; rintro e w' ⟨rfl, rfl⟩) | (go_at_call 14; refine h4.mono ?_; rintro e w3 ⟨lb, cb, rfl, x3, k3⟩; have h5 := HSm.out w3 lb cb k3 x3; clear h4 x3 HSm) | (go_at_call 13; refine h5.mono ?_; rintro e w4 ⟨rfl, k4⟩; clear h5))
  go_wp2_with (go_at_call 15; refine (hC _).mono ?_; rintro e w' ⟨rfl, rfl⟩)
  go_ret
  exact ⟨rfl, ((k1.trans k2 (fun _ _ f => f)).trans k3 (fun _ _ f => f)).trans k4 (fun _ _ f => f)⟩
end Go.Proofs.YtmoekoilcdkhfaaGreatDoor
