/- Package set: Room, fits, Start, Read. -/
import Derived.Test.YtdfefjalamohjabGreatDoorWkC
import Derived.Test.YtdfefjalamohjabGreatDoorWkD
import Derived.Test.YtdfefjalamohjabGreatDoorSeO
namespace Go.Proofs.YtdfefjalamohjabGreatDoor
open Go.RowKit
set_option linter.unusedVariables false
set_option linter.unusedSimpArgs false
attribute [local go_sem ↓] Go.wp_at_zero Go.wp_at_succ

theorem Room_any (n : Int) (w : World) : Calls Tryz.prog 54 #[.int .i64 n] w fun e w' => e = .returned (.int .i64 (roomS n)) ∧ w' = w := by
  unfold roomS
  by_cases h1 : n < 1
  · rw [if_neg (by omega)]
    go_enter Tryz.func54, Tryz.ntmps54
    go_wp2
    go_ret
    exact ⟨rfl, rfl⟩
  · by_cases h2 : 60 < n
    · rw [if_neg (by omega)]
      go_enter Tryz.func54, Tryz.ntmps54
      go_wp2
      go_ret
      exact ⟨rfl, rfl⟩
    · rw [if_pos (by omega)]
      go_enter Tryz.func54, Tryz.ntmps54
      go_wp2
      go_ret
      exact ⟨rfl, rfl⟩
set_option maxHeartbeats 1000000 in
theorem fits_any (base n cells : Int) (w : World) (hc0 : 0 ≤ cells) (hc1 : cells ≤ 9223372036854775807) : Calls Tryz.prog 25 #[.int .i64 base, .int .i64 n, .int .i64 cells] w fun e w' => e = .returned (.bool (fitsS base n cells)) ∧ w' = w := by
  have hR := Room_any n w
  have HF : ∀ c : Bool, (decide (0 < roomS n) && (decide (0 ≤ base) && decide (base ≤ cells - roomS n))) = c → fitsS base n cells = c := fun c h => h
  have hr0 : 0 ≤ roomS n := (roomS_le n).1
  have hr1 : roomS n ≤ 123 := (roomS_le n).2
  generalize fitsS base n cells = F at *
  generalize roomS n = r at *
  by_cases h0 : 0 < r
  · by_cases h1 : 0 ≤ base
    · by_cases h2 : base ≤ cells - r
      · obtain rfl := HF true (by simp [h0, h1, h2])
        go_enter Tryz.func25, Tryz.ntmps25
        go_wp2_with (go_at_call 54; refine hR.mono ?_; rintro e w1 ⟨rfl, rfl⟩)
        go_ret
        exact ⟨rfl, rfl⟩
      · obtain rfl := HF false (by simp [h0, h1, h2])
        have hd : decide (base ≤ cells - r) = false := by simpa using h2
        go_enter Tryz.func25, Tryz.ntmps25
        go_wp2_with (go_at_call 54; refine hR.mono ?_; rintro e w1 ⟨rfl, rfl⟩)
        go_ret
        exact ⟨rfl, rfl⟩
    · obtain rfl := HF false (by simp [h0, h1])
      go_enter Tryz.func25, Tryz.ntmps25
      go_wp2_with (go_at_call 54; refine hR.mono ?_; rintro e w1 ⟨rfl, rfl⟩)
      go_ret
      exact ⟨rfl, rfl⟩
  · obtain rfl := HF false (by simp [h0])
    go_enter Tryz.func25, Tryz.ntmps25
    go_wp2_with (go_at_call 54; refine hR.mono ?_; rintro e w1 ⟨rfl, rfl⟩)
    go_ret
    exact ⟨rfl, rfl⟩
/-- How Read ends. -/
def ReadE (zs : List Int) (base n : Int) (w : World) (e : Ending) (w' : World) : Prop :=
  if fitsS base n zs.length = true then
    match readM ((zs.drop base.toNat).take (3 + 2 * n.toNat)) n.toNat with
    | some ks => ∃ v, e = .returned (.tuple #[v, .int .i64 0]) ∧ St w [ownI 2 1 v ks.length (xC ks)] w'
    | none => e = .returned (.tuple #[.slice none 0 0, .int .i64 181]) ∧ Kept (fun _ => False) w w'
  else e = .returned (.tuple #[.slice none 0 0, .int .i64 180]) ∧ Kept (fun _ => False) w w'
theorem St.one {o w : World} {a : It} {R : List It} (h : St o (a :: R) w) : St o [a] w := St.cut (A := [a]) (B := R) h
set_option maxRecDepth 100000 in
set_option maxHeartbeats 4000000 in
theorem Read_any (la : Option Addr) (m lc : Nat) (zs : List Int) (base n : Int) (w : World) (hX : XIn w la m zs) (hc : m ≤ lc) (hm : m ≤ 9223372036854775807) :
    Calls Tryz.prog 18 #[.slice la m lc, .int .i64 base, .int .i64 n] w (ReadE zs base n w) := by
  have hF := fits_any base n m w (by omega) (by omega)
  have hml := hX.1
  by_cases h : fitsS base n m = true
  · rw [h] at hF
    have hfz : fitsS base n zs.length = true := by rw [← hml]; exact h
    unfold fitsS at h
    simp only [Bool.and_eq_true, decide_eq_true_eq] at h
    obtain ⟨h0, hb0, hb1⟩ := h
    obtain ⟨h1, h2, h3⟩ := roomS_pos h0
    have hR := Room_any n w
    rw [h3] at hb1 hR
    obtain ⟨k, rfl⟩ : ∃ k : Nat, n = (k : Int) := ⟨n.toNat, by omega⟩
    obtain ⟨i, rfl⟩ : ∃ i : Nat, base = (i : Int) := ⟨base.toNat, by omega⟩
    obtain ⟨g, o, rfl⟩ := hX.addr (by omega)
    have hsl := slicePart g o m lc i (3 + 2 * k) (by omega) (by omega) hc (i : Int) ((i : Int) + (3 + 2 * (k : Int))) rfl (by push_cast; rfl) w
    have hP := hX.part i (3 + 2 * k) (by omega)
    have hE := eachOnce_any hP (by omega) (lc := lc - i) (by omega)
    have c2 : w.cell? ⟨g, o + i + 2, none⟩ = some (.int .i64 (((zs.drop i).take (3 + 2 * k)).getD 2 0)) := hP.cell (j := 2) (by omega)
    have hi1 : (i : Int) + (3 + 2 * (k : Int)) ≤ 9223372036854775807 := by omega
    have HQ : Hid (∀ e w', (match readM ((zs.drop i).take (3 + 2 * k)) k with
        | some ks => ∃ v, e = .returned (.tuple #[v, .int .i64 0]) ∧ St w [ownI 2 1 v ks.length (xC ks)] w'
        | none => e = .returned (.tuple #[.slice none 0 0, .int .i64 181]) ∧ Kept (fun _ => False) w w') → ReadE zs (i : Int) (k : Int) w e w') := fun e w' hh => by
      unfold ReadE
      rw [if_pos hfz]
      simp only [Int.toNat_natCast]
      exact hh
    generalize ReadE zs (i : Int) (k : Int) w = Q at *
    generalize (zs.drop i).take (3 + 2 * k) = P at *
    have hk : k ≤ 60 := by omega
    have hq2 : (2 : Int) < ((3 + 2 * k : Nat) : Int) := by omega
    clear hX hfz h0 h3 hb0 hb1 hml
    have hP := hid hP
    unfold readM at HQ
    cases ho : onceM P k with
    | false =>
      rw [ho] at hE HQ
      clear ho
      go_enter Tryz.func18, Tryz.ntmps18
      go_wp2_with (first | (go_at_call 25; refine hF.mono ?_; rintro e w1 ⟨rfl, rfl⟩) | (go_at_call 54; refine hR.mono ?_; rintro e w1 ⟨rfl, rfl⟩) | simp only [hsl] | (go_at_call 55; refine hE.mono ?_; rintro e w2 ⟨rfl, k2⟩))
      exact HQ.out _ _ ⟨rfl, k2⟩
    | true =>
      rw [ho] at hE HQ
      obtain ⟨ht, hns, hnl⟩ := ns_tr ho
      have hky := fun (W : World) (kp : Kept (fun _ => False) w W) => keys_any ((St.nil w).calm kp) (some ⟨g, o + i, none⟩) (3 + 2 * k) (lc - i)
      have hrs := fun (bp : Nat) (W : World) (hs : St w [boxI bp #[.slice (some ⟨g, o + i, none⟩) (3 + 2 * k) (lc - i)] 22] W) =>
        rising_any (T := []) (keys_tells hP.out hk bp ht hns) (enters_of Tryz.func89 (by kernel_rfl) rfl) hs (by rw [List.length_map]; omega)
      rw [show (nsM P k).map (keyM P) = keysM P k from rfl] at hrs
      have hkl : (keysM P k).length ≤ k := by unfold keysM; rw [List.length_map]; exact hnl
      clear ho ht hns hnl
      generalize keysM P k = ks at *
      generalize P.getD 2 0 = z at *
      cases hri : risesB ks with
      | false =>
        rw [hri] at HQ
        simp only [hri, Bool.false_eq_true, if_false] at hrs
        replace hky := hid hky
        replace hrs := hid hrs
        clear hri
        go_enter Tryz.func18, Tryz.ntmps18
        go_wp2_with (first | (go_at_call 25; refine hF.mono ?_; rintro e w1 ⟨rfl, rfl⟩) | (go_at_call 54; refine hR.mono ?_; rintro e w1 ⟨rfl, rfl⟩) | simp only [hsl] | (go_at_call 55; refine hE.mono ?_; rintro e w2 ⟨rfl, k2⟩; have hk2 := hky.out w2 k2) | (go_at_call 57; refine hk2.mono ?_; rintro e w3 ⟨bp, rfl, s3⟩; have hr3 := hrs.out bp w3 s3; clear hk2) | (go_at_call 56; refine hr3.mono ?_; rintro e w4 ⟨rfl, s4⟩))
        exact HQ.out _ _ ⟨rfl, s4.same⟩
      | true =>
        rw [hri] at HQ
        simp only [hri, if_true] at hrs
        replace hky := hid hky
        replace hrs := hid hrs
        clear hri
        have hc2 : ∀ (W : World) (v : Value), St w (ownI 2 1 v ks.length (xC ks) :: ([boxI 0 #[] 0] ++ [])) W → True := fun _ _ _ => trivial
        clear hc2
        have hcell : Hid (∀ W its, St w its W → W.cell? ⟨g, o + i + 2, none⟩ = some (.int .i64 z)) := hid (fun W its hs => by
          have := hs.same
          rw [World.cell?_of_block (this.block g (World.block_lt_of_cell? w _ c2) (fun f => f))]
          exact c2)
        have hz64 : (ks.length : Int) ≤ 60 := by omega
        clear c2 hkl
        by_cases hlz : (ks.length : Int) = z
        · subst hlz
          simp only [if_true] at HQ
          have t1 : ((ks.length : Int) != (ks.length : Int)) = false := by simp
          go_enter Tryz.func18, Tryz.ntmps18
          go_wp2_with (first | (go_at_call 25; refine hF.mono ?_; rintro e w1 ⟨rfl, rfl⟩) | (go_at_call 54; refine hR.mono ?_; rintro e w1 ⟨rfl, rfl⟩) | simp only [hsl] | (go_at_call 55; refine hE.mono ?_; rintro e w2 ⟨rfl, k2⟩; have hk2 := hky.out w2 k2) | (go_at_call 57; refine hk2.mono ?_; rintro e w3 ⟨bp, rfl, s3⟩; have hr3 := hrs.out bp w3 s3; clear hk2) | (go_at_call 56; refine hr3.mono ?_; rintro e w4 ⟨v, rfl, s4⟩; obtain ⟨va, vc, rfl, -, -, -⟩ := own_xin (show w4.ownsRow 0 2 1 v ks.length (xC ks) from s4.get 0 rfl); have c4 := hcell.out w4 _ s4; clear hr3))
          exact HQ.out _ _ ⟨_, rfl, s4.one⟩
        · simp only [if_neg hlz, if_true] at HQ
          have t1 : ((ks.length : Int) != z) = true := by simpa using hlz
          have t2 : ((ks.length : Int) == z) = false := by simpa using hlz
          clear hlz
          go_enter Tryz.func18, Tryz.ntmps18
          go_wp2_with (first | (go_at_call 25; refine hF.mono ?_; rintro e w1 ⟨rfl, rfl⟩) | (go_at_call 54; refine hR.mono ?_; rintro e w1 ⟨rfl, rfl⟩) | simp only [hsl] | (go_at_call 55; refine hE.mono ?_; rintro e w2 ⟨rfl, k2⟩; have hk2 := hky.out w2 k2) | (go_at_call 57; refine hk2.mono ?_; rintro e w3 ⟨bp, rfl, s3⟩; have hr3 := hrs.out bp w3 s3; clear hk2) | (go_at_call 56; refine hr3.mono ?_; rintro e w4 ⟨v, rfl, s4⟩; obtain ⟨va, vc, rfl, -, -, -⟩ := own_xin (show w4.ownsRow 0 2 1 v ks.length (xC ks) from s4.get 0 rfl); have c4 := hcell.out w4 _ s4; clear hr3))
          exact HQ.out _ _ ⟨rfl, s4.same⟩
  · rw [Bool.eq_false_iff.2 h] at hF
    have HQ : Hid (∀ e w', e = .returned (.tuple #[.slice none 0 0, .int .i64 180]) → Kept (fun _ => False) w w' → ReadE zs base n w e w') := fun e w' h1 h2 => by
      unfold ReadE
      rw [if_neg (by rw [← hml]; exact h)]
      exact ⟨h1, h2⟩
    generalize ReadE zs base n w = Q at *
    clear h hml hX
    go_enter Tryz.func18, Tryz.ntmps18
    go_wp2_with (go_at_call 25; refine hF.mono ?_; rintro e w1 ⟨rfl, rfl⟩)
    exact HQ.out _ _ rfl (Kept.refl _ _)
end Go.Proofs.YtdfefjalamohjabGreatDoor
