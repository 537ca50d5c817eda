/- Package set: Room, fits, Start, Read. -/
import Derived.Test.YtdfefjalamohjaaGreatDoorWkC
import Derived.Test.YtdfefjalamohjaaGreatDoorWkD
import Derived.Test.YtdfefjalamohjaaGreatDoorLyM
namespace Go.Proofs.YtdfefjalamohjaaGreatDoor
open Go.RowKit
set_option linter.unusedVariables false
set_option linter.unusedSimpArgs false
attribute [local go_sem ↓] Go.wp_at_zero Go.wp_at_succ

theorem Room_any (n : Int) (w : World) : Calls Tryz.prog 10 #[.int .i64 n] w fun e w' => e = .returned (.int .i64 (roomS n)) ∧ w' = w := by
  unfold roomS
  by_cases h1 : n < 1
  · rw [if_neg (by omega)]
    go_enter Tryz.func10, Tryz.ntmps10
    go_wp2
    go_ret
    exact ⟨rfl, rfl⟩
  · by_cases h2 : 60 < n
    · rw [if_neg (by omega)]
      go_enter Tryz.func10, Tryz.ntmps10
      go_wp2
      go_ret
      exact ⟨rfl, rfl⟩
    · rw [if_pos (by omega)]
      go_enter Tryz.func10, Tryz.ntmps10
      go_wp2
      go_ret
      exact ⟨rfl, rfl⟩
set_option maxHeartbeats 1000000 in
theorem fits_any (base n cells : Int) (w : World) (hc0 : 0 ≤ cells) (hc1 : cells ≤ 9223372036854775807) : Calls Tryz.prog 32 #[.int .i64 base, .int .i64 n, .int .i64 cells] w fun e w' => e = .returned (.bool (fitsS base n cells)) ∧ w' = w := by
  have hR := Room_any n w
  have HF : ∀ c : Bool, (decide (0 < roomS n) && (decide (0 ≤ base) && decide (base ≤ cells - roomS n))) = c → fitsS base n cells = c := fun c h => h
  have hr0 : 0 ≤ roomS n := (roomS_le n).1
  have hr1 : roomS n ≤ 123 := (roomS_le n).2
  generalize fitsS base n cells = F at *
  generalize roomS n = r at *
  by_cases h0 : 0 < r
  · by_cases h1 : 0 ≤ base
    · by_cases h2 : base ≤ cells - r
      · obtain rfl := HF true (by simp [h0, h1, h2])
        go_enter Tryz.func32, Tryz.ntmps32
        go_wp2_with (go_at_call 10; refine hR.mono ?_; rintro e w1 ⟨rfl, rfl⟩)
        go_ret
        exact ⟨rfl, rfl⟩
      · obtain rfl := HF false (by simp [h0, h1, h2])
        have hd : decide (base ≤ cells - r) = false := by simpa using h2
        go_enter Tryz.func32, Tryz.ntmps32
        go_wp2_with (go_at_call 10; refine hR.mono ?_; rintro e w1 ⟨rfl, rfl⟩)
        go_ret
        exact ⟨rfl, rfl⟩
    · obtain rfl := HF false (by simp [h0, h1])
      go_enter Tryz.func32, Tryz.ntmps32
      go_wp2_with (go_at_call 10; refine hR.mono ?_; rintro e w1 ⟨rfl, rfl⟩)
      go_ret
      exact ⟨rfl, rfl⟩
  · obtain rfl := HF false (by simp [h0])
    go_enter Tryz.func32, Tryz.ntmps32
    go_wp2_with (go_at_call 10; refine hR.mono ?_; rintro e w1 ⟨rfl, rfl⟩)
    go_ret
    exact ⟨rfl, rfl⟩
set_option maxHeartbeats 2000000 in
theorem Start_any (n : Int) (w : World) : Calls Tryz.prog 11 #[.int .i64 n] w fun e w' =>
    if 0 < roomS n then ∃ v, e = .returned (.tuple #[v, .int .i64 0]) ∧ St w [ownI 2 1 v (3 + 2 * n.toNat) (xC (stM n.toNat n.toNat))] w' else e = .returned (.tuple #[.slice none 0 0, .int .i64 180]) ∧ w' = w := by
  have hR := Room_any n w
  by_cases h0 : 0 < roomS n
  · obtain ⟨h1, h2, h3⟩ := roomS_pos h0
    simp only [if_pos h0]
    rw [h3] at hR
    obtain ⟨k, rfl⟩ : ∃ k : Nat, n = (k : Int) := ⟨n.toNat, by omega⟩
    simp only [Int.toNat_natCast]
    have hm := makeX (3 + 2 * k) (3 + 2 * (k : Int)) (by push_cast; rfl) (by omega) w
    have s0 : St w (rowI w.heap.size (3 + 2 * k) (3 + 2 * k) (List.replicate (3 + 2 * k) 0) :: []) (w.alloc (.cells (xC (List.replicate (3 + 2 * k) 0)).toArray 2)) := by
      have := (St.nil w).new64 (List.replicate (3 + 2 * k) 0) (by rw [List.length_replicate]; unfold maxLen; omega)
      rw [List.length_replicate] at this
      exact this
    have t0 : ((3 + 2 * (k : Int)) == 0) = false := by simp; omega
    have hl := fun (j : Nat) (hj : j ≤ 60) (w : World) => linkAt_any j hj w
    generalize xC (List.replicate (3 + 2 * k) 0) = zz at *
    generalize hw1 : w.alloc (.cells zz.toArray 2) = w1 at *
    generalize hg : w.heap.size = g at *
    have f1 : w1.frozen? ⟨g, 1, none⟩ = false := row_frozen s0 1
    have c1 : ∃ u, w1.cell? ⟨g, 1, none⟩ = some u := ⟨_, row_cell s0 (j := 1) (by omega)⟩
    obtain ⟨u1, c1⟩ := c1
    have s1 := row_set s0 (j := 1) (by omega) 1
    rw [stM_one] at s1
    have hm1 : (1 : Int) < ((3 + 2 * k : Nat) : Int) := by omega
    clear h0 h3 s0
    have hl := hid hl
    have hS1 := hid s1
    clear s1
    go_enter Tryz.func11, Tryz.ntmps11
    have hRw : ∀ e w', (e = Ending.returned (.int .i64 (3 + 2 * (k : Int))) ∧ w' = w) → e = Ending.returned (.int .i64 (3 + 2 * (k : Int))) ∧ w = w' := fun e w' h => ⟨h.1, h.2.symm⟩
    replace hRw := hid hRw
    go_wp2_with (first | (go_at_call 10; refine hR.mono ?_; intro e w' hrr; obtain ⟨rfl, rfl⟩ := hRw.out e w' hrr; clear hrr) | simp only [hm, hw1, hg])
    clear hRw
    generalize w1.setCell ⟨g, 1, none⟩ (.int .i64 1) = w2 at *
    clear c1 f1 hw1 hg hm hR
    have hkk := hid h2
    go_loopw [6] (fun v wr => ∃ j : Nat, 1 ≤ j ∧ j ≤ k ∧ v = .int .i64 j ∧ St w [rowI g (3 + 2 * k) (3 + 2 * k) (stM k j)] wr) (fun v _ => k - (intOf v).toNat)
    case atStart => exact ⟨1, by omega, by omega, rfl, hS1.out⟩
    case round =>
      obtain ⟨j, hj1, hj2, rfl, hs⟩ := hrel
      by_cases hlt : j < k
      · have hlj := hl.out j (by omega)
        have f2 : wr.frozen? ⟨g, 2 + 2 * j, none⟩ = false := row_frozen hs _
        obtain ⟨u2, c2⟩ : ∃ u, wr.cell? ⟨g, 2 + 2 * j, none⟩ = some u := ⟨_, row_cell hs (j := 2 + 2 * j) (by omega)⟩
        have s2 := row_set hs (j := 2 + 2 * j) (by omega) ((j : Int) + 1)
        rw [stM_set k j hj1 hlt] at s2
        have HS2 := hid s2
        have hq1 : ((2 + 2 * j : Nat) : Int) < ((3 + 2 * k : Nat) : Int) := by omega
        have hq0 : (0 : Int) ≤ ((2 + 2 * j : Nat) : Int) := by omega
        have hlt' : (j : Int) < (k : Int) := by omega
        have hj9 : (j : Int) + 1 ≤ 61 := by omega
        have hj0 : (0 : Int) ≤ (j : Int) := by omega
        clear hs s2
        generalize 2 + 2 * j = q at *
        generalize 3 + 2 * k = m at *
        go_wp2_with (go_at_call 31; refine (hlj _).mono ?_; rintro e w' ⟨rfl, rfl⟩)
        go_roundw
        case rel => exact ⟨j + 1, by omega, by omega, by simp, HS2.out⟩
        case measure => simp [intOf]; omega
      · obtain rfl : j = k := by omega
        go_wp2
        go_ret2
        exact ⟨_, rfl, hs⟩
  · simp only [if_neg h0]
    rw [roomS_zero h0] at hR
    clear h0
    go_enter Tryz.func11, Tryz.ntmps11
    go_wp2_with (go_at_call 10; refine hR.mono ?_; rintro e w1 ⟨rfl, rfl⟩)
    go_ret2
    exact ⟨rfl, rfl⟩
/-- How Read ends. -/
def ReadE (zs : List Int) (base n : Int) (w : World) (e : Ending) (w' : World) : Prop :=
  if fitsS base n zs.length = true then
    match readM ((zs.drop base.toNat).take (3 + 2 * n.toNat)) n.toNat with
    | some ks => ∃ v, e = .returned (.tuple #[v, .int .i64 0]) ∧ St w [ownI 2 1 v ks.length (xC ks)] w'
    | none => e = .returned (.tuple #[.slice none 0 0, .int .i64 181]) ∧ Kept (fun _ => False) w w'
  else e = .returned (.tuple #[.slice none 0 0, .int .i64 180]) ∧ Kept (fun _ => False) w w'
theorem St.one {o w : World} {a : It} {R : List It} (h : St o (a :: R) w) : St o [a] w := St.cut (A := [a]) (B := R) h
set_option maxRecDepth 100000 in
set_option maxHeartbeats 4000000 in
theorem Read_any (la : Option Addr) (m lc : Nat) (zs : List Int) (base n : Int) (w : World) (hX : XIn w la m zs) (hc : m ≤ lc) (hm : m ≤ 9223372036854775807) :
    Calls Tryz.prog 17 #[.slice la m lc, .int .i64 base, .int .i64 n] w (ReadE zs base n w) := by
  have hF := fits_any base n m w (by omega) (by omega)
  have hml := hX.1
  by_cases h : fitsS base n m = true
  · rw [h] at hF
    have hfz : fitsS base n zs.length = true := by rw [← hml]; exact h
    unfold fitsS at h
    simp only [Bool.and_eq_true, decide_eq_true_eq] at h
    obtain ⟨h0, hb0, hb1⟩ := h
    obtain ⟨h1, h2, h3⟩ := roomS_pos h0
    have hR := Room_any n w
    rw [h3] at hb1 hR
    obtain ⟨k, rfl⟩ : ∃ k : Nat, n = (k : Int) := ⟨n.toNat, by omega⟩
    obtain ⟨i, rfl⟩ : ∃ i : Nat, base = (i : Int) := ⟨base.toNat, by omega⟩
    obtain ⟨g, o, rfl⟩ := hX.addr (by omega)
    have hsl := slicePart g o m lc i (3 + 2 * k) (by omega) (by omega) hc (i : Int) ((i : Int) + (3 + 2 * (k : Int))) rfl (by push_cast; rfl) w
    have hP := hX.part i (3 + 2 * k) (by omega)
    have hE := eachOnce_any hP (by omega) (lc := lc - i) (by omega)
    have c2 : w.cell? ⟨g, o + i + 2, none⟩ = some (.int .i64 (((zs.drop i).take (3 + 2 * k)).getD 2 0)) := hP.cell (j := 2) (by omega)
    have hi1 : (i : Int) + (3 + 2 * (k : Int)) ≤ 9223372036854775807 := by omega
    have HQ : Hid (∀ e w', (match readM ((zs.drop i).take (3 + 2 * k)) k with
        | some ks => ∃ v, e = .returned (.tuple #[v, .int .i64 0]) ∧ St w [ownI 2 1 v ks.length (xC ks)] w'
        | none => e = .returned (.tuple #[.slice none 0 0, .int .i64 181]) ∧ Kept (fun _ => False) w w') → ReadE zs (i : Int) (k : Int) w e w') := fun e w' hh => by
      unfold ReadE
      rw [if_pos hfz]
      simp only [Int.toNat_natCast]
      exact hh
    generalize ReadE zs (i : Int) (k : Int) w = Q at *
    generalize (zs.drop i).take (3 + 2 * k) = P at *
    have hk : k ≤ 60 := by omega
    have hq2 : (2 : Int) < ((3 + 2 * k : Nat) : Int) := by omega
    clear hX hfz h0 h3 hb0 hb1 hml
    have hP := hid hP
    unfold readM at HQ
    cases ho : onceM P k with
    | false =>
      rw [ho] at hE HQ
      clear ho
      go_enter Tryz.func17, Tryz.ntmps17
      go_wp2_with (first | (go_at_call 32; refine hF.mono ?_; rintro e w1 ⟨rfl, rfl⟩) | (go_at_call 10; refine hR.mono ?_; rintro e w1 ⟨rfl, rfl⟩) | simp only [hsl] | (go_at_call 33; refine hE.mono ?_; rintro e w2 ⟨rfl, k2⟩))
      exact HQ.out _ _ ⟨rfl, k2⟩
    | true =>
      rw [ho] at hE HQ
      obtain ⟨ht, hns, hnl⟩ := ns_tr ho
      have hky := fun (W : World) (kp : Kept (fun _ => False) w W) => keys_any ((St.nil w).calm kp) (some ⟨g, o + i, none⟩) (3 + 2 * k) (lc - i)
      have hrs := fun (bp : Nat) (W : World) (hs : St w [boxI bp #[.slice (some ⟨g, o + i, none⟩) (3 + 2 * k) (lc - i)] 24] W) =>
        rising_any (T := []) (keys_tells hP.out hk bp ht hns) (enters_of Tryz.func59 (by kernel_rfl) rfl) hs (by rw [List.length_map]; omega)
      rw [show (nsM P k).map (keyM P) = keysM P k from rfl] at hrs
      have hkl : (keysM P k).length ≤ k := by unfold keysM; rw [List.length_map]; exact hnl
      clear ho ht hns hnl
      generalize keysM P k = ks at *
      generalize P.getD 2 0 = z at *
      cases hri : risesB ks with
      | false =>
        rw [hri] at HQ
        simp only [hri, Bool.false_eq_true, if_false] at hrs
        replace hky := hid hky
        replace hrs := hid hrs
        clear hri
        go_enter Tryz.func17, Tryz.ntmps17
        go_wp2_with (first | (go_at_call 32; refine hF.mono ?_; rintro e w1 ⟨rfl, rfl⟩) | (go_at_call 10; refine hR.mono ?_; rintro e w1 ⟨rfl, rfl⟩) | simp only [hsl] | (go_at_call 33; refine hE.mono ?_; rintro e w2 ⟨rfl, k2⟩; have hk2 := hky.out w2 k2) | (go_at_call 35; refine hk2.mono ?_; rintro e w3 ⟨bp, rfl, s3⟩; have hr3 := hrs.out bp w3 s3; clear hk2) | (go_at_call 34; refine hr3.mono ?_; rintro e w4 ⟨rfl, s4⟩))
        exact HQ.out _ _ ⟨rfl, s4.same⟩
      | true =>
        rw [hri] at HQ
        simp only [hri, if_true] at hrs
        replace hky := hid hky
        replace hrs := hid hrs
        clear hri
        have hc2 : ∀ (W : World) (v : Value), St w (ownI 2 1 v ks.length (xC ks) :: ([boxI 0 #[] 0] ++ [])) W → True := fun _ _ _ => trivial
        clear hc2
        have hcell : Hid (∀ W its, St w its W → W.cell? ⟨g, o + i + 2, none⟩ = some (.int .i64 z)) := hid (fun W its hs => by
          have := hs.same
          rw [World.cell?_of_block (this.block g (World.block_lt_of_cell? w _ c2) (fun f => f))]
          exact c2)
        have hz64 : (ks.length : Int) ≤ 60 := by omega
        clear c2 hkl
        by_cases hlz : (ks.length : Int) = z
        · subst hlz
          simp only [if_true] at HQ
          have t1 : ((ks.length : Int) != (ks.length : Int)) = false := by simp
          go_enter Tryz.func17, Tryz.ntmps17
          go_wp2_with (first | (go_at_call 32; refine hF.mono ?_; rintro e w1 ⟨rfl, rfl⟩) | (go_at_call 10; refine hR.mono ?_; rintro e w1 ⟨rfl, rfl⟩) | simp only [hsl] | (go_at_call 33; refine hE.mono ?_; rintro e w2 ⟨rfl, k2⟩; have hk2 := hky.out w2 k2) | (go_at_call 35; refine hk2.mono ?_; rintro e w3 ⟨bp, rfl, s3⟩; have hr3 := hrs.out bp w3 s3; clear hk2) | (go_at_call 34; refine hr3.mono ?_; rintro e w4 ⟨v, rfl, s4⟩; obtain ⟨va, vc, rfl, -, -, -⟩ := own_xin (show w4.ownsRow 0 2 1 v ks.length (xC ks) from s4.get 0 rfl); have c4 := hcell.out w4 _ s4; clear hr3))
          exact HQ.out _ _ ⟨_, rfl, s4.one⟩
        · simp only [if_neg hlz, if_true] at HQ
          have t1 : ((ks.length : Int) != z) = true := by simpa using hlz
          have t2 : ((ks.length : Int) == z) = false := by simpa using hlz
          clear hlz
          go_enter Tryz.func17, Tryz.ntmps17
          go_wp2_with (first | (go_at_call 32; refine hF.mono ?_; rintro e w1 ⟨rfl, rfl⟩) | (go_at_call 10; refine hR.mono ?_; rintro e w1 ⟨rfl, rfl⟩) | simp only [hsl] | (go_at_call 33; refine hE.mono ?_; rintro e w2 ⟨rfl, k2⟩; have hk2 := hky.out w2 k2) | (go_at_call 35; refine hk2.mono ?_; rintro e w3 ⟨bp, rfl, s3⟩; have hr3 := hrs.out bp w3 s3; clear hk2) | (go_at_call 34; refine hr3.mono ?_; rintro e w4 ⟨v, rfl, s4⟩; obtain ⟨va, vc, rfl, -, -, -⟩ := own_xin (show w4.ownsRow 0 2 1 v ks.length (xC ks) from s4.get 0 rfl); have c4 := hcell.out w4 _ s4; clear hr3))
          exact HQ.out _ _ ⟨rfl, s4.same⟩
  · rw [Bool.eq_false_iff.2 h] at hF
    have HQ : Hid (∀ e w', e = .returned (.tuple #[.slice none 0 0, .int .i64 180]) → Kept (fun _ => False) w w' → ReadE zs base n w e w') := fun e w' h1 h2 => by
      unfold ReadE
      rw [if_neg (by rw [← hml]; exact h)]
      exact ⟨h1, h2⟩
    generalize ReadE zs base n w = Q at *
    clear h hml hX
    go_enter Tryz.func17, Tryz.ntmps17
    go_wp2_with (go_at_call 32; refine hF.mono ?_; rintro e w1 ⟨rfl, rfl⟩)
    exact HQ.out _ _ rfl (Kept.refl _ _)
end Go.Proofs.YtdfefjalamohjaaGreatDoor
