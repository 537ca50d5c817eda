/- DequeRooms, walked. -/
import Derived.Test.YtahokdgodhhchaaGreatDoorDqL
namespace Go.Proofs.YtahokdgodhhchaaGreatDoor
open Go.RowKit
set_option linter.unusedVariables false
set_option linter.unusedSimpArgs false
attribute [local go_sem ↓] Go.wp_at_zero Go.wp_at_succ

set_option maxRecDepth 100000 in
set_option maxHeartbeats 2000000 in
theorem rStart_any (n : Int) (w : World) : Calls Tryz.prog 14 #[.int .i64 n] w fun e w' =>
    ∃ g, e = .returned (.slice (some ⟨g, 0, none⟩) (roomS n).toNat (roomS n).toNat) ∧ St w [rowI g (roomS n).toNat (roomS n).toNat (List.replicate (roomS n).toNat 0)] w' := by
  have hR := rRoom_any n w
  have hr := roomS_le n
  obtain ⟨k, hk⟩ : ∃ k : Nat, roomS n = (k : Int) := ⟨(roomS n).toNat, by omega⟩
  rw [hk] at hR hr ⊢
  simp only [Int.toNat_natCast]
  have hm := makeX k (k : Int) rfl (by omega) w
  have s0 : St w [rowI w.heap.size k k (List.replicate k 0)] (w.alloc (.cells (xC (List.replicate k 0)).toArray 2)) := by
    have := (St.nil w).new64 (List.replicate k 0) (by rw [List.length_replicate]; unfold maxLen; omega)
    rw [List.length_replicate] at this
    exact this
  have HS := hid s0
  clear s0 hk
  have hRw : ∀ e w', (e = Ending.returned (.int .i64 (k : Int)) ∧ w' = w) → e = Ending.returned (.int .i64 (k : Int)) ∧ w = w' := fun e w' h => ⟨h.1, h.2.symm⟩
  replace hRw := hid hRw
  go_enter Tryz.func14, Tryz.ntmps14
  go_wp2_with (first | (go_at_call 12; refine hR.mono ?_; intro e w' hrr; obtain ⟨rfl, rfl⟩ := hRw.out e w' hrr; clear hrr) | simp only [hm])
  go_ret
  exact ⟨_, rfl, HS.out⟩
set_option maxRecDepth 100000 in
set_option maxHeartbeats 2000000 in
theorem rooms_walk (n : Int) (w : World) (hE : Env w) : Calls Tryz.prog 4 #[.int .i64 n] w fun e w' => e = .returned (.bool true) ∧ Kept (fun _ => False) w w' := by
  have hA := awake_any _ hE
  have hR := fun W => Room_any n W
  have hQ := fun W => rRoom_any n W
  have hB := fun b W => codeDeque_any b W
  have hS := fun W => Start_any n W
  have hT := fun W => rStart_any n W
  have hr0 : 0 ≤ roomS n := (roomS_le n).1
  have hr1 : roomS n ≤ 102 := (roomS_le n).2
  by_cases h0 : 0 < roomS n
  · simp only [if_pos h0] at hS
    obtain ⟨k1, k2, k3⟩ := roomS_pos h0
    have hk : n.toNat ≤ 100 := by omega
    have hk1 : 1 ≤ n.toNat := by omega
    have hrk : (roomS n).toNat = 2 + n.toNat := by omega
    rw [hrk] at hT
    clear k1 k2 k3 hrk
    generalize n.toNat = k at *
    have hl : (List.replicate (2 + k) (0 : Int)).length = 2 + k := List.length_replicate
    generalize List.replicate (2 + k) (0 : Int) = zs at *
    generalize roomS n = r at *
    have HSM : Hid (∀ (W : World) ga ca gb cb, XIn W (some ⟨ga, 0, none⟩) (2 + k) zs → XIn W (some ⟨gb, 0, none⟩) (2 + k) zs → Calls Tryz.prog 13 #[.slice (some ⟨ga, 0, none⟩) (2 + k) ca, .slice (some ⟨gb, 0, none⟩) (2 + k) cb] W fun e w' => e = .returned (.bool true) ∧ Kept (fun _ => False) W w') := fun W ga ca gb cb h1 h2 =>
      (same_any _ _ _ _ ca cb zs zs h1 h2 (by omega)).mono fun e w' h => ⟨by rw [h.1]; simp, h.2⟩
    have t0 : decide (0 < r) = true := by simpa using h0
    have HX : Hid (∀ (o W : World) g c, St o [rowI g (2 + k) c zs] W → XIn W (some ⟨g, 0, none⟩) (2 + k) zs) := fun o W g c s => ⟨hl.symm, fun _ => ⟨g, 0, rfl, fun j hj => by rw [Nat.zero_add]; exact row_cell s hj⟩⟩
    clear hE hl
    replace hS := hid hS
    replace hT := hid hT
    go_enter Tryz.func4, Tryz.ntmps4
    go_wp2_with (first | (go_at_call 9; refine hA.mono ?_; rintro e w2 ⟨rfl, k2⟩; clear hA) | (go_at_call 10; refine (hR _).mono ?_; rintro e w' ⟨rfl, rfl⟩) | (go_at_call 11; refine (hS.out _).mono ?_; rintro e w3 ⟨v, rfl, s3⟩; obtain ⟨g3, c3, rfl⟩ := s3.form 0 rfl (by omega); have hx3 := hid (HX.out _ _ _ _ s3); have HK3 := hid (k2.trans s3.same (fun _ _ f => f)); clear s3 k2) | (go_at_call 12; refine (hQ _).mono ?_; rintro e w' ⟨rfl, rfl⟩) | (go_at_call 14; refine (hT.out _).mono ?_; rintro e w4 ⟨g4, rfl, s4⟩; have hsame := HSM.out w4 g3 c3 g4 (2 + k) (hx3.out.kept s4.same) (HX.out _ _ _ _ s4); have HK4 := hid (HK3.out.trans s4.same (fun _ _ f => f)); clear s4) | (go_at_call 13; refine hsame.mono ?_; rintro e w5 ⟨rfl, k5⟩; clear hsame) | (go_at_call 15; refine (hB _ _).mono ?_; rintro e w' ⟨rfl, rfl⟩))
    go_ret
    exact ⟨rfl, HK4.out.trans k5 (fun _ _ f => f)⟩
  · simp only [if_neg h0] at hS
    have t0 : decide (0 < roomS n) = false := by simpa using h0
    have HSM := hid (fun (W : World) (g : Nat) => same_any (w := W) none (some ⟨g, 0, none⟩) 0 0 0 0 [] [] ⟨rfl, fun h => by omega⟩ ⟨rfl, fun h => by omega⟩ (by omega))
    have h9 := roomS_zero h0
    rw [h9] at hT
    simp only [Int.toNat_zero] at hT
    clear hE h0 t0 hr0 hr1
    generalize roomS n = r at *
    subst h9
    replace hS := hid hS
    replace hT := hid hT
    go_enter Tryz.func4, Tryz.ntmps4
    go_wp2_with (first | (go_at_call 9; refine hA.mono ?_; rintro e w2 ⟨rfl, k2⟩; clear hA) | (go_at_call 10; refine (hR _).mono ?_; rintro e w' ⟨rfl, rfl⟩) | (go_at_call 11; refine (hS.out _).mono ?_; rintro e w' ⟨rfl, rfl⟩) | (go_at_call 12; refine (hQ _).mono ?_; rintro e w' ⟨rfl, rfl⟩) | (go_at_call 14; refine (hT.out _).mono ?_; rintro e w4 ⟨g4, rfl, s4⟩; have hsame := HSM.out w4 g4; have HK4 := hid (k2.trans s4.same (fun _ _ f => f)); clear s4) | (go_at_call 13; refine hsame.mono ?_; rintro e w5 ⟨rfl, k5⟩; clear hsame) | (go_at_call 15; refine (hB _ _).mono ?_; rintro e w' ⟨rfl, rfl⟩))
    go_ret
    exact ⟨rfl, HK4.out.trans k5 (fun _ _ f => f)⟩
end Go.Proofs.YtahokdgodhhchaaGreatDoor
