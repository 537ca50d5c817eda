/- Package deque: values, Read. -/
import Derived.Test.YtahokdgodhhchaaGreatDoorDqA
import Derived.Test.YtahokdgodhhchaaGreatDoorLi
namespace Go.Proofs.YtahokdgodhhchaaGreatDoor
open Go.RowKit
set_option linter.unusedVariables false
set_option linter.unusedSimpArgs false
attribute [local go_sem ↓] Go.wp_at_zero Go.wp_at_succ

theorem vals_set (P : List Int) (n f k : Nat) {j : Nat} (hj : j < k) : (valsM P n f j ++ List.replicate (k - j) 0).set j (P.getD (2 + (f + j) % n) 0) = valsM P n f (j + 1) ++ List.replicate (k - (j + 1)) 0 := by
  rw [valsM_succ, List.set_append_right _ _ (by rw [valsM_length]; omega), valsM_length, Nat.sub_self]
  obtain ⟨q, hq⟩ : ∃ q, k - j = q + 1 := ⟨k - j - 1, by omega⟩
  rw [hq, show k - (j + 1) = q by omega, List.replicate_succ]
  simp
set_option maxHeartbeats 4000000 in
theorem values_any {w : World} {g o m lc : Nat} {P : List Int} (hX : XIn w (some ⟨g, o, none⟩) m P) (n f k : Nat) (hm : m = 2 + n) (hn : n ≤ 100) (hf : f < n) (hk : k ≤ n) (h0 : P.getD 0 0 = (f : Int)) (h1 : P.getD 1 0 = (k : Int)) :
    Calls Tryz.prog 34 #[.slice (some ⟨g, o, none⟩) m lc, .int .i64 n] w fun e w' => ∃ v, e = .returned v ∧ St w [lstI v (valsM P n f k)] w' := by
  have c0 : w.drew.cell? ⟨g, o, none⟩ = some (.int .i64 (f : Int)) := by
    have := hX.cell (j := 0) (by omega)
    rw [h0] at this
    exact this
  have c1 : w.drew.cell? ⟨g, o + 1, none⟩ = some (.int .i64 (k : Int)) := by
    have := hX.cell (j := 1) (by omega)
    rw [h1] at this
    exact this
  have hmk := makeX k (k : Int) rfl (by omega) w.drew
  have s0 : St w (rowI w.heap.size k k (valsM P n f 0 ++ List.replicate (k - 0) 0) :: []) (w.drew.alloc (.cells (xC (List.replicate k 0)).toArray 2)) := by
    have := ((St.nil w).drew).new64 (List.replicate k 0) (by rw [List.length_replicate]; unfold maxLen; omega)
    rw [List.length_replicate] at this
    exact this
  have q0 : (0 : Int) < (m : Int) := by omega
  have q1 : (1 : Int) < (m : Int) := by omega
  have HX := hid hX
  have HM := hid hm
  have HN := hid hn
  have HF := hid hf
  have HKn := hid hk
  have hpl := hid (fun (p : Nat) (hp : p ≤ 1000) (W : World) => placeAt_any p hp W)
  generalize xC (List.replicate k 0) = zz at *
  generalize hw1 : w.drew.alloc (.cells zz.toArray 2) = w1 at *
  have hsz : w.drew.heap.size = w.heap.size := rfl
  rw [hsz] at hmk
  generalize w.heap.size = g1 at *
  have HS0 := hid s0
  clear s0 hX hm h0 h1 hsz hn hf hk
  go_enter Tryz.func34, Tryz.ntmps34
  go_wp2
  go_region
  go_wp2_with (simp only [hmk, hw1])
  go_loopw [18] (fun i wr => ∃ j : Nat, j ≤ k ∧ i = .int .i64 j ∧ St w [rowI g1 k k (valsM P n f j ++ List.replicate (k - j) 0)] wr) (fun i _ => k - (intOf i).toNat)
  case atStart => exact ⟨0, by omega, rfl, HS0.out⟩
  case round =>
    obtain ⟨j, hj, rfl, hs⟩ := hrel
    by_cases hlt : j < k
    · have b1 := HM.out
      have b2 := HN.out
      have b3 := HF.out
      have b4 := HKn.out
      have hmd : (f + j) % n < n := Nat.mod_lt _ (by omega)
      have hpj := hpl.out ((f + j) % n) (by omega)
      have hX1 := HX.out.kept hs.same
      have d1 : wr.cell? ⟨g, o + (2 + (f + j) % n), none⟩ = some (.int .i64 (P.getD (2 + (f + j) % n) 0)) := hX1.cell (by omega)
      have f2 : wr.frozen? ⟨g1, j, none⟩ = false := row_frozen hs _
      obtain ⟨u2, c2⟩ : ∃ u, wr.cell? ⟨g1, j, none⟩ = some u := ⟨_, row_cell hs (j := j) hlt⟩
      have s2 := row_set hs (j := j) hlt (P.getD (2 + (f + j) % n) 0)
      rw [vals_set P n f k hlt] at s2
      have HS2 := hid s2
      have HJ := hid hlt
      have e1 : ((f : Int) + (j : Int)) % (n : Int) = (((f + j) % n : Nat) : Int) := by push_cast; rfl
      have e2 : ((f : Int) + (j : Int)).tmod (n : Int) = (((f + j) % n : Nat) : Int) := by rw [Int.tmod_eq_emod_of_nonneg (by omega)]; push_cast; rfl
      have z1 : (0 : Int) ≤ (f : Int) + (j : Int) := by omega
      have z2 : (f : Int) + (j : Int) ≤ 1000 := by omega
      have z3 : (0 : Int) < (n : Int) := by omega
      have z4 : ((n : Int) == 0) = false := by simp; omega
      have z5 : ¬ ((n : Int) = 0) := by omega
      have t1 : (j : Int) < (k : Int) := by omega
      have t0 : (0 : Int) ≤ (j : Int) := by omega
      have z6 : ((2 + (f + j) % n : Nat) : Int) < (m : Int) := by omega
      have z7 : (0 : Int) ≤ ((2 + (f + j) % n : Nat) : Int) := by omega
      have z8 : (j : Int) ≤ 1000 := by omega
      clear b1 b2 b3 b4 hX1 hs s2 hj hlt
      generalize P.getD (2 + (f + j) % n) 0 = u at *
      generalize hr : (f + j) % n = r at *
      generalize 2 + r = r2 at *
      go_wp2_with (go_at_call 31; refine (hpj _).mono ?_; rintro e w' ⟨rfl, rfl⟩)
      go_roundw
      case rel => exact ⟨j + 1, by have := HJ.out; omega, by push_cast; rfl, HS2.out⟩
      case measure =>
        have := HJ.out
        simp [intOf]
        omega
    · obtain rfl : j = k := by omega
      rw [Nat.sub_self, List.replicate_zero, List.append_nil] at hs
      have HS : Hid (St w [lstI (.slice (some ⟨g1, 0, none⟩) j j) (valsM P n f j)] wr) := hid (by
        show St w [ownI 2 1 _ (valsM P n f j).length _] wr
        rw [valsM_length]
        exact hs)
      clear hs hlt hj
      go_wp2
      go_ret
      exact ⟨_, rfl, HS.out⟩
/-- How Read ends. -/
def ReadE (zs : List Int) (base n : Int) (w : World) (e : Ending) (w' : World) : Prop :=
  if fitsS base n zs.length = true then
    match readM ((zs.drop base.toNat).take (2 + n.toNat)) n.toNat with
    | some ks => ∃ v, e = .returned (.tuple #[v, .int .i64 0]) ∧ St w [lstI v ks] w'
    | none => e = .returned (.tuple #[.slice none 0 0, .int .i64 201]) ∧ Kept (fun _ => False) w w'
  else e = .returned (.tuple #[.slice none 0 0, .int .i64 200]) ∧ Kept (fun _ => False) w w'
theorem ring_parts {P : List Int} {n : Nat} (h : ringB P n = true) : ∃ f k : Nat, f < n ∧ k ≤ n ∧ P.getD 0 0 = (f : Int) ∧ P.getD 1 0 = (k : Int) := by
  unfold ringB at h
  simp only [Bool.and_eq_true, decide_eq_true_eq] at h
  exact ⟨(P.getD 0 0).toNat, (P.getD 1 0).toNat, by omega, by omega, by omega, by omega⟩
set_option maxRecDepth 100000 in
set_option maxHeartbeats 4000000 in
theorem Read_any (la : Option Addr) (m lc : Nat) (zs : List Int) (base n : Int) (w : World) (hX : XIn w la m zs) (hc : m ≤ lc) (hm : m ≤ 9223372036854775807) :
    Calls Tryz.prog 17 #[.slice la m lc, .int .i64 base, .int .i64 n] w (ReadE zs base n w) := by
  have hF := fits_any base n m w (by omega) (by omega)
  have hml := hX.1
  by_cases h : fitsS base n m = true
  · rw [h] at hF
    have hfz : fitsS base n zs.length = true := by rw [← hml]; exact h
    unfold fitsS at h
    simp only [Bool.and_eq_true, decide_eq_true_eq] at h
    obtain ⟨h0, hb0, hb1⟩ := h
    obtain ⟨h1, h2, h3⟩ := roomS_pos h0
    have hR := Room_any n w
    rw [h3] at hb1 hR
    obtain ⟨k, rfl⟩ : ∃ k : Nat, n = (k : Int) := ⟨n.toNat, by omega⟩
    obtain ⟨i, rfl⟩ : ∃ i : Nat, base = (i : Int) := ⟨base.toNat, by omega⟩
    obtain ⟨g, o, rfl⟩ := hX.addr (by omega)
    have hsl := slicePart g o m lc i (2 + k) (by omega) (by omega) hc (i : Int) ((i : Int) + (2 + (k : Int))) rfl (by push_cast; rfl) w
    have hP := hX.part i (2 + k) (by omega)
    have hRg := isRing_any (lc := lc - i) hP (by omega) k
    have hi1 : (i : Int) + (2 + (k : Int)) ≤ 9223372036854775807 := by omega
    have HQ : Hid (∀ e w', (match readM ((zs.drop i).take (2 + k)) k with
        | some ks => ∃ v, e = .returned (.tuple #[v, .int .i64 0]) ∧ St w [lstI v ks] w'
        | none => e = .returned (.tuple #[.slice none 0 0, .int .i64 201]) ∧ Kept (fun _ => False) w w') → ReadE zs (i : Int) (k : Int) w e w') := fun e w' hh => by
      unfold ReadE
      rw [if_pos hfz]
      simp only [Int.toNat_natCast]
      exact hh
    generalize ReadE zs (i : Int) (k : Int) w = Q at *
    generalize (zs.drop i).take (2 + k) = P at *
    have hk : k ≤ 100 := by omega
    clear hX hfz h0 h3 hb0 hb1 hml
    unfold readM at HQ
    cases ho : ringB P k with
    | false =>
      rw [ho] at hRg HQ
      have hP := hid hP
      clear ho
      go_enter Tryz.func17, Tryz.ntmps17
      go_wp2_with (first | (go_at_call 32; refine hF.mono ?_; rintro e w1 ⟨rfl, rfl⟩) | (go_at_call 10; refine hR.mono ?_; rintro e w1 ⟨rfl, rfl⟩) | simp only [hsl] | (go_at_call 33; refine hRg.mono ?_; rintro e w2 ⟨rfl, k2⟩))
      exact HQ.out _ _ ⟨rfl, k2⟩
    | true =>
      rw [ho] at hRg HQ
      obtain ⟨f, c, hf1, hc1, e0, e1⟩ := ring_parts ho
      rw [e0, e1] at HQ
      simp only [Int.toNat_natCast, if_true] at HQ
      have hV : Hid (∀ W, Kept (fun _ => False) w W → Calls Tryz.prog 34 #[.slice (some ⟨g, o + i, none⟩) (2 + k) (lc - i), .int .i64 k] W fun e w' => ∃ v, e = .returned v ∧ St W [lstI v (valsM P k f c)] w') := hid (fun W kp => values_any (hP.kept kp) k f c rfl hk hf1 hc1 e0 e1)
      clear ho e0 e1 hP
      generalize valsM P k f c = vs at *
      go_enter Tryz.func17, Tryz.ntmps17
      go_wp2_with (first | (go_at_call 32; refine hF.mono ?_; rintro e w1 ⟨rfl, rfl⟩) | (go_at_call 10; refine hR.mono ?_; rintro e w1 ⟨rfl, rfl⟩) | simp only [hsl] | (go_at_call 33; refine hRg.mono ?_; rintro e w2 ⟨rfl, k2⟩; have hv2 := hV.out w2 k2) | (go_at_call 34; refine hv2.mono ?_; rintro e w3 ⟨v, rfl, s3⟩))
      exact HQ.out _ _ ⟨_, rfl, s3.base k2⟩
  · rw [Bool.eq_false_iff.2 h] at hF
    have HQ : Hid (∀ e w', e = .returned (.tuple #[.slice none 0 0, .int .i64 200]) → Kept (fun _ => False) w w' → ReadE zs base n w e w') := fun e w' h1 h2 => by
      unfold ReadE
      rw [if_neg (by rw [← hml]; exact h)]
      exact ⟨h1, h2⟩
    generalize ReadE zs base n w = Q at *
    clear h hml hX
    go_enter Tryz.func17, Tryz.ntmps17
    go_wp2_with (go_at_call 32; refine hF.mono ?_; rintro e w1 ⟨rfl, rfl⟩)
    exact HQ.out _ _ rfl (Kept.refl _ _)
end Go.Proofs.YtahokdgodhhchaaGreatDoor
