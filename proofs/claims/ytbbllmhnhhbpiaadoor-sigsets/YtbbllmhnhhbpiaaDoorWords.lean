/- The library counts of a word: trailing zeros (by its table), ones. -/
import Derived.Test.YtbbllmhnhhbpiaaDoorAsks
namespace Go.Proofs.YtbbllmhnhhbpiaaDoor
open Go.RowKit
set_option linter.unusedVariables false
set_option linter.unusedSimpArgs false

/-- The library's table, in its variable. -/
def Tab (w : World) : Prop := ∀ j, j < 64 → w.cell? ⟨0, j, none⟩ = some (.int .u8 (Lib.deBruijn64tab.getD j 0))
theorem Kept.cell {F : Nat → Prop} {w w' : World} (h : Kept F w w') {p : Addr} {v : Value} (hp : w.cell? p = some v) (hF : ¬ F p.block) : w'.cell? p = some v := by
  have hlt : p.block < w.heap.size := by
    rcases Nat.lt_or_ge p.block w.heap.size with h | h
    · exact h
    · simp [World.cell?, Array.getElem?_eq_none h] at hp
  have := h.block p.block hlt hF
  simpa [World.cell?, this] using hp
theorem Tab.kept {F : Nat → Prop} {w w' : World} (h : Tab w) (k : Kept F w w') (hF : ¬ F 0) : Tab w' := fun j hj => k.cell (h j hj) hF
theorem Tab.drew {w : World} (h : Tab w) : Tab w.drew := h

/-- A word turned round zero. -/
theorem neg_word (x : Nat) (h0 : x ≠ 0) (hx : x < 18446744073709551616) : IntKind.u64.wrap (-(x : Int)) = ((18446744073709551616 - x : Nat) : Int) := by
  rw [IntKind.wrap_u64]
  omega
/-- Its lowest bit alone. -/
theorem low_word (x : Nat) (h0 : x ≠ 0) (hx : x < 18446744073709551616) : bits .and .u64 (x : Int) (IntKind.u64.wrap (-(x : Int))) = ((2 ^ Lib.ctz 64 x : Nat) : Int) := by
  have h := (Lib.lowest_bit 64 x h0 hx).1
  rw [neg_word x h0 hx, bits_and_u64_nat x _ hx (by omega)]
  exact congrArg _ h
/-- Where the table has it. -/
theorem tab_place (p : Nat) : IntKind.u64.wrap ((p : Int) * 285870213051353865) / 288230376151711744 = ((p * 285870213051353865 % 18446744073709551616 / 288230376151711744 : Nat) : Int) := by
  rw [IntKind.wrap_u64]
  omega

set_option maxHeartbeats 1000000 in
theorem tz_walk (x p i k : Nat) (w : World) (hx : ((x : Int) == 0) = false) (hlow : bits .and .u64 (x : Int) (IntKind.u64.wrap (-(x : Int))) = (p : Int)) (hpl : IntKind.u64.wrap ((p : Int) * 285870213051353865) / 288230376151711744 = (i : Int)) (hi : i < 64) (hk : k < 64) (hc : w.cell? ⟨0, i, none⟩ = some (.int .u8 k)) :
    Calls Tryd.prog 39 #[.int .u64 x] w fun e w' => e = .returned (.int .i64 k) ∧ w' = w := by
  go_enter Tryd.func39, Tryd.ntmps39
  go_wp2_with (simp only [hlow, hpl])
  go_ret
  exact ⟨rfl, rfl⟩

theorem tz_any (x : Nat) (hx : x < 18446744073709551616) (hx0 : x ≠ 0) (w : World) (hT : Tab w) :
    Calls Tryd.prog 39 #[.int .u64 x] w fun e w' => e = .returned (.int .i64 (Lib.ctz 64 x)) ∧ w' = w := by
  have hk := (Lib.lowest_bit 64 x hx0 hx).2
  have hd := Lib.deBruijn64_at _ hk
  have hc := hT _ hd.1
  rw [hd.2] at hc
  exact tz_walk x _ _ _ w (by simp; omega) (low_word x hx0 hx) (tab_place _) hd.1 hk hc

theorem and_low (n : Nat) (h : n < 9223372036854775808) : bits .and .i64 (n : Int) 127 = ((n % 128 : Nat) : Int) := by
  show IntKind.i64.wrap ((BitVec.ofInt 64 (n : Int) &&& BitVec.ofInt 64 127).toNat : Int) = _
  have h1 : (BitVec.ofInt 64 (n : Int)).toNat = n := by
    rw [BitVec.ofInt_natCast, BitVec.toNat_ofNat]; exact Nat.mod_eq_of_lt (by omega)
  have h2 : (BitVec.ofInt 64 127).toNat = 2 ^ 7 - 1 := by decide
  rw [BitVec.toNat_and, h1, h2, Nat.and_two_pow_sub_one_eq_mod]
  have h3 : n % 2 ^ 7 < 128 := Nat.mod_lt _ (by decide)
  have e3 : n % 2 ^ 7 = n % 128 := rfl
  rw [e3] at h3 ⊢
  generalize n % 128 = q at h3
  exact (show ∀ q : Nat, q < 128 → IntKind.i64.wrap (q : Int) = (q : Int) by decide +kernel) q h3

set_option maxHeartbeats 1000000 in
theorem oc_core (x A1 A2 B1 B2 C : Nat) (w : World) (hA : A1 + A2 < 18446744073709551616) (hB : B1 + B2 < 18446744073709551616) (hB2 : (B1 + B2) / 16 + (B1 + B2) < 18446744073709551616) (hC : C < 1152921504606846976) (hE : popEnd C < 9223372036854775808)
    (h1 : bits .and .u64 ((x : Int) / 2) 6148914691236517205 = (A1 : Int)) (h2 : bits .and .u64 (x : Int) 6148914691236517205 = (A2 : Int))
    (h3 : bits .and .u64 (((A1 : Int) + (A2 : Int)) / 4) 3689348814741910323 = (B1 : Int)) (h4 : bits .and .u64 ((A1 : Int) + (A2 : Int)) 3689348814741910323 = (B2 : Int))
    (h5 : bits .and .u64 (((B1 : Int) + (B2 : Int)) / 16 + ((B1 : Int) + (B2 : Int))) 1085102592571150095 = (C : Int)) :
    Calls Tryd.prog 40 #[.int .u64 x] w fun e w' => e = .returned (.int .i64 (((popEnd C % 128 : Nat)) : Int)) ∧ w' = w := by
  have a0 : (0 : Int) ≤ (A1 : Int) + (A2 : Int) := by omega
  have a1 : (A1 : Int) + (A2 : Int) < 18446744073709551616 := by omega
  have b0 : (0 : Int) ≤ (B1 : Int) + (B2 : Int) := by omega
  have b1 : (B1 : Int) + (B2 : Int) < 18446744073709551616 := by omega
  have b2 : ((B1 : Int) + (B2 : Int)) / 16 + ((B1 : Int) + (B2 : Int)) < 18446744073709551616 := by omega
  have c0 : (0 : Int) ≤ (C : Int) := by omega
  have c1 : (C : Int) < 1152921504606846976 := by omega
  clear hA hB hB2 hC
  have HE : Hid (popEnd C < 9223372036854775808) := hE
  clear hE
  go_enter Tryd.func40, Tryd.ntmps40
  go_wp2_with (simp only [h1, h2, h3, h4, h5])
  go_ret
  refine ⟨?_, rfl⟩
  have hp : ((C : Int) + (C : Int) / 256 + ((C : Int) + (C : Int) / 256) / 65536 + ((C : Int) + (C : Int) / 256 + ((C : Int) + (C : Int) / 256) / 65536) / 4294967296) = ((popEnd C : Nat) : Int) := by
    unfold popEnd
    simp
  have e6 : bits .and .i64 ((popEnd C : Nat) : Int) 127 = ((popEnd C % 128 : Nat) : Int) := and_low _ HE.out
  rw [← e6, ← hp]
  rfl

theorem oc_any (x : Nat) (hx : x < 18446744073709551616) (w : World) : Calls Tryd.prog 40 #[.int .u64 x] w fun e w' => e = .returned (.int .i64 (((ones x).length : Nat) : Int)) ∧ w' = w := by
  obtain ⟨p1, p2, p3, p4, p5⟩ := pops 8 x hx
  obtain ⟨q1, q2, q3, q4⟩ := popEnd_eq x hx
  obtain ⟨m1, m2, m3⟩ := masks
  rw [cnt_ones, ← q2]
  have P : (256 : Nat) ^ 8 = 18446744073709551616 := by decide
  simp only [popC, popB, popA, m1, m2, m3, P] at p1 p2 p4 p5
  clear m1 m2 m3 p3
  generalize hA1 : x / 2 &&& 6148914691236517205 = A1 at *
  generalize hA2 : x &&& 6148914691236517205 = A2 at *
  generalize hB1 : (A1 + A2) / 4 &&& 3689348814741910323 = B1 at *
  generalize hB2 : (A1 + A2) &&& 3689348814741910323 = B2 at *
  rw [← p5] at q1 q3 ⊢
  generalize hC : (B1 + B2) / 16 + (B1 + B2) &&& 1085102592571150095 = C at *
  have cast : ∀ (a c n : Nat) (z : Int), a < 18446744073709551616 → n < 18446744073709551616 → z = (a : Int) → a &&& n = c → bits .and .u64 z (n : Int) = (c : Int) := fun a c n z ha hn hz he => by
    rw [hz, bits_and_u64_nat a n ha hn, he]
  refine oc_core x A1 A2 B1 B2 C w p1 p2 p4 q1 q3 (cast (x / 2) A1 _ _ (by omega) (by decide) (by omega) hA1) (cast x A2 _ _ hx (by decide) rfl hA2) (cast ((A1 + A2) / 4) B1 _ _ (by omega) (by decide) (by omega) hB1) (cast (A1 + A2) B2 _ _ p1 (by decide) (by omega) hB2) (cast ((B1 + B2) / 16 + (B1 + B2)) C _ _ p4 (by decide) (by omega) hC)
end Go.Proofs.YtbbllmhnhhbpiaaDoor
