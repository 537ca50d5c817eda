/- Package set: fill, textOf. -/
import Derived.Test.YtdfefjalamohjabGreatDoorCoM
import Derived.Test.YtdfefjalamohjabGreatDoorSeD
import Derived.Test.YtdfefjalamohjabGreatDoorPsG
import Derived.Deep.RegionWith
namespace Go.Proofs.YtdfefjalamohjabGreatDoor
open Go.RowKit
set_option linter.unusedVariables false
set_option linter.unusedSimpArgs false
attribute [local go_sem ↓] Go.wp_at_zero Go.wp_at_succ

theorem replaceAll_any (s o x : List UInt8) (w : World) (hE : Env w) (hs : s.length ≤ 1000000) (ho : 1 ≤ o.length) (hx : x.length ≤ 21) :
    Calls Tryz.prog 63 #[.string (bs s), .string (bs o), .string (bs x)] w fun e w' => e = .returned (.string (bs (Lib.replaceAll s o x))) ∧ Kept (fun _ => False) w w' := by
  obtain ⟨m, hm⟩ := hE.ml
  have hc := Lib.countB_le (bs o) (by simpa [bs, ByteArray.size] using ho) (bs s).size (bs s) (Nat.le_refl _)
  have hs2 : (bs s).size ≤ 1000000 := by simpa [bs, ByteArray.size] using hs
  have hz : Lib.countB (bs s) (bs o) * (bs x).size ≤ 1000000 * 21 := Nat.mul_le_mul (by omega) (by simpa [bs, ByteArray.size] using hx)
  refine (Tryz.strings_ReplaceAll (bs s) (bs o) (bs x) m w (by omega) hm (by simpa [bs, ByteArray.size] using ho) (by omega)).mono ?_
  rintro e w' ⟨rfl, k⟩
  exact ⟨rfl, kept_below k⟩
theorem buildW (W : World) (v0 v1 v2 v3 v4 : Int) : (Instr.buildSlice 136 5 #[(0, .agg #[.string ⟨#[72, 69, 65, 68]⟩, .int .i64 v0]), (1, .agg #[.string ⟨#[70, 82, 69, 69]⟩, .int .i64 v1]), (2, .agg #[.string ⟨#[83, 73, 90, 69]⟩, .int .i64 v2]), (3, .agg #[.string ⟨#[78, 79, 68, 69, 48]⟩, .int .i64 v3]), (4, .agg #[.string ⟨#[88]⟩, .int .i64 v4])]).run Tryz.prog W = .ok (.slice (some ⟨W.heap.size, 0, none⟩) 5 5) (W.alloc (.cells #[.string ⟨#[72, 69, 65, 68]⟩, .int .i64 v0, .string ⟨#[70, 82, 69, 69]⟩, .int .i64 v1, .string ⟨#[83, 73, 90, 69]⟩, .int .i64 v2, .string ⟨#[78, 79, 68, 69, 48]⟩, .int .i64 v3, .string ⟨#[88]⟩, .int .i64 v4] 135)) := by kernel_rfl
theorem wd_one {j : Nat} (hj : j < 5) : 1 ≤ (wd j).length := by
  match j, hj with
  | 0, _ => decide
  | 1, _ => decide
  | 2, _ => decide
  | 3, _ => decide
  | 4, _ => decide
abbrev wordC (base x : Int) : Array Value := #[.string ⟨#[72, 69, 65, 68]⟩, .int .i64 base, .string ⟨#[70, 82, 69, 69]⟩, .int .i64 (base + 1), .string ⟨#[83, 73, 90, 69]⟩, .int .i64 (base + 2), .string ⟨#[78, 79, 68, 69, 48]⟩, .int .i64 (base + 1), .string ⟨#[88]⟩, .int .i64 x]
theorem word_at {base x : Int} {j : Nat} (hj : j < 5) : (wordC base x)[j * 2]? = some (.string (bs (wd j))) ∧ (wordC base x)[j * 2 + 1]? = some (.int .i64 (nv base x j)) := by
  match j, hj with
  | 0, _ => exact ⟨rfl, rfl⟩
  | 1, _ => exact ⟨rfl, rfl⟩
  | 2, _ => exact ⟨rfl, rfl⟩
  | 3, _ => exact ⟨rfl, rfl⟩
  | 4, _ => exact ⟨rfl, rfl⟩
set_option maxRecDepth 100000 in
set_option maxHeartbeats 4000000 in
theorem fill_any (t : List UInt8) (base x : Int) (w : World) (hE : Env w) (h0 : 0 ≤ base) (h1 : base ≤ 256) (h2 : -9223372036854775808 ≤ x) (h3 : x ≤ 9223372036854775807) (hs : ∀ j, j ≤ 5 → (fillS t base x j).length ≤ 100000) :
    Calls Tryz.prog 28 #[.string (bs t), .int .i64 base, .int .i64 x] w fun e w' => e = .returned (.string (bs (fillS t base x 5))) ∧ Kept (fun _ => False) w w' := by
  have hk := keyAt_any 0 (by decide)
  have hb := buildW w base (base + 1) (base + 2) (base + 1) x
  have s0 := (St.nil w).box (wordC base x) 135
  have HE := hid hE
  have HS := hid hs
  have HN := hid (nv_rng h0 h1 h2 h3)
  generalize hw1 : w.alloc (.cells (wordC base x) 135) = w1 at *
  generalize hg : w.heap.size = g at *
  have HS0 := hid s0
  clear hE hs s0
  have HW1 := hid hw1
  clear hw1
  go_enter Tryz.func28, Tryz.ntmps28
  go_wp2_with (first | (go_at_call 62; refine (hk _).mono ?_; rintro e w ⟨rfl, rfl⟩) | simp only [hb])
  go_loopw [0, 28] (fun s i wr => ∃ j : Nat, j ≤ 5 ∧ i = .int .i64 j ∧ s = .string (bs (fillS t base x j)) ∧ St w [boxI g (wordC base x) 135] wr) (fun _ i _ => 5 - (intOf i).toNat)
  case atStart =>
    have hw1 := HW1.out
    have hs0 := HS0.out
    rw [← hw1] at hs0
    exact ⟨0, by omega, rfl, rfl, hs0⟩
  case round =>
    obtain ⟨j, hj, rfl, rfl, hs⟩ := hrel
    by_cases hlt : j < 5
    · obtain ⟨a1, a2⟩ := word_at (base := base) (x := x) hlt
      have c1 : wr.cell? ⟨g, j * 2, none⟩ = some (.string (bs (wd j))) := (hs.cell 0 rfl _).trans a1
      have c2 : wr.cell? ⟨g, j * 2 + 1, none⟩ = some (.int .i64 (nv base x j)) := (hs.cell 0 rfl _).trans a2
      have s2 := hs.box #[.string (bs (wd j)), .int .i64 (nv base x j)] 135
      obtain ⟨n1, n2⟩ := HN.out j
      generalize hM : wr.heap.size = M at *
      generalize hw2 : wr.alloc (.cells #[.string (bs (wd j)), .int .i64 (nv base x j)] 135) = w2 at *
      have d1 : w2.drew.cell? ⟨M, 0, none⟩ = some (.string (bs (wd j))) := s2.drew.cell 0 rfl 0
      have d2 : w2.drew.cell? ⟨M, 1, none⟩ = some (.int .i64 (nv base x j)) := s2.drew.cell 0 rfl 1
      have hq := itoa_any (w := w2.drew) (nv base x j) n1 n2 (HE.out.kept s2.drew.same)
      have hil := Lib.itoa_length_le (nv base x j) n1 n2
      have HR : Hid (∀ W, Kept (fun _ => False) w2.drew W → W.cell? ⟨M, 0, none⟩ = some (.string (bs (wd j))) ∧ Calls Tryz.prog 63 #[.string (bs (fillS t base x j)), .string (bs (wd j)), .string (bs (Lib.itoa (nv base x j)))] W fun e w' => e = .returned (.string (bs (fillS t base x (j + 1)))) ∧ St w [boxI g (wordC base x) 135] w') := hid (fun W k => ⟨(s2.drew.calm k).cell 0 rfl 0, (replaceAll_any (fillS t base x j) (wd j) (Lib.itoa (nv base x j)) W (HE.out.kept (s2.drew.calm k).same) (by have := HS.out j hj; omega) (wd_one hlt) (by omega)).mono (fun e w' he => ⟨he.1, ((s2.drew.calm k).calm he.2).pop⟩)⟩)
      have t0 : (0 : Int) ≤ (j : Int) := by omega
      have t1 : (j : Int) < 5 := by omega
      have HJ := hid hlt
      clear hs s2 a1 a2 n1 n2 hil hj hlt
      generalize bs (wd j) = wj at *
      generalize nv base x j = nj at *
      generalize ht2 : bs (fillS t base x (j + 1)) = t2 at *
      have HT2 := hid ht2
      clear ht2
      generalize bs (fillS t base x j) = tt at *
      generalize bs (Lib.itoa nj) = ij at *
      go_upto_region 5 with (simp only [hM, hw2])
      refine (fun key : ?KEY ∧ True => ?main) ⟨?keyproof, trivial⟩
      case main =>
        go_region_with (first | (go_at_call 64; refine hq.mono ?_; rintro e w3 ⟨rfl, k3⟩; obtain ⟨d3, hp⟩ := HR.out w3 k3) | (go_at_call 63; refine hp.mono ?_; rintro e w4 ⟨rfl, s4⟩; have HS4 := hid s4; clear s4))
        all_goals
          revert HS4
          revert w4
          exact key.1
      case keyproof =>
        intro w4 HS4
        go_wp2
        refine ⟨⟨_, _, _, _, _, _, _, _, _, _, _, _, _, _, ⟨j + 1, by have := HJ.out; omega, rfl, by rw [HT2.out], HS4.out⟩, rfl⟩, ?_⟩
        have := HJ.out
        simp [intOf]
        omega
    · obtain rfl : j = 5 := by omega
      go_wp2
      go_ret
      exact ⟨rfl, hs.same⟩
end Go.Proofs.YtdfefjalamohjabGreatDoor
