/- Package deque: fill. -/
import Derived.Test.YtahokdgodhhchaaGreatDoorCoM
import Derived.Test.YtahokdgodhhchaaGreatDoorDqF
import Derived.Test.YtahokdgodhhchaaGreatDoorPsG
import Derived.Deep.RegionWith
import Derived.Deep.RegionHeld3
namespace Go.Proofs.YtahokdgodhhchaaGreatDoor
open Go.RowKit
set_option linter.unusedVariables false
set_option linter.unusedSimpArgs false
attribute [local go_sem ↓] Go.wp_at_zero Go.wp_at_succ

theorem replaceAll_any (s o x : List UInt8) (w : World) (hE : Env w) (hs : s.length ≤ 1000000) (ho : 1 ≤ o.length) (hx : x.length ≤ 21) :
    Calls Tryz.prog 57 #[.string (bs s), .string (bs o), .string (bs x)] w fun e w' => e = .returned (.string (bs (Lib.replaceAll s o x))) ∧ Kept (fun _ => False) w w' := by
  obtain ⟨m, hm⟩ := hE.ml
  have hc := Lib.countB_le (bs o) (by simpa [bs, ByteArray.size] using ho) (bs s).size (bs s) (Nat.le_refl _)
  have hs2 : (bs s).size ≤ 1000000 := by simpa [bs, ByteArray.size] using hs
  have hz : Lib.countB (bs s) (bs o) * (bs x).size ≤ 1000000 * 21 := Nat.mul_le_mul (by omega) (by simpa [bs, ByteArray.size] using hx)
  refine (Tryz.strings_ReplaceAll (bs s) (bs o) (bs x) m w (by omega) hm (by simpa [bs, ByteArray.size] using ho) (by omega)).mono ?_
  rintro e w' ⟨rfl, k⟩
  exact ⟨rfl, kept_below k⟩
set_option maxRecDepth 100000 in
theorem buildW (W : World) (v0 v1 v2 v3 v4 : Int) : (Instr.buildSlice 109 5 #[(0, .agg #[.string ⟨#[70, 82, 79, 78, 84]⟩, .int .i64 v0]), (1, .agg #[.string ⟨#[83, 73, 90, 69]⟩, .int .i64 v1]), (2, .agg #[.string ⟨#[70, 73, 82, 83, 84]⟩, .int .i64 v2]), (3, .agg #[.string ⟨#[82, 79, 85, 78, 68]⟩, .int .i64 v3]), (4, .agg #[.string ⟨#[88]⟩, .int .i64 v4])]).run Tryz.prog W = .ok (.slice (some ⟨W.heap.size, 0, none⟩) 5 5) (W.alloc (.cells #[.string ⟨#[70, 82, 79, 78, 84]⟩, .int .i64 v0, .string ⟨#[83, 73, 90, 69]⟩, .int .i64 v1, .string ⟨#[70, 73, 82, 83, 84]⟩, .int .i64 v2, .string ⟨#[82, 79, 85, 78, 68]⟩, .int .i64 v3, .string ⟨#[88]⟩, .int .i64 v4] 108)) := by kernel_rfl
theorem wd_one {j : Nat} (hj : j < 5) : 1 ≤ (wd j).length := by
  match j, hj with
  | 0, _ => decide
  | 1, _ => decide
  | 2, _ => decide
  | 3, _ => decide
  | 4, _ => decide
def wordC (v : Nat → Int) : Array Value := #[.string ⟨#[70, 82, 79, 78, 84]⟩, .int .i64 (v 0), .string ⟨#[83, 73, 90, 69]⟩, .int .i64 (v 1), .string ⟨#[70, 73, 82, 83, 84]⟩, .int .i64 (v 2), .string ⟨#[82, 79, 85, 78, 68]⟩, .int .i64 (v 3), .string ⟨#[88]⟩, .int .i64 (v 4)]
theorem word_at {v : Nat → Int} {j : Nat} (hj : j < 5) : (wordC v)[j * 2]? = some (.string (bs (wd j))) ∧ (wordC v)[j * 2 + 1]? = some (.int .i64 (v j)) := by
  match j, hj with
  | 0, _ => exact ⟨rfl, rfl⟩
  | 1, _ => exact ⟨rfl, rfl⟩
  | 2, _ => exact ⟨rfl, rfl⟩
  | 3, _ => exact ⟨rfl, rfl⟩
  | 4, _ => exact ⟨rfl, rfl⟩
/-- The numbers that go into a text. -/
def nvD (base : Int) (n : Nat) (x : Int) : Nat → Int
  | 0 => base
  | 1 => base + 1
  | 2 => base + 2
  | 3 => (n : Int)
  | _ => x
theorem nvD_rng {base : Int} {n : Nat} {x : Int} (h0 : 0 ≤ base) (h1 : base ≤ 256) (hn2 : n ≤ 100) (hx : -9223372036854775808 ≤ x ∧ x ≤ 9223372036854775807) : Rng (nvD base n x) := by
  intro j
  unfold nvD
  split <;> omega
set_option maxRecDepth 100000 in
set_option maxHeartbeats 4000000 in
theorem fill_any (t : List UInt8) (base : Int) (n : Nat) (x : Int) (w : World) (hE : Env w) (h0 : 0 ≤ base) (h1 : base ≤ 256) (hn2 : n ≤ 100) (hx : -9223372036854775808 ≤ x ∧ x ≤ 9223372036854775807) (hs : ∀ j, j ≤ 5 → (fillS t (nvD base n x) j).length ≤ 100000) :
    Calls Tryz.prog 38 #[.string (bs t), .int .i64 base, .int .i64 n, .int .i64 x] w fun e w' => e = .returned (.string (bs (fillS t (nvD base n x) 5))) ∧ Kept (fun _ => False) w w' := by
  have HN := hid (nvD_rng h0 h1 hn2 hx)
  have HE := hid hE
  have HS := hid hs
  have hb := fun W v0 v1 v2 v3 v4 => buildW W v0 v1 v2 v3 v4
  have HWC : Hid (wordC (nvD base n x) = #[.string ⟨#[70, 82, 79, 78, 84]⟩, .int .i64 base, .string ⟨#[83, 73, 90, 69]⟩, .int .i64 (base + 1), .string ⟨#[70, 73, 82, 83, 84]⟩, .int .i64 (base + 2), .string ⟨#[82, 79, 85, 78, 68]⟩, .int .i64 (n : Int), .string ⟨#[88]⟩, .int .i64 x]) := hid rfl
  clear hs hE hx
  have hn60 : (n : Int) ≤ 100 := by omega
  go_enter Tryz.func38, Tryz.ntmps38
  go_wp2_with (simp only [hb])
  have s5 : St w [boxI w.heap.size #[.string ⟨#[70, 82, 79, 78, 84]⟩, .int .i64 base, .string ⟨#[83, 73, 90, 69]⟩, .int .i64 (base + 1), .string ⟨#[70, 73, 82, 83, 84]⟩, .int .i64 (base + 2), .string ⟨#[82, 79, 85, 78, 68]⟩, .int .i64 (n : Int), .string ⟨#[88]⟩, .int .i64 x] 108] (w.alloc (.cells #[.string ⟨#[70, 82, 79, 78, 84]⟩, .int .i64 base, .string ⟨#[83, 73, 90, 69]⟩, .int .i64 (base + 1), .string ⟨#[70, 73, 82, 83, 84]⟩, .int .i64 (base + 2), .string ⟨#[82, 79, 85, 78, 68]⟩, .int .i64 (n : Int), .string ⟨#[88]⟩, .int .i64 x] 108)) := (St.nil w).box _ _
  generalize w.alloc (.cells #[.string ⟨#[70, 82, 79, 78, 84]⟩, .int .i64 base, .string ⟨#[83, 73, 90, 69]⟩, .int .i64 (base + 1), .string ⟨#[70, 73, 82, 83, 84]⟩, .int .i64 (base + 2), .string ⟨#[82, 79, 85, 78, 68]⟩, .int .i64 (n : Int), .string ⟨#[88]⟩, .int .i64 x] 108) = w5 at *
  generalize w.heap.size = g at *
  rw [← HWC.out] at s5
  have HS5 := hid s5
  clear s5 HWC hb
  generalize hv : nvD base n x = v at *
  have HV := hid hv
  clear hv
  go_wp2
  go_loopw [0, 28] (fun s i wr => ∃ j : Nat, j ≤ 5 ∧ i = .int .i64 j ∧ s = .string (bs (fillS t v j)) ∧ St w [boxI g (wordC v) 108] wr) (fun _ i _ => 5 - (intOf i).toNat)
  case atStart => exact ⟨0, by omega, rfl, rfl, HS5.out⟩
  case round =>
    obtain ⟨j, hj, rfl, rfl, hs⟩ := hrel
    by_cases hlt : j < 5
    · obtain ⟨a1, a2⟩ := word_at (v := v) hlt
      have c1 : wr.cell? ⟨g, j * 2, none⟩ = some (.string (bs (wd j))) := (hs.cell 0 rfl _).trans a1
      have c2 : wr.cell? ⟨g, j * 2 + 1, none⟩ = some (.int .i64 (v j)) := (hs.cell 0 rfl _).trans a2
      have s2 := hs.box #[.string (bs (wd j)), .int .i64 (v j)] 108
      obtain ⟨n1, n2⟩ := HN.out j
      generalize hM : wr.heap.size = M at *
      generalize hw2 : wr.alloc (.cells #[.string (bs (wd j)), .int .i64 (v j)] 108) = w2 at *
      have d1 : w2.drew.cell? ⟨M, 0, none⟩ = some (.string (bs (wd j))) := s2.drew.cell 0 rfl 0
      have d2 : w2.drew.cell? ⟨M, 1, none⟩ = some (.int .i64 (v j)) := s2.drew.cell 0 rfl 1
      have hq := itoa_any (w := w2.drew) (v j) n1 n2 (HE.out.kept s2.drew.same)
      have hil := Lib.itoa_length_le (v j) n1 n2
      have HR : Hid (∀ W, Kept (fun _ => False) w2.drew W → W.cell? ⟨M, 0, none⟩ = some (.string (bs (wd j))) ∧ Calls Tryz.prog 57 #[.string (bs (fillS t v j)), .string (bs (wd j)), .string (bs (Lib.itoa (v j)))] W fun e w' => e = .returned (.string (bs (fillS t v (j + 1)))) ∧ St w [boxI g (wordC v) 108] w') := hid (fun W k => ⟨(s2.drew.calm k).cell 0 rfl 0, (replaceAll_any (fillS t v j) (wd j) (Lib.itoa (v j)) W (HE.out.kept (s2.drew.calm k).same) (by have := HS.out j hj; omega) (wd_one hlt) (by omega)).mono (fun e w' he => ⟨he.1, ((s2.drew.calm k).calm he.2).pop⟩)⟩)
      have t0 : (0 : Int) ≤ (j : Int) := by omega
      have t1 : (j : Int) < 5 := by omega
      have HJ := hid hlt
      clear hs s2 a1 a2 n1 n2 hil hj hlt
      generalize bs (wd j) = wj at *
      generalize v j = nj at *
      generalize ht2 : bs (fillS t v (j + 1)) = t2 at *
      have HT2 := hid ht2
      clear ht2
      generalize bs (fillS t v j) = tt at *
      generalize bs (Lib.itoa nj) = ij at *
      go_upto_region 5 with (simp only [hM, hw2])
      refine (fun key : ?KEY2 ∧ True => ?main2) ⟨?keyproof2, trivial⟩
      case main2 =>
        go_region_with (first | (go_at_call 58; refine hq.mono ?_; rintro e w3 ⟨rfl, k3⟩; obtain ⟨d3, hp⟩ := HR.out w3 k3) | (go_at_call 57; refine hp.mono ?_; rintro e w4 ⟨rfl, s4⟩; have HS4 := hid s4; clear s4))
        all_goals
          revert HS4
          revert w4
          exact key.1
      case keyproof2 =>
        intro w4 HS4
        go_wp2
        go_roundw
        case rel => exact ⟨j + 1, by have := HJ.out; omega, by push_cast; rfl, by rw [HT2.out], HS4.out⟩
        case measure =>
          have := HJ.out
          simp [intOf]
          omega
    · obtain rfl : j = 5 := by omega
      go_wp2
      go_ret
      exact ⟨by rw [HV.out]; rfl, hs.same⟩
end Go.Proofs.YtahokdgodhhchaaGreatDoor
