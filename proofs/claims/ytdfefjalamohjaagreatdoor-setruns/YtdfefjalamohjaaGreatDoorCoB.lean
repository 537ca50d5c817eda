/- Package set: fill, textOf. Package set: textOf, Code. -/
import Derived.Test.YtdfefjalamohjaaGreatDoorCoM
import Derived.Test.YtdfefjalamohjaaGreatDoorSeD
import Derived.Test.YtdfefjalamohjaaGreatDoorPsG
import Derived.Deep.RegionWith
namespace Go.Proofs.YtdfefjalamohjaaGreatDoor
open Go.RowKit
set_option linter.unusedVariables false
set_option linter.unusedSimpArgs false
attribute [local go_sem ↓] Go.wp_at_zero Go.wp_at_succ

theorem replaceAll_any (s o x : List UInt8) (w : World) (hE : Env w) (hs : s.length ≤ 1000000) (ho : 1 ≤ o.length) (hx : x.length ≤ 21) :
    Calls Tryz.prog 67 #[.string (bs s), .string (bs o), .string (bs x)] w fun e w' => e = .returned (.string (bs (Lib.replaceAll s o x))) ∧ Kept (fun _ => False) w w' := by
  obtain ⟨m, hm⟩ := hE.ml
  have hc := Lib.countB_le (bs o) (by simpa [bs, ByteArray.size] using ho) (bs s).size (bs s) (Nat.le_refl _)
  have hs2 : (bs s).size ≤ 1000000 := by simpa [bs, ByteArray.size] using hs
  have hz : Lib.countB (bs s) (bs o) * (bs x).size ≤ 1000000 * 21 := Nat.mul_le_mul (by omega) (by simpa [bs, ByteArray.size] using hx)
  refine (Tryz.strings_ReplaceAll (bs s) (bs o) (bs x) m w (by omega) hm (by simpa [bs, ByteArray.size] using ho) (by omega)).mono ?_
  rintro e w' ⟨rfl, k⟩
  exact ⟨rfl, kept_below k⟩
theorem buildW (W : World) (v0 v1 v2 v3 v4 : Int) : (Instr.buildSlice 123 5 #[(0, .agg #[.string ⟨#[72, 69, 65, 68]⟩, .int .i64 v0]), (1, .agg #[.string ⟨#[70, 82, 69, 69]⟩, .int .i64 v1]), (2, .agg #[.string ⟨#[83, 73, 90, 69]⟩, .int .i64 v2]), (3, .agg #[.string ⟨#[78, 79, 68, 69, 48]⟩, .int .i64 v3]), (4, .agg #[.string ⟨#[88]⟩, .int .i64 v4])]).run Tryz.prog W = .ok (.slice (some ⟨W.heap.size, 0, none⟩) 5 5) (W.alloc (.cells #[.string ⟨#[72, 69, 65, 68]⟩, .int .i64 v0, .string ⟨#[70, 82, 69, 69]⟩, .int .i64 v1, .string ⟨#[83, 73, 90, 69]⟩, .int .i64 v2, .string ⟨#[78, 79, 68, 69, 48]⟩, .int .i64 v3, .string ⟨#[88]⟩, .int .i64 v4] 122)) := by kernel_rfl
theorem wd_one {j : Nat} (hj : j < 5) : 1 ≤ (wd j).length := by
  match j, hj with
  | 0, _ => decide
  | 1, _ => decide
  | 2, _ => decide
  | 3, _ => decide
  | 4, _ => decide
abbrev wordC (base x : Int) : Array Value := #[.string ⟨#[72, 69, 65, 68]⟩, .int .i64 base, .string ⟨#[70, 82, 69, 69]⟩, .int .i64 (base + 1), .string ⟨#[83, 73, 90, 69]⟩, .int .i64 (base + 2), .string ⟨#[78, 79, 68, 69, 48]⟩, .int .i64 (base + 1), .string ⟨#[88]⟩, .int .i64 x]
theorem word_at {base x : Int} {j : Nat} (hj : j < 5) : (wordC base x)[j * 2]? = some (.string (bs (wd j))) ∧ (wordC base x)[j * 2 + 1]? = some (.int .i64 (nv base x j)) := by
  match j, hj with
  | 0, _ => exact ⟨rfl, rfl⟩
  | 1, _ => exact ⟨rfl, rfl⟩
  | 2, _ => exact ⟨rfl, rfl⟩
  | 3, _ => exact ⟨rfl, rfl⟩
  | 4, _ => exact ⟨rfl, rfl⟩
set_option maxRecDepth 100000 in
set_option maxHeartbeats 4000000 in
theorem fill_any (t : List UInt8) (base x : Int) (w : World) (hE : Env w) (h0 : 0 ≤ base) (h1 : base ≤ 256) (h2 : -9223372036854775808 ≤ x) (h3 : x ≤ 9223372036854775807) (hs : ∀ j, j ≤ 5 → (fillS t base x j).length ≤ 100000) :
    Calls Tryz.prog 41 #[.string (bs t), .int .i64 base, .int .i64 x] w fun e w' => e = .returned (.string (bs (fillS t base x 5))) ∧ Kept (fun _ => False) w w' := by
  have hk := keyAt_any 0 (by decide)
  have hb := buildW w base (base + 1) (base + 2) (base + 1) x
  have s0 := (St.nil w).box (wordC base x) 122
  have HE := hid hE
  have HS := hid hs
  have HN := hid (nv_rng h0 h1 h2 h3)
  generalize hw1 : w.alloc (.cells (wordC base x) 122) = w1 at *
  generalize hg : w.heap.size = g at *
  have HS0 := hid s0
  clear hE hs s0
  have HW1 := hid hw1
  clear hw1
  go_enter Tryz.func41, Tryz.ntmps41
  go_wp2_with (first | (go_at_call 60; refine (hk _).mono ?_; rintro e w ⟨rfl, rfl⟩) | simp only [hb])
  go_loopw [0, 28] (fun s i wr => ∃ j : Nat, j ≤ 5 ∧ i = .int .i64 j ∧ s = .string (bs (fillS t base x j)) ∧ St w [boxI g (wordC base x) 122] wr) (fun _ i _ => 5 - (intOf i).toNat)
  case atStart =>
    have hw1 := HW1.out
    have hs0 := HS0.out
    rw [← hw1] at hs0
    exact ⟨0, by omega, rfl, rfl, hs0⟩
  case round =>
    obtain ⟨j, hj, rfl, rfl, hs⟩ := hrel
    by_cases hlt : j < 5
    · obtain ⟨a1, a2⟩ := word_at (base := base) (x := x) hlt
      have c1 : wr.cell? ⟨g, j * 2, none⟩ = some (.string (bs (wd j))) := (hs.cell 0 rfl _).trans a1
      have c2 : wr.cell? ⟨g, j * 2 + 1, none⟩ = some (.int .i64 (nv base x j)) := (hs.cell 0 rfl _).trans a2
      have s2 := hs.box #[.string (bs (wd j)), .int .i64 (nv base x j)] 122
      obtain ⟨n1, n2⟩ := HN.out j
      generalize hM : wr.heap.size = M at *
      generalize hw2 : wr.alloc (.cells #[.string (bs (wd j)), .int .i64 (nv base x j)] 122) = w2 at *
      have d1 : w2.drew.cell? ⟨M, 0, none⟩ = some (.string (bs (wd j))) := s2.drew.cell 0 rfl 0
      have d2 : w2.drew.cell? ⟨M, 1, none⟩ = some (.int .i64 (nv base x j)) := s2.drew.cell 0 rfl 1
      have hq := itoa_any (w := w2.drew) (nv base x j) n1 n2 (HE.out.kept s2.drew.same)
      have hil := Lib.itoa_length_le (nv base x j) n1 n2
      have HR : Hid (∀ W, Kept (fun _ => False) w2.drew W → W.cell? ⟨M, 0, none⟩ = some (.string (bs (wd j))) ∧ Calls Tryz.prog 67 #[.string (bs (fillS t base x j)), .string (bs (wd j)), .string (bs (Lib.itoa (nv base x j)))] W fun e w' => e = .returned (.string (bs (fillS t base x (j + 1)))) ∧ St w [boxI g (wordC base x) 122] w') := hid (fun W k => ⟨(s2.drew.calm k).cell 0 rfl 0, (replaceAll_any (fillS t base x j) (wd j) (Lib.itoa (nv base x j)) W (HE.out.kept (s2.drew.calm k).same) (by have := HS.out j hj; omega) (wd_one hlt) (by omega)).mono (fun e w' he => ⟨he.1, ((s2.drew.calm k).calm he.2).pop⟩)⟩)
      have t0 : (0 : Int) ≤ (j : Int) := by omega
      have t1 : (j : Int) < 5 := by omega
      have HJ := hid hlt
      clear hs s2 a1 a2 n1 n2 hil hj hlt
      generalize bs (wd j) = wj at *
      generalize nv base x j = nj at *
      generalize ht2 : bs (fillS t base x (j + 1)) = t2 at *
      have HT2 := hid ht2
      clear ht2
      generalize bs (fillS t base x j) = tt at *
      generalize bs (Lib.itoa nj) = ij at *
      go_upto_region 5 with (simp only [hM, hw2])
      refine (fun key : ?KEY ∧ True => ?main) ⟨?keyproof, trivial⟩
      case main =>
        go_region_with (first | (go_at_call 68; refine hq.mono ?_; rintro e w3 ⟨rfl, k3⟩; obtain ⟨d3, hp⟩ := HR.out w3 k3) | (go_at_call 67; refine hp.mono ?_; rintro e w4 ⟨rfl, s4⟩; have HS4 := hid s4; clear s4))
        all_goals
          revert HS4
          revert w4
          exact key.1
      case keyproof =>
        intro w4 HS4
        go_wp2
        refine ⟨⟨_, _, _, _, _, _, _, _, _, _, _, _, _, _, ⟨j + 1, by have := HJ.out; omega, rfl, by rw [HT2.out], HS4.out⟩, rfl⟩, ?_⟩
        have := HJ.out
        simp [intOf]
        omega
    · obtain rfl : j = 5 := by omega
      go_wp2
      go_ret
      exact ⟨rfl, hs.same⟩
end Go.Proofs.YtdfefjalamohjaaGreatDoor

namespace Go.Proofs.YtdfefjalamohjaaGreatDoor
open Go.RowKit
set_option linter.unusedVariables false
set_option linter.unusedSimpArgs false
attribute [local go_sem ↓] Go.wp_at_zero Go.wp_at_succ

theorem bs_app (a b : List UInt8) : bs a ++ bs b = bs (a ++ b) := by
  apply ByteArray.ext
  simp [bs]
set_option maxRecDepth 100000 in
set_option maxHeartbeats 2000000 in
theorem textOf_any (op : Int) (ho : op = 1 ∨ op = 2 ∨ op = 3 ∨ op = 4 ∨ op = 5) (w : World) : Calls Tryz.prog 42 #[.int .i64 op] w fun e w' => e = .returned (.string (bs (textS op))) ∧ w' = w := by
  rcases ho with rfl | rfl | rfl | rfl | rfl
  all_goals
    go_enter Tryz.func42, Tryz.ntmps42
    go_wp2
    go_ret
    exact ⟨by kernel_rfl, rfl⟩
def okC (base n : Int) (d : Dd) : Bool := fitsS base n 256 && mayS d
/-- How Code ends. -/
def CodeE (base n : Int) (d : Dd) (w : World) (e : Ending) (w' : World) : Prop :=
  if okC base n d = true then ∃ lv, e = .returned (.tuple #[lv, .int .i64 0]) ∧ St w [ownI 87 2 lv (codeS base d.x d.op).length (insCells (codeS base d.x d.op))] w'
  else e = .returned (.tuple #[.slice none 0 0, .int .i64 180]) ∧ Kept (fun _ => False) w w'
set_option maxRecDepth 100000 in
set_option maxHeartbeats 8000000 in
theorem Code_any {w : World} {base n : Int} {d : Dd} (hE0 : Env w) (hx0 : -9223372036854775808 ≤ d.x) (hx1 : d.x ≤ 9223372036854775807) : Calls Tryz.prog 23 #[.int .i64 base, .int .i64 n, d.val] w (CodeE base n d w) := by
  have hB := fun W => smay_any d W
  have hfit := fun W => fits_any base n 256 W (by decide) (by decide)
  have hop := fun (h : mayS d = true) => may_op h
  obtain ⟨op, a, b, x, y⟩ := d
  simp only at hx0 hx1 hop
  have s1 := (St.nil w).box #[.int .i64 op, .int .i64 a, .int .i64 b, .int .i64 x, .int .i64 y] 40
  have HN : Hid (okC base n ⟨op, a, b, x, y⟩ = false → ∀ w', Kept (fun _ => False) w w' → CodeE base n ⟨op, a, b, x, y⟩ w (.returned (.tuple #[.slice none 0 0, .int .i64 180])) w') := hid (fun h w' k => by
    unfold CodeE
    rw [if_neg (by rw [h]; decide)]
    exact ⟨rfl, k⟩)
  have HY : Hid (okC base n ⟨op, a, b, x, y⟩ = true → ∀ lv w', St w [ownI 87 2 lv (codeS base x op).length (insCells (codeS base x op))] w' → CodeE base n ⟨op, a, b, x, y⟩ w (.returned (.tuple #[lv, .int .i64 0])) w') := hid (fun h lv w' s => by
    unfold CodeE
    rw [if_pos h]
    exact ⟨lv, rfl, s⟩)
  show Calls _ _ #[_, _, .agg #[.int .i64 op, .int .i64 a, .int .i64 b, .int .i64 x, .int .i64 y]] _ _
  have hB1 : ∀ W, Calls Tryz.prog 37 #[.agg #[.int .i64 op, .int .i64 a, .int .i64 b, .int .i64 x, .int .i64 y]] W fun e w' => e = .returned (.bool (mayS ⟨op, a, b, x, y⟩)) ∧ Kept (fun _ => False) W w' := hB
  clear hB
  generalize hw1 : w.alloc (.cells #[.int .i64 op, .int .i64 a, .int .i64 b, .int .i64 x, .int .i64 y] 40) = w1 at *
  generalize hM : w.heap.size = M at *
  have c0 : w1.cell? ⟨M, 0, none⟩ = some (.int .i64 op) := s1.cell 0 rfl 0
  have c1 : w1.cell? ⟨M, 1, none⟩ = some (.int .i64 a) := s1.cell 0 rfl 1
  have c2 : w1.cell? ⟨M, 2, none⟩ = some (.int .i64 b) := s1.cell 0 rfl 2
  have c3 : w1.cell? ⟨M, 3, none⟩ = some (.int .i64 x) := s1.cell 0 rfl 3
  have c4 : w1.cell? ⟨M, 4, none⟩ = some (.int .i64 y) := s1.cell 0 rfl 4
  have HK := hid s1.same
  have hF1 := hfit w1
  have hB2 := hB1 w1
  have HE := hid hE0
  clear hfit hB1 hE0
  cases hf : fitsS base n 256 with
  | false =>
    have hno := hid (HN.out (by unfold okC; rw [hf]; rfl))
    rw [hf] at hF1
    generalize CodeE base n ⟨op, a, b, x, y⟩ w = Q at *
    clear HN HY s1 hf hop
    go_enter Tryz.func23, Tryz.ntmps23
    go_wp2_with (first | simp only [hw1, hM] | (go_at_call 32; refine hF1.mono ?_; rintro e w' ⟨rfl, rfl⟩))
    exact hno.out _ HK.out
  | true =>
    rw [hf] at hF1
    cases hmy : mayS ⟨op, a, b, x, y⟩ with
    | false =>
      have hno := hid (HN.out (by unfold okC; rw [hmy, Bool.and_false]))
      rw [hmy] at hB2
      generalize CodeE base n ⟨op, a, b, x, y⟩ w = Q at *
      clear HN HY s1 hf hmy hop
      go_enter Tryz.func23, Tryz.ntmps23
      go_wp2_with (first | simp only [hw1, hM] | (go_at_call 32; refine hF1.mono ?_; rintro e w' ⟨rfl, rfl⟩) | (go_at_call 37; refine hB2.mono ?_; rintro e w2 ⟨rfl, k2⟩))
      exact hno.out _ (HK.out.trans k2 (fun _ _ f => f))
    | true =>
      have hyes := hid (HY.out (by unfold okC; rw [hf, hmy]; rfl))
      rw [hmy] at hB2
      have ho := hop hmy
      have hb : 0 ≤ base ∧ base ≤ 256 := by
        unfold fitsS at hf
        simp only [Bool.and_eq_true, decide_eq_true_eq] at hf
        have := roomS_le n
        omega
      obtain ⟨hpar, hpl, hlen⟩ := text_ok ho hb.1 hb.2 hx0 hx1
      have hT := fun W => textOf_any op ho W
      have hFi := hid fun (W : World) (k : Kept (fun _ => False) w W) => fill_any (textS op) base x W (HE.out.kept k) hb.1 hb.2 hx0 hx1 (fun j hj => short_ok ho hb.1 hb.2 hx0 hx1 j hj)
      have hPa : Hid (∀ W, Kept (fun _ => False) w W → Calls Tryz.prog 40 #[.string (bs (wholeS base x op))] W fun e w' => ∃ lv, e = .returned (.tuple #[lv, .int .i64 0, .int .i64 0]) ∧ St W [ownI 87 2 lv (codeS base x op).length (insCells (codeS base x op))] w') := hid (fun W k => by
        have := Parse_any (bs (wholeS base x op)) W (HE.out.kept k) hpl (by simp only [bs, ByteArray.size, List.size_toArray]; omega)
        rw [hpar] at this
        exact this)
      have hl5 := short_ok ho hb.1 hb.2 hx0 hx1 5 (by omega)
      have hcat : (⟨#[98, 101, 103, 105, 110, 10]⟩ : ByteArray) ++ bs (fillS (textS op) base x 5) ++ ⟨#[99, 111, 109, 109, 105, 116, 10]⟩ = bs (wholeS base x op) := by
        unfold wholeS
        exact (by rw [bs_app, bs_app] : bs [98, 101, 103, 105, 110, 10] ++ bs (fillS (textS op) base x 5) ++ bs [99, 111, 109, 109, 105, 116, 10] = _)
      have z1 : ¬ 9223372036854775807 < 6 + (bs (fillS (textS op) base x 5)).size := by simp only [bs, ByteArray.size, List.size_toArray]; omega
      have z2 : ¬ 9223372036854775807 < 6 + (bs (fillS (textS op) base x 5)).size + 7 := by simp only [bs, ByteArray.size, List.size_toArray]; omega
      rw [← hcat] at hPa
      generalize CodeE base n ⟨op, a, b, x, y⟩ w = Q at *
      have HS := hid s1
      clear HN HY s1 hf hmy hop hpar hpl hlen hcat hl5
      generalize bs (fillS (textS op) base x 5) = tt at *
      generalize bs (textS op) = t0 at *
      generalize codeS base x op = cs at *
      go_enter Tryz.func23, Tryz.ntmps23
      go_upto_region 3 with (first | simp only [hw1, hM] | (go_at_call 32; refine hF1.mono ?_; rintro e w' ⟨rfl, rfl⟩) | (go_at_call 37; refine hB2.mono ?_; rintro e w2 ⟨rfl, k2⟩))
      have s2 := (HS.out.calm k2).drew
      have d0 : w2.drew.cell? ⟨M, 0, none⟩ = some (.int .i64 op) := s2.cell 0 rfl 0
      have d3 : w2.drew.cell? ⟨M, 3, none⟩ = some (.int .i64 x) := s2.cell 0 rfl 3
      have hF3 := hFi.out w2.drew s2.same
      have HK2 := hid s2.same
      clear c0 c1 c2 c3 c4 s2 hB2 hF1
      go_region_with (first | (go_at_call 42; refine (hT _).mono ?_; rintro e w' ⟨rfl, rfl⟩) | (go_at_call 41; refine hF3.mono ?_; rintro e w3 ⟨rfl, k3⟩; have hp := hPa.out w3 (HK2.out.trans k3 (fun _ _ f => f))) | (go_at_call 40; refine hp.mono ?_; rintro e w4 ⟨lv, rfl, s4⟩; have HS4 := hid (s4.base (HK2.out.trans k3 (fun _ _ f => f))); clear s4))
      all_goals go_wp2
      all_goals exact hyes.out _ _ HS4.out
end Go.Proofs.YtdfefjalamohjaaGreatDoor
