/- Package dict: fill. Package dict: textOf, Code. -/
import Derived.Test.YtbpilhjomfkpaaaGreatDoorCoM
import Derived.Test.YtbpilhjomfkpaaaGreatDoorDiC
import Derived.Test.YtbpilhjomfkpaaaGreatDoorPsG
import Derived.Deep.RegionWith
import Derived.Deep.RegionHeld3
import Derived.Test.YtbpilhjomfkpaaaGreatDoorDiF
namespace Go.Proofs.YtbpilhjomfkpaaaGreatDoor
open Go.RowKit
set_option linter.unusedVariables false
set_option linter.unusedSimpArgs false
attribute [local go_sem ↓] Go.wp_at_zero Go.wp_at_succ

theorem replaceAll_any (s o x : List UInt8) (w : World) (hE : Env w) (hs : s.length ≤ 1000000) (ho : 1 ≤ o.length) (hx : x.length ≤ 21) :
    Calls Tryz.prog 69 #[.string (bs s), .string (bs o), .string (bs x)] w fun e w' => e = .returned (.string (bs (Lib.replaceAll s o x))) ∧ Kept (fun _ => False) w w' := by
  obtain ⟨m, hm⟩ := hE.ml
  have hc := Lib.countB_le (bs o) (by simpa [bs, ByteArray.size] using ho) (bs s).size (bs s) (Nat.le_refl _)
  have hs2 : (bs s).size ≤ 1000000 := by simpa [bs, ByteArray.size] using hs
  have hz : Lib.countB (bs s) (bs o) * (bs x).size ≤ 1000000 * 21 := Nat.mul_le_mul (by omega) (by simpa [bs, ByteArray.size] using hx)
  refine (Tryz.strings_ReplaceAll (bs s) (bs o) (bs x) m w (by omega) hm (by simpa [bs, ByteArray.size] using ho) (by omega)).mono ?_
  rintro e w' ⟨rfl, k⟩
  exact ⟨rfl, kept_below k⟩
set_option maxRecDepth 100000 in
theorem buildW (W : World) (v0 v1 v2 v3 v4 v5 v6 v7 v8 v9 : Int) : (Instr.buildSlice 127 10 #[(0, .agg #[.string ⟨#[83, 73, 90, 69]⟩, .int .i64 v0]), (1, .agg #[.string ⟨#[70, 73, 82, 83, 84]⟩, .int .i64 v1]), (2, .agg #[.string ⟨#[72, 79, 77, 69]⟩, .int .i64 v2]), (3, .agg #[.string ⟨#[79, 78, 87, 65, 82, 68]⟩, .int .i64 v3]), (4, .agg #[.string ⟨#[82, 79, 85, 78, 68]⟩, .int .i64 v4]), (5, .agg #[.string ⟨#[70, 82, 69, 69]⟩, .int .i64 v5]), (6, .agg #[.string ⟨#[85, 83, 69, 68]⟩, .int .i64 v6]), (7, .agg #[.string ⟨#[71, 79, 78, 69]⟩, .int .i64 v7]), (8, .agg #[.string ⟨#[88]⟩, .int .i64 v8]), (9, .agg #[.string ⟨#[89]⟩, .int .i64 v9])]).run Tryz.prog W = .ok (.slice (some ⟨W.heap.size, 0, none⟩) 10 10) (W.alloc (.cells #[.string ⟨#[83, 73, 90, 69]⟩, .int .i64 v0, .string ⟨#[70, 73, 82, 83, 84]⟩, .int .i64 v1, .string ⟨#[72, 79, 77, 69]⟩, .int .i64 v2, .string ⟨#[79, 78, 87, 65, 82, 68]⟩, .int .i64 v3, .string ⟨#[82, 79, 85, 78, 68]⟩, .int .i64 v4, .string ⟨#[70, 82, 69, 69]⟩, .int .i64 v5, .string ⟨#[85, 83, 69, 68]⟩, .int .i64 v6, .string ⟨#[71, 79, 78, 69]⟩, .int .i64 v7, .string ⟨#[88]⟩, .int .i64 v8, .string ⟨#[89]⟩, .int .i64 v9] 126)) := by kernel_rfl
theorem wd_one {j : Nat} (hj : j < 10) : 1 ≤ (wd j).length := by
  match j, hj with
  | 0, _ => decide
  | 1, _ => decide
  | 2, _ => decide
  | 3, _ => decide
  | 4, _ => decide
  | 5, _ => decide
  | 6, _ => decide
  | 7, _ => decide
  | 8, _ => decide
  | 9, _ => decide
def wordC (v : Nat → Int) : Array Value := #[.string ⟨#[83, 73, 90, 69]⟩, .int .i64 (v 0), .string ⟨#[70, 73, 82, 83, 84]⟩, .int .i64 (v 1), .string ⟨#[72, 79, 77, 69]⟩, .int .i64 (v 2), .string ⟨#[79, 78, 87, 65, 82, 68]⟩, .int .i64 (v 3), .string ⟨#[82, 79, 85, 78, 68]⟩, .int .i64 (v 4), .string ⟨#[70, 82, 69, 69]⟩, .int .i64 (v 5), .string ⟨#[85, 83, 69, 68]⟩, .int .i64 (v 6), .string ⟨#[71, 79, 78, 69]⟩, .int .i64 (v 7), .string ⟨#[88]⟩, .int .i64 (v 8), .string ⟨#[89]⟩, .int .i64 (v 9)]
theorem word_at {v : Nat → Int} {j : Nat} (hj : j < 10) : (wordC v)[j * 2]? = some (.string (bs (wd j))) ∧ (wordC v)[j * 2 + 1]? = some (.int .i64 (v j)) := by
  match j, hj with
  | 0, _ => exact ⟨rfl, rfl⟩
  | 1, _ => exact ⟨rfl, rfl⟩
  | 2, _ => exact ⟨rfl, rfl⟩
  | 3, _ => exact ⟨rfl, rfl⟩
  | 4, _ => exact ⟨rfl, rfl⟩
  | 5, _ => exact ⟨rfl, rfl⟩
  | 6, _ => exact ⟨rfl, rfl⟩
  | 7, _ => exact ⟨rfl, rfl⟩
  | 8, _ => exact ⟨rfl, rfl⟩
  | 9, _ => exact ⟨rfl, rfl⟩
/-- The numbers that go into a text. -/
def nvD (base : Int) (n : Nat) (x y : Int) : Nat → Int
  | 0 => base
  | 1 => base + 1
  | 2 => base + ((1 + 3 * homeM x n : Nat) : Int)
  | 3 => 3 - (base + 1)
  | 4 => 3 * (n : Int)
  | 5 => 0
  | 6 => 1
  | 7 => 2
  | 8 => x
  | _ => y
theorem nvD_rng {base : Int} {n : Nat} {x y : Int} (h0 : 0 ≤ base) (h1 : base ≤ 256) (hn : 0 < n) (hn2 : n ≤ 60) (hx : -9223372036854775808 ≤ x ∧ x ≤ 9223372036854775807) (hy : -9223372036854775808 ≤ y ∧ y ≤ 9223372036854775807) : Rng (nvD base n x y) := by
  intro j
  have := home_lt x hn
  unfold nvD
  split <;> omega
set_option maxRecDepth 100000 in
set_option maxHeartbeats 4000000 in
theorem fill_any (t : List UInt8) (base : Int) (n : Nat) (op a b x y : Int) (w : World) (hE : Env w) (h0 : 0 ≤ base) (h1 : base ≤ 256) (hn : 0 < n) (hn2 : n ≤ 60) (hx : -9223372036854775808 ≤ x ∧ x ≤ 9223372036854775807) (hy : -9223372036854775808 ≤ y ∧ y ≤ 9223372036854775807) (hs : ∀ j, j ≤ 10 → (fillS t (nvD base n x y) j).length ≤ 100000) :
    Calls Tryz.prog 44 #[.string (bs t), .int .i64 base, .int .i64 n, .agg #[.int .i64 op, .int .i64 a, .int .i64 b, .int .i64 x, .int .i64 y]] w fun e w' => e = .returned (.string (bs (fillS t (nvD base n x y) 10))) ∧ Kept (fun _ => False) w w' := by
  have hk := fun W => stateAt_any 0 (by decide) W
  have hho := fun W => home_any x n hn hn2 hx.1 hx.2 W
  have hst := fun W => stateAt_any (homeM x n) (by have := home_lt x hn; omega) W
  have HN := hid (nvD_rng h0 h1 hn hn2 hx hy)
  have HE := hid hE
  have HS := hid hs
  have hhl := home_lt x hn
  have hh6 : ((1 + 3 * homeM x n : Nat) : Int) ≤ 200 := by omega
  have hh0 : (0 : Int) ≤ ((1 + 3 * homeM x n : Nat) : Int) := by omega
  have s0 := (St.nil w).box #[.int .i64 op, .int .i64 a, .int .i64 b, .int .i64 x, .int .i64 y] 45
  generalize hw1 : w.alloc (.cells #[.int .i64 op, .int .i64 a, .int .i64 b, .int .i64 x, .int .i64 y] 45) = w1 at *
  generalize hM : w.heap.size = M at *
  have c3 : w1.drew.cell? ⟨M, 3, none⟩ = some (.int .i64 x) := s0.drew.cell 0 rfl 3
  have c4 : w1.drew.cell? ⟨M, 4, none⟩ = some (.int .i64 y) := s0.drew.cell 0 rfl 4
  have HS0 := hid s0
  have hb := fun W v0 v1 v2 v3 v4 v5 v6 v7 v8 v9 => buildW W v0 v1 v2 v3 v4 v5 v6 v7 v8 v9
  have HWC : Hid (∀ q : Int, ((1 + 3 * homeM x n : Nat) : Int) = q → wordC (nvD base n x y) = #[.string ⟨#[83, 73, 90, 69]⟩, .int .i64 base, .string ⟨#[70, 73, 82, 83, 84]⟩, .int .i64 (base + 1), .string ⟨#[72, 79, 77, 69]⟩, .int .i64 (base + q), .string ⟨#[79, 78, 87, 65, 82, 68]⟩, .int .i64 (3 - (base + 1)), .string ⟨#[82, 79, 85, 78, 68]⟩, .int .i64 (3 * (n : Int)), .string ⟨#[70, 82, 69, 69]⟩, .int .i64 0, .string ⟨#[85, 83, 69, 68]⟩, .int .i64 1, .string ⟨#[71, 79, 78, 69]⟩, .int .i64 2, .string ⟨#[88]⟩, .int .i64 x, .string ⟨#[89]⟩, .int .i64 y]) := hid (fun q e => by subst e; rfl)
  clear s0 hs hE hx hy hhl
  generalize hq : ((1 + 3 * homeM x n : Nat) : Int) = q at *
  generalize hhm : homeM x n = hm0 at *
  have hn60 : (n : Int) ≤ 60 := by omega
  have wb0 : IntKind.i64.wrap base = base := by rw [IntKind.wrap_i64]; omega
  have wb2 : IntKind.i64.wrap (base + q) = base + q := by rw [IntKind.wrap_i64]; omega
  have wb3 : IntKind.i64.wrap (3 - (base + 1)) = 3 - (base + 1) := by rw [IntKind.wrap_i64]; omega
  have wb4 : IntKind.i64.wrap (3 * (n : Int)) = 3 * (n : Int) := by rw [IntKind.wrap_i64]; omega
  have hn0 : (0 : Int) < (n : Int) := by omega
  go_enter Tryz.func44, Tryz.ntmps44
  go_upto_region 2 with (first | simp only [hw1, hM] | (go_at_call 32; refine (hk _).mono ?_; rintro e w1 ⟨rfl, rfl⟩))
  refine (fun key : ?KEY ∧ True => ?main) ⟨?keyproof, trivial⟩
  case main =>
    go_region_held3 (fun W => W.cell? ⟨M, 3, none⟩ = some (.int .i64 x) ∧ W.cell? ⟨M, 4, none⟩ = some (.int .i64 y)) (first | exact ⟨c3, c4⟩ | exact ⟨(HS0.out.alloc _).drew.cell 0 rfl 3, (HS0.out.alloc _).drew.cell 0 rfl 4⟩) (first | (go_at_call 68; refine (hho _).mono ?_; rintro e w3 ⟨rfl, rfl⟩) | (go_at_call 32; refine (hst _).mono ?_; rintro e w4 ⟨rfl, rfl⟩))
    all_goals exact key.1
  case keyproof =>
    have s5 : St w [boxI w1.heap.size #[.string ⟨#[83, 73, 90, 69]⟩, .int .i64 base, .string ⟨#[70, 73, 82, 83, 84]⟩, .int .i64 (base + 1), .string ⟨#[72, 79, 77, 69]⟩, .int .i64 (base + q), .string ⟨#[79, 78, 87, 65, 82, 68]⟩, .int .i64 (3 - (base + 1)), .string ⟨#[82, 79, 85, 78, 68]⟩, .int .i64 (3 * (n : Int)), .string ⟨#[70, 82, 69, 69]⟩, .int .i64 0, .string ⟨#[85, 83, 69, 68]⟩, .int .i64 1, .string ⟨#[71, 79, 78, 69]⟩, .int .i64 2, .string ⟨#[88]⟩, .int .i64 x, .string ⟨#[89]⟩, .int .i64 y] 126] (w1.alloc (.cells #[.string ⟨#[83, 73, 90, 69]⟩, .int .i64 base, .string ⟨#[70, 73, 82, 83, 84]⟩, .int .i64 (base + 1), .string ⟨#[72, 79, 77, 69]⟩, .int .i64 (base + q), .string ⟨#[79, 78, 87, 65, 82, 68]⟩, .int .i64 (3 - (base + 1)), .string ⟨#[82, 79, 85, 78, 68]⟩, .int .i64 (3 * (n : Int)), .string ⟨#[70, 82, 69, 69]⟩, .int .i64 0, .string ⟨#[85, 83, 69, 68]⟩, .int .i64 1, .string ⟨#[71, 79, 78, 69]⟩, .int .i64 2, .string ⟨#[88]⟩, .int .i64 x, .string ⟨#[89]⟩, .int .i64 y] 126)).drew := St.cut (A := [_]) (B := [_]) ((HS0.out.box #[.string ⟨#[83, 73, 90, 69]⟩, .int .i64 base, .string ⟨#[70, 73, 82, 83, 84]⟩, .int .i64 (base + 1), .string ⟨#[72, 79, 77, 69]⟩, .int .i64 (base + q), .string ⟨#[79, 78, 87, 65, 82, 68]⟩, .int .i64 (3 - (base + 1)), .string ⟨#[82, 79, 85, 78, 68]⟩, .int .i64 (3 * (n : Int)), .string ⟨#[70, 82, 69, 69]⟩, .int .i64 0, .string ⟨#[85, 83, 69, 68]⟩, .int .i64 1, .string ⟨#[71, 79, 78, 69]⟩, .int .i64 2, .string ⟨#[88]⟩, .int .i64 x, .string ⟨#[89]⟩, .int .i64 y] 126).drew)
    generalize (w1.alloc (.cells #[.string ⟨#[83, 73, 90, 69]⟩, .int .i64 base, .string ⟨#[70, 73, 82, 83, 84]⟩, .int .i64 (base + 1), .string ⟨#[72, 79, 77, 69]⟩, .int .i64 (base + q), .string ⟨#[79, 78, 87, 65, 82, 68]⟩, .int .i64 (3 - (base + 1)), .string ⟨#[82, 79, 85, 78, 68]⟩, .int .i64 (3 * (n : Int)), .string ⟨#[70, 82, 69, 69]⟩, .int .i64 0, .string ⟨#[85, 83, 69, 68]⟩, .int .i64 1, .string ⟨#[71, 79, 78, 69]⟩, .int .i64 2, .string ⟨#[88]⟩, .int .i64 x, .string ⟨#[89]⟩, .int .i64 y] 126)).drew = w5 at *
    generalize w1.heap.size = g at *
    rw [← HWC.out q rfl] at s5
    have HS5 := hid s5
    clear s5 HS0 HWC c3 c4 hw1 hb hho hst hk wb0 wb2 wb3 wb4
    generalize hv : nvD base n x y = v at *
    have HV := hid hv
    clear hv
    go_wp2
    go_loopw [0, 47] (fun s i wr => ∃ j : Nat, j ≤ 10 ∧ i = .int .i64 j ∧ s = .string (bs (fillS t v j)) ∧ St w [boxI g (wordC v) 126] wr) (fun _ i _ => 10 - (intOf i).toNat)
    case atStart => exact ⟨0, by omega, rfl, rfl, HS5.out⟩
    case round =>
      obtain ⟨j, hj, rfl, rfl, hs⟩ := hrel
      by_cases hlt : j < 10
      · obtain ⟨a1, a2⟩ := word_at (v := v) hlt
        have c1 : wr.cell? ⟨g, j * 2, none⟩ = some (.string (bs (wd j))) := (hs.cell 0 rfl _).trans a1
        have c2 : wr.cell? ⟨g, j * 2 + 1, none⟩ = some (.int .i64 (v j)) := (hs.cell 0 rfl _).trans a2
        have s2 := hs.box #[.string (bs (wd j)), .int .i64 (v j)] 126
        obtain ⟨n1, n2⟩ := HN.out j
        generalize hM : wr.heap.size = M at *
        generalize hw2 : wr.alloc (.cells #[.string (bs (wd j)), .int .i64 (v j)] 126) = w2 at *
        have d1 : w2.drew.cell? ⟨M, 0, none⟩ = some (.string (bs (wd j))) := s2.drew.cell 0 rfl 0
        have d2 : w2.drew.cell? ⟨M, 1, none⟩ = some (.int .i64 (v j)) := s2.drew.cell 0 rfl 1
        have hq := itoa_any (w := w2.drew) (v j) n1 n2 (HE.out.kept s2.drew.same)
        have hil := Lib.itoa_length_le (v j) n1 n2
        have HR : Hid (∀ W, Kept (fun _ => False) w2.drew W → W.cell? ⟨M, 0, none⟩ = some (.string (bs (wd j))) ∧ Calls Tryz.prog 69 #[.string (bs (fillS t v j)), .string (bs (wd j)), .string (bs (Lib.itoa (v j)))] W fun e w' => e = .returned (.string (bs (fillS t v (j + 1)))) ∧ St w [boxI g (wordC v) 126] w') := hid (fun W k => ⟨(s2.drew.calm k).cell 0 rfl 0, (replaceAll_any (fillS t v j) (wd j) (Lib.itoa (v j)) W (HE.out.kept (s2.drew.calm k).same) (by have := HS.out j hj; omega) (wd_one hlt) (by omega)).mono (fun e w' he => ⟨he.1, ((s2.drew.calm k).calm he.2).pop⟩)⟩)
        have t0 : (0 : Int) ≤ (j : Int) := by omega
        have t1 : (j : Int) < 10 := by omega
        have HJ := hid hlt
        clear hs s2 a1 a2 n1 n2 hil hj hlt
        generalize bs (wd j) = wj at *
        generalize v j = nj at *
        generalize ht2 : bs (fillS t v (j + 1)) = t2 at *
        have HT2 := hid ht2
        clear ht2
        generalize bs (fillS t v j) = tt at *
        generalize bs (Lib.itoa nj) = ij at *
        go_upto_region 6 with (simp only [hM, hw2])
        refine (fun key : ?KEY2 ∧ True => ?main2) ⟨?keyproof2, trivial⟩
        case main2 =>
          go_region_with (first | (go_at_call 70; refine hq.mono ?_; rintro e w3 ⟨rfl, k3⟩; obtain ⟨d3, hp⟩ := HR.out w3 k3) | (go_at_call 69; refine hp.mono ?_; rintro e w4 ⟨rfl, s4⟩; have HS4 := hid s4; clear s4))
          all_goals
            revert HS4
            revert w4
            exact key.1
        case keyproof2 =>
          intro w4 HS4
          go_wp2
          go_roundw
          case rel => exact ⟨j + 1, by have := HJ.out; omega, by push_cast; rfl, by rw [HT2.out], HS4.out⟩
          case measure =>
            have := HJ.out
            simp [intOf]
            omega
      · obtain rfl : j = 10 := by omega
        go_wp2
        go_ret
        exact ⟨by rw [HV.out]; rfl, hs.same⟩
end Go.Proofs.YtbpilhjomfkpaaaGreatDoor

namespace Go.Proofs.YtbpilhjomfkpaaaGreatDoor
open Go.RowKit
set_option linter.unusedVariables false
set_option linter.unusedSimpArgs false
attribute [local go_sem ↓] Go.wp_at_zero Go.wp_at_succ

theorem bs_app (a b : List UInt8) : bs a ++ bs b = bs (a ++ b) := by
  apply ByteArray.ext
  simp [bs]
set_option maxRecDepth 100000 in
set_option maxHeartbeats 2000000 in
theorem textOf_any (op : Int) (ho : op = 1 ∨ op = 2 ∨ op = 3 ∨ op = 4 ∨ op = 5) (w : World) : Calls Tryz.prog 45 #[.int .i64 op] w fun e w' => e = .returned (.string (bs (textS op))) ∧ w' = w := by
  rcases ho with rfl | rfl | rfl | rfl | rfl
  all_goals
    go_enter Tryz.func45, Tryz.ntmps45
    go_wp2
    go_ret
    exact ⟨by kernel_rfl, rfl⟩
def okC (base n : Int) (d : Dd) : Bool := fitsS base n 256 && mayS d
/-- How Code ends. -/
def CodeE (base n : Int) (d : Dd) (w : World) (e : Ending) (w' : World) : Prop :=
  if okC base n d = true then ∃ lv, e = .returned (.tuple #[lv, .int .i64 0]) ∧ St w [ownI 91 2 lv (codeS (nvD base n.toNat d.x d.y) d.op).length (insCells (codeS (nvD base n.toNat d.x d.y) d.op))] w'
  else e = .returned (.tuple #[.slice none 0 0, .int .i64 190]) ∧ Kept (fun _ => False) w w'
set_option maxRecDepth 100000 in
set_option maxHeartbeats 8000000 in
theorem Code_any {w : World} {base n : Int} {d : Dd} (hE0 : Env w) (hx : Rg d.x) (hy : Rg d.y) : Calls Tryz.prog 24 #[.int .i64 base, .int .i64 n, d.val] w (CodeE base n d w) := by
  have hB := fun W => smay_any d W
  have hfit := fun W => fits_any base n 256 W (by decide) (by decide)
  have hop := fun (h : mayS d = true) => may_op h
  obtain ⟨op, a, b, x, y⟩ := d
  simp only at hx hy hop
  have s1 := (St.nil w).box #[.int .i64 op, .int .i64 a, .int .i64 b, .int .i64 x, .int .i64 y] 45
  have HN : Hid (okC base n ⟨op, a, b, x, y⟩ = false → ∀ w', Kept (fun _ => False) w w' → CodeE base n ⟨op, a, b, x, y⟩ w (.returned (.tuple #[.slice none 0 0, .int .i64 190])) w') := hid (fun h w' k => by
    unfold CodeE
    rw [if_neg (by rw [h]; decide)]
    exact ⟨rfl, k⟩)
  have HY : Hid (okC base n ⟨op, a, b, x, y⟩ = true → ∀ lv w', St w [ownI 91 2 lv (codeS (nvD base n.toNat x y) op).length (insCells (codeS (nvD base n.toNat x y) op))] w' → CodeE base n ⟨op, a, b, x, y⟩ w (.returned (.tuple #[lv, .int .i64 0])) w') := hid (fun h lv w' s => by
    unfold CodeE
    rw [if_pos h]
    exact ⟨lv, rfl, s⟩)
  show Calls _ _ #[_, _, .agg #[.int .i64 op, .int .i64 a, .int .i64 b, .int .i64 x, .int .i64 y]] _ _
  have hB1 : ∀ W, Calls Tryz.prog 41 #[.agg #[.int .i64 op, .int .i64 a, .int .i64 b, .int .i64 x, .int .i64 y]] W fun e w' => e = .returned (.bool (mayS ⟨op, a, b, x, y⟩)) ∧ Kept (fun _ => False) W w' := hB
  clear hB
  generalize hw1 : w.alloc (.cells #[.int .i64 op, .int .i64 a, .int .i64 b, .int .i64 x, .int .i64 y] 45) = w1 at *
  generalize hM : w.heap.size = M at *
  have c0 : w1.cell? ⟨M, 0, none⟩ = some (.int .i64 op) := s1.cell 0 rfl 0
  have c1 : w1.cell? ⟨M, 1, none⟩ = some (.int .i64 a) := s1.cell 0 rfl 1
  have c2 : w1.cell? ⟨M, 2, none⟩ = some (.int .i64 b) := s1.cell 0 rfl 2
  have c3 : w1.cell? ⟨M, 3, none⟩ = some (.int .i64 x) := s1.cell 0 rfl 3
  have c4 : w1.cell? ⟨M, 4, none⟩ = some (.int .i64 y) := s1.cell 0 rfl 4
  have HK := hid s1.same
  have hF1 := hfit w1
  have hB2 := hB1 w1
  have HE := hid hE0
  clear hfit hB1 hE0
  cases hf : fitsS base n 256 with
  | false =>
    have hno := hid (HN.out (by unfold okC; rw [hf]; rfl))
    rw [hf] at hF1
    generalize CodeE base n ⟨op, a, b, x, y⟩ w = Q at *
    clear HN HY s1 hf hop
    go_enter Tryz.func24, Tryz.ntmps24
    go_wp2_with (first | simp only [hw1, hM] | (go_at_call 33; refine hF1.mono ?_; rintro e w' ⟨rfl, rfl⟩))
    exact hno.out _ HK.out
  | true =>
    rw [hf] at hF1
    cases hmy : mayS ⟨op, a, b, x, y⟩ with
    | false =>
      have hno := hid (HN.out (by unfold okC; rw [hmy, Bool.and_false]))
      rw [hmy] at hB2
      generalize CodeE base n ⟨op, a, b, x, y⟩ w = Q at *
      clear HN HY s1 hf hmy hop
      go_enter Tryz.func24, Tryz.ntmps24
      go_wp2_with (first | simp only [hw1, hM] | (go_at_call 33; refine hF1.mono ?_; rintro e w' ⟨rfl, rfl⟩) | (go_at_call 41; refine hB2.mono ?_; rintro e w2 ⟨rfl, k2⟩))
      exact hno.out _ (HK.out.trans k2 (fun _ _ f => f))
    | true =>
      have hyes := hid (HY.out (by unfold okC; rw [hf, hmy]; rfl))
      rw [hmy] at hB2
      have ho := hop hmy
      have hb : 0 ≤ base ∧ base ≤ 256 ∧ 1 ≤ n ∧ n ≤ 60 := by
        unfold fitsS at hf
        simp only [Bool.and_eq_true, decide_eq_true_eq] at hf
        have := roomS_le n
        have := roomS_pos hf.1
        omega
      have hrn : Rng (nvD base n.toNat x y) := nvD_rng hb.1 hb.2.1 (by omega) (by omega) hx hy
      obtain ⟨k, rfl⟩ : ∃ k : Nat, n = (k : Int) := ⟨n.toNat, by omega⟩
      simp only [Int.toNat_natCast] at *
      obtain ⟨hpar, hpl, hlen⟩ := text_ok ho hrn
      have hT := fun W => textOf_any op ho W
      have hFi := hid fun (W : World) (k0 : Kept (fun _ => False) w W) => fill_any (textS op) base k op a b x y W (HE.out.kept k0) hb.1 hb.2.1 (by omega) (by omega) hx hy (fun j hj => short_ok ho hrn j hj)
      have hPa : Hid (∀ W, Kept (fun _ => False) w W → Calls Tryz.prog 43 #[.string (bs (wholeS (nvD base k x y) op))] W fun e w' => ∃ lv, e = .returned (.tuple #[lv, .int .i64 0, .int .i64 0]) ∧ St W [ownI 91 2 lv (codeS (nvD base k x y) op).length (insCells (codeS (nvD base k x y) op))] w') := hid (fun W k0 => by
        have := Parse_any (bs (wholeS (nvD base k x y) op)) W (HE.out.kept k0) hpl (by simp only [bs, ByteArray.size, List.size_toArray]; omega)
        rw [hpar] at this
        exact this)
      have hl5 := short_ok ho hrn 10 (by omega)
      have hcat : (⟨#[98, 101, 103, 105, 110, 10]⟩ : ByteArray) ++ bs (fillS (textS op) (nvD base k x y) 10) ++ ⟨#[99, 111, 109, 109, 105, 116, 10]⟩ = bs (wholeS (nvD base k x y) op) := by
        unfold wholeS
        exact (by rw [bs_app, bs_app] : bs [98, 101, 103, 105, 110, 10] ++ bs (fillS (textS op) (nvD base k x y) 10) ++ bs [99, 111, 109, 109, 105, 116, 10] = _)
      have z1 : ¬ 9223372036854775807 < 6 + (bs (fillS (textS op) (nvD base k x y) 10)).size := by simp only [bs, ByteArray.size, List.size_toArray]; omega
      have z2 : ¬ 9223372036854775807 < 6 + (bs (fillS (textS op) (nvD base k x y) 10)).size + 7 := by simp only [bs, ByteArray.size, List.size_toArray]; omega
      rw [← hcat] at hPa
      generalize CodeE base (k : Int) ⟨op, a, b, x, y⟩ w = Q at *
      have HS := hid s1
      clear HN HY s1 hf hmy hop hpar hpl hlen hcat hl5
      generalize bs (fillS (textS op) (nvD base k x y) 10) = tt at *
      generalize bs (textS op) = t0 at *
      generalize codeS (nvD base k x y) op = cs at *
      go_enter Tryz.func24, Tryz.ntmps24
      go_upto_region 3 with (first | simp only [hw1, hM] | (go_at_call 33; refine hF1.mono ?_; rintro e w' ⟨rfl, rfl⟩) | (go_at_call 41; refine hB2.mono ?_; rintro e w2 ⟨rfl, k2⟩))
      have s2 := (HS.out.calm k2).drew
      have d0 : w2.drew.cell? ⟨M, 0, none⟩ = some (.int .i64 op) := s2.cell 0 rfl 0
      have d1 : w2.drew.cell? ⟨M, 1, none⟩ = some (.int .i64 a) := s2.cell 0 rfl 1
      have d2 : w2.drew.cell? ⟨M, 2, none⟩ = some (.int .i64 b) := s2.cell 0 rfl 2
      have d3 : w2.drew.cell? ⟨M, 3, none⟩ = some (.int .i64 x) := s2.cell 0 rfl 3
      have d4 : w2.drew.cell? ⟨M, 4, none⟩ = some (.int .i64 y) := s2.cell 0 rfl 4
      have hF3 := hFi.out w2.drew s2.same
      have HK2 := hid s2.same
      clear c0 c1 c2 c3 c4 s2 hB2 hF1
      go_region_with (first | (go_at_call 45; refine (hT _).mono ?_; rintro e w' ⟨rfl, rfl⟩) | (go_at_call 44; refine hF3.mono ?_; rintro e w3 ⟨rfl, k3⟩; have hp := hPa.out w3 (HK2.out.trans k3 (fun _ _ f => f))) | (go_at_call 43; refine hp.mono ?_; rintro e w4 ⟨lv, rfl, s4⟩; have HS4 := hid (s4.base (HK2.out.trans k3 (fun _ _ f => f))); clear s4))
      all_goals go_wp2
      all_goals exact hyes.out _ _ HS4.out
end Go.Proofs.YtbpilhjomfkpaaaGreatDoor
