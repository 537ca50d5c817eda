/- The document's Lay. -/
import Derived.Test.YtahokdgodhhchaaGreatDoorRrA
namespace Go.Proofs.YtahokdgodhhchaaGreatDoor
open Go.RowKit
set_option linter.unusedVariables false
set_option linter.unusedSimpArgs false
attribute [local go_sem ↓] Go.wp_at_zero Go.wp_at_succ

theorem getD_set_other (zs : List Int) {i j : Nat} (h : i ≠ j) (x : Int) : (zs.set i x).getD j 0 = zs.getD j 0 := by
  simp only [List.getD_eq_getElem?_getD]
  rw [List.getElem?_set_ne h]
theorem place_inj {n f i j : Nat} (hi : i < n) (hj : j < n) (h : (f + i) % n = (f + j) % n) : i = j := by
  have key : ∀ a b : Nat, a ≤ b → b < n → (f + a) % n = (f + b) % n → a = b := fun a b hab hb he => by
    have h1 := Nat.div_add_mod (f + a) n
    have h2 := Nat.div_add_mod (f + b) n
    have h3 : (f + a) / n ≤ (f + b) / n := Nat.div_le_div_right (by omega)
    rw [he] at h1
    obtain ⟨q, hq⟩ : ∃ q, (f + b) / n = (f + a) / n + q := ⟨_, (Nat.add_sub_cancel' h3).symm⟩
    rw [hq, Nat.mul_add] at h2
    cases q with
    | zero => omega
    | succ q =>
      rw [Nat.mul_succ] at h2
      omega
  rcases Nat.le_total i j with h1 | h1
  · exact key i j h1 hj h
  · exact (key j i h1 hi h.symm).symm
/-- Cells in which the first j values of l stand from the front f on. -/
def LaidM (l : List Int) (n f j : Nat) (zs : List Int) : Prop := zs.length = 2 + n ∧ zs.getD 0 0 = (f : Int) ∧ zs.getD 1 0 = (l.length : Int) ∧ ∀ i, i < j → zs.getD (2 + (f + i) % n) 0 = l.getD i 0
theorem LaidM.step {l : List Int} {n f j : Nat} {zs : List Int} (h : LaidM l n f j zs) (hn : 0 < n) (hj : j < n) : LaidM l n f (j + 1) (zs.set (2 + (f + j) % n) (l.getD j 0)) := by
  have hm := Nat.mod_lt (f + j) hn
  refine ⟨by rw [List.length_set]; exact h.1, ?_, ?_, fun i hi => ?_⟩
  · rw [getD_set_other _ (by omega)]; exact h.2.1
  · rw [getD_set_other _ (by omega)]; exact h.2.2.1
  · by_cases e : i = j
    · subst e
      exact getD_set_same _ (by rw [h.1]; omega) _
    · have hne : (f + j) % n ≠ (f + i) % n := fun he => e (place_inj (by omega) hj he.symm)
      rw [getD_set_other _ (by omega)]
      exact h.2.2.2 i (by omega)
theorem LaidM.read {l : List Int} {n f : Nat} {zs : List Int} (h : LaidM l n f l.length zs) (hf : f < n) (hl : l.length ≤ n) : readM zs n = some l := by
  unfold readM ringB
  rw [h.2.1, h.2.2.1, if_pos (by simp only [Bool.and_eq_true, decide_eq_true_eq]; omega)]
  simp only [Int.toNat_natCast]
  congr 1
  apply List.ext_getElem?
  intro i
  by_cases hi : i < l.length
  · have h4 := h.2.2.2 i hi
    simp only [valsM, List.getElem?_map, List.getElem?_range hi, Option.map_some]
    rw [h4, List.getD_eq_getElem?_getD, List.getElem?_eq_getElem hi]
    rfl
  · rw [List.getElem?_eq_none (by rw [valsM_length]; omega), List.getElem?_eq_none (by omega)]
set_option maxRecDepth 100000 in
set_option maxHeartbeats 8000000 in
theorem Lay_any (la : Option Addr) (m lc : Nat) (l : List Int) (n : Nat) (seed : Int) (w : World) (hX : XIn w la m l) (hn : 0 < n) (hn2 : n ≤ 100) (hl : m ≤ n) (hs0 : -9223372036854775808 ≤ seed) (hs1 : seed ≤ 9223372036854775807) :
    Calls Tryz.prog 19 #[.slice la m lc, .int .i64 n, .int .i64 seed] w fun e w' => ∃ g zs, e = .returned (.slice (some ⟨g, 0, none⟩) (2 + n) (2 + n)) ∧ zs.length = 2 + n ∧ readM zs n = some l ∧ St w [rowI g (2 + n) (2 + n) zs] w' := by
  have hml := hX.1
  have hmk := makeX (2 + n) (2 + (n : Int)) (by push_cast; rfl) (by omega) w
  have s0 : St w (rowI w.heap.size (2 + n) (2 + n) (List.replicate (2 + n) 0) :: []) (w.alloc (.cells (xC (List.replicate (2 + n) 0)).toArray 2)) := by
    have := (St.nil w).new64 (List.replicate (2 + n) 0) (by rw [List.length_replicate]; unfold maxLen; omega)
    rw [List.length_replicate] at this
    exact this
  generalize xC (List.replicate (2 + n) 0) = zz at *
  generalize hw1 : w.alloc (.cells zz.toArray 2) = w1 at *
  generalize hg : w.heap.size = g at *
  have HS0 : Hid (∃ zs, St w [rowI g (2 + n) (2 + n) zs] w1) := hid ⟨_, s0⟩
  have HX := hid hX
  have HML := hid hml
  have HL := hid hl
  have hsd : ∃ s : Nat, s ≤ 1000003 ∧ ((seed.tmod 1000003 < 0 ∧ -(seed.tmod 1000003 + 1) = (s : Int)) ∨ (¬ seed.tmod 1000003 < 0 ∧ seed.tmod 1000003 = (s : Int))) := by
    have h1 := Int.tmod_lt_of_pos seed (show (0 : Int) < 1000003 by decide)
    have h2 := Int.lt_tmod_of_pos seed (show (0 : Int) < 1000003 by decide)
    by_cases h : seed.tmod 1000003 < 0
    · exact ⟨(-(seed.tmod 1000003 + 1)).toNat, by omega, .inl ⟨h, by omega⟩⟩
    · exact ⟨(seed.tmod 1000003).toNat, by omega, .inr ⟨h, by omega⟩⟩
  obtain ⟨s, hs9, hsd⟩ := hsd
  have hr1 := Int.tmod_lt_of_pos seed (show (0 : Int) < 1000003 by decide)
  have hr2 := Int.lt_tmod_of_pos seed (show (0 : Int) < 1000003 by decide)
  have hn0 : (0 : Int) < (n : Int) := by omega
  have hn9 : (n : Int) ≤ 100 := by omega
  have hnz : ¬ ((n : Int) = 0) := by omega
  have hs9i : (s : Int) ≤ 1000003 := by omega
  have hs0i : (0 : Int) ≤ (s : Int) := by omega
  clear s0 hX hml hl
  go_enter Tryz.func19, Tryz.ntmps19
  go_upto_region 3 with (simp only [hmk, hw1, hg])
  have hmd : ((s : Int) % (n : Int)) = ((s % n : Nat) : Int) := by push_cast; rfl
  have hmt : ((s : Int).tmod (n : Int)) = ((s % n : Nat) : Int) := by rw [Int.tmod_eq_emod_of_nonneg (by omega)]; push_cast; rfl
  have hfn : s % n < n := Nat.mod_lt _ hn
  generalize hrr : seed.tmod 1000003 = rr at *
  clear hrr hr1 hr2 hs0 hs1 hmk hw1 hg
  have hsd2 : (rr = -(s : Int) - 1) ∨ rr = (s : Int) := by omega
  have HF := hid hfn
  have HN := hid hn
  have HN2 := hid hn2
  generalize hfe : s % n = f at *
  clear hsd hfn hfe hn hn2
  rcases hsd2 with rfl | rfl
  case' inl => have tn : decide (-(s : Int) - 1 < 0) = true := decide_eq_true (by omega)
  case' inr => have tn : decide ((s : Int) < 0) = false := decide_eq_false (by omega)
  all_goals
    go_wp2
    go_loopw [8] (fun i wr => ∃ (j : Nat) (zs : List Int), i = .int .i64 j ∧ j ≤ n ∧ St w [rowI g (2 + n) (2 + n) zs] wr) (fun i _ => n - (intOf i).toNat)
    case atStart => obtain ⟨zs, hz⟩ := HS0.out; exact ⟨0, zs, rfl, Nat.zero_le _, hz⟩
    case round =>
      obtain ⟨j, zs, rfl, hj, hst⟩ := hrel
      have b2 := HN2.out
      by_cases hlt : j < n
      · have f2 : wr.frozen? ⟨g, 2 + j, none⟩ = false := row_frozen hst _
        obtain ⟨u2, c2⟩ : ∃ u, wr.cell? ⟨g, 2 + j, none⟩ = some u := ⟨_, row_cell hst (j := 2 + j) (by omega)⟩
        have HT : Hid (∀ u, St w [rowI g (2 + n) (2 + n) (zs.set (2 + j) u)] (wr.setCell ⟨g, 2 + j, none⟩ (.int .i64 u))) := hid (fun u => row_set hst (j := 2 + j) (by omega) u)
        have n1 : (2 + (j : Int)).toNat = 2 + j := by omega
        have z0 : (0 : Int) ≤ 2 + (j : Int) := by omega
        have z1 : 2 + (j : Int) < ((2 + n : Nat) : Int) := by omega
        have z2 : (j : Int) ≤ 100 := by omega
        have z3 : (0 : Int) ≤ (j : Int) := by omega
        have z4 : ¬ ((j : Int) + 3 = 0) := by omega
        have z5 : (((j : Int) + 3) == 0) = false := by simp; omega
        have t1 : (j : Int) < (n : Int) := by omega
        have HJ := hid hlt
        clear hst hj hlt b2
        go_wp2
        go_roundw
        case rel => exact ⟨j + 1, _, by push_cast; rfl, by have := HJ.out; omega, HT.out _⟩
        case measure =>
          have := HJ.out
          simp [intOf]
          omega
      · have t1 : ¬ (j : Int) < (n : Int) := by omega
        have hzl : 2 + n = zs.length := row_len hst
        have f0 : wr.frozen? ⟨g, 0, none⟩ = false := row_frozen hst _
        obtain ⟨u0, c0⟩ : ∃ u, wr.cell? ⟨g, 0, none⟩ = some u := ⟨_, row_cell hst (j := 0) (by omega)⟩
        have s2 := row_set hst (j := 0) (by omega) (f : Int)
        have f1 : (wr.setCell ⟨g, 0, none⟩ (.int .i64 (f : Int))).frozen? ⟨g, 1, none⟩ = false := row_frozen s2 _
        obtain ⟨u1, c1⟩ : ∃ u, (wr.setCell ⟨g, 0, none⟩ (.int .i64 (f : Int))).cell? ⟨g, 1, none⟩ = some u := ⟨_, row_cell s2 (j := 1) (by omega)⟩
        have s3 := row_set s2 (j := 1) (by omega) (m : Int)
        have HLM : Hid (LaidM l n f 0 ((zs.set 0 (f : Int)).set 1 (m : Int))) := hid ⟨by simp [← hzl], by rw [getD_set_other _ (by omega)]; exact getD_set_same _ (by omega) _, by rw [getD_set_same _ (by rw [List.length_set]; omega), HML.out], fun i hi => by omega⟩
        have HS3 := hid s3
        have q0 : (0 : Int) < ((2 + n : Nat) : Int) := by omega
        have q1 : (1 : Int) < ((2 + n : Nat) : Int) := by omega
        clear hst hj hlt hzl s2 s3 b2
        go_upto_region 11 with fail
        clear c0 f0 c1 f1
        generalize (wr.setCell ⟨g, 0, none⟩ (.int .i64 (f : Int))).setCell ⟨g, 1, none⟩ (.int .i64 (m : Int)) = wk at *
        go_wp2
        go_loopw [9] (fun i wr => ∃ (q : Nat) (ys : List Int), i = .int .i64 q ∧ q ≤ m ∧ LaidM l n f q ys ∧ St w [rowI g (2 + n) (2 + n) ys] wr) (fun i _ => m - (intOf i).toNat)
        case atStart => exact ⟨0, _, rfl, Nat.zero_le _, HLM.out, HS3.out⟩
        case round =>
          obtain ⟨q, ys, rfl, hq, hlm, hst⟩ := hrel
          have b2 := HN2.out
          have b3 := HF.out
          have b4 := HL.out
          by_cases hlt : q < m
          · obtain ⟨gl, ol, rfl⟩ := HX.out.addr (by omega)
            have hmd2 : (f + q) % n < n := Nat.mod_lt _ HN.out
            have d1 : wr.drew.cell? ⟨gl, ol + q, none⟩ = some (.int .i64 (l.getD q 0)) := (HX.out.kept hst.drew.same).cell hlt
            have f2 : wr.drew.frozen? ⟨g, 2 + (f + q) % n, none⟩ = false := row_frozen hst.drew _
            obtain ⟨u2, c2⟩ : ∃ u, wr.drew.cell? ⟨g, 2 + (f + q) % n, none⟩ = some u := ⟨_, row_cell hst.drew (j := 2 + (f + q) % n) (by omega)⟩
            have HT := hid (row_set hst.drew (j := 2 + (f + q) % n) (by omega) (l.getD q 0))
            have HT2 := hid (row_set hst (j := 2 + (f + q) % n) (by omega) (l.getD q 0)).drew
            have HLM2 := hid (hlm.step HN.out (by omega))
            have e1 : ((f : Int) + (q : Int)) % (n : Int) = (((f + q) % n : Nat) : Int) := by push_cast; rfl
            have e2 : ((f : Int) + (q : Int)).tmod (n : Int) = (((f + q) % n : Nat) : Int) := by rw [Int.tmod_eq_emod_of_nonneg (by omega)]; push_cast; rfl
            have w1 : IntKind.i64.wrap ((f : Int) + (q : Int)) = (f : Int) + (q : Int) := by rw [IntKind.wrap_i64]; omega
            generalize l.getD q 0 = lv at *
            generalize hre : (f + q) % n = r at *
            have w2 : IntKind.i64.wrap (2 + (r : Int)) = 2 + (r : Int) := by rw [IntKind.wrap_i64]; omega
            have n1 : (2 + (r : Int)).toNat = 2 + r := by omega
            have z0 : (0 : Int) ≤ 2 + (r : Int) := by omega
            have z1 : 2 + (r : Int) < ((2 + n : Nat) : Int) := by omega
            have z2 : (0 : Int) ≤ (q : Int) := by omega
            have z3 : (q : Int) ≤ 100 := by omega
            have z4 : (f : Int) ≤ 100 := by omega
            have z5 : (0 : Int) ≤ (f : Int) + (q : Int) := by omega
            have t2 : (q : Int) < (m : Int) := by omega
            have z6 : ((n : Int) == 0) = false := by simp; omega
            have HJ := hid hlt
            clear hst hlm hq hlt b2 b3 b4 hre hmd2
            go_upto_region 14 with fail
            go_region_with fail
            all_goals go_wp2
            all_goals go_roundw
            all_goals first
              | exact ⟨q + 1, _, by push_cast; rfl, by have := HJ.out; omega, HLM2.out, HT.out⟩
              | exact ⟨q + 1, _, by push_cast; rfl, by have := HJ.out; omega, HLM2.out, HT2.out⟩
              | (have := HJ.out; simp [intOf]; omega)
          · have t2 : ¬ (q : Int) < (m : Int) := by omega
            obtain rfl : q = m := by omega
            have hrd : readM ys n = some l := by
              have h9 := hlm
              rw [HML.out] at h9
              exact h9.read b3 (by have := HML.out; omega)
            have HR := hid hrd
            have HYL := hid hlm.1
            have HS := hid hst
            clear hst hlm hq hlt hrd b2 b3 b4
            go_wp2
            go_ret
            exact ⟨g, rfl, ys, HYL.out, HR.out, HS.out⟩
end Go.Proofs.YtahokdgodhhchaaGreatDoor
