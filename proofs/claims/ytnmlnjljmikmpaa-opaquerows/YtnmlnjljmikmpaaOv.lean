/- The first example; lists of places that are the same. -/
import Derived.Test.YtnmlnjljmikmpaaOu
namespace Go.Proofs.Ytnmlnjljmikmpaa
open Go.RowKit Go.Shelf
set_option linter.unusedVariables false
set_option linter.unusedSimpArgs false
attribute [local go_sem ↓] Go.wp_at_zero Go.wp_at_succ

set_option maxRecDepth 100000 in
set_option maxHeartbeats 4000000 in
theorem sameInts_any {w : World} {la lb : Option Addr} {n m lc ld : Nat} {xs ys : List Int} (ha : RIn iC w la n xs) (hb : RIn iC w lb m ys) (hn : (n : Int) ≤ 9223372036854775806) (hm : (m : Int) ≤ 9223372036854775806) :
    Calls Try.prog 12 #[.slice la n lc, .slice lb m ld] w fun e w' => e = .returned (.bool (decide (xs = ys))) ∧ Kept (fun _ => False) w w' := by
  have HA := hid ha
  have HB := hid hb
  have HNA := hid ha.1
  have HNB := hid hb.1
  by_cases hnm : n = m
  · subst hnm
    have tn : ((n : Int) != (n : Int)) = false := by simp
    clear ha hb
    go_enter Try.func12, Try.ntmps12
    go_upto_region 4 with fail
    go_loopw [5] (fun i wr => ∃ j : Nat, i = .int .i64 j ∧ j ≤ n ∧ xs.take j = ys.take j ∧ Kept (fun _ => False) w wr) (fun i _ => n - (intOf i).toNat)
    case atStart => exact ⟨0, rfl, Nat.zero_le _, rfl, Kept.refl _ _⟩
    case round =>
      obtain ⟨j, rfl, hj, he, hk⟩ := hrel
      by_cases hlt : j < n
      · have hlt' : (j : Int) < (n : Int) := by omega
        have hj0 : (0 : Int) ≤ (j : Int) := by omega
        obtain ⟨g, off, rfl⟩ := HA.out.addr (by omega)
        obtain ⟨g2, off2, rfl⟩ := HB.out.addr (by omega)
        obtain ⟨x, hx⟩ : ∃ x, xs[j]? = some x := ⟨_, List.getElem?_eq_getElem (by have := HNA.out; omega)⟩
        obtain ⟨y, hy⟩ : ∃ y, ys[j]? = some y := ⟨_, List.getElem?_eq_getElem (by have := HNB.out; omega)⟩
        have q0 := (HA.out.kept hk).at (k := 1) (fun _ => rfl) hx 0 _ rfl
        have p0 := (HB.out.kept hk).at (k := 1) (fun _ => rfl) hy 0 _ rfl
        have q1 := (HA.out.kept hk.drew).at (k := 1) (fun _ => rfl) hx 0 _ rfl
        have p1 := (HB.out.kept hk.drew).at (k := 1) (fun _ => rfl) hy 0 _ rfl
        rw [Nat.mul_one, Nat.add_zero] at q0 p0 q1 p1
        have HJ : Hid (j + 1 ≤ n ∧ n - (j + 1) < n - j) := hid ⟨by omega, by omega⟩
        have HX := hid hx
        have HY := hid hy
        have HE := hid he
        have HK := hid hk
        clear hx hy he hk hj hlt
        by_cases hxy : x = y
        · subst hxy
          have t0 : (x != x) = false := by simp
          have HE2 : Hid (xs.take (j + 1) = ys.take (j + 1)) := hid (by rw [List.take_add_one, List.take_add_one, HE.out, HX.out, HY.out])
          go_upto_region 6 with fail
          go_region
          go_wp2
          go_roundw
          case rel => exact ⟨j + 1, by simp, HJ.out.1, HE2.out, HK.out.drew⟩
          case measure => have := HJ.out.2; simp [intOf]; omega
        · have t0 : (x != y) = true := by simpa using hxy
          have HR : Hid (decide (xs = ys) = false) := hid (by
            simp only [decide_eq_false_iff_not]
            rintro rfl
            have h1 := HX.out
            have h2 := HY.out
            rw [h1] at h2
            simp only [Option.some.injEq] at h2
            exact hxy h2)
          clear hxy
          go_upto_region 6 with fail
          go_region
          go_wp2
          go_ret
          exact ⟨by rw [HR.out]; rfl, HK.out.drew⟩
      · have hlt' : ¬ (j : Int) < (n : Int) := by omega
        have HR : Hid (decide (xs = ys) = true) := hid (by
          rw [List.take_of_length_le (by have := HNA.out; omega), List.take_of_length_le (by have := HNB.out; omega)] at he
          simpa using he)
        have HK := hid hk
        clear he hk hj hlt
        go_wp2
        go_ret
        exact ⟨by rw [HR.out]; rfl, HK.out⟩
  · have tn : ((n : Int) != (m : Int)) = true := by simp; omega
    have HR : Hid (decide (xs = ys) = false) := hid (by
      simp only [decide_eq_false_iff_not]
      rintro rfl
      have := HNA.out
      have := HNB.out
      omega)
    clear hnm ha hb
    go_enter Try.func12, Try.ntmps12
    go_wp2
    go_ret
    exact ⟨by rw [HR.out]; rfl, Kept.refl _ _⟩
def exM1 : List Mv := [⟨3, false, 0, 0, false, 2⟩, ⟨4, true, 0, 1, false, 0⟩]
def exM2 : List Mv := [⟨9, false, 0, 1, false, 4⟩]
def exM3 : List Mv := [⟨4, false, 0, 0, false, 2⟩]
def exS : List Sy := [⟨0, 1, 1, 5, 1, 0, 0, 0, 3, exM1⟩, ⟨0, 6, 6, 0, 0, 0, 0, 0, 0, exM2⟩, ⟨1, 2, 2, 8, 2, 0, 0, 0, 0, exM3⟩]
def exL (a b c : Nat) : List Sm := [⟨⟨0, 1, 1, 5, 1, 0, 0, 0, 3, exM1⟩, some ⟨a, 0, none⟩, 2⟩, ⟨⟨0, 6, 6, 0, 0, 0, 0, 0, 0, exM2⟩, some ⟨b, 0, none⟩, 1⟩, ⟨⟨1, 2, 2, 8, 2, 0, 0, 0, 0, exM3⟩, some ⟨c, 0, none⟩, 1⟩]
theorem exL_s (a b c : Nat) : smS (exL a b c) = exS := rfl
theorem buildI3 (W : World) (a b c : Int) : (Instr.buildSlice 24 3 #[(0, .int .i64 a), (1, .int .i64 b), (2, .int .i64 c)]).run Try.prog W = .ok (.slice (some ⟨W.heap.size, 0, none⟩) 3 3) (W.alloc (.cells (fl iC [a, b, c]).toArray 3)) := by kernel_rfl
set_option maxRecDepth 100000 in
set_option maxHeartbeats 4000000 in
theorem three_any (w : World) : Calls Try.prog 19 #[] w fun e w' => ∃ la L, e = .returned (.slice la 3 3) ∧ LIn w' la 3 L ∧ smS L = exS ∧ Kept (fun _ => False) w w' := by
  have s1 := r_new (f := mC) (k := 6) (fun _ => rfl) 46 (St.nil w) exM1 (by unfold maxLen; decide)
  have s2 := r_new (f := mC) (k := 6) (fun _ => rfl) 46 s1 exM2 (by unfold maxLen; decide)
  have s3 := r_new (f := mC) (k := 6) (fun _ => rfl) 46 s2 exM3 (by unfold maxLen; decide)
  have s4 := r_new (f := sC) (k := 10) (fun _ => rfl) 44 s3 (exL w.heap.size (w.heap.size + 1) (w.heap.size + 1 + 1)) (by simp [exL, maxLen])
  simp only [alloc_size] at s4
  have HL : Hid (LIn (((((w.alloc (.cells (fl mC exM1).toArray 46)).alloc (.cells (fl mC exM2).toArray 46)).alloc (.cells (fl mC exM3).toArray 46)).alloc (.cells (fl sC (exL w.heap.size (w.heap.size + 1) (w.heap.size + 1 + 1))).toArray 44))) (some ⟨w.heap.size + 1 + 1 + 1, 0, none⟩) 3 (exL w.heap.size (w.heap.size + 1) (w.heap.size + 1 + 1))) := hid (by
    refine ⟨st_rin s4 0 rfl rfl (fun _ => rfl), fun m hm => ?_⟩
    have r1 := st_rin (la := some ⟨w.heap.size, 0, none⟩) (lc := 2) (n := 2) (xs := exM1) (f := mC) s4 3 rfl rfl (fun _ => rfl)
    have r2 := st_rin (la := some ⟨w.heap.size + 1, 0, none⟩) (lc := 1) (n := 1) (xs := exM2) (f := mC) s4 2 rfl rfl (fun _ => rfl)
    have r3 := st_rin (la := some ⟨w.heap.size + 1 + 1, 0, none⟩) (lc := 1) (n := 1) (xs := exM3) (f := mC) s4 1 rfl rfl (fun _ => rfl)
    simp only [exL, List.mem_cons, List.not_mem_nil, or_false] at hm
    rcases hm with rfl | rfl | rfl
    · exact ⟨r1, (show 2 ≤ 2932031007317 by decide), (show ∀ x ∈ exM1, -9223372036854775808 ≤ x.ce ∧ x.ce ≤ 9223372036854775807 from by decide)⟩
    · exact ⟨r2, (show 1 ≤ 2932031007317 by decide), (show ∀ x ∈ exM2, -9223372036854775808 ≤ x.ce ∧ x.ce ≤ 9223372036854775807 from by decide)⟩
    · exact ⟨r3, (show 1 ≤ 2932031007317 by decide), (show ∀ x ∈ exM3, -9223372036854775808 ≤ x.ce ∧ x.ce ≤ 9223372036854775807 from by decide)⟩)
  have HK := hid s4.same
  clear s1 s2 s3 s4
  go_enter Try.func19, Try.ntmps19
  go_wp2
  go_ret
  exact ⟨_, _, rfl, HL.out, exL_s _ _ _, HK.out⟩
theorem ex_chk1 : chk [] exS [2, 0, 1] = (0, 0) := by kernel_rfl
theorem ex_chk2 : chk [] exS [0, 2, 1] = (222, 1) := by kernel_rfl
theorem ex_chk3 : chk [] exS [1, 0, 2] = (221, 1) := by kernel_rfl
theorem ex_srch : srchM [] exS = ([2, 0, 1], true, 0) := by kernel_rfl
theorem ex_srt : Srt (fun i => ptOf (exS.getD i Sy.zero)) 0 3 [2, 0, 1] := ⟨by decide, by decide⟩
end Go.Proofs.Ytnmlnjljmikmpaa
