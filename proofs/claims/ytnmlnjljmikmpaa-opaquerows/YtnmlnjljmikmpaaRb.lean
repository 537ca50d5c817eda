/- The document's Every. -/
import Derived.Test.YtnmlnjljmikmpaaRa3
namespace Go.Proofs.Ytnmlnjljmikmpaa
open Go.RowKit Go.Shelf
set_option linter.unusedVariables false
set_option linter.unusedSimpArgs false
attribute [local go_sem ↓] Go.wp_at_zero Go.wp_at_succ

set_option maxRecDepth 100000 in
set_option maxHeartbeats 4000000 in
theorem rEvery_any {w : World} {la : Option Addr} {n lc : Nat} {o : List Int} (hl : RIn iC w la n o) (many : Nat) (hm : many ≤ 1466015503701) (hn : (n : Int) ≤ 9223372036854775807) : Calls Try.prog 33 #[.slice la n lc, .int .i64 many] w fun e w' => e = .returned (.bool (decide (eachOnce o many))) ∧ Kept (fun _ => False) w w' := by
  by_cases hnm : n = many
  · subst hnm
    have HLN := hid hl.1
    have hm1 := r_make Try.rowB false (by intro i z0 h1 h2; rw [zero_of Try.infoB i z0 h1 h2]; rfl) n n rfl (by omega) w
    have s1 := r_new (f := bC) (k := 1) (fun _ => rfl) 4 (St.nil w) (List.replicate n false) (by simp only [List.length_replicate]; unfold maxLen; omega)
    simp only [lstR, List.length_replicate] at s1
    rw [← been_zero o n] at s1
    generalize hw1 : w.alloc (.cells (fl bC (List.replicate n false)).toArray 4) = w1 at *
    rw [been_zero o n, hw1] at s1
    generalize w.heap.size = G at *
    have tn : ((n : Int) != (n : Int)) = false := by simp
    have HS1 := hid s1
    have HL := hid hl
    have HM := hid hm
    clear s1 hl hm hw1
    go_enter Try.func33, Try.ntmps33
    go_upto_region 5 with (first | simp only [hm1])
    clear hm1
    go_loopw [6] (fun i wr => ∃ j : Nat, i = .int .i64 j ∧ j ≤ n ∧ Once o n j ∧ St w [ownI 4 1 (.slice (some ⟨G, 0, none⟩) n n) n (fl bC (beenL o n j))] wr) (fun i _ => n - (intOf i).toNat)
    case atStart => exact ⟨0, rfl, Nat.zero_le _, ⟨by simp, by simp⟩, by rw [been_zero]; exact HS1.out⟩
    case round =>
      clear HS1
      obtain ⟨j, rfl, hj, hon, hs⟩ := hrel
      by_cases hlt : j < n
      · have hlt' : (j : Int) < (n : Int) := by omega
        have hj0 : (0 : Int) ≤ (j : Int) := by omega
        obtain ⟨g, off, rfl⟩ := HL.out.addr (by omega)
        obtain ⟨x, hx⟩ : ∃ x, o[j]? = some x := ⟨_, List.getElem?_eq_getElem (by have := HLN.out; omega)⟩
        have HX := hid hx
        have hjn : (j : Int) < (n : Int) := by omega
        have q0 := (HL.out.kept hs.same).at (k := 1) (fun _ => rfl) hx 0 _ rfl
        rw [Nat.mul_one, Nat.add_zero] at q0
        have HJ : Hid (j + 1 ≤ n ∧ n - (j + 1) < n - j) := hid ⟨by omega, by omega⟩
        have HO := hid hon
        have HS := hid hs
        clear hx hj hlt hon
        by_cases h0 : x < 0
        · have t0 : decide (x < 0) = true := by simpa using h0
          have HR : Hid (decide (eachOnce o n) = false) := hid (by simpa using once_no HX.out (.inl h0))
          clear h0 hs
          go_wp2
          go_ret
          exact ⟨by rw [HR.out]; rfl, HS.out.same⟩
        · have t0 : decide (x < 0) = false := by simpa using h0
          by_cases h1 : (n : Int) ≤ x
          · have t1 : decide ((n : Int) ≤ x) = true := by simpa using h1
            have HR : Hid (decide (eachOnce o n) = false) := hid (by simpa using once_no HX.out (.inr (.inl h1)))
            clear h0 h1 hs
            go_wp2
            go_ret
            exact ⟨by rw [HR.out]; rfl, HS.out.same⟩
          · have t1 : decide ((n : Int) ≤ x) = false := by simpa using h1
            obtain ⟨y, rfl⟩ : ∃ y : Nat, x = (y : Int) := ⟨x.toNat, by omega⟩
            have hy : y < n := by omega
            have hyi : (y : Int) < (n : Int) := by omega
            have hy0 : (0 : Int) ≤ (y : Int) := by omega
            have hb := been_at (o := o) (j := j) hy
            have e2 := fl_at (f := bC) (k := 1) (fun _ => rfl) _ y 0 _ (by omega) hb
            rw [Nat.mul_one, Nat.add_zero] at e2
            have b0 := (hs.ownCell 0 rfl y (by omega)).trans e2
            have f0 := hs.ownFrozen 0 rfl y
            by_cases h2 : (y : Int) ∈ o.take j
            · have HR : Hid (decide (eachOnce o n) = false) := hid (by simpa using once_no HX.out (.inr (.inr h2)))
              simp only [bC, h2, decide_true, List.getElem?_cons_zero] at b0
              clear h0 h1 h2 hs hb e2
              go_wp2
              go_ret
              exact ⟨by rw [HR.out]; rfl, HS.out.same⟩
            · have s2 := r_set (f := bC) (k := 1) (fun _ => rfl) hs 0 rfl (been_len o n j).symm hb 0 (by omega) (.bool true) (x' := true) rfl
              rw [been_next hy HX.out, Nat.mul_one, Nat.add_zero] at s2
              have HS2 := hid s2
              have HON := hid (once_next HO.out HX.out (by omega) (by omega) h2)
              simp only [bC, h2, decide_false, List.getElem?_cons_zero] at b0
              clear h0 h1 h2 hs hb e2 s2
              go_wp2
              go_roundw
              case rel => exact ⟨j + 1, by simp, HJ.out.1, HON.out, HS2.out⟩
              case measure => have := HJ.out.2; simp [intOf]; omega
      · have hlt' : ¬ (j : Int) < (n : Int) := by omega
        have HR : Hid (decide (eachOnce o n) = true) := hid (by
          have e : j = o.length := by have := HLN.out; omega
          have := HLN.out
          rw [e] at hon
          simpa using once_all hon (by omega))
        have HS := hid hs
        clear hs hon
        go_wp2
        go_ret
        exact ⟨by rw [HR.out]; rfl, HS.out.same⟩
  · have tn : ((n : Int) != (many : Int)) = true := by simp; omega
    have HR : Hid (decide (eachOnce o many) = false) := hid (by
      have := hl.1
      simp only [decide_eq_false_iff_not]
      rintro ⟨h, _⟩
      omega)
    clear hnm hl
    go_enter Try.func33, Try.ntmps33
    go_wp2
    go_ret
    exact ⟨by rw [HR.out]; rfl, Kept.refl _ _⟩
end Go.Proofs.Ytnmlnjljmikmpaa
