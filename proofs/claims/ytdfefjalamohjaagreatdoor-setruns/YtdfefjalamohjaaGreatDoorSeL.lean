/- The statements' own small functions; the document's Room, May. -/
import Derived.Test.YtdfefjalamohjaaGreatDoorSeU
import Derived.Laws.CopyOwn
namespace Go.Proofs.YtdfefjalamohjaaGreatDoor
open Go.RowKit
set_option linter.unusedVariables false
set_option linter.unusedSimpArgs false
attribute [local go_sem ↓] Go.wp_at_zero Go.wp_at_succ

section
variable {w : World}
set_option maxRecDepth 100000 in
set_option maxHeartbeats 1000000 in
theorem same_any (la lb : Option Addr) (na nb ca cb : Nat) (a b : List Int) (hA : XIn w la na a) (hB : XIn w lb nb b) (hn : na ≤ 8796093022208000) :
    Calls Tryz.prog 13 #[.slice la na ca, .slice lb nb cb] w fun e w' => e = .returned (.bool (decide (a = b))) ∧ Kept (fun _ => False) w w' := by
  have HA := hid hA
  have HB := hid hB
  by_cases hl : na = nb
  · subst hl
    have t0 : ((na : Int) != na) = false := by simp
    have HLe : Hid (a.length = na ∧ b.length = na) := ⟨hA.1.symm, hB.1.symm⟩
    clear hA hB
    go_enter Tryz.func13, Tryz.ntmps13
    go_wp2
    go_loopw [5] (fun i wr => ∃ j : Nat, i = .int .i64 j ∧ j ≤ na ∧ (∀ k, k < j → a.getD k 0 = b.getD k 0) ∧ Kept (fun _ => False) w wr) (fun i _ => na - (intOf i).toNat)
    case atStart => exact ⟨0, rfl, Nat.zero_le _, fun k h => by omega, Kept.refl _ _⟩
    case round =>
      obtain ⟨j, rfl, hj, hs, hk⟩ := hrel
      have HS := hid hs
      clear hs
      by_cases hlt : j < na
      · obtain ⟨ga, oa, rfl⟩ := HA.out.addr (by omega)
        obtain ⟨gb, ob, rfl⟩ := HB.out.addr (by omega)
        have x0 := (HA.out.kept hk.drew).cell hlt
        have y0 := (HB.out.kept hk.drew).cell hlt
        have h0 : (0 : Int) ≤ (j : Int) := Int.natCast_nonneg _
        have h1 : (j : Int) < (na : Int) := by omega
        have HN : Hid (a.getD j 0 ≠ b.getD j 0 → decide (a = b) = false) := fun h => by
          rw [decide_eq_false_iff_not]
          intro e
          exact h (by rw [e])
        have HY : Hid (a.getD j 0 = b.getD j 0 → ∀ k, k < j + 1 → a.getD k 0 = b.getD k 0) := fun h k hk => by
          by_cases e : k = j
          · rw [e]; exact h
          · exact HS.out k (by omega)
        generalize a.getD j 0 = x at *
        generalize b.getD j 0 = y at *
        by_cases hxy : x = y
        · have hv : (x != y) = false := by simp [hxy]
          have HY2 := hid (HY.out hxy)
          clear HS HN HY hxy
          go_upto_region 6 with fail
          go_region
          go_wp2
          go_roundw
          case rel => exact ⟨j + 1, by simp, by omega, HY2.out, hk.drew⟩
          case measure => simp [intOf]; omega
        · have hv : (x != y) = true := by simpa using hxy
          have HF := hid (HN.out hxy)
          clear HS HN HY hxy
          go_upto_region 6 with fail
          go_region
          go_wp2
          go_ret
          exact ⟨by rw [HF.out]; rfl, hk.drew⟩
      · have h1 : ¬ (j : Int) < (na : Int) := by omega
        have HF : Hid (decide (a = b) = true) := by
          show decide (a = b) = true
          rw [decide_eq_true_eq]
          apply List.ext_getElem (by rw [HLe.out.1, HLe.out.2])
          intro k k1 k2
          have := HS.out k (by have := HLe.out.1; omega)
          simpa [List.getD_eq_getElem?_getD, k1, k2] using this
        clear HS
        go_wp2
        go_ret
        exact ⟨by rw [HF.out]; rfl, hk⟩
  · have t0 : ((na : Int) != nb) = true := by simp; omega
    have hf : decide (a = b) = false := by
      rw [decide_eq_false_iff_not]
      intro e
      exact hl (by rw [hA.1, hB.1, e])
    rw [hf]
    clear hA hB HA HB hf
    go_enter Tryz.func13, Tryz.ntmps13
    go_wp2
    go_ret
    exact ⟨rfl, Kept.refl _ _⟩
theorem codeSet_any (b : Bool) (w : World) : Calls Tryz.prog 15 #[.bool b] w fun e w' => e = .returned (.int .i64 (if b = true then 0 else 180)) ∧ w' = w := by
  cases b with
  | true =>
    go_enter Tryz.func15, Tryz.ntmps15
    go_wp2
    go_ret
    exact ⟨rfl, rfl⟩
  | false =>
    go_enter Tryz.func15, Tryz.ntmps15
    go_wp2
    go_ret
    exact ⟨rfl, rfl⟩
theorem rRoom_any (n : Int) (w : World) : Calls Tryz.prog 12 #[.int .i64 n] w fun e w' => e = .returned (.int .i64 (roomS n)) ∧ w' = w := by
  unfold roomS
  by_cases h1 : 1 ≤ n
  · by_cases h2 : n ≤ 60
    · rw [if_pos ⟨h1, h2⟩]
      go_enter Tryz.func12, Tryz.ntmps12
      go_wp2
      go_ret
      exact ⟨rfl, rfl⟩
    · rw [if_neg (by omega)]
      have t2 : decide (n ≤ 60) = false := by simpa using h2
      go_enter Tryz.func12, Tryz.ntmps12
      go_wp2
      go_ret
      exact ⟨rfl, rfl⟩
  · rw [if_neg (by omega)]
    have t2 : decide (1 ≤ n) = false := by simpa using h1
    go_enter Tryz.func12, Tryz.ntmps12
    go_wp2
    go_ret
    exact ⟨rfl, rfl⟩
set_option maxRecDepth 100000 in
set_option maxHeartbeats 4000000 in
theorem rMay_any (n : Int) (d : Dd) (w : World) : Calls Tryz.prog 24 #[.int .i64 n, d.val] w fun e w' => e = .returned (.bool (mayS d)) ∧ Kept (fun _ => False) w w' := by
  obtain ⟨op, a, b, x, y⟩ := d
  have s1 := (St.nil w).box #[.int .i64 op, .int .i64 a, .int .i64 b, .int .i64 x, .int .i64 y] 40
  show Calls _ _ #[_, .agg #[.int .i64 op, .int .i64 a, .int .i64 b, .int .i64 x, .int .i64 y]] _ _
  generalize e1 : w.alloc (.cells #[.int .i64 op, .int .i64 a, .int .i64 b, .int .i64 x, .int .i64 y] 40) = w1 at *
  generalize eM : w.heap.size = M at *
  have c0 : w1.cell? ⟨M, 0, none⟩ = some (.int .i64 op) := s1.cell 0 rfl 0
  have c1 : w1.cell? ⟨M, 1, none⟩ = some (.int .i64 a) := s1.cell 0 rfl 1
  have c2 : w1.cell? ⟨M, 2, none⟩ = some (.int .i64 b) := s1.cell 0 rfl 2
  have c3 : w1.cell? ⟨M, 3, none⟩ = some (.int .i64 x) := s1.cell 0 rfl 3
  have c4 : w1.cell? ⟨M, 4, none⟩ = some (.int .i64 y) := s1.cell 0 rfl 4
  have HK := hid s1.same
  have HM : Hid (mayS ⟨op, a, b, x, y⟩ = (decide (a = 0) && (decide (b = 0) && (decide (y = 0) && (decide (1 ≤ op) && (decide (op ≤ 5) && (decide (op ≤ 3) || decide (x = 0)))))))) := hid (by
    unfold mayS
    by_cases h1 : op = 1 ∨ op = 2 ∨ op = 3
    · rw [if_pos h1]
      have e1 : decide (1 ≤ op) = true := by simp; omega
      have e2 : decide (op ≤ 5) = true := by simp; omega
      have e3 : decide (op ≤ 3) = true := by simp; omega
      simp [e1, e2, e3]
    · rw [if_neg h1]
      by_cases h2 : op = 4 ∨ op = 5
      · rw [if_pos h2]
        have e1 : decide (1 ≤ op) = true := by simp; omega
        have e2 : decide (op ≤ 5) = true := by simp; omega
        have e3 : decide (op ≤ 3) = false := by simp; omega
        simp only [e1, e2, e3, Bool.true_and, Bool.false_or]
        generalize decide (x = 0) = p
        generalize decide (y = 0) = q
        cases p <;> cases q <;> rfl
      · rw [if_neg h2]
        have e : (decide (1 ≤ op) && decide (op ≤ 5)) = false := by simp; omega
        cases h3 : decide (1 ≤ op) with
        | false => simp
        | true =>
          rw [h3] at e
          simp only [Bool.true_and] at e
          simp [e])
  rw [HM.out]
  clear HM s1
  by_cases ha : a = 0
  · subst ha
    by_cases hb : b = 0
    · subst hb
      by_cases hy : y = 0
      · subst hy
        by_cases h1 : 1 ≤ op
        · by_cases h2 : op ≤ 5
          · have t1 : decide (op < 1) = false := by simp; omega
            have t2 : decide (5 < op) = false := by simp; omega
            have u1 : decide (1 ≤ op) = true := by simpa using h1
            have u2 : decide (op ≤ 5) = true := by simpa using h2
            by_cases h3 : op ≤ 3
            · have t3 : decide (op ≤ 3) = true := by simpa using h3
              clear h1 h2 h3
              go_enter Tryz.func24, Tryz.ntmps24
              go_wp2_with (simp only [e1, eM])
              go_ret
              exact ⟨by simp [u1, u2, t3], HK.out⟩
            · have t3 : decide (op ≤ 3) = false := by simpa using h3
              clear h1 h2 h3
              by_cases hx : x = 0
              · subst hx
                go_enter Tryz.func24, Tryz.ntmps24
                go_wp2_with (simp only [e1, eM])
                go_ret
                exact ⟨by simp [u1, u2, t3], HK.out⟩
              · have t4 : (x == 0) = false := by simpa using hx
                go_enter Tryz.func24, Tryz.ntmps24
                go_wp2_with (simp only [e1, eM])
                go_ret
                exact ⟨by simp [u1, u2, t3, hx], HK.out⟩
          · have t1 : decide (op < 1) = false := by simp; omega
            have t2 : decide (5 < op) = true := by simp; omega
            have u2 : decide (op ≤ 5) = false := by simpa using h2
            clear h1 h2
            go_enter Tryz.func24, Tryz.ntmps24
            go_wp2_with (simp only [e1, eM])
            go_ret
            exact ⟨by simp [u2], HK.out⟩
        · have t1 : decide (op < 1) = true := by simp; omega
          have u1 : decide (1 ≤ op) = false := by simpa using h1
          clear h1
          go_enter Tryz.func24, Tryz.ntmps24
          go_wp2_with (simp only [e1, eM])
          go_ret
          exact ⟨by simp [u1], HK.out⟩
      · have t1 : (y != 0) = true := by simpa using hy
        go_enter Tryz.func24, Tryz.ntmps24
        go_wp2_with (simp only [e1, eM])
        go_ret
        exact ⟨by simp [hy], HK.out⟩
    · have t1 : (b != 0) = true := by simpa using hb
      go_enter Tryz.func24, Tryz.ntmps24
      go_wp2_with (simp only [e1, eM])
      go_ret
      exact ⟨by simp [hb], HK.out⟩
  · have t1 : (a != 0) = true := by simpa using ha
    go_enter Tryz.func24, Tryz.ntmps24
    go_wp2_with (simp only [e1, eM])
    go_ret
    exact ⟨by simp [ha], HK.out⟩
end
end Go.Proofs.YtdfefjalamohjaaGreatDoor
