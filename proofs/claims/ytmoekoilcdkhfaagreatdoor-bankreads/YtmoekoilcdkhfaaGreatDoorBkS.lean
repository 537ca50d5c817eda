/- The document's May. -/
import Derived.Test.YtmoekoilcdkhfaaGreatDoorBkR
import Derived.Deep.Cut
import Derived.Deep.CutBlock
namespace Go.Proofs.YtmoekoilcdkhfaaGreatDoor
open Go.RowKit
set_option linter.unusedVariables false
set_option linter.unusedSimpArgs false
attribute [local go_sem ↓] Go.wp_at_zero Go.wp_at_succ

set_option maxRecDepth 100000 in
set_option maxHeartbeats 4000000 in
theorem rMay_any (n : Int) (d : Dd) (w : World) : Calls Tryz.prog 24 #[.int .i64 n, d.val] w fun e w' => e = .returned (.bool (mayD n d)) ∧ Kept (fun _ => False) w w' := by
  obtain ⟨op, a, b, x, y⟩ := d
  have HM : Hid (∀ c : Bool, c = (if (op = 1 ∨ op = 2) then (decide (0 ≤ a ∧ a < n) && ((b == 0) && (decide (0 ≤ x ∧ x ≤ 2147483648) && (y == 0)))) else if op = 3 then (decide (0 ≤ a ∧ a < n) && (decide (0 ≤ b ∧ b < n) && (decide (0 ≤ x ∧ x ≤ 2147483648) && (y == 0)))) else if op = 4 then (decide (0 ≤ a ∧ a < n) && ((b == 0) && ((x == 0) && (y == 0)))) else if op = 5 then ((a == 0) && ((b == 0) && ((x == 0) && (y == 0)))) else false) → mayD n ⟨op, a, b, x, y⟩ = c) := by
    rintro c rfl
    have f1 : ∀ v m : Int, fldM true v (m - 1) = decide (0 ≤ v ∧ v < m) := fun v m => by
      unfold fldM
      by_cases h : 0 ≤ v ∧ v < m
      · simp [h]; omega
      · rw [decide_eq_false h]
        simp only [Bool.and_eq_false_iff, decide_eq_false_iff_not, if_true]
        omega
    have f2 : ∀ v m : Int, fldM true v m = decide (0 ≤ v ∧ v ≤ m) := fun v m => by
      unfold fldM
      by_cases h : 0 ≤ v ∧ v ≤ m
      · simp [h]
      · rw [decide_eq_false h]
        simp only [Bool.and_eq_false_iff, decide_eq_false_iff_not, if_true]
        omega
    have f3 : ∀ v m : Int, fldM false v m = (v == 0) := fun v m => by
      unfold fldM
      by_cases h : v = 0
      · simp [h]
      · rw [beq_eq_false_iff_ne.2 h]
        simp only [Bool.and_eq_false_iff, decide_eq_false_iff_not, Bool.false_eq_true, if_false]
        omega
    simp only [mayD, f1, f3, f2]
  generalize mayD n ⟨op, a, b, x, y⟩ = R at *
  have s1 := (St.nil w).box #[.int .i64 op, .int .i64 a, .int .i64 b, .int .i64 x, .int .i64 y] 40
  show Calls _ _ #[_, .agg #[.int .i64 op, .int .i64 a, .int .i64 b, .int .i64 x, .int .i64 y]] _ _
  generalize e1 : w.alloc (.cells #[.int .i64 op, .int .i64 a, .int .i64 b, .int .i64 x, .int .i64 y] 40) = w1 at *
  generalize eM : w.heap.size = M at *
  have c0 : w1.cell? ⟨M, 0, none⟩ = some (.int .i64 op) := s1.cell 0 rfl 0
  have c1 : w1.cell? ⟨M, 1, none⟩ = some (.int .i64 a) := s1.cell 0 rfl 1
  have c2 : w1.cell? ⟨M, 2, none⟩ = some (.int .i64 b) := s1.cell 0 rfl 2
  have c3 : w1.cell? ⟨M, 3, none⟩ = some (.int .i64 x) := s1.cell 0 rfl 3
  have c4 : w1.cell? ⟨M, 4, none⟩ = some (.int .i64 y) := s1.cell 0 rfl 4
  have HK := hid s1.same
  clear s1
  go_enter Tryz.func24, Tryz.ntmps24
  go_upto_region 1 with (simp only [e1, eM])
  clear e1 eM
  go_cut [5] from 8 (fun u5 wx => u5 = .bool (decide (0 ≤ a ∧ a < n)) ∧ wx = w1)
  case first =>
    by_cases h1 : 0 ≤ a
    · by_cases h2 : a < n
      · have t1 : decide (0 ≤ a) = true := by simpa using h1
        have t2 : decide (a < n) = true := by simpa using h2
        go_wp2
        go_meet
        exact ⟨by simp [h1, h2], rfl⟩
      · have t1 : decide (0 ≤ a) = true := by simpa using h1
        have t2 : decide (a < n) = false := by simpa using h2
        go_wp2
        go_meet
        exact ⟨by simp [h1, h2], rfl⟩
    · have t2 : decide (0 ≤ a) = false := by simpa using h1
      go_wp2
      go_meet
      exact ⟨by simp; omega, rfl⟩
  case rest =>
    obtain ⟨rfl, rfl⟩ := hcut
    generalize decide (0 ≤ a ∧ a < n) = ta at *
    go_upto_region 2 with fail
    go_cut [6] from 17 (fun u6 wx => u6 = .bool (decide (0 ≤ b ∧ b < n)) ∧ wx = wc)
    case first =>
      by_cases h1 : 0 ≤ b
      · by_cases h2 : b < n
        · have t1 : decide (0 ≤ b) = true := by simpa using h1
          have t2 : decide (b < n) = true := by simpa using h2
          go_wp2
          go_meet
          exact ⟨by simp [h1, h2], rfl⟩
        · have t1 : decide (0 ≤ b) = true := by simpa using h1
          have t2 : decide (b < n) = false := by simpa using h2
          go_wp2
          go_meet
          exact ⟨by simp [h1, h2], rfl⟩
      · have t2 : decide (0 ≤ b) = false := by simpa using h1
        go_wp2
        go_meet
        exact ⟨by simp; omega, rfl⟩
    case rest =>
      obtain ⟨rfl, rfl⟩ := hcut
      generalize decide (0 ≤ b ∧ b < n) = tb at *
      go_upto_region 3 with fail
      go_cut [7] from 26 (fun u7 wx => u7 = .bool (decide (0 ≤ x ∧ x ≤ 2147483648)) ∧ wx = wc)
      case first =>
        by_cases h1 : 0 ≤ x
        · by_cases h2 : x ≤ 2147483648
          · have t1 : decide (0 ≤ x) = true := by simpa using h1
            have t2 : decide (x ≤ 2147483648) = true := by simpa using h2
            go_wp2
            go_meet
            exact ⟨by simp [h1, h2], rfl⟩
          · have t1 : decide (0 ≤ x) = true := by simpa using h1
            have t2 : decide (x ≤ 2147483648) = false := by simpa using h2
            go_wp2
            go_meet
            exact ⟨by simp [h1, h2], rfl⟩
        · have t2 : decide (0 ≤ x) = false := by simpa using h1
          go_wp2
          go_meet
          exact ⟨by simp; omega, rfl⟩
      case rest =>
        obtain ⟨rfl, rfl⟩ := hcut
        generalize decide (0 ≤ x ∧ x ≤ 2147483648) = tx at *
        by_cases hy : y = 0
        · have ty : (y != 0) = false := by simp [hy]
          have ty2 : (y == 0) = true := by simp [hy]
          rw [ty2] at HM
          clear hy ty2
          by_cases ho1 : op = 1
          · subst ho1
            cases ta with
            | false =>
              obtain rfl := HM.out false (by simp [])
              go_wp2
              go_ret
              exact ⟨rfl, HK.out⟩
            | true =>
              by_cases hzb : b = 0
              · have tzb : (b == 0) = true := by simp [hzb]
                rw [tzb] at HM
                clear hzb
                cases tx with
                | false =>
                  obtain rfl := HM.out false (by simp [])
                  go_wp2
                  go_ret
                  exact ⟨rfl, HK.out⟩
                | true =>
                  obtain rfl := HM.out true (by simp [])
                  go_wp2
                  go_ret
                  exact ⟨rfl, HK.out⟩
              · have tzb : (b == 0) = false := by simp [hzb]
                rw [tzb] at HM
                clear hzb
                obtain rfl := HM.out false (by simp [])
                go_wp2
                go_ret
                exact ⟨rfl, HK.out⟩
          · have to1 : (op == 1) = false := by simp [ho1]
            by_cases ho2 : op = 2
            · subst ho2
              cases ta with
              | false =>
                obtain rfl := HM.out false (by simp [])
                go_wp2
                go_ret
                exact ⟨rfl, HK.out⟩
              | true =>
                by_cases hzb : b = 0
                · have tzb : (b == 0) = true := by simp [hzb]
                  rw [tzb] at HM
                  clear hzb
                  cases tx with
                  | false =>
                    obtain rfl := HM.out false (by simp [])
                    go_wp2
                    go_ret
                    exact ⟨rfl, HK.out⟩
                  | true =>
                    obtain rfl := HM.out true (by simp [])
                    go_wp2
                    go_ret
                    exact ⟨rfl, HK.out⟩
                · have tzb : (b == 0) = false := by simp [hzb]
                  rw [tzb] at HM
                  clear hzb
                  obtain rfl := HM.out false (by simp [])
                  go_wp2
                  go_ret
                  exact ⟨rfl, HK.out⟩
            · have to2 : (op == 2) = false := by simp [ho2]
              by_cases ho3 : op = 3
              · subst ho3
                cases ta with
                | false =>
                  obtain rfl := HM.out false (by simp [])
                  go_wp2
                  go_ret
                  exact ⟨rfl, HK.out⟩
                | true =>
                  cases tb with
                  | false =>
                    obtain rfl := HM.out false (by simp [])
                    go_wp2
                    go_ret
                    exact ⟨rfl, HK.out⟩
                  | true =>
                    cases tx with
                    | false =>
                      obtain rfl := HM.out false (by simp [])
                      go_wp2
                      go_ret
                      exact ⟨rfl, HK.out⟩
                    | true =>
                      obtain rfl := HM.out true (by simp [])
                      go_wp2
                      go_ret
                      exact ⟨rfl, HK.out⟩
              · have to3 : (op == 3) = false := by simp [ho3]
                by_cases ho4 : op = 4
                · subst ho4
                  cases ta with
                  | false =>
                    obtain rfl := HM.out false (by simp [])
                    go_wp2
                    go_ret
                    exact ⟨rfl, HK.out⟩
                  | true =>
                    by_cases hzb : b = 0
                    · have tzb : (b == 0) = true := by simp [hzb]
                      rw [tzb] at HM
                      clear hzb
                      by_cases hzx : x = 0
                      · have tzx : (x == 0) = true := by simp [hzx]
                        rw [tzx] at HM
                        clear hzx
                        obtain rfl := HM.out true (by simp [])
                        go_wp2
                        go_ret
                        exact ⟨rfl, HK.out⟩
                      · have tzx : (x == 0) = false := by simp [hzx]
                        rw [tzx] at HM
                        clear hzx
                        obtain rfl := HM.out false (by simp [])
                        go_wp2
                        go_ret
                        exact ⟨rfl, HK.out⟩
                    · have tzb : (b == 0) = false := by simp [hzb]
                      rw [tzb] at HM
                      clear hzb
                      obtain rfl := HM.out false (by simp [])
                      go_wp2
                      go_ret
                      exact ⟨rfl, HK.out⟩
                · have to4 : (op == 4) = false := by simp [ho4]
                  by_cases ho5 : op = 5
                  · subst ho5
                    by_cases hza : a = 0
                    · have tza : (a == 0) = true := by simp [hza]
                      rw [tza] at HM
                      clear hza
                      by_cases hzb : b = 0
                      · have tzb : (b == 0) = true := by simp [hzb]
                        rw [tzb] at HM
                        clear hzb
                        by_cases hzx : x = 0
                        · have tzx : (x == 0) = true := by simp [hzx]
                          rw [tzx] at HM
                          clear hzx
                          obtain rfl := HM.out true (by simp [])
                          go_wp2
                          go_ret
                          exact ⟨rfl, HK.out⟩
                        · have tzx : (x == 0) = false := by simp [hzx]
                          rw [tzx] at HM
                          clear hzx
                          obtain rfl := HM.out false (by simp [])
                          go_wp2
                          go_ret
                          exact ⟨rfl, HK.out⟩
                      · have tzb : (b == 0) = false := by simp [hzb]
                        rw [tzb] at HM
                        clear hzb
                        obtain rfl := HM.out false (by simp [])
                        go_wp2
                        go_ret
                        exact ⟨rfl, HK.out⟩
                    · have tza : (a == 0) = false := by simp [hza]
                      rw [tza] at HM
                      clear hza
                      obtain rfl := HM.out false (by simp [])
                      go_wp2
                      go_ret
                      exact ⟨rfl, HK.out⟩
                  · have to5 : (op == 5) = false := by simp [ho5]
                    obtain rfl := HM.out false (by simp [ho1, ho2, ho3, ho4, ho5])
                    clear ho1 ho2 ho3 ho4 ho5 HM
                    go_wp2
                    go_ret
                    exact ⟨rfl, HK.out⟩
        · have ty : (y != 0) = true := by simp [hy]
          have ty2 : (y == 0) = false := by simp [hy]
          obtain rfl := HM.out false (by rw [ty2]; simp)
          clear hy ty2
          go_wp2
          go_ret
          exact ⟨rfl, HK.out⟩
end Go.Proofs.YtmoekoilcdkhfaaGreatDoor
