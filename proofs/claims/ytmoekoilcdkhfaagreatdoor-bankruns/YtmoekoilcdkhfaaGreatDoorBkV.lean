/- The document's May. Rows that are made and copied into: Copied, Lay; the document's Do. -/
import Derived.Test.YtmoekoilcdkhfaaGreatDoorBkR
import Derived.Deep.Cut
import Derived.Deep.CutBlock
import Derived.Test.YtmoekoilcdkhfaaGreatDoorAr
namespace Go.Proofs.YtmoekoilcdkhfaaGreatDoor
open Go.RowKit
set_option linter.unusedVariables false
set_option linter.unusedSimpArgs false
attribute [local go_sem ↓] Go.wp_at_zero Go.wp_at_succ

set_option maxRecDepth 100000 in
set_option maxHeartbeats 4000000 in
theorem rMay_any (n : Int) (d : Dd) (w : World) : Calls Tryz.prog 24 #[.int .i64 n, d.val] w fun e w' => e = .returned (.bool (mayD n d)) ∧ Kept (fun _ => False) w w' := by
  obtain ⟨op, a, b, x, y⟩ := d
  have HM : Hid (∀ c : Bool, c = (if (op = 1 ∨ op = 2) then (decide (0 ≤ a ∧ a < n) && ((b == 0) && (decide (0 ≤ x ∧ x ≤ 2147483648) && (y == 0)))) else if op = 3 then (decide (0 ≤ a ∧ a < n) && (decide (0 ≤ b ∧ b < n) && (decide (0 ≤ x ∧ x ≤ 2147483648) && (y == 0)))) else if op = 4 then (decide (0 ≤ a ∧ a < n) && ((b == 0) && ((x == 0) && (y == 0)))) else if op = 5 then ((a == 0) && ((b == 0) && ((x == 0) && (y == 0)))) else false) → mayD n ⟨op, a, b, x, y⟩ = c) := by
    rintro c rfl
    have f1 : ∀ v m : Int, fldM true v (m - 1) = decide (0 ≤ v ∧ v < m) := fun v m => by
      unfold fldM
      by_cases h : 0 ≤ v ∧ v < m
      · simp [h]; omega
      · rw [decide_eq_false h]
        simp only [Bool.and_eq_false_iff, decide_eq_false_iff_not, if_true]
        omega
    have f2 : ∀ v m : Int, fldM true v m = decide (0 ≤ v ∧ v ≤ m) := fun v m => by
      unfold fldM
      by_cases h : 0 ≤ v ∧ v ≤ m
      · simp [h]
      · rw [decide_eq_false h]
        simp only [Bool.and_eq_false_iff, decide_eq_false_iff_not, if_true]
        omega
    have f3 : ∀ v m : Int, fldM false v m = (v == 0) := fun v m => by
      unfold fldM
      by_cases h : v = 0
      · simp [h]
      · rw [beq_eq_false_iff_ne.2 h]
        simp only [Bool.and_eq_false_iff, decide_eq_false_iff_not, Bool.false_eq_true, if_false]
        omega
    simp only [mayD, f1, f3, f2]
  generalize mayD n ⟨op, a, b, x, y⟩ = R at *
  have s1 := (St.nil w).box #[.int .i64 op, .int .i64 a, .int .i64 b, .int .i64 x, .int .i64 y] 40
  show Calls _ _ #[_, .agg #[.int .i64 op, .int .i64 a, .int .i64 b, .int .i64 x, .int .i64 y]] _ _
  generalize e1 : w.alloc (.cells #[.int .i64 op, .int .i64 a, .int .i64 b, .int .i64 x, .int .i64 y] 40) = w1 at *
  generalize eM : w.heap.size = M at *
  have c0 : w1.cell? ⟨M, 0, none⟩ = some (.int .i64 op) := s1.cell 0 rfl 0
  have c1 : w1.cell? ⟨M, 1, none⟩ = some (.int .i64 a) := s1.cell 0 rfl 1
  have c2 : w1.cell? ⟨M, 2, none⟩ = some (.int .i64 b) := s1.cell 0 rfl 2
  have c3 : w1.cell? ⟨M, 3, none⟩ = some (.int .i64 x) := s1.cell 0 rfl 3
  have c4 : w1.cell? ⟨M, 4, none⟩ = some (.int .i64 y) := s1.cell 0 rfl 4
  have HK := hid s1.same
  clear s1
  go_enter Tryz.func24, Tryz.ntmps24
  go_upto_region 1 with (simp only [e1, eM])
  clear e1 eM
  go_cut [5] from 8 (fun u5 wx => u5 = .bool (decide (0 ≤ a ∧ a < n)) ∧ wx = w1)
  case first =>
    by_cases h1 : 0 ≤ a
    · by_cases h2 : a < n
      · have t1 : decide (0 ≤ a) = true := by simpa using h1
        have t2 : decide (a < n) = true := by simpa using h2
        go_wp2
        go_meet
        exact ⟨by simp [h1, h2], rfl⟩
      · have t1 : decide (0 ≤ a) = true := by simpa using h1
        have t2 : decide (a < n) = false := by simpa using h2
        go_wp2
        go_meet
        exact ⟨by simp [h1, h2], rfl⟩
    · have t2 : decide (0 ≤ a) = false := by simpa using h1
      go_wp2
      go_meet
      exact ⟨by simp; omega, rfl⟩
  case rest =>
    obtain ⟨rfl, rfl⟩ := hcut
    generalize decide (0 ≤ a ∧ a < n) = ta at *
    go_upto_region 2 with fail
    go_cut [6] from 17 (fun u6 wx => u6 = .bool (decide (0 ≤ b ∧ b < n)) ∧ wx = wc)
    case first =>
      by_cases h1 : 0 ≤ b
      · by_cases h2 : b < n
        · have t1 : decide (0 ≤ b) = true := by simpa using h1
          have t2 : decide (b < n) = true := by simpa using h2
          go_wp2
          go_meet
          exact ⟨by simp [h1, h2], rfl⟩
        · have t1 : decide (0 ≤ b) = true := by simpa using h1
          have t2 : decide (b < n) = false := by simpa using h2
          go_wp2
          go_meet
          exact ⟨by simp [h1, h2], rfl⟩
      · have t2 : decide (0 ≤ b) = false := by simpa using h1
        go_wp2
        go_meet
        exact ⟨by simp; omega, rfl⟩
    case rest =>
      obtain ⟨rfl, rfl⟩ := hcut
      generalize decide (0 ≤ b ∧ b < n) = tb at *
      go_upto_region 3 with fail
      go_cut [7] from 26 (fun u7 wx => u7 = .bool (decide (0 ≤ x ∧ x ≤ 2147483648)) ∧ wx = wc)
      case first =>
        by_cases h1 : 0 ≤ x
        · by_cases h2 : x ≤ 2147483648
          · have t1 : decide (0 ≤ x) = true := by simpa using h1
            have t2 : decide (x ≤ 2147483648) = true := by simpa using h2
            go_wp2
            go_meet
            exact ⟨by simp [h1, h2], rfl⟩
          · have t1 : decide (0 ≤ x) = true := by simpa using h1
            have t2 : decide (x ≤ 2147483648) = false := by simpa using h2
            go_wp2
            go_meet
            exact ⟨by simp [h1, h2], rfl⟩
        · have t2 : decide (0 ≤ x) = false := by simpa using h1
          go_wp2
          go_meet
          exact ⟨by simp; omega, rfl⟩
      case rest =>
        obtain ⟨rfl, rfl⟩ := hcut
        generalize decide (0 ≤ x ∧ x ≤ 2147483648) = tx at *
        by_cases hy : y = 0
        · have ty : (y != 0) = false := by simp [hy]
          have ty2 : (y == 0) = true := by simp [hy]
          rw [ty2] at HM
          clear hy ty2
          by_cases ho1 : op = 1
          · subst ho1
            cases ta with
            | false =>
              obtain rfl := HM.out false (by simp [])
              go_wp2
              go_ret
              exact ⟨rfl, HK.out⟩
            | true =>
              by_cases hzb : b = 0
              · have tzb : (b == 0) = true := by simp [hzb]
                rw [tzb] at HM
                clear hzb
                cases tx with
                | false =>
                  obtain rfl := HM.out false (by simp [])
                  go_wp2
                  go_ret
                  exact ⟨rfl, HK.out⟩
                | true =>
                  obtain rfl := HM.out true (by simp [])
                  go_wp2
                  go_ret
                  exact ⟨rfl, HK.out⟩
              · have tzb : (b == 0) = false := by simp [hzb]
                rw [tzb] at HM
                clear hzb
                obtain rfl := HM.out false (by simp [])
                go_wp2
                go_ret
                exact ⟨rfl, HK.out⟩
          · have to1 : (op == 1) = false := by simp [ho1]
            by_cases ho2 : op = 2
            · subst ho2
              cases ta with
              | false =>
                obtain rfl := HM.out false (by simp [])
                go_wp2
                go_ret
                exact ⟨rfl, HK.out⟩
              | true =>
                by_cases hzb : b = 0
                · have tzb : (b == 0) = true := by simp [hzb]
                  rw [tzb] at HM
                  clear hzb
                  cases tx with
                  | false =>
                    obtain rfl := HM.out false (by simp [])
                    go_wp2
                    go_ret
                    exact ⟨rfl, HK.out⟩
                  | true =>
                    obtain rfl := HM.out true (by simp [])
                    go_wp2
                    go_ret
                    exact ⟨rfl, HK.out⟩
                · have tzb : (b == 0) = false := by simp [hzb]
                  rw [tzb] at HM
                  clear hzb
                  obtain rfl := HM.out false (by simp [])
                  go_wp2
                  go_ret
                  exact ⟨rfl, HK.out⟩
            · have to2 : (op == 2) = false := by simp [ho2]
              by_cases ho3 : op = 3
              · subst ho3
                cases ta with
                | false =>
                  obtain rfl := HM.out false (by simp [])
                  go_wp2
                  go_ret
                  exact ⟨rfl, HK.out⟩
                | true =>
                  cases tb with
                  | false =>
                    obtain rfl := HM.out false (by simp [])
                    go_wp2
                    go_ret
                    exact ⟨rfl, HK.out⟩
                  | true =>
                    cases tx with
                    | false =>
                      obtain rfl := HM.out false (by simp [])
                      go_wp2
                      go_ret
                      exact ⟨rfl, HK.out⟩
                    | true =>
                      obtain rfl := HM.out true (by simp [])
                      go_wp2
                      go_ret
                      exact ⟨rfl, HK.out⟩
              · have to3 : (op == 3) = false := by simp [ho3]
                by_cases ho4 : op = 4
                · subst ho4
                  cases ta with
                  | false =>
                    obtain rfl := HM.out false (by simp [])
                    go_wp2
                    go_ret
                    exact ⟨rfl, HK.out⟩
                  | true =>
                    by_cases hzb : b = 0
                    · have tzb : (b == 0) = true := by simp [hzb]
                      rw [tzb] at HM
                      clear hzb
                      by_cases hzx : x = 0
                      · have tzx : (x == 0) = true := by simp [hzx]
                        rw [tzx] at HM
                        clear hzx
                        obtain rfl := HM.out true (by simp [])
                        go_wp2
                        go_ret
                        exact ⟨rfl, HK.out⟩
                      · have tzx : (x == 0) = false := by simp [hzx]
                        rw [tzx] at HM
                        clear hzx
                        obtain rfl := HM.out false (by simp [])
                        go_wp2
                        go_ret
                        exact ⟨rfl, HK.out⟩
                    · have tzb : (b == 0) = false := by simp [hzb]
                      rw [tzb] at HM
                      clear hzb
                      obtain rfl := HM.out false (by simp [])
                      go_wp2
                      go_ret
                      exact ⟨rfl, HK.out⟩
                · have to4 : (op == 4) = false := by simp [ho4]
                  by_cases ho5 : op = 5
                  · subst ho5
                    by_cases hza : a = 0
                    · have tza : (a == 0) = true := by simp [hza]
                      rw [tza] at HM
                      clear hza
                      by_cases hzb : b = 0
                      · have tzb : (b == 0) = true := by simp [hzb]
                        rw [tzb] at HM
                        clear hzb
                        by_cases hzx : x = 0
                        · have tzx : (x == 0) = true := by simp [hzx]
                          rw [tzx] at HM
                          clear hzx
                          obtain rfl := HM.out true (by simp [])
                          go_wp2
                          go_ret
                          exact ⟨rfl, HK.out⟩
                        · have tzx : (x == 0) = false := by simp [hzx]
                          rw [tzx] at HM
                          clear hzx
                          obtain rfl := HM.out false (by simp [])
                          go_wp2
                          go_ret
                          exact ⟨rfl, HK.out⟩
                      · have tzb : (b == 0) = false := by simp [hzb]
                        rw [tzb] at HM
                        clear hzb
                        obtain rfl := HM.out false (by simp [])
                        go_wp2
                        go_ret
                        exact ⟨rfl, HK.out⟩
                    · have tza : (a == 0) = false := by simp [hza]
                      rw [tza] at HM
                      clear hza
                      obtain rfl := HM.out false (by simp [])
                      go_wp2
                      go_ret
                      exact ⟨rfl, HK.out⟩
                  · have to5 : (op == 5) = false := by simp [ho5]
                    obtain rfl := HM.out false (by simp [ho1, ho2, ho3, ho4, ho5])
                    clear ho1 ho2 ho3 ho4 ho5 HM
                    go_wp2
                    go_ret
                    exact ⟨rfl, HK.out⟩
        · have ty : (y != 0) = true := by simp [hy]
          have ty2 : (y == 0) = false := by simp [hy]
          obtain rfl := HM.out false (by rw [ty2]; simp)
          clear hy ty2
          go_wp2
          go_ret
          exact ⟨rfl, HK.out⟩
end Go.Proofs.YtmoekoilcdkhfaaGreatDoor

namespace Go.Proofs.YtmoekoilcdkhfaaGreatDoor
open Go.RowKit
set_option linter.unusedVariables false
set_option linter.unusedSimpArgs false
attribute [local go_sem ↓] Go.wp_at_zero Go.wp_at_succ

theorem sizeX : (Tryz.prog.info? 2).map (·.size) = some 1 := by kernel_rfl
/-- A list cut or filled up to a length. -/
def padM (k : Nat) (l : List Int) : List Int := l.take k ++ List.replicate (k - l.length) 0
theorem padM_length (k : Nat) (l : List Int) : (padM k l).length = k := by
  unfold padM
  rw [List.length_append, List.length_take, List.length_replicate]
  omega
theorem padM_self (l : List Int) : padM l.length l = l := by simp [padM]
theorem owns_row {w : World} {g n : Nat} {l : List Int} (h : w.heap[g]? = some (.cells (xC l).toArray 2 (0, 0))) (hn : l.length = n) (hm : n ≤ maxLen) : w.ownsRow g 2 1 (.slice (some ⟨g, 0, none⟩) n n) n (xC l) :=
  ⟨by rw [xC_length]; omega, .inr ⟨g, n, (xC l).toArray, rfl, Nat.le_refl _, h, Nat.le_refl _, hm, by simp [xC]; omega, by rw [Nat.mul_one]; exact List.take_of_length_le (by simp [xC]; omega)⟩⟩
theorem copyX (la : Option Addr) (m lc k : Nat) (l : List Int) (w : World) (hX : XIn w la m l) : ∃ w', (Builtin.copy_ #[24, 24] 3 #[.slice (some ⟨w.heap.size, 0, none⟩) k k, .slice la m lc]).run Tryz.prog (w.alloc (.cells (xC (List.replicate k 0)).toArray 2)) = .ok (goInt (Nat.min m k : Nat)) w' ∧ Kept (fun _ => False) w w' ∧ w'.heap[w.heap.size]? = some (.cells (xC (padM k l)).toArray 2 (0, 0)) := by
  have hml := hX.1
  by_cases h0 : Nat.min m k = 0
  · refine ⟨_, by rw [h0]; exact run_copy_none _ 24 24 3 2 _ _ _ _ _ _ Tryz.underlying24 sizeX h0, kept_alloc w _, ?_⟩
    have hp : padM k l = List.replicate k 0 := by
      unfold padM
      by_cases hk : k = 0
      · subst hk; simp
      · have hm0 : m = 0 := by
          simp only [Nat.min_def] at h0
          split at h0 <;> omega
        have : l = [] := List.length_eq_zero_iff.1 (by omega)
        subst this
        simp
    rw [hp]
    exact heap_alloc_new w _
  · have hm1 : 0 < m := by
      simp only [Nat.min_def] at h0
      split at h0 <;> omega
    obtain ⟨g, o, rfl, hc⟩ := (hX.kept (kept_alloc w (.cells (xC (List.replicate k 0)).toArray 2))).2 hm1
    have hl : (xC (l.take k)).length = Nat.min m k := by
      rw [xC_length, List.length_take, ← hml, Nat.min_comm]
    have hl2 : Nat.min m k ≤ k := Nat.min_le_right _ _
    have hl3 : Nat.min m k ≤ m := Nat.min_le_left _ _
    have hrun := run_copy_row (P := Tryz.prog) (w.alloc (.cells (xC (List.replicate k 0)).toArray 2)) 24 24 3 2 w.heap.size 0 k k ⟨g, o, none⟩ m lc (xC (List.replicate k 0)).toArray 2 (xC (l.take k)) Tryz.underlying24 sizeX (heap_alloc_new w _) hl (fun j v hj => by
      have hjl := (List.getElem?_eq_some_iff.1 hj).1
      rw [hl] at hjl
      rw [xC_at _ j (by rw [List.length_take]; omega)] at hj
      rw [Addr.add_lit, hc j (by omega), ← hj]
      congr 2
      simp only [List.getD_eq_getElem?_getD]
      rw [List.getElem?_take_of_lt (by omega)]) (by rw [hl]; simp [xC]; omega) (xC_one _)
    rw [hl] at hrun
    refine ⟨_, hrun, (kept_alloc w _).trans (G := fun b => b = w.heap.size) ⟨rfl, rfl, rfl, by simp [World.setRow], fun b _ hb => setRow_other _ _ _ _ hb⟩ (fun i hi e => by omega), ?_⟩
    rw [setRow_heap _ _ _ _ _ _ (heap_alloc_new w _)]
    have he : (List.take 0 (xC (List.replicate k 0)).toArray.toList ++ xC (l.take k) ++ List.drop (0 + Nat.min m k) (xC (List.replicate k 0)).toArray.toList) = xC (padM k l) := by
      unfold padM
      rw [xC_append, List.take_zero, List.nil_append, Nat.zero_add]
      have e1 : ∀ q, List.drop q (xC (List.replicate k 0)).toArray.toList = xC (List.replicate (k - q) 0) := fun q => by simp [xC, List.drop_replicate]
      rw [e1]
      have e2 : k - Nat.min m k = k - l.length := by
        rw [← hml]
        have hmin : Nat.min m k = if m ≤ k then m else k := rfl
        rw [hmin]
        split <;> omega
      rw [e2]
    rw [he]
section
variable {w : World}
set_option maxHeartbeats 1000000 in
theorem Copied_any (la : Option Addr) (n lc : Nat) (l : List Int) (w : World) (hX : XIn w la n l) (hb : n * 8 ≤ 140737488355328) :
    Calls Tryz.prog 16 #[.slice la n lc] w fun e w' => ∃ v, e = .returned v ∧ St w [ownI 2 1 v n (xC l)] w' := by
  have hm := makeX n (n : Int) rfl hb w
  obtain ⟨w2, hcp, k2, hg⟩ := copyX la n lc n l w hX
  have hln : l.length = n := hX.1.symm
  rw [← hln, padM_self] at hg
  have HS := hid ((St.nil w).own k2 (owns_row hg hln (by unfold maxLen; omega)))
  clear hX hln k2 hg
  generalize (xC (List.replicate n 0)).toArray = Z at *
  go_enter Tryz.func16, Tryz.ntmps16
  go_wp2_with (first | simp only [hm] | simp only [hcp])
  go_ret
  exact ⟨_, rfl, HS.out⟩
set_option maxHeartbeats 1000000 in
theorem Lay_any (la : Option Addr) (m lc : Nat) (l : List Int) (n seed : Int) (w : World) (hX : XIn w la m l) (h0 : 0 ≤ n) (h1 : n ≤ 64) :
    Calls Tryz.prog 19 #[.slice la m lc, .int .i64 n, .int .i64 seed] w fun e w' => ∃ v, e = .returned v ∧ St w [ownI 2 1 v n.toNat (xC (padM n.toNat l))] w' := by
  obtain ⟨k, rfl⟩ : ∃ k : Nat, n = (k : Int) := ⟨n.toNat, by omega⟩
  simp only [Int.toNat_natCast]
  have hm := makeX k (k : Int) rfl (by omega) w
  obtain ⟨w2, hcp, k2, hg⟩ := copyX la m lc k l w hX
  have HS := hid ((St.nil w).own k2 (owns_row hg (padM_length k l) (by unfold maxLen; omega)))
  clear hX k2 hg
  generalize (xC (List.replicate k 0)).toArray = Z at *
  go_enter Tryz.func19, Tryz.ntmps19
  go_wp2_with (first | simp only [hm] | simp only [hcp])
  go_ret
  exact ⟨_, rfl, HS.out⟩
end
end Go.Proofs.YtmoekoilcdkhfaaGreatDoor
