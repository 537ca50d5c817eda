/- MemPlays where a row may not be: it answers true at once. -/
import Derived.Test.YtebhjfoggogmaaaPlaysRel
namespace Go.Proofs.Ytebhjfoggogmaaa
open Go.RowKit
set_option linter.unusedVariables false
set_option linter.unusedSimpArgs false

theorem may_yes (n : Int) (w : World) (h0 : 1 ≤ n) (h1 : n ≤ 4096) : Calls Try.prog 12 #[.int .i64 n] w fun e w' => e = .returned (.bool true) ∧ w' = w :=
  (may_any n w).mono fun e w' ⟨he, hw⟩ => ⟨by rw [he]; simp [h0, h1], hw⟩
theorem may_no (n : Int) (w : World) (h : ¬ (1 ≤ n ∧ n ≤ 4096)) : Calls Try.prog 12 #[.int .i64 n] w fun e w' => e = .returned (.bool false) ∧ w' = w :=
  (may_any n w).mono fun e w' ⟨he, hw⟩ => ⟨by rw [he]; congr 2; simpa using h, hw⟩

set_option maxRecDepth 100000 in
set_option maxHeartbeats 1000000 in
theorem plays_no1 (kind one two : Int) (sv : Value) (w : World) (h : ¬ (1 ≤ one ∧ one ≤ 4096)) :
    Calls Try.prog 4 #[.int .i64 kind, .int .i64 one, .int .i64 two, sv] w fun e w' => e = .returned (.bool true) ∧ Below w.heap.size w w' := by
  have HH : Hid (¬ (1 ≤ one ∧ one ≤ 4096)) := h
  clear h
  by_cases h2 : 1 ≤ two ∧ two ≤ 4096
  · have HT : Hid (1 ≤ two ∧ two ≤ 4096) := h2
    clear h2
    go_enter Try.func4, Try.ntmps4
    go_wp2_with fail
    refine (awake_any _).mono ?_
    rintro e wa ⟨rfl, hka⟩
    go_wp2_with fail
    refine (newMeter_f _).mono ?_
    rintro e w1 ⟨rfl, n1⟩
    go_wp2_with fail
    refine (newRow_no _ _ _ _ HH.out).mono ?_
    rintro e w2 ⟨rfl, rfl⟩
    go_wp2_with fail
    refine (newRow_f _ _ _ _ HT.out.1 HT.out.2).mono ?_
    rintro e w3 ⟨rfl, n3⟩
    have HB : Below w.heap.size w w3 := (hka.below (Nat.le_refl _) (fun _ _ f => f)).trans ((calm_trans n1.calm n3.calm).below hka.size (fun _ _ f => f))
    go_wp2_with fail
    refine (may_no _ _ HH.out).mono ?_
    rintro e w4 ⟨rfl, rfl⟩
    go_wp2_with fail
    refine (may_yes _ _ HT.out.1 HT.out.2).mono ?_
    rintro e w5 ⟨rfl, rfl⟩
    go_wp2
    go_ret
    exact ⟨rfl, HB⟩
  · have HT : Hid (¬ (1 ≤ two ∧ two ≤ 4096)) := h2
    clear h2
    go_enter Try.func4, Try.ntmps4
    go_wp2_with fail
    refine (awake_any _).mono ?_
    rintro e wa ⟨rfl, hka⟩
    go_wp2_with fail
    refine (newMeter_f _).mono ?_
    rintro e w1 ⟨rfl, n1⟩
    go_wp2_with fail
    refine (newRow_no _ _ _ _ HH.out).mono ?_
    rintro e w2 ⟨rfl, rfl⟩
    go_wp2_with fail
    refine (newRow_no _ _ _ _ HT.out).mono ?_
    rintro e w3 ⟨rfl, rfl⟩
    have HB : Below w.heap.size w w3 := (hka.below (Nat.le_refl _) (fun _ _ f => f)).trans (n1.calm.below hka.size (fun _ _ f => f))
    go_wp2_with fail
    refine (may_no _ _ HH.out).mono ?_
    rintro e w4 ⟨rfl, rfl⟩
    go_wp2_with fail
    refine (may_no _ _ HT.out).mono ?_
    rintro e w5 ⟨rfl, rfl⟩
    go_wp2
    go_ret
    exact ⟨rfl, HB⟩

set_option maxRecDepth 100000 in
set_option maxHeartbeats 1000000 in
theorem plays_no2 (kind one two : Int) (sv : Value) (w : World) (h1 : 1 ≤ one ∧ one ≤ 4096) (h2 : ¬ (1 ≤ two ∧ two ≤ 4096)) :
    Calls Try.prog 4 #[.int .i64 kind, .int .i64 one, .int .i64 two, sv] w fun e w' => e = .returned (.bool true) ∧ Below w.heap.size w w' := by
  have HH : Hid (1 ≤ one ∧ one ≤ 4096) := h1
  have HT : Hid (¬ (1 ≤ two ∧ two ≤ 4096)) := h2
  clear h1 h2
  go_enter Try.func4, Try.ntmps4
  go_wp2_with fail
  refine (awake_any _).mono ?_
  rintro e wa ⟨rfl, hka⟩
  go_wp2_with fail
  refine (newMeter_f _).mono ?_
  rintro e w1 ⟨rfl, n1⟩
  go_wp2_with fail
  refine (newRow_f _ _ _ _ HH.out.1 HH.out.2).mono ?_
  rintro e w2 ⟨rfl, n2⟩
  go_wp2_with fail
  refine (newRow_no _ _ _ _ HT.out).mono ?_
  rintro e w3 ⟨rfl, rfl⟩
  have HB : Below w.heap.size w w3 := (hka.below (Nat.le_refl _) (fun _ _ f => f)).trans ((calm_trans n1.calm n2.calm).below hka.size (fun _ _ f => f))
  go_wp2_with fail
  refine (may_yes _ _ HH.out.1 HH.out.2).mono ?_
  rintro e w4 ⟨rfl, rfl⟩
  go_wp2_with fail
  refine (may_no _ _ HT.out).mono ?_
  rintro e w5 ⟨rfl, rfl⟩
  go_wp2
  go_ret
  exact ⟨rfl, HB⟩
end Go.Proofs.Ytebhjfoggogmaaa
