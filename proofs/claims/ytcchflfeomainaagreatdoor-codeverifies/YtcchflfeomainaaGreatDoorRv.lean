/- The document's Pops, Pushes, at, amiss. -/
import Derived.Test.YtcchflfeomainaaGreatDoorSr
import Derived.Test.YtcchflfeomainaaGreatDoorRf
namespace Go.Proofs.YtcchflfeomainaaGreatDoor
open Go.RowKit
set_option linter.unusedVariables false
set_option linter.unusedSimpArgs false
attribute [local go_sem ↓] Go.wp_at_zero Go.wp_at_succ

set_option maxRecDepth 100000 in
theorem rPops_any : ∀ (m : Nat) (w : World), m < 23 → Calls Tryz.prog 53 #[.int .i64 m] w fun e w' => e = .returned (.int .i64 (rowOf (m : Nat)).pops) ∧ w' = w := by
  intro m w hm
  have hall : ∀ k : Nat, k < 23 → (k : Int) = m → Calls Tryz.prog 53 #[.int .i64 (k : Int)] w fun e w' => e = .returned (.int .i64 (rowOf (k : Nat)).pops) ∧ w' = w := by
    intro k hk _
    match k, hk with
    | 0, _ => go_enter Tryz.func53, Tryz.ntmps53; go_wp2; go_ret; exact ⟨rfl, rfl⟩
    | 1, _ => go_enter Tryz.func53, Tryz.ntmps53; go_wp2; go_ret; exact ⟨rfl, rfl⟩
    | 2, _ => go_enter Tryz.func53, Tryz.ntmps53; go_wp2; go_ret; exact ⟨rfl, rfl⟩
    | 3, _ => go_enter Tryz.func53, Tryz.ntmps53; go_wp2; go_ret; exact ⟨rfl, rfl⟩
    | 4, _ => go_enter Tryz.func53, Tryz.ntmps53; go_wp2; go_ret; exact ⟨rfl, rfl⟩
    | 5, _ => go_enter Tryz.func53, Tryz.ntmps53; go_wp2; go_ret; exact ⟨rfl, rfl⟩
    | 6, _ => go_enter Tryz.func53, Tryz.ntmps53; go_wp2; go_ret; exact ⟨rfl, rfl⟩
    | 7, _ => go_enter Tryz.func53, Tryz.ntmps53; go_wp2; go_ret; exact ⟨rfl, rfl⟩
    | 8, _ => go_enter Tryz.func53, Tryz.ntmps53; go_wp2; go_ret; exact ⟨rfl, rfl⟩
    | 9, _ => go_enter Tryz.func53, Tryz.ntmps53; go_wp2; go_ret; exact ⟨rfl, rfl⟩
    | 10, _ => go_enter Tryz.func53, Tryz.ntmps53; go_wp2; go_ret; exact ⟨rfl, rfl⟩
    | 11, _ => go_enter Tryz.func53, Tryz.ntmps53; go_wp2; go_ret; exact ⟨rfl, rfl⟩
    | 12, _ => go_enter Tryz.func53, Tryz.ntmps53; go_wp2; go_ret; exact ⟨rfl, rfl⟩
    | 13, _ => go_enter Tryz.func53, Tryz.ntmps53; go_wp2; go_ret; exact ⟨rfl, rfl⟩
    | 14, _ => go_enter Tryz.func53, Tryz.ntmps53; go_wp2; go_ret; exact ⟨rfl, rfl⟩
    | 15, _ => go_enter Tryz.func53, Tryz.ntmps53; go_wp2; go_ret; exact ⟨rfl, rfl⟩
    | 16, _ => go_enter Tryz.func53, Tryz.ntmps53; go_wp2; go_ret; exact ⟨rfl, rfl⟩
    | 17, _ => go_enter Tryz.func53, Tryz.ntmps53; go_wp2; go_ret; exact ⟨rfl, rfl⟩
    | 18, _ => go_enter Tryz.func53, Tryz.ntmps53; go_wp2; go_ret; exact ⟨rfl, rfl⟩
    | 19, _ => go_enter Tryz.func53, Tryz.ntmps53; go_wp2; go_ret; exact ⟨rfl, rfl⟩
    | 20, _ => go_enter Tryz.func53, Tryz.ntmps53; go_wp2; go_ret; exact ⟨rfl, rfl⟩
    | 21, _ => go_enter Tryz.func53, Tryz.ntmps53; go_wp2; go_ret; exact ⟨rfl, rfl⟩
    | 22, _ => go_enter Tryz.func53, Tryz.ntmps53; go_wp2; go_ret; exact ⟨rfl, rfl⟩
    | n + 23, h => exact absurd h (by omega)
  exact hall m hm rfl
set_option maxRecDepth 100000 in
theorem rPushes_any : ∀ (m : Nat) (w : World), m < 23 → Calls Tryz.prog 54 #[.int .i64 m] w fun e w' => e = .returned (.int .i64 (rowOf (m : Nat)).pushes) ∧ w' = w := by
  intro m w hm
  have hall : ∀ k : Nat, k < 23 → (k : Int) = m → Calls Tryz.prog 54 #[.int .i64 (k : Int)] w fun e w' => e = .returned (.int .i64 (rowOf (k : Nat)).pushes) ∧ w' = w := by
    intro k hk _
    match k, hk with
    | 0, _ => go_enter Tryz.func54, Tryz.ntmps54; go_wp2; go_ret; exact ⟨rfl, rfl⟩
    | 1, _ => go_enter Tryz.func54, Tryz.ntmps54; go_wp2; go_ret; exact ⟨rfl, rfl⟩
    | 2, _ => go_enter Tryz.func54, Tryz.ntmps54; go_wp2; go_ret; exact ⟨rfl, rfl⟩
    | 3, _ => go_enter Tryz.func54, Tryz.ntmps54; go_wp2; go_ret; exact ⟨rfl, rfl⟩
    | 4, _ => go_enter Tryz.func54, Tryz.ntmps54; go_wp2; go_ret; exact ⟨rfl, rfl⟩
    | 5, _ => go_enter Tryz.func54, Tryz.ntmps54; go_wp2; go_ret; exact ⟨rfl, rfl⟩
    | 6, _ => go_enter Tryz.func54, Tryz.ntmps54; go_wp2; go_ret; exact ⟨rfl, rfl⟩
    | 7, _ => go_enter Tryz.func54, Tryz.ntmps54; go_wp2; go_ret; exact ⟨rfl, rfl⟩
    | 8, _ => go_enter Tryz.func54, Tryz.ntmps54; go_wp2; go_ret; exact ⟨rfl, rfl⟩
    | 9, _ => go_enter Tryz.func54, Tryz.ntmps54; go_wp2; go_ret; exact ⟨rfl, rfl⟩
    | 10, _ => go_enter Tryz.func54, Tryz.ntmps54; go_wp2; go_ret; exact ⟨rfl, rfl⟩
    | 11, _ => go_enter Tryz.func54, Tryz.ntmps54; go_wp2; go_ret; exact ⟨rfl, rfl⟩
    | 12, _ => go_enter Tryz.func54, Tryz.ntmps54; go_wp2; go_ret; exact ⟨rfl, rfl⟩
    | 13, _ => go_enter Tryz.func54, Tryz.ntmps54; go_wp2; go_ret; exact ⟨rfl, rfl⟩
    | 14, _ => go_enter Tryz.func54, Tryz.ntmps54; go_wp2; go_ret; exact ⟨rfl, rfl⟩
    | 15, _ => go_enter Tryz.func54, Tryz.ntmps54; go_wp2; go_ret; exact ⟨rfl, rfl⟩
    | 16, _ => go_enter Tryz.func54, Tryz.ntmps54; go_wp2; go_ret; exact ⟨rfl, rfl⟩
    | 17, _ => go_enter Tryz.func54, Tryz.ntmps54; go_wp2; go_ret; exact ⟨rfl, rfl⟩
    | 18, _ => go_enter Tryz.func54, Tryz.ntmps54; go_wp2; go_ret; exact ⟨rfl, rfl⟩
    | 19, _ => go_enter Tryz.func54, Tryz.ntmps54; go_wp2; go_ret; exact ⟨rfl, rfl⟩
    | 20, _ => go_enter Tryz.func54, Tryz.ntmps54; go_wp2; go_ret; exact ⟨rfl, rfl⟩
    | 21, _ => go_enter Tryz.func54, Tryz.ntmps54; go_wp2; go_ret; exact ⟨rfl, rfl⟩
    | 22, _ => go_enter Tryz.func54, Tryz.ntmps54; go_wp2; go_ret; exact ⟨rfl, rfl⟩
    | n + 23, h => exact absurd h (by omega)
  exact hall m hm rfl
end Go.Proofs.YtcchflfeomainaaGreatDoor
