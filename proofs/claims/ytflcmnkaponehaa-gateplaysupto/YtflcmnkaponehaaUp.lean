/- The document's first example: awake answers true. -/
import Derived.Test.YtflcmnkaponehaaGateB
namespace Go.Proofs.Ytflcmnkaponehaa
open Go.RowKit
set_option linter.unusedVariables false
set_option linter.unusedSimpArgs false

theorem St.noMeter {o w : World} {its : List It} (h : St o its w) : St o (meterI 51 none Mt.zero (.slice none 0 0) :: its) w :=
  h.push _ (Kept.refl _ w) trivial (by simp [meterI]) (by simp [meterI])

set_option maxRecDepth 100000 in
set_option maxHeartbeats 1000000 in
theorem awake_any (w : World) : Calls Try.prog 5 #[] w fun e w' => e = .returned (.bool true) ∧ Kept (fun _ => False) w w' := by
  have hS0 := (St.nil w).noMeter
  have hnew := gateNew_st hS0 none
  clear hS0
  go_enter Try.func5, Try.ntmps5
  go_wp2_with fail
  refine hnew.mono ?_
  rintro e w1 ⟨rfl, hS, _⟩
  clear hnew
  generalize w.heap.size + 1 + 1 = g at *
  generalize w.heap.size + 1 = r at *
  generalize w.heap.size = c at *
  replace hS : St w [gateI g r, gtRowI r c none 2 [⟨0, 0⟩], meterI 51 none Mt.zero (.slice none 0 0)] w1 := hS
  go_wp2_with fail
  refine (gateTake_st hS 2 0 1 rfl rfl rfl (by omega) (Mt.within_zero 0) (by omega) (by decide) (by decide) 3).mono ?_
  rintro e w2 ⟨he, v2, hS2⟩
  obtain rfl : e = .returned (.tuple #[.int .i64 1, .int .i64 0]) := he
  replace hS2 : St w [gateI g r, gtRowI r c none 2 [⟨1, 3⟩], meterI 51 none Mt.zero (.slice none 0 0)] w2 := hS2
  clear hS
  go_wp2_with fail
  refine (gateTake_st hS2 2 0 1 rfl rfl rfl (by omega) (Mt.within_zero 0) (by omega) (by decide) (by decide) 2).mono ?_
  rintro e w3 ⟨he, v3, hS3⟩
  obtain rfl : e = .returned (.tuple #[.int .i64 0, .int .i64 5]) := he
  replace hS3 : St w [gateI g r, gtRowI r c none 2 [⟨1, 3⟩], meterI 51 none Mt.zero (.slice none 0 0)] w3 := hS3
  clear hS2
  go_wp2_with fail
  refine (gateNow_st hS3 0 1 rfl rfl).mono ?_
  rintro e w4 ⟨he, hS4⟩
  obtain rfl : e = .returned (.agg #[.int .i64 1, .int .i64 3]) := he
  have hS5 := hS4.box #[.int .i64 1, .int .i64 3] 34
  clear hS3 hS4
  go_wp2_with fail
  generalize w4.alloc (.cells #[.int .i64 1, .int .i64 3] 34) = w5 at *
  generalize w4.heap.size = x at *
  refine (gateGive_st hS5 3 1 2 rfl rfl rfl (by omega) (Mt.within_zero 0) (by omega) (by decide) (by decide) 2).mono ?_
  rintro e w6 ⟨he, v6, hS6⟩
  obtain rfl : e = .returned (.int .i64 4) := he
  replace hS6 : St w [boxI x #[.int .i64 1, .int .i64 3] 34, gateI g r, gtRowI r c none 2 [⟨1, 3⟩], meterI 51 none Mt.zero (.slice none 0 0)] w6 := hS6
  clear hS5
  go_wp2_with fail
  refine (gateGive_st hS6 3 1 2 rfl rfl rfl (by omega) (Mt.within_zero 0) (by omega) (by decide) (by decide) 3).mono ?_
  rintro e w7 ⟨he, v7, hS7⟩
  obtain rfl : e = .returned (.int .i64 0) := he
  replace hS7 : St w [boxI x #[.int .i64 1, .int .i64 3] 34, gateI g r, gtRowI r c none 2 [⟨2, 0⟩], meterI 51 none Mt.zero (.slice none 0 0)] w7 := hS7
  clear hS6
  go_wp2_with fail
  refine (gateLook_st hS7 3 1 2 rfl rfl rfl (by omega) (Mt.within_zero 0) (by omega)).mono ?_
  rintro e w8 ⟨he, v8, hS8⟩
  obtain rfl : e = .returned (.agg #[.int .i64 2, .int .i64 0]) := he
  replace hS8 : St w [boxI x #[.int .i64 1, .int .i64 3] 34, gateI g r, gtRowI r c none 2 [⟨2, 0⟩], meterI 51 none Mt.zero (.slice none 0 0)] w8 := hS8
  have hS9 := hS8.box #[.int .i64 2, .int .i64 0] 34
  clear hS7 hS8
  go_wp2_with fail
  generalize w8.alloc (.cells #[.int .i64 2, .int .i64 0] 34) = w9 at *
  generalize w8.heap.size = y at *
  refine (gateTake_st hS9 4 2 3 rfl rfl rfl (by omega) (Mt.within_zero 0) (by omega) (by decide) (by decide) 9).mono ?_
  rintro e w10 ⟨he, v10, hS10⟩
  obtain rfl : e = .returned (.tuple #[.int .i64 0, .int .i64 1]) := he
  have y0 : w10.cell? ⟨y, 0, none⟩ = some (.int .i64 2) := hS10.cell 0 rfl 0
  have y1 : w10.cell? ⟨y, 1, none⟩ = some (.int .i64 0) := hS10.cell 0 rfl 1
  have x0 : w10.cell? ⟨x, 0, none⟩ = some (.int .i64 1) := hS10.cell 1 rfl 0
  have x1 : w10.cell? ⟨x, 1, none⟩ = some (.int .i64 3) := hS10.cell 1 rfl 1
  have hk := hS10.same
  clear hS9 hS10
  go_wp2
  go_ret
  exact ⟨rfl, hk⟩
end Go.Proofs.Ytflcmnkaponehaa
