/- The document's first example: awake answers true. -/
import Derived.Test.YthaajlelaoimaaaOneW
namespace Go.Proofs.Ythaajlelaoimaaa
open Go.RowKit
set_option linter.unusedVariables false
set_option linter.unusedSimpArgs false
attribute [local go_sem ↓] Go.wp_at_zero Go.wp_at_succ

theorem ok_two {a b : Hd} {n : Nat} (ha : HOk a n) (hb : HOk b n) : HsOk [a, b] n := fun h hm => by
  simp only [List.mem_cons, List.not_mem_nil, or_false] at hm
  rcases hm with rfl | rfl
  · exact ha
  · exact hb
theorem ok_one {a : Hd} {n : Nat} (ha : HOk a n) : HsOk [a] n := fun h hm => by
  simp only [List.mem_cons, List.not_mem_nil, or_false] at hm
  subst hm
  exact ha

set_option maxRecDepth 100000 in
set_option maxHeartbeats 1000000 in
theorem awake_any (w : World) : Calls Try.prog 8 #[] w fun e w' => e = .returned (.bool true) ∧ Kept (fun _ => False) w w' := by
  have hout := tabNew_out (.pointer none) 9 (.inr (by decide)) w
  have hnew := TSt.new (St.nil w) 2 (by omega) (by omega)
  go_enter Try.func8, Try.ntmps8
  go_wp2_with fail
  refine hout.mono ?_
  rintro e w0 ⟨rfl, hw0⟩
  subst hw0
  go_wp2_with fail
  refine hnew.mono ?_
  rintro e w1 ⟨t, r, c, q, f, rfl, h1⟩
  clear hnew hout
  have z0 : HOk Hd.zero 4 := HOk.zero 4
  have ok1 : HsOk [⟨0, 0, 0, 0, false, 0⟩, ⟨0, 0, 0, 0, false, 0⟩] 4 := ok_two (HOk.zero 4) (HOk.zero 4)
  go_wp2_with fail
  refine (TSt.claim h1 ok1 (by omega) 0 3).mono ?_
  rintro e w2 ⟨he, h2⟩
  obtain rfl : e = .returned (.tuple #[.int .i64 1, .int .i64 0]) := he
  replace h2 : TSt w0 [] t r c q f 2 [⟨1, 1, 0, 3, false, 0⟩, ⟨0, 0, 0, 0, false, 0⟩] [0, 0, 0, 0] w2 := h2
  clear ok1 h1
  have ok2 : HsOk [⟨1, 1, 0, 3, false, 0⟩, ⟨0, 0, 0, 0, false, 0⟩] 4 := ok_two ⟨by decide, by decide, .inr (.inl ⟨rfl, rfl, by decide, rfl, rfl⟩)⟩ (HOk.zero 4)
  go_wp2_with fail
  refine (TSt.claim h2 ok2 (by omega) 0 4).mono ?_
  rintro e w3 ⟨he, h3⟩
  obtain rfl : e = .returned (.tuple #[.int .i64 0, .int .i64 5]) := he
  replace h3 : TSt w0 [] t r c q f 2 [⟨1, 1, 0, 3, false, 0⟩, ⟨0, 0, 0, 0, false, 0⟩] [0, 0, 0, 0] w3 := h3
  clear ok2 h2
  have ok3 : HsOk [⟨1, 1, 0, 3, false, 0⟩, ⟨0, 0, 0, 0, false, 0⟩] 4 := ok_two ⟨by decide, by decide, .inr (.inl ⟨rfl, rfl, by decide, rfl, rfl⟩)⟩ (HOk.zero 4)
  go_wp2_with fail
  refine (TSt.ready h3 ok3 0 2 9).mono ?_
  rintro e w4 ⟨he, h4⟩
  obtain rfl : e = .returned (.int .i64 4) := he
  replace h4 : TSt w0 [] t r c q f 2 [⟨1, 1, 0, 3, false, 0⟩, ⟨0, 0, 0, 0, false, 0⟩] [0, 0, 0, 0] w4 := h4
  clear ok3 h3
  have ok4 : HsOk [⟨1, 1, 0, 3, false, 0⟩, ⟨0, 0, 0, 0, false, 0⟩] 4 := ok_two ⟨by decide, by decide, .inr (.inl ⟨rfl, rfl, by decide, rfl, rfl⟩)⟩ (HOk.zero 4)
  go_wp2_with fail
  refine (TSt.ready h4 ok4 0 1 9).mono ?_
  rintro e w5 ⟨he, h5⟩
  obtain rfl : e = .returned (.int .i64 0) := he
  replace h5 : TSt w0 [] t r c q f 2 [⟨1, 2, 9, 3, false, 0⟩, ⟨0, 0, 0, 0, false, 0⟩] [0, 0, 0, 0] w5 := h5
  clear ok4 h4
  have ok5 : HsOk [⟨1, 2, 9, 3, false, 0⟩, ⟨0, 0, 0, 0, false, 0⟩] 4 := ok_two ⟨by decide, by decide, .inr (.inr ⟨rfl, by decide, by decide, .inl ⟨rfl, rfl⟩⟩)⟩ (HOk.zero 4)
  go_wp2_with fail
  refine (TSt.doom h5 ok5 0 1 5).mono ?_
  rintro e w6 ⟨he, h6⟩
  obtain rfl : e = .returned (.int .i64 0) := he
  replace h6 : TSt w0 [] t r c q f 2 [⟨1, 2, 9, 3, true, 5⟩, ⟨0, 0, 0, 0, false, 0⟩] [0, 0, 0, 0] w6 := h6
  clear ok5 h5
  have ok6 : HsOk [⟨1, 2, 9, 3, true, 5⟩, ⟨0, 0, 0, 0, false, 0⟩] 4 := ok_two ⟨by decide, by decide, .inr (.inr ⟨rfl, by decide, by decide, .inr ⟨rfl, by decide⟩⟩)⟩ (HOk.zero 4)
  go_wp2_with fail
  refine (TSt.doom h6 ok6 0 1 6).mono ?_
  rintro e w7 ⟨he, h7⟩
  obtain rfl : e = .returned (.int .i64 0) := he
  replace h7 : TSt w0 [] t r c q f 2 [⟨1, 2, 9, 3, true, 5⟩, ⟨0, 0, 0, 0, false, 0⟩] [0, 0, 0, 0] w7 := h7
  clear ok6 h6
  go_wp2_with fail
  refine (TSt.look h7 0).mono ?_
  rintro e w8 ⟨he, h8⟩
  obtain rfl : e = .returned (.tuple #[.agg #[.int .i64 1, .int .i64 2, .int .i64 9, .int .i64 3, .bool true, .int .i64 5], .int .i64 0]) := he
  have h9 := h8.box #[.int .i64 1, .int .i64 2, .int .i64 9, .int .i64 3, .bool true, .int .i64 5] 49
  clear h7 h8
  have ok9 : HsOk [⟨1, 2, 9, 3, true, 5⟩, ⟨0, 0, 0, 0, false, 0⟩] 4 := ok_two ⟨by decide, by decide, .inr (.inr ⟨rfl, by decide, by decide, .inr ⟨rfl, by decide⟩⟩)⟩ (HOk.zero 4)
  go_wp2_with fail
  generalize w8.alloc (.cells #[.int .i64 1, .int .i64 2, .int .i64 9, .int .i64 3, .bool true, .int .i64 5] 49) = w9 at *
  generalize w8.heap.size = x at *
  refine (TSt.free h9 ok9 0 1).mono ?_
  rintro e w10 ⟨he, h10⟩
  obtain rfl : e = .returned (.int .i64 0) := he
  clear h9 ok9
  go_wp2_with fail
  refine (TSt.put h10 1 1 7).mono ?_
  rintro e w11 ⟨he, h11⟩
  obtain rfl : e = .returned (.int .i64 0) := he
  clear h10
  go_wp2_with fail
  refine (TSt.word h11 1 1).mono ?_
  rintro e w12 ⟨he, h12⟩
  obtain rfl : e = .returned (.tuple #[.int .u64 7, .int .i64 0]) := he
  clear h11
  have x0 : w12.cell? ⟨x, 0, none⟩ = some (.int .i64 1) := h12.cell 0 rfl 0
  have x1 : w12.cell? ⟨x, 1, none⟩ = some (.int .i64 2) := h12.cell 0 rfl 1
  have x2 : w12.cell? ⟨x, 2, none⟩ = some (.int .i64 9) := h12.cell 0 rfl 2
  have x3 : w12.cell? ⟨x, 3, none⟩ = some (.int .i64 3) := h12.cell 0 rfl 3
  have x4 : w12.cell? ⟨x, 4, none⟩ = some (.bool true) := h12.cell 0 rfl 4
  have x5 : w12.cell? ⟨x, 5, none⟩ = some (.int .i64 5) := h12.cell 0 rfl 5
  have hl := h12.len
  have hk := h12.same
  clear h12
  go_wp2_with (go_at_call 18; refine hl.mono ?_; rintro e w' ⟨rfl, rfl⟩)
  go_ret
  exact ⟨rfl, hk⟩
end Go.Proofs.Ythaajlelaoimaaa
