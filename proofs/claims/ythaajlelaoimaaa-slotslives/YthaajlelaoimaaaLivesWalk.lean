/- SlotsLives's walk: three lives of one slot, each doomed as it may be. -/
import Derived.Test.YthaajlelaoimaaaLife
import Derived.Test.YthaajlelaoimaaaLists
namespace Go.Proofs.Ythaajlelaoimaaa
open Go.RowKit
set_option linter.unusedVariables false
set_option linter.unusedSimpArgs false
attribute [local go_sem ↓] Go.wp_at_zero Go.wp_at_succ

set_option maxRecDepth 100000 in
set_option maxHeartbeats 4000000 in
theorem lives_walk (th sp : Int) (la lb : Option Addr) (n m ca cb : Nat) (xs ys : List Int) (w : World) (hX : ListAt w la n ca xs) (hY : ListAt w lb m cb ys) :
    Calls Try.prog 6 #[.int .i64 th, .int .i64 sp, .slice la n ca, .slice lb m cb] w fun e w' => e = .returned (.bool true) ∧ Kept (fun _ => False) w w' := by
  have HX : Hid (IntsIn w la n xs) := (list_ints hX).1
  have HY : Hid (IntsIn w lb m ys) := (list_ints hY).1
  have hn : n * 8 ≤ 140737488351232 := (list_ints hX).2.2
  have hm : m * 8 ≤ 140737488351232 := (list_ints hY).2.2
  clear hX hY
  go_enter Try.func6, Try.ntmps6
  go_wp2_with fail
  refine (awake_any _).mono ?_
  rintro e wa ⟨rfl, hka⟩
  have hA := (St.nil w).calm hka
  have hN := TSt.new hA 1 (by omega) (by omega)
  clear hka
  go_wp2_with fail
  refine hN.mono ?_
  rintro e w1 ⟨t, r, c, q, f, rfl, h1⟩
  clear hN hA
  obtain ⟨k, hk, hk0, hk1⟩ : ∃ k : Int, bits .and .i64 th 7 = k ∧ 0 ≤ k ∧ k ≤ 7 := ⟨th % 8, and7 th, by omega, by omega⟩
  obtain ⟨p, hp, hp0, hp1⟩ : ∃ p : Int, bits .and .i64 sp 255 = p ∧ 0 ≤ p ∧ p ≤ 255 := ⟨sp % 256, and255 sp, by omega, by omega⟩
  go_wp2_with fail
  go_loopw [13] (fun i wr => ∃ life : Nat, i = .int .i64 life ∧ 1 ≤ life ∧ life ≤ 4 ∧ TSt w [] t r c q f 1 [⟨(life : Int) - 1, 0, 0, 0, false, 0⟩] [0, 0] wr) (fun i _ => 4 - (intOf i).toNat)
  case atStart => exact ⟨1, rfl, by omega, by omega, h1⟩
  case round =>
    clear h1
    obtain ⟨life, rfl, hl0, hl4, hT⟩ := hrel
    have hl1 : (1 : Int) ≤ (life : Int) := by omega
    by_cases hlt : life ≤ 3
    · have hl3 : (life : Int) ≤ 3 := by omega
      have hC := life_claim hT (k := 1 + k) hl1 (by omega) (by omega) (by omega)
      go_wp2_with fail
      refine hC.mono ?_
      rintro e v1 ⟨rfl, hT1⟩
      clear hC hT
      have hR := life_ready hT1 (p := 1 + p) hl1 (by omega) (by omega) (by omega)
      go_wp2_with fail
      refine hR.mono ?_
      rintro e v2 ⟨rfl, hT2⟩
      clear hR hT1
      have q1 : ((life : Int) != (life : Int)) = false := by simp
      have hT3 := hT2.box #[.int .i64 life, .int .i64 2, .int .i64 (1 + p), .int .i64 (1 + k), .bool false, .int .i64 0] 49
      clear hT2
      go_wp2_with fail
      generalize v2.alloc (.cells #[.int .i64 life, .int .i64 2, .int .i64 (1 + p), .int .i64 (1 + k), .bool false, .int .i64 0] 49) = v3 at *
      generalize v2.heap.size = x at *
      go_loopw [18] (fun i wi => ∃ (j : Nat) (dm : Bool) (wy : Int), i = .int .i64 j ∧ j ≤ n ∧ Dm dm wy ∧ TSt w [boxI x #[.int .i64 life, .int .i64 2, .int .i64 (1 + p), .int .i64 (1 + k), .bool dm, .int .i64 wy] 49] t r c q f 1 [⟨life, 2, 1 + p, 1 + k, dm, wy⟩] [0, 0] wi) (fun i _ => n - (intOf i).toNat)
      case atStart => exact ⟨0, false, 0, rfl, Nat.zero_le _, .inl ⟨rfl, rfl⟩, hT3⟩
      case round =>
        clear hT3
        obtain ⟨j, dm, wy, rfl, hj, hd, hI⟩ := hrel
        have HD : Hid (Dm dm wy) := hd
        clear hd
        have hj0 : (0 : Int) ≤ (j : Int) := Int.natCast_nonneg _
        by_cases hjn : j < n
        · have hjn' : (j : Int) < (n : Int) := by omega
          by_cases hjm : j < m
          · have hjm' : (j : Int) < (m : Int) := by omega
            obtain ⟨gx, ox, rfl, hcx⟩ := (HX.out.kept hI.same).2 (by omega)
            obtain ⟨gy, oy, rfl, hcy⟩ := (HY.out.kept hI.same).2 (by omega)
            have c0 := hcx j hjn
            have c1 := hcy j hjm
            have hk := hI.same
            clear hcx hcy
            generalize xs.getD j 0 = zx at *
            generalize hzy : ys.getD j 0 = zy at *
            obtain ⟨b, hb, hb0, hb1⟩ : ∃ b : Int, bits .and .i64 zx 7 = b ∧ 0 ≤ b ∧ b ≤ 7 := ⟨zx % 8, and7 zx, by omega, by omega⟩
            have hDo := life_doom hI hl1 (by omega) (by omega) (by omega) HD.out zy (1 + b) (by omega) (by omega)
            have HZ : Hid (ys.getD j 0 = zy) := hzy
            clear hzy
            by_cases hz : zy = (life : Int)
            · subst hz
              have e0 : ((life : Int) == (life : Int)) = true := by simp
              simp only [if_true] at hDo
              cases dm
              · simp only [Bool.false_eq_true, if_false] at hDo
                go_wp2_with fail
                refine hDo.mono ?_
                rintro e u1 ⟨rfl, hI1⟩
                clear hDo hI
                have d1 : u1.cell? ⟨gy, oy + j, none⟩ = some (.int .i64 (life : Int)) := by
                  obtain ⟨g, o, e, h⟩ := (HY.out.kept hI1.same).2 (by omega)
                  cases e
                  rw [← HZ.out]
                  exact h j hjm
                have x4 : u1.cell? ⟨x, 4, none⟩ = some (.bool false) := hI1.cell 0 rfl 4
                have x5 : u1.cell? ⟨x, 5, none⟩ = some (.int .i64 wy) := hI1.cell 0 rfl 5
                have y4 : u1.frozen? ⟨x, 4, none⟩ = false := hI1.frozen 0 rfl 4
                have y5 : u1.frozen? ⟨x, 5, none⟩ = false := hI1.frozen 0 rfl 5
                have hI2 : TSt w [boxI x #[.int .i64 life, .int .i64 2, .int .i64 (1 + p), .int .i64 (1 + k), .bool true, .int .i64 (1 + b)] 49] t r c q f 1 [⟨life, 2, 1 + p, 1 + k, true, 1 + b⟩] [0, 0] ((u1.setCell ⟨x, 4, none⟩ (.bool true)).setCell ⟨x, 5, none⟩ (.int .i64 (1 + b))) := (hI1.write 0 rfl 4 (.bool true)).write 0 rfl 5 (.int .i64 (1 + b))
                go_wp2_with fail
                generalize (u1.setCell ⟨x, 4, none⟩ (.bool true)).setCell ⟨x, 5, none⟩ (.int .i64 (1 + b)) = u2 at *
                clear x4 x5 y4 y5 d1
                have hLk := life_look hI2
                clear hI1
                refine hLk.mono ?_
                rintro e u3 ⟨rfl, hI3⟩
                clear hLk hI2
                have hI4 := hI3.box #[.int .i64 life, .int .i64 2, .int .i64 (1 + p), .int .i64 (1 + k), .bool true, .int .i64 (1 + b)] 49
                have x0 : (u3.alloc (.cells #[.int .i64 life, .int .i64 2, .int .i64 (1 + p), .int .i64 (1 + k), .bool true, .int .i64 (1 + b)] 49)).cell? ⟨x, 0, none⟩ = some (.int .i64 life) := hI4.cell 1 rfl 0
                have x1 : (u3.alloc (.cells #[.int .i64 life, .int .i64 2, .int .i64 (1 + p), .int .i64 (1 + k), .bool true, .int .i64 (1 + b)] 49)).cell? ⟨x, 1, none⟩ = some (.int .i64 2) := hI4.cell 1 rfl 1
                have x2 : (u3.alloc (.cells #[.int .i64 life, .int .i64 2, .int .i64 (1 + p), .int .i64 (1 + k), .bool true, .int .i64 (1 + b)] 49)).cell? ⟨x, 2, none⟩ = some (.int .i64 (1 + p)) := hI4.cell 1 rfl 2
                have x3 : (u3.alloc (.cells #[.int .i64 life, .int .i64 2, .int .i64 (1 + p), .int .i64 (1 + k), .bool true, .int .i64 (1 + b)] 49)).cell? ⟨x, 3, none⟩ = some (.int .i64 (1 + k)) := hI4.cell 1 rfl 3
                have x4 : (u3.alloc (.cells #[.int .i64 life, .int .i64 2, .int .i64 (1 + p), .int .i64 (1 + k), .bool true, .int .i64 (1 + b)] 49)).cell? ⟨x, 4, none⟩ = some (.bool true) := hI4.cell 1 rfl 4
                have x5 : (u3.alloc (.cells #[.int .i64 life, .int .i64 2, .int .i64 (1 + p), .int .i64 (1 + k), .bool true, .int .i64 (1 + b)] 49)).cell? ⟨x, 5, none⟩ = some (.int .i64 (1 + b)) := hI4.cell 1 rfl 5
                have e1 : ((life : Int) == (life : Int)) = true := by simp
                have e2 : ((1 + p) == (1 + p)) = true := by simp
                have e3 : ((1 + k) == (1 + k)) = true := by simp
                have e4 : ((1 + b) == (1 + b)) = true := by simp
                have HI : Hid _ := hI4.pop
                clear hI3 hI4
                go_wp2
                go_roundw
                case rel => exact ⟨j + 1, true, (1 + b), by go_num, by omega, .inr ⟨rfl, by omega⟩, HI.out⟩
                case measure => simp [intOf]; omega
              · simp only [if_true] at hDo
                go_wp2_with fail
                refine hDo.mono ?_
                rintro e u1 ⟨rfl, hI1⟩
                clear hDo hI
                have d1 : u1.cell? ⟨gy, oy + j, none⟩ = some (.int .i64 (life : Int)) := by
                  obtain ⟨g, o, e, h⟩ := (HY.out.kept hI1.same).2 (by omega)
                  cases e
                  rw [← HZ.out]
                  exact h j hjm
                have x4 : u1.cell? ⟨x, 4, none⟩ = some (.bool true) := hI1.cell 0 rfl 4
                have hI2 := hI1
                go_wp2_with fail
                clear x4 d1
                have hLk := life_look hI2
                clear hI1
                refine hLk.mono ?_
                rintro e u3 ⟨rfl, hI3⟩
                clear hLk hI2
                have hI4 := hI3.box #[.int .i64 life, .int .i64 2, .int .i64 (1 + p), .int .i64 (1 + k), .bool true, .int .i64 wy] 49
                have x0 : (u3.alloc (.cells #[.int .i64 life, .int .i64 2, .int .i64 (1 + p), .int .i64 (1 + k), .bool true, .int .i64 wy] 49)).cell? ⟨x, 0, none⟩ = some (.int .i64 life) := hI4.cell 1 rfl 0
                have x1 : (u3.alloc (.cells #[.int .i64 life, .int .i64 2, .int .i64 (1 + p), .int .i64 (1 + k), .bool true, .int .i64 wy] 49)).cell? ⟨x, 1, none⟩ = some (.int .i64 2) := hI4.cell 1 rfl 1
                have x2 : (u3.alloc (.cells #[.int .i64 life, .int .i64 2, .int .i64 (1 + p), .int .i64 (1 + k), .bool true, .int .i64 wy] 49)).cell? ⟨x, 2, none⟩ = some (.int .i64 (1 + p)) := hI4.cell 1 rfl 2
                have x3 : (u3.alloc (.cells #[.int .i64 life, .int .i64 2, .int .i64 (1 + p), .int .i64 (1 + k), .bool true, .int .i64 wy] 49)).cell? ⟨x, 3, none⟩ = some (.int .i64 (1 + k)) := hI4.cell 1 rfl 3
                have x4 : (u3.alloc (.cells #[.int .i64 life, .int .i64 2, .int .i64 (1 + p), .int .i64 (1 + k), .bool true, .int .i64 wy] 49)).cell? ⟨x, 4, none⟩ = some (.bool true) := hI4.cell 1 rfl 4
                have x5 : (u3.alloc (.cells #[.int .i64 life, .int .i64 2, .int .i64 (1 + p), .int .i64 (1 + k), .bool true, .int .i64 wy] 49)).cell? ⟨x, 5, none⟩ = some (.int .i64 wy) := hI4.cell 1 rfl 5
                have e1 : ((life : Int) == (life : Int)) = true := by simp
                have e2 : ((1 + p) == (1 + p)) = true := by simp
                have e3 : ((1 + k) == (1 + k)) = true := by simp
                have e4 : (wy == wy) = true := by simp
                have HI : Hid _ := hI4.pop
                clear hI3 hI4
                go_wp2
                go_roundw
                case rel => exact ⟨j + 1, true, wy, by go_num, by omega, HD.out, HI.out⟩
                case measure => simp [intOf]; omega
            · simp only [hz, if_false] at hDo
              have hq : (zy == (life : Int)) = false := by simpa using hz
              clear hz
              go_wp2_with fail
              refine hDo.mono ?_
              rintro e u1 ⟨rfl, hI1⟩
              clear hDo hI
              have d1 : u1.cell? ⟨gy, oy + j, none⟩ = some (.int .i64 zy) := by
                obtain ⟨g, o, e, h⟩ := (HY.out.kept hI1.same).2 (by omega)
                cases e
                rw [← HZ.out]
                exact h j hjm
              have hI2 := hI1
              go_wp2_with fail
              clear d1
              have hLk := life_look hI2
              clear hI1
              refine hLk.mono ?_
              rintro e u3 ⟨rfl, hI3⟩
              clear hLk hI2
              have hI4 := hI3.box #[.int .i64 life, .int .i64 2, .int .i64 (1 + p), .int .i64 (1 + k), .bool dm, .int .i64 wy] 49
              have x0 : (u3.alloc (.cells #[.int .i64 life, .int .i64 2, .int .i64 (1 + p), .int .i64 (1 + k), .bool dm, .int .i64 wy] 49)).cell? ⟨x, 0, none⟩ = some (.int .i64 life) := hI4.cell 1 rfl 0
              have x1 : (u3.alloc (.cells #[.int .i64 life, .int .i64 2, .int .i64 (1 + p), .int .i64 (1 + k), .bool dm, .int .i64 wy] 49)).cell? ⟨x, 1, none⟩ = some (.int .i64 2) := hI4.cell 1 rfl 1
              have x2 : (u3.alloc (.cells #[.int .i64 life, .int .i64 2, .int .i64 (1 + p), .int .i64 (1 + k), .bool dm, .int .i64 wy] 49)).cell? ⟨x, 2, none⟩ = some (.int .i64 (1 + p)) := hI4.cell 1 rfl 2
              have x3 : (u3.alloc (.cells #[.int .i64 life, .int .i64 2, .int .i64 (1 + p), .int .i64 (1 + k), .bool dm, .int .i64 wy] 49)).cell? ⟨x, 3, none⟩ = some (.int .i64 (1 + k)) := hI4.cell 1 rfl 3
              have x4 : (u3.alloc (.cells #[.int .i64 life, .int .i64 2, .int .i64 (1 + p), .int .i64 (1 + k), .bool dm, .int .i64 wy] 49)).cell? ⟨x, 4, none⟩ = some (.bool dm) := hI4.cell 1 rfl 4
              have x5 : (u3.alloc (.cells #[.int .i64 life, .int .i64 2, .int .i64 (1 + p), .int .i64 (1 + k), .bool dm, .int .i64 wy] 49)).cell? ⟨x, 5, none⟩ = some (.int .i64 wy) := hI4.cell 1 rfl 5
              have e1 : ((life : Int) == (life : Int)) = true := by simp
              have e2 : ((1 + p) == (1 + p)) = true := by simp
              have e3 : ((1 + k) == (1 + k)) = true := by simp
              have e4 : (wy == wy) = true := by simp
              have HI : Hid _ := hI4.pop
              clear hI3 hI4
              go_wp2
              go_roundw
              case rel => exact ⟨j + 1, dm, wy, by go_num, by omega, HD.out, HI.out⟩
              case measure => simp [intOf]; omega
          · have hjm' : ¬ (j : Int) < (m : Int) := by omega
            have hI' := hI
            clear hI
            have g1 := life_keep hI' hl1 (by omega) (by omega) (by omega) HD.out ((life : Int) + 1) (by omega)
            go_wp2_with fail
            refine g1.mono ?_
            rintro e u1 ⟨rfl, hI1⟩
            clear g1 hI'
            have g2 := life_keep hI1 hl1 (by omega) (by omega) (by omega) HD.out ((life : Int) - 1) (by omega)
            go_wp2_with fail
            refine g2.mono ?_
            rintro e u2 ⟨rfl, hI2⟩
            clear g2 hI1
            have g3 := life_free hI2 hl1 (by omega) (by omega) (by omega) HD.out
            go_wp2_with fail
            refine g3.mono ?_
            rintro e u3 ⟨rfl, hI3⟩
            clear g3 hI2
            have g4 := life_over hI3 hl1 (by omega) (1 + k) (by omega) (by omega)
            go_wp2_with fail
            refine g4.mono ?_
            rintro e u4 ⟨rfl, hI4⟩
            clear g4 hI3
            have HI : Hid _ := hI4.pop
            clear hI4
            go_wp2
            go_roundw
            case rel => exact ⟨life + 1, by go_num, by omega, by omega, by have := HI.out; simpa using this⟩
            case measure => simp [intOf]; omega
        · have hjn' : ¬ (j : Int) < (n : Int) := by omega
          have hI' := hI
          clear hI
          have g1 := life_keep hI' hl1 (by omega) (by omega) (by omega) HD.out ((life : Int) + 1) (by omega)
          go_wp2_with fail
          refine g1.mono ?_
          rintro e u1 ⟨rfl, hI1⟩
          clear g1 hI'
          have g2 := life_keep hI1 hl1 (by omega) (by omega) (by omega) HD.out ((life : Int) - 1) (by omega)
          go_wp2_with fail
          refine g2.mono ?_
          rintro e u2 ⟨rfl, hI2⟩
          clear g2 hI1
          have g3 := life_free hI2 hl1 (by omega) (by omega) (by omega) HD.out
          go_wp2_with fail
          refine g3.mono ?_
          rintro e u3 ⟨rfl, hI3⟩
          clear g3 hI2
          have g4 := life_over hI3 hl1 (by omega) (1 + k) (by omega) (by omega)
          go_wp2_with fail
          refine g4.mono ?_
          rintro e u4 ⟨rfl, hI4⟩
          clear g4 hI3
          have HI : Hid _ := hI4.pop
          clear hI4
          go_wp2
          go_roundw
          case rel => exact ⟨life + 1, by go_num, by omega, by omega, by have := HI.out; simpa using this⟩
          case measure => simp [intOf]; omega
    · have hl3 : ¬ (life : Int) ≤ 3 := by omega
      have HK := hT.same
      clear hT
      go_wp2
      go_ret
      exact ⟨rfl, HK⟩
end Go.Proofs.Ythaajlelaoimaaa

