/- The head of all statements: examples of the document. -/
import Derived.Test.YtbpilhjomfkpaaaGreatDoorDiG
import Derived.Test.YtbpilhjomfkpaaaGreatDoorCoB
namespace Go.Proofs.YtbpilhjomfkpaaaGreatDoor
open Go.RowKit
set_option linter.unusedVariables false
set_option linter.unusedSimpArgs false
attribute [local go_sem ↓] Go.wp_at_zero Go.wp_at_succ

theorem buildX10 (W : World) (a b c d e f g h i j : Int) : (Instr.buildSlice 24 10 #[(0, .int .i64 a), (1, .int .i64 b), (2, .int .i64 c), (3, .int .i64 d), (4, .int .i64 e), (5, .int .i64 f), (6, .int .i64 g), (7, .int .i64 h), (8, .int .i64 i), (9, .int .i64 j)]).run Tryz.prog W = .ok (.slice (some ⟨W.heap.size, 0, none⟩) 10 10) (W.alloc (.cells #[.int .i64 a, .int .i64 b, .int .i64 c, .int .i64 d, .int .i64 e, .int .i64 f, .int .i64 g, .int .i64 h, .int .i64 i, .int .i64 j] 2)) := by kernel_rfl
theorem buildE2 (W : World) (a b c d : Int) : (Instr.buildSlice 32 2 #[(0, .agg #[.int .i64 a, .int .i64 b]), (1, .agg #[.int .i64 c, .int .i64 d])]).run Tryz.prog W = .ok (.slice (some ⟨W.heap.size, 0, none⟩) 2 2) (W.alloc (.cells #[.int .i64 a, .int .i64 b, .int .i64 c, .int .i64 d] 41)) := by kernel_rfl
theorem xin_made {W : World} (zs : List Int) : XIn (W.alloc (.cells (xC zs).toArray 2)) (some ⟨W.heap.size, 0, none⟩) zs.length zs := by
  refine ⟨rfl, fun _ => ⟨_, 0, rfl, fun j hj => ?_⟩⟩
  rw [cell_of_heap (heap_alloc_new W _), Nat.zero_add, List.getElem?_toArray]
  exact xC_at zs j hj
theorem rg_dec {l : List Int} (h : (l.all fun x => decide (-9223372036854775808 ≤ x) && decide (x ≤ 9223372036854775807)) = true) : ∀ z ∈ l, Rg z := by
  intro z hz
  have := List.all_eq_true.1 h z hz
  simpa [Rg] using this
theorem rgP_dec {l : List Pr} (h : (l.all fun p => decide (-9223372036854775808 ≤ p.1) && decide (p.1 ≤ 9223372036854775807)) = true) : ∀ p ∈ l, Rg p.1 := by
  intro z hz
  have := List.all_eq_true.1 h z hz
  simpa [Rg] using this
theorem eqE (a b c d : Int) (w : World) : (binOp .eql 41 (.agg #[.int .i64 a, .int .i64 b]) (.agg #[.int .i64 c, .int .i64 d])).run Tryz.prog w = .ok (.bool (decide (a = c) && decide (b = d))) w := by
  rw [run_eql_struct, run_equalIn_struct w 9999 41 _ _ (by kernel_rfl) (by kernel_rfl)]
  have hi1 : ∀ (x y : Int) (w : World), (Op.equalIn 9999 2 (.int .i64 x) (.int .i64 y)).run Tryz.prog w = .ok (x == y) w := fun x y w => run_equalIn_int w 9998 2 .i64 .i64 x y Tryz.underlying2
  have p0 : ∀ (a b : Int) w, (part 2 #[.int .i64 a, .int .i64 b] 0).run Tryz.prog w = .ok (.int .i64 a) w := fun a b w => run_part_plain (P := Tryz.prog) w (by kernel_rfl) rfl
  have p1 : ∀ (a b : Int) w, (part 2 #[.int .i64 a, .int .i64 b] 1).run Tryz.prog w = .ok (.int .i64 b) w := fun a b w => run_part_plain (P := Tryz.prog) w (by kernel_rfl) rfl
  by_cases h1 : a = c
  · by_cases h2 : b = d <;> simp [Program.fieldsOf, Tryz.underlying41, Op.eqFields, Sem.run_bind, p0, p1, hi1, h1, h2]
  · simp [Program.fieldsOf, Tryz.underlying41, Op.eqFields, Sem.run_bind, p0, p1, hi1, h1]
theorem guardE (x y : Operand) (xs ys : Array Value) (w : World) : (eqGuard .eql 41 x y (.agg xs) (.agg ys)).run Tryz.prog w = .ok () w := by kernel_rfl
set_option maxRecDepth 100000 in
set_option maxHeartbeats 8000000 in
theorem awake_any (w : World) (hE : Env w) : Calls Tryz.prog 9 #[] w fun e w' => e = .returned (.bool true) ∧ Kept (fun _ => False) w w' := by
  have hb := fun W a b c d => buildE2 W a b c d
  have hb10 := fun W a b c d e f g h i j => buildX10 W a b c d e f g h i j
  have two : ∀ W, EIn W (some ⟨w.heap.size, 0, none⟩) 2 [(1, 8), (4, 7)] → True := fun _ _ => trivial
  clear two
  have s0 := e_new (St.nil w) [(1, 8), (4, 7)] (by unfold maxLen; simp)
  have HS0 : Hid (St w [lstE (.slice (some ⟨w.heap.size, 0, none⟩) 2 2) [(1, 8), (4, 7)]] (w.alloc (.cells #[.int .i64 1, .int .i64 8, .int .i64 4, .int .i64 7] 41))) := hid s0
  clear s0
  generalize hw0 : w.alloc (.cells #[.int .i64 1, .int .i64 8, .int .i64 4, .int .i64 7] 41) = w0 at *
  generalize hg0 : w.heap.size = g0 at *
  have HD1 : Hid (∀ W : World, Kept (fun _ => False) w0 W → Calls Tryz.prog 22 #[.slice (some ⟨g0, 0, none⟩) 2 2, .int .i64 3, .agg #[.int .i64 1, .int .i64 0, .int .i64 0, .int .i64 2, .int .i64 9]] W fun e w' => ∃ g c g2 c2, e = .returned (.tuple #[.slice (some ⟨g, 0, none⟩) 3 c, .slice (some ⟨g2, 0, none⟩) 1 c2, .int .i64 0]) ∧ St W [ownI 2 1 (.slice (some ⟨g2, 0, none⟩) 1 c2) 1 (xC [1]), ownI 41 2 (.slice (some ⟨g, 0, none⟩) 3 c) 3 (eC [(1, 8), (2, 9), (4, 7)])] w') := hid fun W k =>
    (Do_any (d := ⟨1, 0, 0, 2, 9⟩) (n := 3) (lc := 2) ((st_ein HS0.out 0 rfl rfl).kept k) (by decide) (rgP_dec (by decide)) ⟨by decide, by decide⟩).mono fun e w' h => by
      unfold DoE at h
      rw [if_pos (by kernel_rfl)] at h
      obtain ⟨v, t, rfl, s⟩ := h
      rw [show doS [(1, 8), (4, 7)] 3 ⟨1, 0, 0, 2, 9⟩ = ([(1, 8), (2, 9), (4, 7)], [1]) by kernel_rfl] at s
      have s' : St W [ownI 2 1 t 1 (xC [1]), ownI 41 2 v 3 (eC [(1, 8), (2, 9), (4, 7)])] w' := s
      obtain ⟨g, c, rfl⟩ := s'.form 1 rfl (by decide)
      obtain ⟨g2, c2, rfl⟩ := s'.form 0 rfl (by decide)
      exact ⟨g, c, g2, c2, rfl, s'⟩
  have HD2 : Hid (∀ W : World, Kept (fun _ => False) w0 W → Calls Tryz.prog 22 #[.slice (some ⟨g0, 0, none⟩) 2 2, .int .i64 3, .agg #[.int .i64 4, .int .i64 0, .int .i64 0, .int .i64 1, .int .i64 (-3)]] W fun e w' => ∃ v g2 c2, e = .returned (.tuple #[v, .slice (some ⟨g2, 0, none⟩) 2 c2, .int .i64 0]) ∧ St W [ownI 2 1 (.slice (some ⟨g2, 0, none⟩) 2 c2) 2 (xC [1, 5])] w') := hid fun W k =>
    (Do_any (d := ⟨4, 0, 0, 1, -3⟩) (n := 3) (lc := 2) ((st_ein HS0.out 0 rfl rfl).kept k) (by decide) (rgP_dec (by decide)) ⟨by decide, by decide⟩).mono fun e w' h => by
      unfold DoE at h
      rw [if_pos (by kernel_rfl)] at h
      obtain ⟨v, t, rfl, s⟩ := h
      rw [show doS [(1, 8), (4, 7)] 3 ⟨4, 0, 0, 1, -3⟩ = ([(1, 5), (4, 7)], [1, 5]) by kernel_rfl] at s
      have s' : St W [ownI 2 1 t 2 (xC [1, 5])] w' := St.cut (A := [_]) (B := [_]) s
      obtain ⟨g2, c2, rfl⟩ := s'.form 0 rfl (by decide)
      exact ⟨v, g2, c2, rfl, s'⟩
  have HD3 : Hid (∀ W : World, Calls Tryz.prog 17 #[.slice (some ⟨W.heap.size, 0, none⟩) 10 10, .int .i64 0, .int .i64 3] (W.alloc (.cells #[.int .i64 2, .int .i64 0, .int .i64 0, .int .i64 0, .int .i64 1, .int .i64 4, .int .i64 7, .int .i64 1, .int .i64 1, .int .i64 8] 2)) fun e w' => ∃ g c, e = .returned (.tuple #[.slice (some ⟨g, 0, none⟩) 2 c, .int .i64 0]) ∧ St W [ownI 41 2 (.slice (some ⟨g, 0, none⟩) 2 c) 2 (eC [(1, 8), (4, 7)])] w') := hid fun W =>
    (Read_any (some ⟨W.heap.size, 0, none⟩) 10 10 [2, 0, 0, 0, 1, 4, 7, 1, 1, 8] 0 3 _ (xin_made (W := W) [2, 0, 0, 0, 1, 4, 7, 1, 1, 8]) (by decide) (by decide) (rg_dec (by decide))).mono fun e w' h => by
      unfold ReadE at h
      rw [if_pos (by kernel_rfl), show readS (([2, 0, 0, 0, 1, 4, 7, 1, 1, 8] : List Int).drop (0 : Int).toNat |>.take (1 + 3 * (3 : Int).toNat)) (3 : Int).toNat = some [(1, 8), (4, 7)] by kernel_rfl] at h
      obtain ⟨v, rfl, s⟩ := h
      have s' : St W [ownI 41 2 v 2 (eC [(1, 8), (4, 7)])] w' := s.base (kept_alloc W _)
      obtain ⟨g, c, rfl⟩ := s'.form 0 rfl (by decide)
      exact ⟨g, c, rfl, s'⟩
  have HD4 : Hid (∀ W : World, Calls Tryz.prog 17 #[.slice (some ⟨W.heap.size, 0, none⟩) 10 10, .int .i64 0, .int .i64 3] (W.alloc (.cells #[.int .i64 1, .int .i64 0, .int .i64 0, .int .i64 0, .int .i64 0, .int .i64 9, .int .i64 9, .int .i64 1, .int .i64 1, .int .i64 8] 2)) fun e w' => e = .returned (.tuple #[.slice none 0 0, .int .i64 191]) ∧ Kept (fun _ => False) W w') := hid fun W =>
    (Read_any (some ⟨W.heap.size, 0, none⟩) 10 10 [1, 0, 0, 0, 0, 9, 9, 1, 1, 8] 0 3 _ (xin_made (W := W) [1, 0, 0, 0, 0, 9, 9, 1, 1, 8]) (by decide) (by decide) (rg_dec (by decide))).mono fun e w' h => by
      unfold ReadE at h
      rw [if_pos (by kernel_rfl), show readS (([1, 0, 0, 0, 0, 9, 9, 1, 1, 8] : List Int).drop (0 : Int).toNat |>.take (1 + 3 * (3 : Int).toNat)) (3 : Int).toNat = none by kernel_rfl] at h
      exact ⟨h.1, (kept_alloc W _).trans h.2 (fun _ _ f => f)⟩
  have HD5 : Hid (∀ W : World, Kept (fun _ => False) w W → Calls Tryz.prog 24 #[.int .i64 0, .int .i64 3, .agg #[.int .i64 5, .int .i64 0, .int .i64 0, .int .i64 0, .int .i64 0]] W fun e w' => ∃ la lc, e = .returned (.tuple #[.slice la 5 lc, .int .i64 0]) ∧ Kept (fun _ => False) W w') := hid fun W k =>
    (Code_any (base := 0) (n := 3) (d := ⟨5, 0, 0, 0, 0⟩) (hE.kept k) ⟨by decide, by decide⟩ ⟨by decide, by decide⟩).mono fun e w' h => by
      unfold CodeE at h
      rw [if_pos (by kernel_rfl)] at h
      obtain ⟨lv, rfl, s⟩ := h
      obtain ⟨la, lc, rfl, _⟩ := own_iin (show w'.ownsRow 0 91 2 lv (codeS (nvD 0 3 0 0) 5).length (insCells (codeS (nvD 0 3 0 0) 5)) from s.get 0 rfl)
      exact ⟨la, lc, rfl, s.same⟩
  have heq := eqE
  have hgd := guardE
  have d1 := HD1.out w0 (Kept.refl _ _)
  clear hE HD1
  go_enter Tryz.func9, Tryz.ntmps9
  go_upto_region 3 with (first | simp only [hb] | simp only [hw0, hg0] | (go_at_call 22; refine d1.mono ?_; rintro e w1 ⟨g, c, g2, c2, rfl, s1⟩))
  have d2 := HD2.out w1 s1.same
  have HS1 := hid s1
  clear d1 s1 HD2
  go_upto_region 4 with (first | (go_at_call 22; refine d2.mono ?_; rintro e w2 ⟨v2, g4, c4, rfl, s2⟩))
  have HS2 := hid s2
  have d3 := HD3.out w2
  clear d2 HD3 s2
  go_upto_region 5 with (first | simp only [hb10] | (go_at_call 17; refine d3.mono ?_; rintro e w3 ⟨g3, c3, rfl, s3⟩))
  have HS3 := hid s3
  have d4 := HD4.out w3
  clear d3 HD4 s3
  go_upto_region 6 with (first | simp only [hb10] | (go_at_call 17; refine d4.mono ?_; rintro e w4 ⟨rfl, k4⟩))
  have k24 := hid ((HS3.out.same).trans k4 (fun _ _ f => f))
  have k14 := hid ((HS2.out.same).trans k24.out (fun _ _ f => f))
  have k04 := hid ((HS1.out.same).trans k14.out (fun _ _ f => f))
  have kw4 := hid ((HS0.out.same).trans k04.out (fun _ _ f => f))
  have d5 := HD5.out w4 kw4.out
  clear d4 HD5
  go_upto_region 9 with (first | (go_at_call 24; refine d5.mono ?_; rintro e w5 ⟨la, lc, rfl, k5⟩))
  clear d5
  have s50 := (HS0.out.calm (k04.out.trans k5 (fun _ _ f => f)))
  have s51 := (HS1.out.calm (k14.out.trans k5 (fun _ _ f => f)))
  have s52 := (HS2.out.calm (k24.out.trans k5 (fun _ _ f => f)))
  have s53 := (HS3.out.calm (k4.trans k5 (fun _ _ f => f)))
  have x2 : w5.cell? ⟨g, 2, none⟩ = some (.int .i64 2) := s51.ownCell 1 rfl 2 (by decide)
  have x3 : w5.cell? ⟨g, 3, none⟩ = some (.int .i64 9) := s51.ownCell 1 rfl 3 (by decide)
  have y0 : w5.cell? ⟨g2, 0, none⟩ = some (.int .i64 1) := s51.ownCell 0 rfl 0 (by decide)
  have z0 : w5.cell? ⟨g4, 0, none⟩ = some (.int .i64 1) := s52.ownCell 0 rfl 0 (by decide)
  have z1 : w5.cell? ⟨g4, 1, none⟩ = some (.int .i64 5) := s52.ownCell 0 rfl 1 (by decide)
  have u2 : w5.cell? ⟨g3, 2, none⟩ = some (.int .i64 4) := s53.ownCell 0 rfl 2 (by decide)
  have u3 : w5.cell? ⟨g3, 3, none⟩ = some (.int .i64 7) := s53.ownCell 0 rfl 3 (by decide)
  have t2 : w5.cell? ⟨g0, 2, none⟩ = some (.int .i64 4) := s50.ownCell 0 rfl 2 (by decide)
  have t3 : w5.cell? ⟨g0, 3, none⟩ = some (.int .i64 7) := s50.ownCell 0 rfl 3 (by decide)
  have HK := hid s50.same
  clear s50 s51 s52 s53 HS0 HS1 HS2 HS3 k4 k5 k24 k14 k04 kw4
  go_quiet (fail)
  go_wp2
  go_ret
  exact ⟨rfl, HK.out.drewN _⟩
theorem names_walk (w : World) (hE : Env w) : Calls Tryz.prog 3 #[] w fun e w' => e = .returned (.bool true) ∧ Kept (fun _ => False) w w' := by
  have hA := awake_any w hE
  go_enter Tryz.func3, Tryz.ntmps3
  go_wp2_with (go_at_call 9; refine hA.mono ?_; rintro e w1 ⟨rfl, k1⟩)
  go_ret
  exact ⟨rfl, k1⟩
end Go.Proofs.YtbpilhjomfkpaaaGreatDoor
