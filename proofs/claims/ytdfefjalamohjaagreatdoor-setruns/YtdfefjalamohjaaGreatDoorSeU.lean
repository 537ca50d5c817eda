/- The head of all statements: examples of the document. -/
import Derived.Test.YtdfefjalamohjaaGreatDoorSeG
import Derived.Test.YtdfefjalamohjaaGreatDoorCoB
namespace Go.Proofs.YtdfefjalamohjaaGreatDoor
open Go.RowKit
set_option linter.unusedVariables false
set_option linter.unusedSimpArgs false
attribute [local go_sem ↓] Go.wp_at_zero Go.wp_at_succ

theorem buildX9 (W : World) (a b c d e f g h i : Int) : (Instr.buildSlice 24 9 #[(0, .int .i64 a), (1, .int .i64 b), (2, .int .i64 c), (3, .int .i64 d), (4, .int .i64 e), (5, .int .i64 f), (6, .int .i64 g), (7, .int .i64 h), (8, .int .i64 i)]).run Tryz.prog W = .ok (.slice (some ⟨W.heap.size, 0, none⟩) 9 9) (W.alloc (.cells #[.int .i64 a, .int .i64 b, .int .i64 c, .int .i64 d, .int .i64 e, .int .i64 f, .int .i64 g, .int .i64 h, .int .i64 i] 2)) := by kernel_rfl
theorem xin_made {W : World} (zs : List Int) : XIn (W.alloc (.cells (xC zs).toArray 2)) (some ⟨W.heap.size, 0, none⟩) zs.length zs := by
  refine ⟨rfl, fun _ => ⟨_, 0, rfl, fun j hj => ?_⟩⟩
  rw [cell_of_heap (heap_alloc_new W _), Nat.zero_add, List.getElem?_toArray]
  exact xC_at zs j hj
set_option maxRecDepth 100000 in
set_option maxHeartbeats 4000000 in
theorem awake_any (w : World) (hE : Env w) : Calls Tryz.prog 9 #[] w fun e w' => e = .returned (.bool true) ∧ Kept (fun _ => False) w w' := by
  have hb := fun W a b => buildX2 W a b
  have hb9 := fun W a b c d e f g h i => buildX9 W a b c d e f g h i
  have HD1 : Hid (∀ W : World, Calls Tryz.prog 21 #[.slice (some ⟨W.heap.size, 0, none⟩) 2 2, .int .i64 3, .agg #[.int .i64 1, .int .i64 0, .int .i64 0, .int .i64 3, .int .i64 0]] (W.alloc (.cells #[.int .i64 2, .int .i64 5] 2)) fun e w' => ∃ g c g2 c2, e = .returned (.tuple #[.slice (some ⟨g, 0, none⟩) 3 c, .slice (some ⟨g2, 0, none⟩) 1 c2, .int .i64 0]) ∧ St W [ownI 2 1 (.slice (some ⟨g2, 0, none⟩) 1 c2) 1 (xC [1]), rowI g 3 c [2, 3, 5]] w') := hid fun W =>
    (Do_any (d := ⟨1, 0, 0, 3, 0⟩) (n := 3) (lc := 2) (xin_made (W := W) [2, 5]) (by decide)).mono fun e w' h => by
      unfold DoE at h
      rw [if_pos (by kernel_rfl)] at h
      obtain ⟨v, t, rfl, s⟩ := h
      rw [show doS [2, 5] 3 ⟨1, 0, 0, 3, 0⟩ = ([2, 3, 5], [1]) by kernel_rfl] at s
      have s' : St W [ownI 2 1 t 1 (xC [1]), ownI 2 1 v 3 (xC [2, 3, 5])] w' := s.base (kept_alloc W _)
      obtain ⟨g, c, rfl⟩ := s'.form 1 rfl (by decide)
      obtain ⟨g2, c2, rfl⟩ := s'.form 0 rfl (by decide)
      exact ⟨g, c, g2, c2, rfl, s'⟩
  have HD2 : Hid (∀ W : World, Calls Tryz.prog 21 #[.slice (some ⟨W.heap.size, 0, none⟩) 2 2, .int .i64 3, .agg #[.int .i64 5, .int .i64 0, .int .i64 0, .int .i64 0, .int .i64 0]] (W.alloc (.cells #[.int .i64 2, .int .i64 1] 2)) fun e w' => e = .returned (.tuple #[.slice none 0 0, .slice none 0 0, .int .i64 180]) ∧ Kept (fun _ => False) W w') := hid fun W =>
    (Do_any (d := ⟨5, 0, 0, 0, 0⟩) (n := 3) (lc := 2) (xin_made (W := W) [2, 1]) (by decide)).mono fun e w' h => by
      unfold DoE at h
      rw [if_neg (by rw [show okS [2, 1] 3 ⟨5, 0, 0, 0, 0⟩ = false by kernel_rfl]; simp)] at h
      exact ⟨h.1, (kept_alloc W _).trans h.2 (fun _ _ f => f)⟩
  have HD3 : Hid (∀ W : World, Calls Tryz.prog 17 #[.slice (some ⟨W.heap.size, 0, none⟩) 9 9, .int .i64 0, .int .i64 3] (W.alloc (.cells #[.int .i64 2, .int .i64 1, .int .i64 1, .int .i64 9, .int .i64 3, .int .i64 4, .int .i64 0, .int .i64 0, .int .i64 0] 2)) fun e w' => ∃ g c, e = .returned (.tuple #[.slice (some ⟨g, 0, none⟩) 1 c, .int .i64 0]) ∧ St W [rowI g 1 c [4]] w') := hid fun W =>
    (Read_any (some ⟨W.heap.size, 0, none⟩) 9 9 [2, 1, 1, 9, 3, 4, 0, 0, 0] 0 3 _ (xin_made (W := W) [2, 1, 1, 9, 3, 4, 0, 0, 0]) (by decide) (by decide)).mono fun e w' h => by
      unfold ReadE at h
      rw [if_pos (by kernel_rfl), show readM (([2, 1, 1, 9, 3, 4, 0, 0, 0] : List Int).drop (0 : Int).toNat |>.take (3 + 2 * (3 : Int).toNat)) (3 : Int).toNat = some [4] by kernel_rfl] at h
      obtain ⟨v, rfl, s⟩ := h
      have s' : St W [ownI 2 1 v 1 (xC [4])] w' := s.base (kept_alloc W _)
      obtain ⟨g, c, rfl⟩ := s'.form 0 rfl (by decide)
      exact ⟨g, c, rfl, s'⟩
  have HD4 : Hid (∀ W : World, Calls Tryz.prog 17 #[.slice (some ⟨W.heap.size, 0, none⟩) 9 9, .int .i64 0, .int .i64 3] (W.alloc (.cells #[.int .i64 0, .int .i64 1, .int .i64 1, .int .i64 0, .int .i64 2, .int .i64 0, .int .i64 3, .int .i64 0, .int .i64 0] 2)) fun e w' => e = .returned (.tuple #[.slice none 0 0, .int .i64 181]) ∧ Kept (fun _ => False) W w') := hid fun W =>
    (Read_any (some ⟨W.heap.size, 0, none⟩) 9 9 [0, 1, 1, 0, 2, 0, 3, 0, 0] 0 3 _ (xin_made (W := W) [0, 1, 1, 0, 2, 0, 3, 0, 0]) (by decide) (by decide)).mono fun e w' h => by
      unfold ReadE at h
      rw [if_pos (by kernel_rfl), show readM (([0, 1, 1, 0, 2, 0, 3, 0, 0] : List Int).drop (0 : Int).toNat |>.take (3 + 2 * (3 : Int).toNat)) (3 : Int).toNat = none by kernel_rfl] at h
      exact ⟨h.1, (kept_alloc W _).trans h.2 (fun _ _ f => f)⟩
  have HD5 : Hid (∀ W : World, Kept (fun _ => False) w W → Calls Tryz.prog 23 #[.int .i64 0, .int .i64 3, .agg #[.int .i64 5, .int .i64 0, .int .i64 0, .int .i64 0, .int .i64 0]] W fun e w' => ∃ la lc, e = .returned (.tuple #[.slice la 5 lc, .int .i64 0]) ∧ Kept (fun _ => False) W w') := hid fun W k =>
    (Code_any (base := 0) (n := 3) (d := ⟨5, 0, 0, 0, 0⟩) (hE.kept k) (by decide) (by decide)).mono fun e w' h => by
      unfold CodeE at h
      rw [if_pos (by kernel_rfl)] at h
      obtain ⟨lv, rfl, s⟩ := h
      obtain ⟨la, lc, rfl, _⟩ := own_iin (show w'.ownsRow 0 87 2 lv (codeS 0 0 5).length (insCells (codeS 0 0 5)) from s.get 0 rfl)
      exact ⟨la, lc, rfl, s.same⟩
  have d1 := HD1.out w
  clear hE HD1
  go_enter Tryz.func9, Tryz.ntmps9
  go_upto_region 2 with (first | simp only [hb] | (go_at_call 21; refine d1.mono ?_; rintro e w1 ⟨g, c, g2, c2, rfl, s1⟩))
  have d2 := HD2.out w1
  have HS1 := hid s1
  clear d1 s1 HD2
  go_upto_region 3 with (first | simp only [hb] | (go_at_call 21; refine d2.mono ?_; rintro e w2 ⟨rfl, k2⟩))
  have d3 := HD3.out w2
  clear d2 HD3
  go_upto_region 4 with (first | simp only [hb9] | (go_at_call 17; refine d3.mono ?_; rintro e w3 ⟨g3, c3, rfl, s3⟩))
  have HS3 := hid s3
  have d4 := HD4.out w3
  clear d3 HD4 s3
  go_upto_region 5 with (first | simp only [hb9] | (go_at_call 17; refine d4.mono ?_; rintro e w4 ⟨rfl, k4⟩))
  have k24 := hid ((HS3.out.same).trans k4 (fun _ _ f => f))
  have d5 := HD5.out w4 ((HS1.out.same.trans k2 (fun _ _ f => f)).trans k24.out (fun _ _ f => f))
  clear d4 HD5
  go_upto_region 6 with (go_at_call 23; refine d5.mono ?_; rintro e w5 ⟨la, lc, rfl, k5⟩)
  clear d5
  have s5 := HS1.out.calm ((k2.trans k24.out (fun _ _ f => f)).trans k5 (fun _ _ f => f))
  have s6 := HS3.out.calm (k4.trans k5 (fun _ _ f => f))
  have c0 : w5.cell? ⟨g, 0, none⟩ = some (.int .i64 2) := s5.ownCell 1 rfl 0 (by decide)
  have c1 : w5.cell? ⟨g, 1, none⟩ = some (.int .i64 3) := s5.ownCell 1 rfl 1 (by decide)
  have c2' : w5.cell? ⟨g, 2, none⟩ = some (.int .i64 5) := s5.ownCell 1 rfl 2 (by decide)
  have t0 : w5.cell? ⟨g2, 0, none⟩ = some (.int .i64 1) := s5.ownCell 0 rfl 0 (by decide)
  have r0 : w5.cell? ⟨g3, 0, none⟩ = some (.int .i64 4) := s6.ownCell 0 rfl 0 (by decide)
  have HK := hid s5.same
  clear s5 s6 HS1 HS3 k2 k4 k5 k24
  go_wp2
  go_ret
  exact ⟨rfl, HK.out⟩
theorem names_walk (w : World) (hE : Env w) : Calls Tryz.prog 3 #[] w fun e w' => e = .returned (.bool true) ∧ Kept (fun _ => False) w w' := by
  have hA := awake_any w hE
  go_enter Tryz.func3, Tryz.ntmps3
  go_wp2_with (go_at_call 9; refine hA.mono ?_; rintro e w1 ⟨rfl, k1⟩)
  go_ret
  exact ⟨rfl, k1⟩
end Go.Proofs.YtdfefjalamohjaaGreatDoor
