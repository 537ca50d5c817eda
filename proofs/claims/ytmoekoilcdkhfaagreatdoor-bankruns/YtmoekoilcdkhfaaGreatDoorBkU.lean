/- The head of all statements: examples of the document. -/
import Derived.Test.YtmoekoilcdkhfaaGreatDoorBkG
namespace Go.Proofs.YtmoekoilcdkhfaaGreatDoor
open Go.RowKit
set_option linter.unusedVariables false
set_option linter.unusedSimpArgs false
attribute [local go_sem ↓] Go.wp_at_zero Go.wp_at_succ

theorem buildX3 (W : World) (a b c : Int) : (Instr.buildSlice 24 3 #[(0, .int .i64 a), (1, .int .i64 b), (2, .int .i64 c)]).run Tryz.prog W = .ok (.slice (some ⟨W.heap.size, 0, none⟩) 3 3) (W.alloc (.cells #[.int .i64 a, .int .i64 b, .int .i64 c] 2)) := by kernel_rfl
set_option maxRecDepth 100000 in
set_option maxHeartbeats 4000000 in
theorem awake_any (w : World) (hE : Env w) : Calls Tryz.prog 9 #[] w fun e w' => e = .returned (.bool true) ∧ Kept (fun _ => False) w w' := by
  have hb := fun W => buildX3 W 5 7 0
  have HD1 : Hid (∀ W : World, Calls Tryz.prog 21 #[.slice (some ⟨W.heap.size, 0, none⟩) 3 3, .int .i64 3, .agg #[.int .i64 3, .int .i64 0, .int .i64 2, .int .i64 5, .int .i64 0]] (W.alloc (.cells #[.int .i64 5, .int .i64 7, .int .i64 0] 2)) fun e w' => ∃ g c g2 c2, e = .returned (.tuple #[.slice (some ⟨g, 0, none⟩) 3 c, .slice (some ⟨g2, 0, none⟩) 1 c2, .int .i64 0]) ∧ St W [ownI 2 1 (.slice (some ⟨g2, 0, none⟩) 1 c2) 1 (xC [1]), rowI g 3 c [0, 7, 5]] w') := fun W =>
    (Do_any (some ⟨W.heap.size, 0, none⟩) 3 3 [5, 7, 0] 3 ⟨3, 0, 2, 5, 0⟩ _ (xin_new (zs := [5, 7, 0]) (heap_alloc_new W (.cells #[.int .i64 5, .int .i64 7, .int .i64 0] 2)) rfl) (fun e => by cases e)).mono fun e w' h => by
      unfold DoE at h
      rw [if_pos (by kernel_rfl)] at h
      obtain ⟨v, t, rfl, s⟩ := h
      rw [show doM [5, 7, 0] ⟨3, 0, 2, 5, 0⟩ = ([0, 7, 5], 1) by kernel_rfl] at s
      have s' : St W [ownI 2 1 t 1 (xC [1]), ownI 2 1 v 3 (xC [0, 7, 5])] w' := s.base (kept_alloc W _)
      obtain ⟨g, c, rfl⟩ := s'.form 1 rfl (by decide)
      obtain ⟨g2, c2, rfl⟩ := s'.form 0 rfl (by decide)
      exact ⟨g, c, g2, c2, rfl, s'⟩
  have HD2 : Hid (∀ W : World, Calls Tryz.prog 21 #[.slice (some ⟨W.heap.size, 0, none⟩) 3 3, .int .i64 3, .agg #[.int .i64 4, .int .i64 0, .int .i64 0, .int .i64 1, .int .i64 0]] (W.alloc (.cells #[.int .i64 5, .int .i64 7, .int .i64 0] 2)) fun e w' => e = .returned (.tuple #[.slice none 0 0, .slice none 0 0, .int .i64 170]) ∧ Kept (fun _ => False) W w') := fun W =>
    (Do_any (some ⟨W.heap.size, 0, none⟩) 3 3 [5, 7, 0] 3 ⟨4, 0, 0, 1, 0⟩ _ (xin_new (zs := [5, 7, 0]) (heap_alloc_new W (.cells #[.int .i64 5, .int .i64 7, .int .i64 0] 2)) rfl) (fun e => by cases e)).mono fun e w' h => by
      unfold DoE at h
      rw [if_neg (by rw [show okD [5, 7, 0] 3 ⟨4, 0, 0, 1, 0⟩ = false by kernel_rfl]; simp)] at h
      exact ⟨h.1, (kept_alloc W _).trans h.2 (fun _ _ f => f)⟩
  have HD3 : Hid (∀ W : World, Kept (fun _ => False) w W → Calls Tryz.prog 23 #[.int .i64 253, .int .i64 3, .agg #[.int .i64 5, .int .i64 0, .int .i64 0, .int .i64 0, .int .i64 0]] W fun e w' => ∃ la lc, e = .returned (.tuple #[.slice la 17 lc, .int .i64 0]) ∧ Kept (fun _ => False) W w') := fun W k =>
    (Code_any 253 3 ⟨5, 0, 0, 0, 0⟩ W (hE.kept k)).mono fun e w' h => by
      unfold CodeE at h
      rw [if_pos (by kernel_rfl)] at h
      obtain ⟨lv, rfl, s⟩ := h
      obtain ⟨la, lc, rfl, _⟩ := own_iin (show w'.ownsRow 0 79 2 lv (codeM 253 3 ⟨5, 0, 0, 0, 0⟩).length (insCells (codeM 253 3 ⟨5, 0, 0, 0, 0⟩)) from s.get 0 rfl)
      exact ⟨la, lc, rfl, s.same⟩
  have HD4 : Hid (∀ W : World, Kept (fun _ => False) w W → Calls Tryz.prog 23 #[.int .i64 254, .int .i64 3, .agg #[.int .i64 5, .int .i64 0, .int .i64 0, .int .i64 0, .int .i64 0]] W fun e w' => e = .returned (.tuple #[.slice none 0 0, .int .i64 170]) ∧ Kept (fun _ => False) W w') := fun W k =>
    (Code_any 254 3 ⟨5, 0, 0, 0, 0⟩ W (hE.kept k)).mono fun e w' h => by
      unfold CodeE at h
      rw [if_neg (by rw [show okC 254 3 ⟨5, 0, 0, 0, 0⟩ = false by kernel_rfl]; simp)] at h
      exact h
  have hR := fun W => Room_any 3 W
  rw [show roomM 3 = 3 by rfl] at hR
  have d1 := HD1.out w
  clear hE HD1
  go_enter Tryz.func9, Tryz.ntmps9
  go_upto_region 2 with (first | simp only [hb] | (go_at_call 21; refine d1.mono ?_; rintro e w1 ⟨g, c, g2, c2, rfl, s1⟩))
  have d2 := HD2.out w1
  have HS1 := hid s1
  clear d1 s1 HD2
  go_upto_region 3 with (first | simp only [hb] | (go_at_call 21; refine d2.mono ?_; rintro e w2 ⟨rfl, k2⟩))
  have d3 := HD3.out w2 (HS1.out.same.trans k2 (fun _ _ f => f))
  clear d2 HD3
  go_upto_region 4 with (go_at_call 23; refine d3.mono ?_; rintro e w3 ⟨la, lc, rfl, k3⟩)
  have d4 := HD4.out w3 ((HS1.out.same.trans k2 (fun _ _ f => f)).trans k3 (fun _ _ f => f))
  clear d3 HD4
  go_upto_region 5 with (go_at_call 23; refine d4.mono ?_; rintro e w4 ⟨rfl, k4⟩)
  clear d4
  have s4 := HS1.out.calm ((k2.trans k3 (fun _ _ f => f)).trans k4 (fun _ _ f => f))
  have c0 : w4.cell? ⟨g, 0, none⟩ = some (.int .i64 0) := s4.ownCell 1 rfl 0 (by decide)
  have c1 : w4.cell? ⟨g, 1, none⟩ = some (.int .i64 7) := s4.ownCell 1 rfl 1 (by decide)
  have c2' : w4.cell? ⟨g, 2, none⟩ = some (.int .i64 5) := s4.ownCell 1 rfl 2 (by decide)
  have t0 : w4.cell? ⟨g2, 0, none⟩ = some (.int .i64 1) := s4.ownCell 0 rfl 0 (by decide)
  have HK := hid s4.same
  clear s4 HS1 k2 k3 k4
  go_wp2_with (go_at_call 10; refine (hR _).mono ?_; rintro e w' ⟨rfl, rfl⟩)
  go_ret
  exact ⟨rfl, HK.out⟩
theorem names_walk (w : World) (hE : Env w) : Calls Tryz.prog 3 #[] w fun e w' => e = .returned (.bool true) ∧ Kept (fun _ => False) w w' := by
  have hA := awake_any w hE
  go_enter Tryz.func3, Tryz.ntmps3
  go_wp2_with (go_at_call 9; refine hA.mono ?_; rintro e w1 ⟨rfl, k1⟩)
  go_ret
  exact ⟨rfl, k1⟩
end Go.Proofs.YtmoekoilcdkhfaaGreatDoor
