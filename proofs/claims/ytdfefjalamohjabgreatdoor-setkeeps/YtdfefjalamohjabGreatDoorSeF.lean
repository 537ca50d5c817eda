/- Package set: drop, done. -/
import Derived.Test.YtdfefjalamohjabGreatDoorSeE
namespace Go.Proofs.YtdfefjalamohjabGreatDoor
open Go.RowKit
set_option linter.unusedVariables false
set_option linter.unusedSimpArgs false
attribute [local go_sem ↓] Go.wp_at_zero Go.wp_at_succ

theorem buildX2 (W : World) (x y : Int) : (Instr.buildSlice 22 2 #[(0, .int .i64 x), (1, .int .i64 y)]).run Tryz.prog W = .ok (.slice (some ⟨W.heap.size, 0, none⟩) 2 2) (W.alloc (.cells #[.int .i64 x, .int .i64 y] 2)) := by kernel_rfl
theorem two_own {o w : World} {R : List It} (h : St o R w) (x y : Int) : St o (ownI 2 1 (.slice (some ⟨w.heap.size, 0, none⟩) 2 2) 2 (xC [x, y]) :: R) (w.alloc (.cells #[.int .i64 x, .int .i64 y] 2)) := by
  have := h.new64 [x, y] (by simp [maxLen])
  simpa [xC] using this
section
variable {o w : World} {R : List It} {la : Option Addr} {lc : Nat} {l : List Int}
set_option maxRecDepth 100000 in
set_option maxHeartbeats 4000000 in
theorem drop_set (h : St o (ownI 2 1 (.slice la l.length lc) l.length (xC l) :: R) w) (hn : l.length ≤ 60) (hr : risesB l = true) (n x : Int) :
    Calls Tryz.prog 92 #[.slice la l.length lc, .int .i64 x] w (LeftE o R (doS l n ⟨2, 0, 0, x, 0⟩).1 (doS l n ⟨2, 0, 0, x, 0⟩).2) := by
  have hs := Search_any x h hn hr
  unfold doS
  simp only [Int.reduceEq, ↓reduceIte]
  cases hc : l.contains x with
  | false =>
    simp only [Bool.false_eq_true, ↓reduceIte]
    rw [hc] at hs
    have HQ : Hid (∀ w1, St o (ownI 2 1 (.slice la l.length lc) l.length (xC l) :: R) w1 → LeftE o R l [0] (.returned (.tuple #[.slice la l.length lc, .slice (some ⟨w1.heap.size, 0, none⟩) 1 1])) (w1.alloc (.cells #[.int .i64 0] 2))) := hid (fun w1 s1 => ⟨_, _, rfl, one_own s1 0⟩)
    have hb := fun W => buildX1 W 0
    generalize LeftE o R l [0] = Q at *
    clear h hc hn hr
    generalize hll : l.length = m at *
    clear hll
    go_enter Tryz.func92, Tryz.ntmps92
    go_wp2_with (first | (go_at_call 93; refine hs.mono ?_; rintro e w1 ⟨rfl, s1⟩) | simp only [hb])
    exact HQ.out _ s1
  | true =>
    simp only [↓reduceIte]
    rw [hc] at hs
    have hlt := count_lt hc
    obtain ⟨g, cap, e⟩ := h.form 0 rfl (by omega)
    simp only [Value.slice.injEq, true_and] at e
    obtain ⟨rfl, rfl⟩ := e
    have hI : Hid (∀ w1, St o (ownI 2 1 (.slice (some ⟨g, 0, none⟩) l.length lc) l.length (xC l) :: R) w1 → Calls Tryz.prog 135 #[.slice (some ⟨g, 0, none⟩) l.length lc, .int .i64 (atS l x : Nat), .int .i64 ((atS l x : Nat) + 1 : Int)] w1 fun e w' => e = .returned (.slice (some ⟨g, 0, none⟩) (l.length - 1) lc) ∧ St o (ownI 2 1 (.slice (some ⟨g, 0, none⟩) (l.length - 1) lc) (l.length - 1) (xC (l.take (atS l x) ++ l.drop (atS l x + 1))) :: R) w') := hid (fun w1 s1 => Delete_any s1 hn hlt)
    have HQ : Hid (∀ w2, St o (ownI 2 1 (.slice (some ⟨g, 0, none⟩) (l.length - 1) lc) (l.length - 1) (xC (l.take (atS l x) ++ l.drop (atS l x + 1))) :: R) w2 → LeftE o R (l.take (atS l x) ++ l.drop (atS l x + 1)) [1] (.returned (.tuple #[.slice (some ⟨g, 0, none⟩) (l.length - 1) lc, .slice (some ⟨w2.heap.size, 0, none⟩) 1 1])) (w2.alloc (.cells #[.int .i64 1] 2))) := hid (fun w2 s2 => by
      have hl : (l.take (atS l x) ++ l.drop (atS l x + 1)).length = l.length - 1 := by
        rw [List.length_append, List.length_take, List.length_drop]; omega
      refine ⟨_, _, rfl, ?_⟩
      rw [hl]
      exact one_own s2 1)
    have hb1 := fun W => buildX1 W 1
    have hi1 : ((atS l x : Nat) : Int) + 1 ≤ 61 := by omega
    have hi0 : (0 : Int) ≤ ((atS l x : Nat) : Int) := by omega
    generalize LeftE o R (l.take (atS l x) ++ l.drop (atS l x + 1)) [1] = Q at *
    generalize l.take (atS l x) ++ l.drop (atS l x + 1) = l2 at *
    clear h hc hn hr hlt
    generalize l.length - 1 = m1 at *
    generalize hll : l.length = m at *
    generalize atS l x = ix at *
    clear hll
    go_enter Tryz.func92, Tryz.ntmps92
    go_wp2_with (first | (go_at_call 93; refine hs.mono ?_; rintro e w1 ⟨rfl, s1⟩; have hI1 := hI.out w1 s1) | (go_at_call 135; refine hI1.mono ?_; rintro e w2 ⟨rfl, s2⟩) | simp only [hb1])
    exact HQ.out _ s2
set_option maxRecDepth 100000 in
set_option maxHeartbeats 8000000 in
theorem done_any (h : St o (ownI 2 1 (.slice la l.length lc) l.length (xC l) :: R) w) (hn : l.length ≤ 60) (hr : risesB l = true) (n : Int) (d : Dd) (hm : mayS d = true) :
    Calls Tryz.prog 59 #[.slice la l.length lc, .int .i64 n, d.val] w (LeftE o R (doS l n d).1 (doS l n d).2) := by
  obtain ⟨op, a, b, x, y⟩ := d
  have hop := may_op hm
  simp only at hop
  have s1 := (h.box #[.int .i64 op, .int .i64 a, .int .i64 b, .int .i64 x, .int .i64 y] 33).perm (List.Perm.swap _ _ _)
  have HD : Hid (∀ (e : Ending) (w' : World) (B : It) (p q : List Int), LeftE o (B :: R) p q e w' → LeftE o R p q e w') := hid (fun e w' B p q h => by
    obtain ⟨v, t, he, s⟩ := h
    refine ⟨v, t, he, ?_⟩
    exact (St.perm (its' := B :: ownI _ _ _ _ _ :: ownI _ _ _ _ _ :: R) s (perm_in B [_, _] R).symm).pop)
  show Calls _ _ #[_, _, .agg #[.int .i64 op, .int .i64 a, .int .i64 b, .int .i64 x, .int .i64 y]] _ _
  generalize hw1 : w.alloc (.cells #[.int .i64 op, .int .i64 a, .int .i64 b, .int .i64 x, .int .i64 y] 33) = w1 at *
  generalize hM : w.heap.size = M at *
  have c0 : w1.cell? ⟨M, 0, none⟩ = some (.int .i64 op) := s1.cell 1 rfl 0
  have c3 : w1.cell? ⟨M, 3, none⟩ = some (.int .i64 x) := s1.cell 1 rfl 3
  rcases hop with rfl | rfl | rfl | rfl | rfl
  · have hp := put_any s1 hn hr n x
    have hq : doS l n ⟨1, a, b, x, y⟩ = doS l n ⟨1, 0, 0, x, 0⟩ := rfl
    rw [hq]
    have HL : Hid (∀ e w', LeftE o (boxI M #[.int .i64 1, .int .i64 a, .int .i64 b, .int .i64 x, .int .i64 y] 33 :: R) (doS l n ⟨1, 0, 0, x, 0⟩).1 (doS l n ⟨1, 0, 0, x, 0⟩).2 e w' → ∃ v t, e = .returned (.tuple #[v, t]) ∧ LeftE o R (doS l n ⟨1, 0, 0, x, 0⟩).1 (doS l n ⟨1, 0, 0, x, 0⟩).2 (.returned (.tuple #[v, t])) w') := hid (fun e w' hl => by
      obtain ⟨v, t, he, _⟩ := id hl
      exact ⟨v, t, he, by rw [← he]; exact HD.out e w' _ _ _ hl⟩)
    generalize LeftE o (boxI M #[.int .i64 1, .int .i64 a, .int .i64 b, .int .i64 x, .int .i64 y] 33 :: R) (doS l n ⟨1, 0, 0, x, 0⟩).1 (doS l n ⟨1, 0, 0, x, 0⟩).2 = P at *
    generalize LeftE o R (doS l n ⟨1, 0, 0, x, 0⟩).1 (doS l n ⟨1, 0, 0, x, 0⟩).2 = Q at *
    clear h s1 HD hm hq hn hr
    generalize hll : l.length = m at *
    clear hll
    go_enter Tryz.func59, Tryz.ntmps59
    go_wp2_with (first | simp only [hw1, hM] | (go_at_call 91; refine hp.mono ?_; intro e w2 s2; obtain ⟨v2, t2, rfl, hQ2⟩ := HL.out e w2 s2; have HQ2 := hid hQ2; clear hQ2 s2))
    exact HQ2.out
  · have hp := drop_set s1 hn hr n x
    have hq : doS l n ⟨2, a, b, x, y⟩ = doS l n ⟨2, 0, 0, x, 0⟩ := rfl
    rw [hq]
    have HL : Hid (∀ e w', LeftE o (boxI M #[.int .i64 2, .int .i64 a, .int .i64 b, .int .i64 x, .int .i64 y] 33 :: R) (doS l n ⟨2, 0, 0, x, 0⟩).1 (doS l n ⟨2, 0, 0, x, 0⟩).2 e w' → ∃ v t, e = .returned (.tuple #[v, t]) ∧ LeftE o R (doS l n ⟨2, 0, 0, x, 0⟩).1 (doS l n ⟨2, 0, 0, x, 0⟩).2 (.returned (.tuple #[v, t])) w') := hid (fun e w' hl => by
      obtain ⟨v, t, he, _⟩ := id hl
      exact ⟨v, t, he, by rw [← he]; exact HD.out e w' _ _ _ hl⟩)
    generalize LeftE o (boxI M #[.int .i64 2, .int .i64 a, .int .i64 b, .int .i64 x, .int .i64 y] 33 :: R) (doS l n ⟨2, 0, 0, x, 0⟩).1 (doS l n ⟨2, 0, 0, x, 0⟩).2 = P at *
    generalize LeftE o R (doS l n ⟨2, 0, 0, x, 0⟩).1 (doS l n ⟨2, 0, 0, x, 0⟩).2 = Q at *
    clear h s1 HD hm hq hn hr
    generalize hll : l.length = m at *
    clear hll
    go_enter Tryz.func59, Tryz.ntmps59
    go_wp2_with (first | simp only [hw1, hM] | (go_at_call 92; refine hp.mono ?_; intro e w2 s2; obtain ⟨v2, t2, rfl, hQ2⟩ := HL.out e w2 s2; have HQ2 := hid hQ2; clear hQ2 s2))
    exact HQ2.out
  · have hs := Search_any x s1 hn hr
    unfold doS
    simp only [Int.reduceEq, ↓reduceIte]
    have HQ : Hid (∀ (p : List Int) (z : Int) w1, St o (ownI 2 1 (.slice la l.length lc) l.length (xC l) :: boxI M #[.int .i64 3, .int .i64 a, .int .i64 b, .int .i64 x, .int .i64 y] 33 :: R) w1 → LeftE o R l [z] (.returned (.tuple #[.slice la l.length lc, .slice (some ⟨w1.heap.size, 0, none⟩) 1 1])) (w1.alloc (.cells #[.int .i64 z] 2))) := hid (fun p z w1 s => HD.out _ _ _ _ _ ⟨_, _, rfl, one_own s z⟩)
    have hb := fun W x => buildX1 W x
    cases hc : l.contains x with
    | true =>
      simp only [↓reduceIte]
      rw [hc] at hs
      have HQ1 := hid (HQ.out [] 1)
      generalize LeftE o R l [1] = Q at *
      clear h s1 HD hm hn hr hc HQ
      generalize hll : l.length = m at *
      clear hll
      go_enter Tryz.func59, Tryz.ntmps59
      go_wp2_with (first | simp only [hw1, hM] | (go_at_call 93; refine hs.mono ?_; rintro e w2 ⟨rfl, s2⟩) | simp only [hb])
      exact HQ1.out _ s2
    | false =>
      simp only [Bool.false_eq_true, ↓reduceIte]
      rw [hc] at hs
      have HQ1 := hid (HQ.out [] 0)
      generalize LeftE o R l [0] = Q at *
      clear h s1 HD hm hn hr hc HQ
      generalize hll : l.length = m at *
      clear hll
      go_enter Tryz.func59, Tryz.ntmps59
      go_wp2_with (first | simp only [hw1, hM] | (go_at_call 93; refine hs.mono ?_; rintro e w2 ⟨rfl, s2⟩) | simp only [hb])
      exact HQ1.out _ s2
  · unfold doS
    simp only [Int.reduceEq, ↓reduceIte]
    by_cases hl0 : l = []
    · subst hl0
      simp only [↓reduceIte]
      have HQ : Hid (LeftE o R [] [0] (.returned (.tuple #[.slice la 0 lc, .slice (some ⟨w1.heap.size, 0, none⟩) 1 1])) (w1.alloc (.cells #[.int .i64 0] 2))) := hid (HD.out _ _ _ _ _ ⟨_, _, rfl, one_own s1 0⟩)
      have hb := fun W x => buildX1 W x
      generalize LeftE o R [] [0] = Q at *
      clear h s1 HD hm hn hr
      simp only [List.length_nil]
      go_enter Tryz.func59, Tryz.ntmps59
      go_wp2_with (first | simp only [hw1, hM] | simp only [hb])
      exact HQ.out
    · simp only [if_neg hl0]
      have hl1 : 0 < l.length := List.length_pos_iff.2 hl0
      obtain ⟨g, cap, e⟩ := h.form 0 rfl hl1
      simp only [Value.slice.injEq, true_and] at e
      obtain ⟨rfl, rfl⟩ := e
      have r0 : w1.drew.cell? ⟨g, 0, none⟩ = some (.int .i64 (l.getD 0 0)) := by
        rw [s1.drew.ownCell 0 rfl 0 (by omega)]
        exact xC_at l 0 hl1
      have HQ : Hid (LeftE o R l [1, l.getD 0 0] (.returned (.tuple #[.slice (some ⟨g, 0, none⟩) l.length lc, .slice (some ⟨w1.drew.heap.size, 0, none⟩) 2 2])) (w1.drew.alloc (.cells #[.int .i64 1, .int .i64 (l.getD 0 0)] 2))) := hid (HD.out _ _ _ _ _ ⟨_, _, rfl, two_own s1.drew 1 _⟩)
      have hb := buildX2 w1.drew 1 (l.getD 0 0)
      have t1 : ((l.length : Int) == 0) = false := by simp; omega
      have t2 : (0 : Int) < (l.length : Int) := by omega
      generalize LeftE o R l [1, l.getD 0 0] = Q at *
      generalize l.getD 0 0 = z at *
      clear h s1 HD hm hn hr hl0 hl1
      generalize hll : l.length = m at *
      clear hll
      go_enter Tryz.func59, Tryz.ntmps59
      go_wp2_with (first | simp only [hw1, hM] | simp only [hb])
      go_region
      all_goals go_wp2
      all_goals exact HQ.out
  · unfold doS
    simp only [Int.reduceEq, ↓reduceIte]
    have HQ : Hid (LeftE o R l [(l.length : Int)] (.returned (.tuple #[.slice la l.length lc, .slice (some ⟨w1.heap.size, 0, none⟩) 1 1])) (w1.alloc (.cells #[.int .i64 (l.length : Int)] 2))) := hid (HD.out _ _ _ _ _ ⟨_, _, rfl, one_own s1 _⟩)
    have hb := fun W x => buildX1 W x
    generalize LeftE o R l [(l.length : Int)] = Q at *
    clear h s1 HD hm hn hr
    generalize hll : l.length = m at *
    clear hll
    go_enter Tryz.func59, Tryz.ntmps59
    go_wp2_with (first | simp only [hw1, hM] | simp only [hb])
    exact HQ.out
end
end Go.Proofs.YtdfefjalamohjabGreatDoor
