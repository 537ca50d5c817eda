/- Package set: put, drop, done, Do. Package set: drop, done. Package set: Do. -/
import Derived.Test.YtdfefjalamohjaaGreatDoorInD
namespace Go.Proofs.YtdfefjalamohjaaGreatDoor
open Go.RowKit
set_option linter.unusedVariables false
set_option linter.unusedSimpArgs false
attribute [local go_sem ↓] Go.wp_at_zero Go.wp_at_succ

/-- What is left, and told. -/
def LeftE (o : World) (R : List It) (after told : List Int) (e : Ending) (w' : World) : Prop :=
  ∃ v t, e = .returned (.tuple #[v, t]) ∧ St o (ownI 2 1 t told.length (xC told) :: ownI 2 1 v after.length (xC after) :: R) w'
theorem one_own {o w : World} {R : List It} (h : St o R w) (x : Int) : St o (ownI 2 1 (.slice (some ⟨w.heap.size, 0, none⟩) 1 1) 1 (xC [x]) :: R) (w.alloc (.cells #[.int .i64 x] 2)) := by
  have := h.new64 [x] (by simp [maxLen])
  simpa [xC] using this
section
variable {o w : World} {R : List It} {la : Option Addr} {lc : Nat} {l : List Int}
theorem count_le (l : List Int) (x : Int) : atS l x ≤ l.length := List.countP_le_length
theorem count_lt {l : List Int} {x : Int} (h : l.contains x = true) : atS l x < l.length := by
  have hm : x ∈ l := by simpa using h
  have h1 := List.length_eq_countP_add_countP (l := l) (fun a => decide (a < x))
  have h2 : 0 < l.countP (fun a => decide ¬(decide (a < x)) = true) := List.countP_pos_iff.2 ⟨x, hm, by simp⟩
  unfold atS
  omega
set_option maxRecDepth 100000 in
set_option maxHeartbeats 4000000 in
theorem put_any (h : St o (ownI 2 1 (.slice la l.length lc) l.length (xC l) :: R) w) (hn : l.length ≤ 60) (hr : risesB l = true) (n x : Int) :
    Calls Tryz.prog 62 #[.slice la l.length lc, .int .i64 n, .int .i64 x] w (LeftE o R (doS l n ⟨1, 0, 0, x, 0⟩).1 (doS l n ⟨1, 0, 0, x, 0⟩).2) := by
  have hs := Search_any x h hn hr
  have hat := count_le l x
  unfold doS
  simp only [↓reduceIte]
  cases hc : l.contains x with
  | true =>
    simp only [↓reduceIte]
    rw [hc] at hs
    have HQ : Hid (∀ w1, St o (ownI 2 1 (.slice la l.length lc) l.length (xC l) :: R) w1 → LeftE o R l [0] (.returned (.tuple #[.slice la l.length lc, .slice (some ⟨w1.heap.size, 0, none⟩) 1 1])) (w1.alloc (.cells #[.int .i64 0] 2))) := hid (fun w1 s1 => ⟨_, _, rfl, one_own s1 0⟩)
    have hb := fun W => buildX1 W 0
    generalize LeftE o R l [0] = Q at *
    clear h hat hc hn hr
    generalize hll : l.length = m at *
    clear hll
    go_enter Tryz.func62, Tryz.ntmps62
    go_wp2_with (first | (go_at_call 64; refine hs.mono ?_; rintro e w1 ⟨rfl, s1⟩) | simp only [hb])
    exact HQ.out _ s1
  | false =>
    simp only [Bool.false_eq_true, ↓reduceIte]
    rw [hc] at hs
    by_cases hln : (l.length : Int) = n
    · simp only [if_pos hln]
      have HQ : Hid (∀ w1, St o (ownI 2 1 (.slice la l.length lc) l.length (xC l) :: R) w1 → LeftE o R l [2] (.returned (.tuple #[.slice la l.length lc, .slice (some ⟨w1.heap.size, 0, none⟩) 1 1])) (w1.alloc (.cells #[.int .i64 2] 2))) := hid (fun w1 s1 => ⟨_, _, rfl, one_own s1 2⟩)
      have hb := fun W => buildX1 W 2
      have t1 : ((l.length : Int) == n) = true := by simpa using hln
      generalize LeftE o R l [2] = Q at *
      clear h hat hc hn hr hln
      generalize hll : l.length = m at *
      clear hll
      go_enter Tryz.func62, Tryz.ntmps62
      go_wp2_with (first | (go_at_call 64; refine hs.mono ?_; rintro e w1 ⟨rfl, s1⟩) | simp only [hb])
      exact HQ.out _ s1
    · simp only [if_neg hln]
      have hI : Hid (∀ w1, St o (ownI 2 1 (.slice la l.length lc) l.length (xC l) :: R) w1 → Calls Tryz.prog 79 #[.slice la l.length lc, .int .i64 (atS l x : Nat), .slice (some ⟨w1.heap.size, 0, none⟩) 1 1] (w1.alloc (.cells #[.int .i64 x] 2)) (InsE o R l (atS l x) x)) := hid (fun w1 s1 =>
        Insert_any ((s1.box #[.int .i64 x] 2).perm (List.Perm.swap _ _ _)) hn hat)
      have HQ : Hid (∀ (e : Ending) w2 v, e = .returned v → InsE o R l (atS l x) x e w2 → LeftE o R (l.take (atS l x) ++ x :: l.drop (atS l x)) [1] (.returned (.tuple #[v, .slice (some ⟨w2.heap.size, 0, none⟩) 1 1])) (w2.alloc (.cells #[.int .i64 1] 2))) := hid (fun e w2 v he s2 => by
        obtain ⟨g, cap, e2, s2⟩ := s2
        rw [he] at e2
        cases e2
        have hl : (l.take (atS l x) ++ x :: l.drop (atS l x)).length = l.length + 1 := by
          rw [List.length_append, List.length_cons, List.length_take, List.length_drop]; omega
        refine ⟨_, _, rfl, ?_⟩
        have := one_own s2 1
        rw [← hl] at this
        rw [hl] at this ⊢
        exact this)
      have hbx := fun W => buildX1 W x
      have hb1 := fun W => buildX1 W 1
      have t1 : ((l.length : Int) == n) = false := by simpa using hln
      generalize LeftE o R (l.take (atS l x) ++ x :: l.drop (atS l x)) [1] = Q at *
      have hIe : Hid (∀ (e : Ending) w2, InsE o R l (atS l x) x e w2 → ∃ g cap, e = .returned (.slice (some ⟨g, 0, none⟩) (l.length + 1) cap)) := hid (fun e w2 ⟨g, cap, he, _⟩ => ⟨g, cap, he⟩)
      generalize InsE o R l (atS l x) x = I at *
      clear h hat hc hn hr hln
      generalize hll : l.length = m at *
      generalize atS l x = ix at *
      clear hll
      go_enter Tryz.func62, Tryz.ntmps62
      go_wp2_with (first | (go_at_call 64; refine hs.mono ?_; rintro e w1 ⟨rfl, s1⟩; have hI1 := hI.out w1 s1) | simp only [hbx] | (go_at_call 79; refine hI1.mono ?_; intro e w2 s2; obtain ⟨g2, cap2, he2⟩ := hIe.out e w2 s2; have HL := hid (HQ.out e w2 _ he2 s2); subst he2; clear s2 hI1) | simp only [hb1])
      exact HL.out
end
end Go.Proofs.YtdfefjalamohjaaGreatDoor

namespace Go.Proofs.YtdfefjalamohjaaGreatDoor
open Go.RowKit
set_option linter.unusedVariables false
set_option linter.unusedSimpArgs false
attribute [local go_sem ↓] Go.wp_at_zero Go.wp_at_succ

theorem buildX2 (W : World) (x y : Int) : (Instr.buildSlice 24 2 #[(0, .int .i64 x), (1, .int .i64 y)]).run Tryz.prog W = .ok (.slice (some ⟨W.heap.size, 0, none⟩) 2 2) (W.alloc (.cells #[.int .i64 x, .int .i64 y] 2)) := by kernel_rfl
theorem two_own {o w : World} {R : List It} (h : St o R w) (x y : Int) : St o (ownI 2 1 (.slice (some ⟨w.heap.size, 0, none⟩) 2 2) 2 (xC [x, y]) :: R) (w.alloc (.cells #[.int .i64 x, .int .i64 y] 2)) := by
  have := h.new64 [x, y] (by simp [maxLen])
  simpa [xC] using this
section
variable {o w : World} {R : List It} {la : Option Addr} {lc : Nat} {l : List Int}
set_option maxRecDepth 100000 in
set_option maxHeartbeats 4000000 in
theorem drop_set (h : St o (ownI 2 1 (.slice la l.length lc) l.length (xC l) :: R) w) (hn : l.length ≤ 60) (hr : risesB l = true) (n x : Int) :
    Calls Tryz.prog 63 #[.slice la l.length lc, .int .i64 x] w (LeftE o R (doS l n ⟨2, 0, 0, x, 0⟩).1 (doS l n ⟨2, 0, 0, x, 0⟩).2) := by
  have hs := Search_any x h hn hr
  unfold doS
  simp only [Int.reduceEq, ↓reduceIte]
  cases hc : l.contains x with
  | false =>
    simp only [Bool.false_eq_true, ↓reduceIte]
    rw [hc] at hs
    have HQ : Hid (∀ w1, St o (ownI 2 1 (.slice la l.length lc) l.length (xC l) :: R) w1 → LeftE o R l [0] (.returned (.tuple #[.slice la l.length lc, .slice (some ⟨w1.heap.size, 0, none⟩) 1 1])) (w1.alloc (.cells #[.int .i64 0] 2))) := hid (fun w1 s1 => ⟨_, _, rfl, one_own s1 0⟩)
    have hb := fun W => buildX1 W 0
    generalize LeftE o R l [0] = Q at *
    clear h hc hn hr
    generalize hll : l.length = m at *
    clear hll
    go_enter Tryz.func63, Tryz.ntmps63
    go_wp2_with (first | (go_at_call 64; refine hs.mono ?_; rintro e w1 ⟨rfl, s1⟩) | simp only [hb])
    exact HQ.out _ s1
  | true =>
    simp only [↓reduceIte]
    rw [hc] at hs
    have hlt := count_lt hc
    obtain ⟨g, cap, e⟩ := h.form 0 rfl (by omega)
    simp only [Value.slice.injEq, true_and] at e
    obtain ⟨rfl, rfl⟩ := e
    have hI : Hid (∀ w1, St o (ownI 2 1 (.slice (some ⟨g, 0, none⟩) l.length lc) l.length (xC l) :: R) w1 → Calls Tryz.prog 80 #[.slice (some ⟨g, 0, none⟩) l.length lc, .int .i64 (atS l x : Nat), .int .i64 ((atS l x : Nat) + 1 : Int)] w1 fun e w' => e = .returned (.slice (some ⟨g, 0, none⟩) (l.length - 1) lc) ∧ St o (ownI 2 1 (.slice (some ⟨g, 0, none⟩) (l.length - 1) lc) (l.length - 1) (xC (l.take (atS l x) ++ l.drop (atS l x + 1))) :: R) w') := hid (fun w1 s1 => Delete_any s1 hn hlt)
    have HQ : Hid (∀ w2, St o (ownI 2 1 (.slice (some ⟨g, 0, none⟩) (l.length - 1) lc) (l.length - 1) (xC (l.take (atS l x) ++ l.drop (atS l x + 1))) :: R) w2 → LeftE o R (l.take (atS l x) ++ l.drop (atS l x + 1)) [1] (.returned (.tuple #[.slice (some ⟨g, 0, none⟩) (l.length - 1) lc, .slice (some ⟨w2.heap.size, 0, none⟩) 1 1])) (w2.alloc (.cells #[.int .i64 1] 2))) := hid (fun w2 s2 => by
      have hl : (l.take (atS l x) ++ l.drop (atS l x + 1)).length = l.length - 1 := by
        rw [List.length_append, List.length_take, List.length_drop]; omega
      refine ⟨_, _, rfl, ?_⟩
      rw [hl]
      exact one_own s2 1)
    have hb1 := fun W => buildX1 W 1
    have hi1 : ((atS l x : Nat) : Int) + 1 ≤ 61 := by omega
    have hi0 : (0 : Int) ≤ ((atS l x : Nat) : Int) := by omega
    generalize LeftE o R (l.take (atS l x) ++ l.drop (atS l x + 1)) [1] = Q at *
    generalize l.take (atS l x) ++ l.drop (atS l x + 1) = l2 at *
    clear h hc hn hr hlt
    generalize l.length - 1 = m1 at *
    generalize hll : l.length = m at *
    generalize atS l x = ix at *
    clear hll
    go_enter Tryz.func63, Tryz.ntmps63
    go_wp2_with (first | (go_at_call 64; refine hs.mono ?_; rintro e w1 ⟨rfl, s1⟩; have hI1 := hI.out w1 s1) | (go_at_call 80; refine hI1.mono ?_; rintro e w2 ⟨rfl, s2⟩) | simp only [hb1])
    exact HQ.out _ s2
set_option maxRecDepth 100000 in
set_option maxHeartbeats 8000000 in
theorem done_any (h : St o (ownI 2 1 (.slice la l.length lc) l.length (xC l) :: R) w) (hn : l.length ≤ 60) (hr : risesB l = true) (n : Int) (d : Dd) (hm : mayS d = true) :
    Calls Tryz.prog 39 #[.slice la l.length lc, .int .i64 n, d.val] w (LeftE o R (doS l n d).1 (doS l n d).2) := by
  obtain ⟨op, a, b, x, y⟩ := d
  have hop := may_op hm
  simp only at hop
  have s1 := (h.box #[.int .i64 op, .int .i64 a, .int .i64 b, .int .i64 x, .int .i64 y] 40).perm (List.Perm.swap _ _ _)
  have HD : Hid (∀ (e : Ending) (w' : World) (B : It) (p q : List Int), LeftE o (B :: R) p q e w' → LeftE o R p q e w') := hid (fun e w' B p q h => by
    obtain ⟨v, t, he, s⟩ := h
    refine ⟨v, t, he, ?_⟩
    exact (St.perm (its' := B :: ownI _ _ _ _ _ :: ownI _ _ _ _ _ :: R) s (perm_in B [_, _] R).symm).pop)
  show Calls _ _ #[_, _, .agg #[.int .i64 op, .int .i64 a, .int .i64 b, .int .i64 x, .int .i64 y]] _ _
  generalize hw1 : w.alloc (.cells #[.int .i64 op, .int .i64 a, .int .i64 b, .int .i64 x, .int .i64 y] 40) = w1 at *
  generalize hM : w.heap.size = M at *
  have c0 : w1.cell? ⟨M, 0, none⟩ = some (.int .i64 op) := s1.cell 1 rfl 0
  have c3 : w1.cell? ⟨M, 3, none⟩ = some (.int .i64 x) := s1.cell 1 rfl 3
  rcases hop with rfl | rfl | rfl | rfl | rfl
  · have hp := put_any s1 hn hr n x
    have hq : doS l n ⟨1, a, b, x, y⟩ = doS l n ⟨1, 0, 0, x, 0⟩ := rfl
    rw [hq]
    have HL : Hid (∀ e w', LeftE o (boxI M #[.int .i64 1, .int .i64 a, .int .i64 b, .int .i64 x, .int .i64 y] 40 :: R) (doS l n ⟨1, 0, 0, x, 0⟩).1 (doS l n ⟨1, 0, 0, x, 0⟩).2 e w' → ∃ v t, e = .returned (.tuple #[v, t]) ∧ LeftE o R (doS l n ⟨1, 0, 0, x, 0⟩).1 (doS l n ⟨1, 0, 0, x, 0⟩).2 (.returned (.tuple #[v, t])) w') := hid (fun e w' hl => by
      obtain ⟨v, t, he, _⟩ := id hl
      exact ⟨v, t, he, by rw [← he]; exact HD.out e w' _ _ _ hl⟩)
    generalize LeftE o (boxI M #[.int .i64 1, .int .i64 a, .int .i64 b, .int .i64 x, .int .i64 y] 40 :: R) (doS l n ⟨1, 0, 0, x, 0⟩).1 (doS l n ⟨1, 0, 0, x, 0⟩).2 = P at *
    generalize LeftE o R (doS l n ⟨1, 0, 0, x, 0⟩).1 (doS l n ⟨1, 0, 0, x, 0⟩).2 = Q at *
    clear h s1 HD hm hq hn hr
    generalize hll : l.length = m at *
    clear hll
    go_enter Tryz.func39, Tryz.ntmps39
    go_wp2_with (first | simp only [hw1, hM] | (go_at_call 62; refine hp.mono ?_; intro e w2 s2; obtain ⟨v2, t2, rfl, hQ2⟩ := HL.out e w2 s2; have HQ2 := hid hQ2; clear hQ2 s2))
    exact HQ2.out
  · have hp := drop_set s1 hn hr n x
    have hq : doS l n ⟨2, a, b, x, y⟩ = doS l n ⟨2, 0, 0, x, 0⟩ := rfl
    rw [hq]
    have HL : Hid (∀ e w', LeftE o (boxI M #[.int .i64 2, .int .i64 a, .int .i64 b, .int .i64 x, .int .i64 y] 40 :: R) (doS l n ⟨2, 0, 0, x, 0⟩).1 (doS l n ⟨2, 0, 0, x, 0⟩).2 e w' → ∃ v t, e = .returned (.tuple #[v, t]) ∧ LeftE o R (doS l n ⟨2, 0, 0, x, 0⟩).1 (doS l n ⟨2, 0, 0, x, 0⟩).2 (.returned (.tuple #[v, t])) w') := hid (fun e w' hl => by
      obtain ⟨v, t, he, _⟩ := id hl
      exact ⟨v, t, he, by rw [← he]; exact HD.out e w' _ _ _ hl⟩)
    generalize LeftE o (boxI M #[.int .i64 2, .int .i64 a, .int .i64 b, .int .i64 x, .int .i64 y] 40 :: R) (doS l n ⟨2, 0, 0, x, 0⟩).1 (doS l n ⟨2, 0, 0, x, 0⟩).2 = P at *
    generalize LeftE o R (doS l n ⟨2, 0, 0, x, 0⟩).1 (doS l n ⟨2, 0, 0, x, 0⟩).2 = Q at *
    clear h s1 HD hm hq hn hr
    generalize hll : l.length = m at *
    clear hll
    go_enter Tryz.func39, Tryz.ntmps39
    go_wp2_with (first | simp only [hw1, hM] | (go_at_call 63; refine hp.mono ?_; intro e w2 s2; obtain ⟨v2, t2, rfl, hQ2⟩ := HL.out e w2 s2; have HQ2 := hid hQ2; clear hQ2 s2))
    exact HQ2.out
  · have hs := Search_any x s1 hn hr
    unfold doS
    simp only [Int.reduceEq, ↓reduceIte]
    have HQ : Hid (∀ (p : List Int) (z : Int) w1, St o (ownI 2 1 (.slice la l.length lc) l.length (xC l) :: boxI M #[.int .i64 3, .int .i64 a, .int .i64 b, .int .i64 x, .int .i64 y] 40 :: R) w1 → LeftE o R l [z] (.returned (.tuple #[.slice la l.length lc, .slice (some ⟨w1.heap.size, 0, none⟩) 1 1])) (w1.alloc (.cells #[.int .i64 z] 2))) := hid (fun p z w1 s => HD.out _ _ _ _ _ ⟨_, _, rfl, one_own s z⟩)
    have hb := fun W x => buildX1 W x
    cases hc : l.contains x with
    | true =>
      simp only [↓reduceIte]
      rw [hc] at hs
      have HQ1 := hid (HQ.out [] 1)
      generalize LeftE o R l [1] = Q at *
      clear h s1 HD hm hn hr hc HQ
      generalize hll : l.length = m at *
      clear hll
      go_enter Tryz.func39, Tryz.ntmps39
      go_wp2_with (first | simp only [hw1, hM] | (go_at_call 64; refine hs.mono ?_; rintro e w2 ⟨rfl, s2⟩) | simp only [hb])
      exact HQ1.out _ s2
    | false =>
      simp only [Bool.false_eq_true, ↓reduceIte]
      rw [hc] at hs
      have HQ1 := hid (HQ.out [] 0)
      generalize LeftE o R l [0] = Q at *
      clear h s1 HD hm hn hr hc HQ
      generalize hll : l.length = m at *
      clear hll
      go_enter Tryz.func39, Tryz.ntmps39
      go_wp2_with (first | simp only [hw1, hM] | (go_at_call 64; refine hs.mono ?_; rintro e w2 ⟨rfl, s2⟩) | simp only [hb])
      exact HQ1.out _ s2
  · unfold doS
    simp only [Int.reduceEq, ↓reduceIte]
    by_cases hl0 : l = []
    · subst hl0
      simp only [↓reduceIte]
      have HQ : Hid (LeftE o R [] [0] (.returned (.tuple #[.slice la 0 lc, .slice (some ⟨w1.heap.size, 0, none⟩) 1 1])) (w1.alloc (.cells #[.int .i64 0] 2))) := hid (HD.out _ _ _ _ _ ⟨_, _, rfl, one_own s1 0⟩)
      have hb := fun W x => buildX1 W x
      generalize LeftE o R [] [0] = Q at *
      clear h s1 HD hm hn hr
      simp only [List.length_nil]
      go_enter Tryz.func39, Tryz.ntmps39
      go_wp2_with (first | simp only [hw1, hM] | simp only [hb])
      exact HQ.out
    · simp only [if_neg hl0]
      have hl1 : 0 < l.length := List.length_pos_iff.2 hl0
      obtain ⟨g, cap, e⟩ := h.form 0 rfl hl1
      simp only [Value.slice.injEq, true_and] at e
      obtain ⟨rfl, rfl⟩ := e
      have r0 : w1.drew.cell? ⟨g, 0, none⟩ = some (.int .i64 (l.getD 0 0)) := by
        rw [s1.drew.ownCell 0 rfl 0 (by omega)]
        exact xC_at l 0 hl1
      have HQ : Hid (LeftE o R l [1, l.getD 0 0] (.returned (.tuple #[.slice (some ⟨g, 0, none⟩) l.length lc, .slice (some ⟨w1.drew.heap.size, 0, none⟩) 2 2])) (w1.drew.alloc (.cells #[.int .i64 1, .int .i64 (l.getD 0 0)] 2))) := hid (HD.out _ _ _ _ _ ⟨_, _, rfl, two_own s1.drew 1 _⟩)
      have hb := buildX2 w1.drew 1 (l.getD 0 0)
      have t1 : ((l.length : Int) == 0) = false := by simp; omega
      have t2 : (0 : Int) < (l.length : Int) := by omega
      generalize LeftE o R l [1, l.getD 0 0] = Q at *
      generalize l.getD 0 0 = z at *
      clear h s1 HD hm hn hr hl0 hl1
      generalize hll : l.length = m at *
      clear hll
      go_enter Tryz.func39, Tryz.ntmps39
      go_wp2_with (first | simp only [hw1, hM] | simp only [hb])
      go_region
      all_goals go_wp2
      all_goals exact HQ.out
  · unfold doS
    simp only [Int.reduceEq, ↓reduceIte]
    have HQ : Hid (LeftE o R l [(l.length : Int)] (.returned (.tuple #[.slice la l.length lc, .slice (some ⟨w1.heap.size, 0, none⟩) 1 1])) (w1.alloc (.cells #[.int .i64 (l.length : Int)] 2))) := hid (HD.out _ _ _ _ _ ⟨_, _, rfl, one_own s1 _⟩)
    have hb := fun W x => buildX1 W x
    generalize LeftE o R l [(l.length : Int)] = Q at *
    clear h s1 HD hm hn hr
    generalize hll : l.length = m at *
    clear hll
    go_enter Tryz.func39, Tryz.ntmps39
    go_wp2_with (first | simp only [hw1, hM] | simp only [hb])
    exact HQ.out
end
end Go.Proofs.YtdfefjalamohjaaGreatDoor

namespace Go.Proofs.YtdfefjalamohjaaGreatDoor
open Go.RowKit
set_option linter.unusedVariables false
set_option linter.unusedSimpArgs false
attribute [local go_sem ↓] Go.wp_at_zero Go.wp_at_succ

def okS (l : List Int) (n : Int) (d : Dd) : Bool := decide (0 < roomS n) && (decide ((l.length : Int) ≤ n) && (mayS d && risesB l))
/-- How Do ends. -/
def DoE (l : List Int) (n : Int) (d : Dd) (w : World) (e : Ending) (w' : World) : Prop :=
  if okS l n d = true then ∃ v t, e = .returned (.tuple #[v, t, .int .i64 0]) ∧ St w [ownI 2 1 t (doS l n d).2.length (xC (doS l n d).2), ownI 2 1 v (doS l n d).1.length (xC (doS l n d).1)] w'
  else e = .returned (.tuple #[.slice none 0 0, .slice none 0 0, .int .i64 180]) ∧ Kept (fun _ => False) w w'
set_option maxRecDepth 100000 in
set_option maxHeartbeats 8000000 in
theorem Do_any {w : World} {n : Int} {d : Dd} {la : Option Addr} {m lc : Nat} {l : List Int} (hX : XIn w la m l) (hm63 : m ≤ 9223372036854775807) : Calls Tryz.prog 21 #[.slice la m lc, .int .i64 n, d.val] w (DoE l n d w) := by
  have hml := hX.1
  have hR := fun W => Room_any n W
  have hB := fun W => smay_any d W
  obtain ⟨op, a, b, x, y⟩ := d
  have s1 := (St.nil w).box #[.int .i64 op, .int .i64 a, .int .i64 b, .int .i64 x, .int .i64 y] 40
  have HN : Hid (okS l n ⟨op, a, b, x, y⟩ = false → ∀ w', Kept (fun _ => False) w w' → DoE l n ⟨op, a, b, x, y⟩ w (.returned (.tuple #[.slice none 0 0, .slice none 0 0, .int .i64 180])) w') := hid (fun h w' k => by
    unfold DoE
    rw [if_neg (by rw [h]; decide)]
    exact ⟨rfl, k⟩)
  have HY : Hid (okS l n ⟨op, a, b, x, y⟩ = true → ∀ v t w' R, St w (ownI 2 1 t (doS l n ⟨op, a, b, x, y⟩).2.length (xC (doS l n ⟨op, a, b, x, y⟩).2) :: ownI 2 1 v (doS l n ⟨op, a, b, x, y⟩).1.length (xC (doS l n ⟨op, a, b, x, y⟩).1) :: R) w' → DoE l n ⟨op, a, b, x, y⟩ w (.returned (.tuple #[v, t, .int .i64 0])) w') := hid (fun h v t w' R s => by
    unfold DoE
    rw [if_pos h]
    exact ⟨v, t, rfl, St.cut (A := [_, _]) (B := R) s⟩)
  have hdone : Hid (0 < roomS n → (l.length : Int) ≤ n → mayS ⟨op, a, b, x, y⟩ = true → risesB l = true → ∀ (g cap : Nat) (v : Value) (W : World) (R : List It), St w (ownI 2 1 v l.length (xC l) :: R) W → ∃ la lc, v = .slice la l.length lc ∧ Calls Tryz.prog 39 #[.slice la l.length lc, .int .i64 n, .agg #[.int .i64 op, .int .i64 a, .int .i64 b, .int .i64 x, .int .i64 y]] W (LeftE w R (doS l n ⟨op, a, b, x, y⟩).1 (doS l n ⟨op, a, b, x, y⟩).2)) := hid (fun h1 h2 h3 h4 g cap v W R s => by
    obtain ⟨la', lc', e, -, -, -⟩ := own_xin (show W.ownsRow 0 2 1 v l.length (xC l) from s.get 0 rfl)
    subst e
    have := (roomS_pos h1).2.1
    exact ⟨la', lc', rfl, done_any s (by omega) h4 n ⟨op, a, b, x, y⟩ h3⟩)
  show Calls _ _ #[_, _, .agg #[.int .i64 op, .int .i64 a, .int .i64 b, .int .i64 x, .int .i64 y]] _ _
  have hB1 : ∀ W, Calls Tryz.prog 37 #[.agg #[.int .i64 op, .int .i64 a, .int .i64 b, .int .i64 x, .int .i64 y]] W fun e w' => e = .returned (.bool (mayS ⟨op, a, b, x, y⟩)) ∧ Kept (fun _ => False) W w' := hB
  clear hB
  generalize hw1 : w.alloc (.cells #[.int .i64 op, .int .i64 a, .int .i64 b, .int .i64 x, .int .i64 y] 40) = w1 at *
  generalize hM : w.heap.size = M at *
  have c0 : w1.cell? ⟨M, 0, none⟩ = some (.int .i64 op) := s1.cell 0 rfl 0
  have c1 : w1.cell? ⟨M, 1, none⟩ = some (.int .i64 a) := s1.cell 0 rfl 1
  have c2 : w1.cell? ⟨M, 2, none⟩ = some (.int .i64 b) := s1.cell 0 rfl 2
  have c3 : w1.cell? ⟨M, 3, none⟩ = some (.int .i64 x) := s1.cell 0 rfl 3
  have c4 : w1.cell? ⟨M, 4, none⟩ = some (.int .i64 y) := s1.cell 0 rfl 4
  have HK := hid s1.same
  have hR1 := hR w1
  have hB2 := hB1 w1
  clear hR hB1
  by_cases h0 : 0 < roomS n
  · obtain ⟨hn1, hn2, hn3⟩ := roomS_pos h0
    rw [hn3] at hR1
    have t0 : ((3 + 2 * n) == 0) = false := by simp; omega
    by_cases h1 : (l.length : Int) ≤ n
    · have t1 : decide (n < (m : Int)) = false := by simp; omega
      cases hmy : mayS ⟨op, a, b, x, y⟩ with
      | false =>
        have hno := HN.out (by unfold okS; rw [hmy]; simp)
        rw [hmy] at hB2
        generalize DoE l n ⟨op, a, b, x, y⟩ w = Q at *
        have HN2 := hid hno
        clear HN HY hdone hno s1 hX hml hmy h0 hn3 h1
        go_enter Tryz.func21, Tryz.ntmps21
        go_wp2_with (first | simp only [hw1, hM] | (go_at_call 10; refine hR1.mono ?_; rintro e w' ⟨rfl, rfl⟩) | (go_at_call 37; refine hB2.mono ?_; rintro e w2 ⟨rfl, k2⟩))
        go_ret3
        exact HN2.out _ (HK.out.trans k2 (fun _ _ f => f))
      | true =>
        rw [hmy] at hB2
        have hv := fun (W : World) (s : St w [boxI M #[.int .i64 op, .int .i64 a, .int .i64 b, .int .i64 x, .int .i64 y] 40] W) => Values_any s la m lc
        have hrs := fun (bp : Nat) (W : World) (s : St w (boxI bp #[.slice la m lc] 24 :: [boxI M #[.int .i64 op, .int .i64 a, .int .i64 b, .int .i64 x, .int .i64 y] 40]) W) =>
          rising_any (Rq := [boxI bp #[.slice la m lc] 24]) (T := [boxI M #[.int .i64 op, .int .i64 a, .int .i64 b, .int .i64 x, .int .i64 y] 40]) (values_tells hX hm63 bp) (enters_of Tryz.func61 (by kernel_rfl) rfl) s (by omega)
        have HS2 : Hid (∀ w2, Kept (fun _ => False) w1 w2 → St w [boxI M #[.int .i64 op, .int .i64 a, .int .i64 b, .int .i64 x, .int .i64 y] 40] w2) := hid (fun w2 k => s1.calm k)
        cases hri : risesB l with
        | false =>
          have hno := HN.out (by unfold okS; rw [hri]; simp)
          simp only [hri, Bool.false_eq_true, if_false] at hrs
          replace hv := hid hv
          replace hrs := hid hrs
          generalize DoE l n ⟨op, a, b, x, y⟩ w = Q at *
          have HN2 := hid hno
          clear HN HY hdone hno s1 hX hml hmy h0 hn3 h1 hri
          go_enter Tryz.func21, Tryz.ntmps21
          go_wp2_with (first | simp only [hw1, hM] | (go_at_call 10; refine hR1.mono ?_; rintro e w' ⟨rfl, rfl⟩) | (go_at_call 37; refine hB2.mono ?_; rintro e w2 ⟨rfl, k2⟩; have hv2 := hv.out w2 (HS2.out w2 k2)) | (go_at_call 38; refine hv2.mono ?_; rintro e w3 ⟨bp, rfl, s3⟩; have hr3 := hrs.out bp w3 s3; clear hv2) | (go_at_call 34; refine hr3.mono ?_; rintro e w4 ⟨rfl, s4⟩))
          go_ret3
          exact HN2.out _ s4.same
        | true =>
          have hyes := hid (HY.out (by unfold okS; rw [hri, hmy]; simp [h0, h1]))
          have hdn := hid (hdone.out h0 h1 hmy hri 0 0)
          simp only [hri, if_true] at hrs
          replace hv := hid hv
          replace hrs := hid hrs
          have HL : Hid (∀ e w' R, LeftE w R (doS l n ⟨op, a, b, x, y⟩).1 (doS l n ⟨op, a, b, x, y⟩).2 e w' → ∃ v t, e = .returned (.tuple #[v, t]) ∧ DoE l n ⟨op, a, b, x, y⟩ w (.returned (.tuple #[v, t, .int .i64 0])) w') := hid (fun e w' R hl => by
            obtain ⟨v, t, he, s⟩ := hl
            exact ⟨v, t, he, hyes.out v t w' R s⟩)
          generalize DoE l n ⟨op, a, b, x, y⟩ w = Q at *
          generalize (doS l n ⟨op, a, b, x, y⟩).1 = aft at *
          generalize (doS l n ⟨op, a, b, x, y⟩).2 = tld at *
          have HC : Hid (∀ W its, St w its W → boxI M #[.int .i64 op, .int .i64 a, .int .i64 b, .int .i64 x, .int .i64 y] 40 ∈ its → W.cell? ⟨M, 0, none⟩ = some (.int .i64 op) ∧ W.cell? ⟨M, 1, none⟩ = some (.int .i64 a) ∧ W.cell? ⟨M, 2, none⟩ = some (.int .i64 b) ∧ W.cell? ⟨M, 3, none⟩ = some (.int .i64 x) ∧ W.cell? ⟨M, 4, none⟩ = some (.int .i64 y)) := hid (fun W its hs hmem => ⟨box_at hs hmem 0, box_at hs hmem 1, box_at hs hmem 2, box_at hs hmem 3, box_at hs hmem 4⟩)
          clear HN HY hdone hyes s1 hX hml hmy h0 hn3 h1 hri
          go_enter Tryz.func21, Tryz.ntmps21
          go_wp2_with (first | simp only [hw1, hM] | (go_at_call 10; refine hR1.mono ?_; rintro e w' ⟨rfl, rfl⟩) | (go_at_call 37; refine hB2.mono ?_; rintro e w2 ⟨rfl, k2⟩; have hv2 := hv.out w2 (HS2.out w2 k2)) | (go_at_call 38; refine hv2.mono ?_; rintro e w3 ⟨bp, rfl, s3⟩; have hr3 := hrs.out bp w3 s3; clear hv2) | (go_at_call 34; refine hr3.mono ?_; rintro e w4 ⟨v4, rfl, s4⟩; obtain ⟨d0, d1, d2, d3, d4⟩ := HC.out w4 _ s4 (by simp); obtain ⟨la4, lc4, rfl, hd4⟩ := hdn.out v4 w4 _ s4; clear hr3) | (go_at_call 39; refine hd4.mono ?_; intro e w5 s5; obtain ⟨v5, t5, rfl, hQ5⟩ := HL.out e w5 _ s5; have HQ5 := hid hQ5; clear hQ5 s5))
          go_ret3
          exact HQ5.out
    · have t1 : decide (n < (m : Int)) = true := by simp; omega
      have hno := HN.out (by unfold okS; simp [h1])
      generalize DoE l n ⟨op, a, b, x, y⟩ w = Q at *
      have HN2 := hid hno
      clear HN HY hdone hno s1 hX hml h0 hn3 h1
      go_enter Tryz.func21, Tryz.ntmps21
      go_wp2_with (first | simp only [hw1, hM] | (go_at_call 10; refine hR1.mono ?_; rintro e w' ⟨rfl, rfl⟩))
      go_ret3
      exact HN2.out _ HK.out
  · rw [roomS_zero h0] at hR1
    have hno := HN.out (by unfold okS; simp [h0])
    generalize DoE l n ⟨op, a, b, x, y⟩ w = Q at *
    have HN2 := hid hno
    clear HN HY hdone hno s1 hX hml h0
    go_enter Tryz.func21, Tryz.ntmps21
    go_wp2_with (first | simp only [hw1, hM] | (go_at_call 10; refine hR1.mono ?_; rintro e w' ⟨rfl, rfl⟩))
    go_ret3
    exact HN2.out _ HK.out
end Go.Proofs.YtdfefjalamohjaaGreatDoor
