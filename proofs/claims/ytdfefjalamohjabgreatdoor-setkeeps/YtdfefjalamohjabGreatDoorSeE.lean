/- Package set: put, drop, done, Do. -/
import Derived.Test.YtdfefjalamohjabGreatDoorInD
namespace Go.Proofs.YtdfefjalamohjabGreatDoor
open Go.RowKit
set_option linter.unusedVariables false
set_option linter.unusedSimpArgs false
attribute [local go_sem ↓] Go.wp_at_zero Go.wp_at_succ

/-- What is left, and told. -/
def LeftE (o : World) (R : List It) (after told : List Int) (e : Ending) (w' : World) : Prop :=
  ∃ v t, e = .returned (.tuple #[v, t]) ∧ St o (ownI 2 1 t told.length (xC told) :: ownI 2 1 v after.length (xC after) :: R) w'
theorem one_own {o w : World} {R : List It} (h : St o R w) (x : Int) : St o (ownI 2 1 (.slice (some ⟨w.heap.size, 0, none⟩) 1 1) 1 (xC [x]) :: R) (w.alloc (.cells #[.int .i64 x] 2)) := by
  have := h.new64 [x] (by simp [maxLen])
  simpa [xC] using this
section
variable {o w : World} {R : List It} {la : Option Addr} {lc : Nat} {l : List Int}
theorem count_le (l : List Int) (x : Int) : atS l x ≤ l.length := List.countP_le_length
theorem count_lt {l : List Int} {x : Int} (h : l.contains x = true) : atS l x < l.length := by
  have hm : x ∈ l := by simpa using h
  have h1 := List.length_eq_countP_add_countP (l := l) (fun a => decide (a < x))
  have h2 : 0 < l.countP (fun a => decide ¬(decide (a < x)) = true) := List.countP_pos_iff.2 ⟨x, hm, by simp⟩
  unfold atS
  omega
set_option maxRecDepth 100000 in
set_option maxHeartbeats 4000000 in
theorem put_any (h : St o (ownI 2 1 (.slice la l.length lc) l.length (xC l) :: R) w) (hn : l.length ≤ 60) (hr : risesB l = true) (n x : Int) :
    Calls Tryz.prog 91 #[.slice la l.length lc, .int .i64 n, .int .i64 x] w (LeftE o R (doS l n ⟨1, 0, 0, x, 0⟩).1 (doS l n ⟨1, 0, 0, x, 0⟩).2) := by
  have hs := Search_any x h hn hr
  have hat := count_le l x
  unfold doS
  simp only [↓reduceIte]
  cases hc : l.contains x with
  | true =>
    simp only [↓reduceIte]
    rw [hc] at hs
    have HQ : Hid (∀ w1, St o (ownI 2 1 (.slice la l.length lc) l.length (xC l) :: R) w1 → LeftE o R l [0] (.returned (.tuple #[.slice la l.length lc, .slice (some ⟨w1.heap.size, 0, none⟩) 1 1])) (w1.alloc (.cells #[.int .i64 0] 2))) := hid (fun w1 s1 => ⟨_, _, rfl, one_own s1 0⟩)
    have hb := fun W => buildX1 W 0
    generalize LeftE o R l [0] = Q at *
    clear h hat hc hn hr
    generalize hll : l.length = m at *
    clear hll
    go_enter Tryz.func91, Tryz.ntmps91
    go_wp2_with (first | (go_at_call 93; refine hs.mono ?_; rintro e w1 ⟨rfl, s1⟩) | simp only [hb])
    exact HQ.out _ s1
  | false =>
    simp only [Bool.false_eq_true, ↓reduceIte]
    rw [hc] at hs
    by_cases hln : (l.length : Int) = n
    · simp only [if_pos hln]
      have HQ : Hid (∀ w1, St o (ownI 2 1 (.slice la l.length lc) l.length (xC l) :: R) w1 → LeftE o R l [2] (.returned (.tuple #[.slice la l.length lc, .slice (some ⟨w1.heap.size, 0, none⟩) 1 1])) (w1.alloc (.cells #[.int .i64 2] 2))) := hid (fun w1 s1 => ⟨_, _, rfl, one_own s1 2⟩)
      have hb := fun W => buildX1 W 2
      have t1 : ((l.length : Int) == n) = true := by simpa using hln
      generalize LeftE o R l [2] = Q at *
      clear h hat hc hn hr hln
      generalize hll : l.length = m at *
      clear hll
      go_enter Tryz.func91, Tryz.ntmps91
      go_wp2_with (first | (go_at_call 93; refine hs.mono ?_; rintro e w1 ⟨rfl, s1⟩) | simp only [hb])
      exact HQ.out _ s1
    · simp only [if_neg hln]
      have hI : Hid (∀ w1, St o (ownI 2 1 (.slice la l.length lc) l.length (xC l) :: R) w1 → Calls Tryz.prog 134 #[.slice la l.length lc, .int .i64 (atS l x : Nat), .slice (some ⟨w1.heap.size, 0, none⟩) 1 1] (w1.alloc (.cells #[.int .i64 x] 2)) (InsE o R l (atS l x) x)) := hid (fun w1 s1 =>
        Insert_any ((s1.box #[.int .i64 x] 2).perm (List.Perm.swap _ _ _)) hn hat)
      have HQ : Hid (∀ (e : Ending) w2 v, e = .returned v → InsE o R l (atS l x) x e w2 → LeftE o R (l.take (atS l x) ++ x :: l.drop (atS l x)) [1] (.returned (.tuple #[v, .slice (some ⟨w2.heap.size, 0, none⟩) 1 1])) (w2.alloc (.cells #[.int .i64 1] 2))) := hid (fun e w2 v he s2 => by
        obtain ⟨g, cap, e2, s2⟩ := s2
        rw [he] at e2
        cases e2
        have hl : (l.take (atS l x) ++ x :: l.drop (atS l x)).length = l.length + 1 := by
          rw [List.length_append, List.length_cons, List.length_take, List.length_drop]; omega
        refine ⟨_, _, rfl, ?_⟩
        have := one_own s2 1
        rw [← hl] at this
        rw [hl] at this ⊢
        exact this)
      have hbx := fun W => buildX1 W x
      have hb1 := fun W => buildX1 W 1
      have t1 : ((l.length : Int) == n) = false := by simpa using hln
      generalize LeftE o R (l.take (atS l x) ++ x :: l.drop (atS l x)) [1] = Q at *
      have hIe : Hid (∀ (e : Ending) w2, InsE o R l (atS l x) x e w2 → ∃ g cap, e = .returned (.slice (some ⟨g, 0, none⟩) (l.length + 1) cap)) := hid (fun e w2 ⟨g, cap, he, _⟩ => ⟨g, cap, he⟩)
      generalize InsE o R l (atS l x) x = I at *
      clear h hat hc hn hr hln
      generalize hll : l.length = m at *
      generalize atS l x = ix at *
      clear hll
      go_enter Tryz.func91, Tryz.ntmps91
      go_wp2_with (first | (go_at_call 93; refine hs.mono ?_; rintro e w1 ⟨rfl, s1⟩; have hI1 := hI.out w1 s1) | simp only [hbx] | (go_at_call 134; refine hI1.mono ?_; intro e w2 s2; obtain ⟨g2, cap2, he2⟩ := hIe.out e w2 s2; have HL := hid (HQ.out e w2 _ he2 s2); subst he2; clear s2 hI1) | simp only [hb1])
      exact HL.out
end
end Go.Proofs.YtdfefjalamohjabGreatDoor
