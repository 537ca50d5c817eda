/- Package deque: Do. -/
import Derived.Test.YtahokdgodhhchaaGreatDoorDqE
namespace Go.Proofs.YtahokdgodhhchaaGreatDoor
open Go.RowKit
set_option linter.unusedVariables false
set_option linter.unusedSimpArgs false
attribute [local go_sem ↓] Go.wp_at_zero Go.wp_at_succ

/-- How Do ends. -/
def DoE (l : List Int) (n : Int) (d : Dd) (w : World) (e : Ending) (w' : World) : Prop :=
  if okS l n d = true then ∃ v t, e = .returned (.tuple #[v, t, .int .i64 0]) ∧ St w [lstI t (doS l n d).2, lstI v (doS l n d).1] w'
  else e = .returned (.tuple #[.slice none 0 0, .slice none 0 0, .int .i64 200]) ∧ Kept (fun _ => False) w w'
set_option maxRecDepth 100000 in
set_option maxHeartbeats 8000000 in
theorem Do_any {w : World} {n : Int} {d : Dd} {la : Option Addr} {m lc : Nat} {l : List Int} (hA : Adr la m lc) (hc : m ≤ lc) (hX : XIn w la m l) : Calls Tryz.prog 21 #[.slice la m lc, .int .i64 n, d.val] w (DoE l n d w) := by
  have hml := hX.1
  have hR := fun W => Room_any n W
  have hB := fun W => smay_any d W
  obtain ⟨op, a, b, x, y⟩ := d
  have s1 := (St.nil w).box #[.int .i64 op, .int .i64 a, .int .i64 b, .int .i64 x, .int .i64 y] 40
  have HN : Hid (okS l n ⟨op, a, b, x, y⟩ = false → ∀ w', Kept (fun _ => False) w w' → DoE l n ⟨op, a, b, x, y⟩ w (.returned (.tuple #[.slice none 0 0, .slice none 0 0, .int .i64 200])) w') := hid (fun h w' k => by
    unfold DoE
    rw [if_neg (by rw [h]; decide)]
    exact ⟨rfl, k⟩)
  have HY : Hid (okS l n ⟨op, a, b, x, y⟩ = true → ∀ W e w', Kept (fun _ => False) w W → LeftE W (doS l n ⟨op, a, b, x, y⟩) e w' → ∃ v t, e = .returned (.tuple #[v, t]) ∧ DoE l n ⟨op, a, b, x, y⟩ w (.returned (.tuple #[v, t, .int .i64 0])) w') := hid (fun h W e w' k hl => by
    obtain ⟨v, t, he, s⟩ := hl
    refine ⟨v, t, he, ?_⟩
    unfold DoE
    rw [if_pos h]
    exact ⟨v, t, rfl, s.base k⟩)
  have hdone : Hid (0 < roomS n → (l.length : Int) ≤ n → mayS ⟨op, a, b, x, y⟩ = true → ∀ W, Kept (fun _ => False) w W → Calls Tryz.prog 36 #[.slice la m lc, .int .i64 n, .agg #[.int .i64 op, .int .i64 a, .int .i64 b, .int .i64 x, .int .i64 y]] W (LeftE W (doS l n ⟨op, a, b, x, y⟩))) := hid (fun h1 h2 h3 W k => by
    have := (roomS_pos h1).2.1
    exact done_any n ⟨op, a, b, x, y⟩ hA hc (hX.kept k) (by omega) h3)
  show Calls _ _ #[_, _, .agg #[.int .i64 op, .int .i64 a, .int .i64 b, .int .i64 x, .int .i64 y]] _ _
  have hB1 : ∀ W, Calls Tryz.prog 35 #[.agg #[.int .i64 op, .int .i64 a, .int .i64 b, .int .i64 x, .int .i64 y]] W fun e w' => e = .returned (.bool (mayS ⟨op, a, b, x, y⟩)) ∧ Kept (fun _ => False) W w' := hB
  clear hB
  generalize hw1 : w.alloc (.cells #[.int .i64 op, .int .i64 a, .int .i64 b, .int .i64 x, .int .i64 y] 40) = w1 at *
  generalize hM : w.heap.size = M at *
  have c0 : w1.cell? ⟨M, 0, none⟩ = some (.int .i64 op) := s1.cell 0 rfl 0
  have c1 : w1.cell? ⟨M, 1, none⟩ = some (.int .i64 a) := s1.cell 0 rfl 1
  have c2 : w1.cell? ⟨M, 2, none⟩ = some (.int .i64 b) := s1.cell 0 rfl 2
  have c3 : w1.cell? ⟨M, 3, none⟩ = some (.int .i64 x) := s1.cell 0 rfl 3
  have c4 : w1.cell? ⟨M, 4, none⟩ = some (.int .i64 y) := s1.cell 0 rfl 4
  have HK := hid s1.same
  have hR1 := hR w1
  have hB2 := hB1 w1
  clear hR hB1
  by_cases h0 : 0 < roomS n
  · obtain ⟨hn1, hn2, hn3⟩ := roomS_pos h0
    rw [hn3] at hR1
    have t0 : ((2 + n) == 0) = false := by simp; omega
    by_cases h1 : (l.length : Int) ≤ n
    · have t1 : decide (n < (m : Int)) = false := by simp; omega
      cases hmy : mayS ⟨op, a, b, x, y⟩ with
      | false =>
        have hno := HN.out (by unfold okS; rw [hmy]; simp)
        rw [hmy] at hB2
        generalize DoE l n ⟨op, a, b, x, y⟩ w = Q at *
        have HN2 := hid hno
        clear HN HY hdone hno s1 hX hml hmy h0 hn3 h1
        go_enter Tryz.func21, Tryz.ntmps21
        go_wp2_with (first | simp only [hw1, hM] | (go_at_call 10; refine hR1.mono ?_; rintro e w' ⟨rfl, rfl⟩) | (go_at_call 35; refine hB2.mono ?_; rintro e w2 ⟨rfl, k2⟩))
        go_ret3
        exact HN2.out _ (HK.out.trans k2 (fun _ _ f => f))
      | true =>
        rw [hmy] at hB2
        have hyes := hid (HY.out (by unfold okS; rw [hmy]; simp [h0, h1]))
        have hdn := hid (hdone.out h0 h1 hmy)
        have HC : Hid (∀ W, Kept (fun _ => False) w1 W → W.cell? ⟨M, 0, none⟩ = some (.int .i64 op) ∧ W.cell? ⟨M, 1, none⟩ = some (.int .i64 a) ∧ W.cell? ⟨M, 2, none⟩ = some (.int .i64 b) ∧ W.cell? ⟨M, 3, none⟩ = some (.int .i64 x) ∧ W.cell? ⟨M, 4, none⟩ = some (.int .i64 y)) := hid (fun W k => ⟨(s1.calm k).cell 0 rfl 0, (s1.calm k).cell 0 rfl 1, (s1.calm k).cell 0 rfl 2, (s1.calm k).cell 0 rfl 3, (s1.calm k).cell 0 rfl 4⟩)
        generalize DoE l n ⟨op, a, b, x, y⟩ w = Q at *
        generalize doS l n ⟨op, a, b, x, y⟩ = aft at *
        clear HN HY hdone s1 hX hml hmy h0 hn3 h1
        go_enter Tryz.func21, Tryz.ntmps21
        go_wp2_with (first | simp only [hw1, hM] | (go_at_call 10; refine hR1.mono ?_; rintro e w' ⟨rfl, rfl⟩) | (go_at_call 35; refine hB2.mono ?_; rintro e w2 ⟨rfl, k2⟩; obtain ⟨d0, d1, d2, d3, d4⟩ := HC.out w2 k2; have hd2 := hdn.out w2 (HK.out.trans k2 (fun _ _ f => f))) | (go_at_call 36; refine hd2.mono ?_; intro e w5 s5; obtain ⟨v5, t5, rfl, hQ5⟩ := hyes.out w2 e w5 (HK.out.trans k2 (fun _ _ f => f)) s5; have HQ5 := hid hQ5; clear hQ5 s5))
        go_ret3
        exact HQ5.out
    · have t1 : decide (n < (m : Int)) = true := by simp; omega
      have hno := HN.out (by unfold okS; simp [h1])
      generalize DoE l n ⟨op, a, b, x, y⟩ w = Q at *
      have HN2 := hid hno
      clear HN HY hdone hno s1 hX hml h0 hn3 h1
      go_enter Tryz.func21, Tryz.ntmps21
      go_wp2_with (first | simp only [hw1, hM] | (go_at_call 10; refine hR1.mono ?_; rintro e w' ⟨rfl, rfl⟩))
      go_ret3
      exact HN2.out _ HK.out
  · rw [roomS_zero h0] at hR1
    have hno := HN.out (by unfold okS; simp [h0])
    generalize DoE l n ⟨op, a, b, x, y⟩ w = Q at *
    have HN2 := hid hno
    clear HN HY hdone hno s1 hX hml h0
    go_enter Tryz.func21, Tryz.ntmps21
    go_wp2_with (first | simp only [hw1, hM] | (go_at_call 10; refine hR1.mono ?_; rintro e w' ⟨rfl, rfl⟩))
    go_ret3
    exact HN2.out _ HK.out
end Go.Proofs.YtahokdgodhhchaaGreatDoor
