/- Package set: Do. -/
import Derived.Test.YtdfefjalamohjabGreatDoorSeF
namespace Go.Proofs.YtdfefjalamohjabGreatDoor
open Go.RowKit
set_option linter.unusedVariables false
set_option linter.unusedSimpArgs false
attribute [local go_sem ↓] Go.wp_at_zero Go.wp_at_succ

def okS (l : List Int) (n : Int) (d : Dd) : Bool := decide (0 < roomS n) && (decide ((l.length : Int) ≤ n) && (mayS d && risesB l))
/-- How Do ends. -/
def DoE (l : List Int) (n : Int) (d : Dd) (w : World) (e : Ending) (w' : World) : Prop :=
  if okS l n d = true then ∃ v t, e = .returned (.tuple #[v, t, .int .i64 0]) ∧ St w [ownI 2 1 t (doS l n d).2.length (xC (doS l n d).2), ownI 2 1 v (doS l n d).1.length (xC (doS l n d).1)] w'
  else e = .returned (.tuple #[.slice none 0 0, .slice none 0 0, .int .i64 180]) ∧ Kept (fun _ => False) w w'
set_option maxRecDepth 100000 in
set_option maxHeartbeats 8000000 in
theorem Do_any {w : World} {n : Int} {d : Dd} {la : Option Addr} {m lc : Nat} {l : List Int} (hX : XIn w la m l) (hm63 : m ≤ 9223372036854775807) : Calls Tryz.prog 19 #[.slice la m lc, .int .i64 n, d.val] w (DoE l n d w) := by
  have hml := hX.1
  have hR := fun W => Room_any n W
  have hB := fun W => smay_any d W
  obtain ⟨op, a, b, x, y⟩ := d
  have s1 := (St.nil w).box #[.int .i64 op, .int .i64 a, .int .i64 b, .int .i64 x, .int .i64 y] 33
  have HN : Hid (okS l n ⟨op, a, b, x, y⟩ = false → ∀ w', Kept (fun _ => False) w w' → DoE l n ⟨op, a, b, x, y⟩ w (.returned (.tuple #[.slice none 0 0, .slice none 0 0, .int .i64 180])) w') := hid (fun h w' k => by
    unfold DoE
    rw [if_neg (by rw [h]; decide)]
    exact ⟨rfl, k⟩)
  have HY : Hid (okS l n ⟨op, a, b, x, y⟩ = true → ∀ v t w' R, St w (ownI 2 1 t (doS l n ⟨op, a, b, x, y⟩).2.length (xC (doS l n ⟨op, a, b, x, y⟩).2) :: ownI 2 1 v (doS l n ⟨op, a, b, x, y⟩).1.length (xC (doS l n ⟨op, a, b, x, y⟩).1) :: R) w' → DoE l n ⟨op, a, b, x, y⟩ w (.returned (.tuple #[v, t, .int .i64 0])) w') := hid (fun h v t w' R s => by
    unfold DoE
    rw [if_pos h]
    exact ⟨v, t, rfl, St.cut (A := [_, _]) (B := R) s⟩)
  have hdone : Hid (0 < roomS n → (l.length : Int) ≤ n → mayS ⟨op, a, b, x, y⟩ = true → risesB l = true → ∀ (g cap : Nat) (v : Value) (W : World) (R : List It), St w (ownI 2 1 v l.length (xC l) :: R) W → ∃ la lc, v = .slice la l.length lc ∧ Calls Tryz.prog 59 #[.slice la l.length lc, .int .i64 n, .agg #[.int .i64 op, .int .i64 a, .int .i64 b, .int .i64 x, .int .i64 y]] W (LeftE w R (doS l n ⟨op, a, b, x, y⟩).1 (doS l n ⟨op, a, b, x, y⟩).2)) := hid (fun h1 h2 h3 h4 g cap v W R s => by
    obtain ⟨la', lc', e, -, -, -⟩ := own_xin (show W.ownsRow 0 2 1 v l.length (xC l) from s.get 0 rfl)
    subst e
    have := (roomS_pos h1).2.1
    exact ⟨la', lc', rfl, done_any s (by omega) h4 n ⟨op, a, b, x, y⟩ h3⟩)
  show Calls _ _ #[_, _, .agg #[.int .i64 op, .int .i64 a, .int .i64 b, .int .i64 x, .int .i64 y]] _ _
  have hB1 : ∀ W, Calls Tryz.prog 26 #[.agg #[.int .i64 op, .int .i64 a, .int .i64 b, .int .i64 x, .int .i64 y]] W fun e w' => e = .returned (.bool (mayS ⟨op, a, b, x, y⟩)) ∧ Kept (fun _ => False) W w' := hB
  clear hB
  generalize hw1 : w.alloc (.cells #[.int .i64 op, .int .i64 a, .int .i64 b, .int .i64 x, .int .i64 y] 33) = w1 at *
  generalize hM : w.heap.size = M at *
  have c0 : w1.cell? ⟨M, 0, none⟩ = some (.int .i64 op) := s1.cell 0 rfl 0
  have c1 : w1.cell? ⟨M, 1, none⟩ = some (.int .i64 a) := s1.cell 0 rfl 1
  have c2 : w1.cell? ⟨M, 2, none⟩ = some (.int .i64 b) := s1.cell 0 rfl 2
  have c3 : w1.cell? ⟨M, 3, none⟩ = some (.int .i64 x) := s1.cell 0 rfl 3
  have c4 : w1.cell? ⟨M, 4, none⟩ = some (.int .i64 y) := s1.cell 0 rfl 4
  have HK := hid s1.same
  have hR1 := hR w1
  have hB2 := hB1 w1
  clear hR hB1
  by_cases h0 : 0 < roomS n
  · obtain ⟨hn1, hn2, hn3⟩ := roomS_pos h0
    rw [hn3] at hR1
    have t0 : ((3 + 2 * n) == 0) = false := by simp; omega
    by_cases h1 : (l.length : Int) ≤ n
    · have t1 : decide (n < (m : Int)) = false := by simp; omega
      cases hmy : mayS ⟨op, a, b, x, y⟩ with
      | false =>
        have hno := HN.out (by unfold okS; rw [hmy]; simp)
        rw [hmy] at hB2
        generalize DoE l n ⟨op, a, b, x, y⟩ w = Q at *
        have HN2 := hid hno
        clear HN HY hdone hno s1 hX hml hmy h0 hn3 h1
        go_enter Tryz.func19, Tryz.ntmps19
        go_wp2_with (first | simp only [hw1, hM] | (go_at_call 54; refine hR1.mono ?_; rintro e w' ⟨rfl, rfl⟩) | (go_at_call 26; refine hB2.mono ?_; rintro e w2 ⟨rfl, k2⟩))
        go_ret3
        exact HN2.out _ (HK.out.trans k2 (fun _ _ f => f))
      | true =>
        rw [hmy] at hB2
        have hv := fun (W : World) (s : St w [boxI M #[.int .i64 op, .int .i64 a, .int .i64 b, .int .i64 x, .int .i64 y] 33] W) => Values_any s la m lc
        have hrs := fun (bp : Nat) (W : World) (s : St w (boxI bp #[.slice la m lc] 22 :: [boxI M #[.int .i64 op, .int .i64 a, .int .i64 b, .int .i64 x, .int .i64 y] 33]) W) =>
          rising_any (Rq := [boxI bp #[.slice la m lc] 22]) (T := [boxI M #[.int .i64 op, .int .i64 a, .int .i64 b, .int .i64 x, .int .i64 y] 33]) (values_tells hX hm63 bp) (enters_of Tryz.func90 (by kernel_rfl) rfl) s (by omega)
        have HS2 : Hid (∀ w2, Kept (fun _ => False) w1 w2 → St w [boxI M #[.int .i64 op, .int .i64 a, .int .i64 b, .int .i64 x, .int .i64 y] 33] w2) := hid (fun w2 k => s1.calm k)
        cases hri : risesB l with
        | false =>
          have hno := HN.out (by unfold okS; rw [hri]; simp)
          simp only [hri, Bool.false_eq_true, if_false] at hrs
          replace hv := hid hv
          replace hrs := hid hrs
          generalize DoE l n ⟨op, a, b, x, y⟩ w = Q at *
          have HN2 := hid hno
          clear HN HY hdone hno s1 hX hml hmy h0 hn3 h1 hri
          go_enter Tryz.func19, Tryz.ntmps19
          go_wp2_with (first | simp only [hw1, hM] | (go_at_call 54; refine hR1.mono ?_; rintro e w' ⟨rfl, rfl⟩) | (go_at_call 26; refine hB2.mono ?_; rintro e w2 ⟨rfl, k2⟩; have hv2 := hv.out w2 (HS2.out w2 k2)) | (go_at_call 58; refine hv2.mono ?_; rintro e w3 ⟨bp, rfl, s3⟩; have hr3 := hrs.out bp w3 s3; clear hv2) | (go_at_call 56; refine hr3.mono ?_; rintro e w4 ⟨rfl, s4⟩))
          go_ret3
          exact HN2.out _ s4.same
        | true =>
          have hyes := hid (HY.out (by unfold okS; rw [hri, hmy]; simp [h0, h1]))
          have hdn := hid (hdone.out h0 h1 hmy hri 0 0)
          simp only [hri, if_true] at hrs
          replace hv := hid hv
          replace hrs := hid hrs
          have HL : Hid (∀ e w' R, LeftE w R (doS l n ⟨op, a, b, x, y⟩).1 (doS l n ⟨op, a, b, x, y⟩).2 e w' → ∃ v t, e = .returned (.tuple #[v, t]) ∧ DoE l n ⟨op, a, b, x, y⟩ w (.returned (.tuple #[v, t, .int .i64 0])) w') := hid (fun e w' R hl => by
            obtain ⟨v, t, he, s⟩ := hl
            exact ⟨v, t, he, hyes.out v t w' R s⟩)
          generalize DoE l n ⟨op, a, b, x, y⟩ w = Q at *
          generalize (doS l n ⟨op, a, b, x, y⟩).1 = aft at *
          generalize (doS l n ⟨op, a, b, x, y⟩).2 = tld at *
          have HC : Hid (∀ W its, St w its W → boxI M #[.int .i64 op, .int .i64 a, .int .i64 b, .int .i64 x, .int .i64 y] 33 ∈ its → W.cell? ⟨M, 0, none⟩ = some (.int .i64 op) ∧ W.cell? ⟨M, 1, none⟩ = some (.int .i64 a) ∧ W.cell? ⟨M, 2, none⟩ = some (.int .i64 b) ∧ W.cell? ⟨M, 3, none⟩ = some (.int .i64 x) ∧ W.cell? ⟨M, 4, none⟩ = some (.int .i64 y)) := hid (fun W its hs hmem => ⟨box_at hs hmem 0, box_at hs hmem 1, box_at hs hmem 2, box_at hs hmem 3, box_at hs hmem 4⟩)
          clear HN HY hdone hyes s1 hX hml hmy h0 hn3 h1 hri
          go_enter Tryz.func19, Tryz.ntmps19
          go_wp2_with (first | simp only [hw1, hM] | (go_at_call 54; refine hR1.mono ?_; rintro e w' ⟨rfl, rfl⟩) | (go_at_call 26; refine hB2.mono ?_; rintro e w2 ⟨rfl, k2⟩; have hv2 := hv.out w2 (HS2.out w2 k2)) | (go_at_call 58; refine hv2.mono ?_; rintro e w3 ⟨bp, rfl, s3⟩; have hr3 := hrs.out bp w3 s3; clear hv2) | (go_at_call 56; refine hr3.mono ?_; rintro e w4 ⟨v4, rfl, s4⟩; obtain ⟨d0, d1, d2, d3, d4⟩ := HC.out w4 _ s4 (by simp); obtain ⟨la4, lc4, rfl, hd4⟩ := hdn.out v4 w4 _ s4; clear hr3) | (go_at_call 59; refine hd4.mono ?_; intro e w5 s5; obtain ⟨v5, t5, rfl, hQ5⟩ := HL.out e w5 _ s5; have HQ5 := hid hQ5; clear hQ5 s5))
          go_ret3
          exact HQ5.out
    · have t1 : decide (n < (m : Int)) = true := by simp; omega
      have hno := HN.out (by unfold okS; simp [h1])
      generalize DoE l n ⟨op, a, b, x, y⟩ w = Q at *
      have HN2 := hid hno
      clear HN HY hdone hno s1 hX hml h0 hn3 h1
      go_enter Tryz.func19, Tryz.ntmps19
      go_wp2_with (first | simp only [hw1, hM] | (go_at_call 54; refine hR1.mono ?_; rintro e w' ⟨rfl, rfl⟩))
      go_ret3
      exact HN2.out _ HK.out
  · rw [roomS_zero h0] at hR1
    have hno := HN.out (by unfold okS; simp [h0])
    generalize DoE l n ⟨op, a, b, x, y⟩ w = Q at *
    have HN2 := hid hno
    clear HN HY hdone hno s1 hX hml h0
    go_enter Tryz.func19, Tryz.ntmps19
    go_wp2_with (first | simp only [hw1, hM] | (go_at_call 54; refine hR1.mono ?_; rintro e w' ⟨rfl, rfl⟩))
    go_ret3
    exact HN2.out _ HK.out
end Go.Proofs.YtdfefjalamohjabGreatDoor
