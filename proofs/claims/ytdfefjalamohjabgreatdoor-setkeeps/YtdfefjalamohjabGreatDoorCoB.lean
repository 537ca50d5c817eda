/- Package set: textOf, Code. -/
import Derived.Test.YtdfefjalamohjabGreatDoorCoA
namespace Go.Proofs.YtdfefjalamohjabGreatDoor
open Go.RowKit
set_option linter.unusedVariables false
set_option linter.unusedSimpArgs false
attribute [local go_sem ↓] Go.wp_at_zero Go.wp_at_succ

theorem bs_app (a b : List UInt8) : bs a ++ bs b = bs (a ++ b) := by
  apply ByteArray.ext
  simp [bs]
set_option maxRecDepth 100000 in
set_option maxHeartbeats 2000000 in
theorem textOf_any (op : Int) (ho : op = 1 ∨ op = 2 ∨ op = 3 ∨ op = 4 ∨ op = 5) (w : World) : Calls Tryz.prog 29 #[.int .i64 op] w fun e w' => e = .returned (.string (bs (textS op))) ∧ w' = w := by
  rcases ho with rfl | rfl | rfl | rfl | rfl
  all_goals
    go_enter Tryz.func29, Tryz.ntmps29
    go_wp2
    go_ret
    exact ⟨by kernel_rfl, rfl⟩
def okC (base n : Int) (d : Dd) : Bool := fitsS base n 256 && mayS d
/-- How Code ends. -/
def CodeE (base n : Int) (d : Dd) (w : World) (e : Ending) (w' : World) : Prop :=
  if okC base n d = true then ∃ lv, e = .returned (.tuple #[lv, .int .i64 0]) ∧ St w [ownI 84 2 lv (codeS base d.x d.op).length (insCells (codeS base d.x d.op))] w'
  else e = .returned (.tuple #[.slice none 0 0, .int .i64 180]) ∧ Kept (fun _ => False) w w'
set_option maxRecDepth 100000 in
set_option maxHeartbeats 8000000 in
theorem Code_any {w : World} {base n : Int} {d : Dd} (hE0 : Env w) (hx0 : -9223372036854775808 ≤ d.x) (hx1 : d.x ≤ 9223372036854775807) : Calls Tryz.prog 8 #[.int .i64 base, .int .i64 n, d.val] w (CodeE base n d w) := by
  have hB := fun W => smay_any d W
  have hfit := fun W => fits_any base n 256 W (by decide) (by decide)
  have hop := fun (h : mayS d = true) => may_op h
  obtain ⟨op, a, b, x, y⟩ := d
  simp only at hx0 hx1 hop
  have s1 := (St.nil w).box #[.int .i64 op, .int .i64 a, .int .i64 b, .int .i64 x, .int .i64 y] 33
  have HN : Hid (okC base n ⟨op, a, b, x, y⟩ = false → ∀ w', Kept (fun _ => False) w w' → CodeE base n ⟨op, a, b, x, y⟩ w (.returned (.tuple #[.slice none 0 0, .int .i64 180])) w') := hid (fun h w' k => by
    unfold CodeE
    rw [if_neg (by rw [h]; decide)]
    exact ⟨rfl, k⟩)
  have HY : Hid (okC base n ⟨op, a, b, x, y⟩ = true → ∀ lv w', St w [ownI 84 2 lv (codeS base x op).length (insCells (codeS base x op))] w' → CodeE base n ⟨op, a, b, x, y⟩ w (.returned (.tuple #[lv, .int .i64 0])) w') := hid (fun h lv w' s => by
    unfold CodeE
    rw [if_pos h]
    exact ⟨lv, rfl, s⟩)
  show Calls _ _ #[_, _, .agg #[.int .i64 op, .int .i64 a, .int .i64 b, .int .i64 x, .int .i64 y]] _ _
  have hB1 : ∀ W, Calls Tryz.prog 26 #[.agg #[.int .i64 op, .int .i64 a, .int .i64 b, .int .i64 x, .int .i64 y]] W fun e w' => e = .returned (.bool (mayS ⟨op, a, b, x, y⟩)) ∧ Kept (fun _ => False) W w' := hB
  clear hB
  generalize hw1 : w.alloc (.cells #[.int .i64 op, .int .i64 a, .int .i64 b, .int .i64 x, .int .i64 y] 33) = w1 at *
  generalize hM : w.heap.size = M at *
  have c0 : w1.cell? ⟨M, 0, none⟩ = some (.int .i64 op) := s1.cell 0 rfl 0
  have c1 : w1.cell? ⟨M, 1, none⟩ = some (.int .i64 a) := s1.cell 0 rfl 1
  have c2 : w1.cell? ⟨M, 2, none⟩ = some (.int .i64 b) := s1.cell 0 rfl 2
  have c3 : w1.cell? ⟨M, 3, none⟩ = some (.int .i64 x) := s1.cell 0 rfl 3
  have c4 : w1.cell? ⟨M, 4, none⟩ = some (.int .i64 y) := s1.cell 0 rfl 4
  have HK := hid s1.same
  have hF1 := hfit w1
  have hB2 := hB1 w1
  have HE := hid hE0
  clear hfit hB1 hE0
  cases hf : fitsS base n 256 with
  | false =>
    have hno := hid (HN.out (by unfold okC; rw [hf]; rfl))
    rw [hf] at hF1
    generalize CodeE base n ⟨op, a, b, x, y⟩ w = Q at *
    clear HN HY s1 hf hop
    go_enter Tryz.func8, Tryz.ntmps8
    go_wp2_with (first | simp only [hw1, hM] | (go_at_call 25; refine hF1.mono ?_; rintro e w' ⟨rfl, rfl⟩))
    exact hno.out _ HK.out
  | true =>
    rw [hf] at hF1
    cases hmy : mayS ⟨op, a, b, x, y⟩ with
    | false =>
      have hno := hid (HN.out (by unfold okC; rw [hmy, Bool.and_false]))
      rw [hmy] at hB2
      generalize CodeE base n ⟨op, a, b, x, y⟩ w = Q at *
      clear HN HY s1 hf hmy hop
      go_enter Tryz.func8, Tryz.ntmps8
      go_wp2_with (first | simp only [hw1, hM] | (go_at_call 25; refine hF1.mono ?_; rintro e w' ⟨rfl, rfl⟩) | (go_at_call 26; refine hB2.mono ?_; rintro e w2 ⟨rfl, k2⟩))
      exact hno.out _ (HK.out.trans k2 (fun _ _ f => f))
    | true =>
      have hyes := hid (HY.out (by unfold okC; rw [hf, hmy]; rfl))
      rw [hmy] at hB2
      have ho := hop hmy
      have hb : 0 ≤ base ∧ base ≤ 256 := by
        unfold fitsS at hf
        simp only [Bool.and_eq_true, decide_eq_true_eq] at hf
        have := roomS_le n
        omega
      obtain ⟨hpar, hpl, hlen⟩ := text_ok ho hb.1 hb.2 hx0 hx1
      have hT := fun W => textOf_any op ho W
      have hFi := hid fun (W : World) (k : Kept (fun _ => False) w W) => fill_any (textS op) base x W (HE.out.kept k) hb.1 hb.2 hx0 hx1 (fun j hj => short_ok ho hb.1 hb.2 hx0 hx1 j hj)
      have hPa : Hid (∀ W, Kept (fun _ => False) w W → Calls Tryz.prog 27 #[.string (bs (wholeS base x op))] W fun e w' => ∃ lv, e = .returned (.tuple #[lv, .int .i64 0, .int .i64 0]) ∧ St W [ownI 84 2 lv (codeS base x op).length (insCells (codeS base x op))] w') := hid (fun W k => by
        have := Parse_any (bs (wholeS base x op)) W (HE.out.kept k) hpl (by simp only [bs, ByteArray.size, List.size_toArray]; omega)
        rw [hpar] at this
        exact this)
      have hl5 := short_ok ho hb.1 hb.2 hx0 hx1 5 (by omega)
      have hcat : (⟨#[98, 101, 103, 105, 110, 10]⟩ : ByteArray) ++ bs (fillS (textS op) base x 5) ++ ⟨#[99, 111, 109, 109, 105, 116, 10]⟩ = bs (wholeS base x op) := by
        unfold wholeS
        exact (by rw [bs_app, bs_app] : bs [98, 101, 103, 105, 110, 10] ++ bs (fillS (textS op) base x 5) ++ bs [99, 111, 109, 109, 105, 116, 10] = _)
      have z1 : ¬ 9223372036854775807 < 6 + (bs (fillS (textS op) base x 5)).size := by simp only [bs, ByteArray.size, List.size_toArray]; omega
      have z2 : ¬ 9223372036854775807 < 6 + (bs (fillS (textS op) base x 5)).size + 7 := by simp only [bs, ByteArray.size, List.size_toArray]; omega
      rw [← hcat] at hPa
      generalize CodeE base n ⟨op, a, b, x, y⟩ w = Q at *
      have HS := hid s1
      clear HN HY s1 hf hmy hop hpar hpl hlen hcat hl5
      generalize bs (fillS (textS op) base x 5) = tt at *
      generalize bs (textS op) = t0 at *
      generalize codeS base x op = cs at *
      go_enter Tryz.func8, Tryz.ntmps8
      go_upto_region 3 with (first | simp only [hw1, hM] | (go_at_call 25; refine hF1.mono ?_; rintro e w' ⟨rfl, rfl⟩) | (go_at_call 26; refine hB2.mono ?_; rintro e w2 ⟨rfl, k2⟩))
      have s2 := (HS.out.calm k2).drew
      have d0 : w2.drew.cell? ⟨M, 0, none⟩ = some (.int .i64 op) := s2.cell 0 rfl 0
      have d3 : w2.drew.cell? ⟨M, 3, none⟩ = some (.int .i64 x) := s2.cell 0 rfl 3
      have hF3 := hFi.out w2.drew s2.same
      have HK2 := hid s2.same
      clear c0 c1 c2 c3 c4 s2 hB2 hF1
      go_region_with (first | (go_at_call 29; refine (hT _).mono ?_; rintro e w' ⟨rfl, rfl⟩) | (go_at_call 28; refine hF3.mono ?_; rintro e w3 ⟨rfl, k3⟩; have hp := hPa.out w3 (HK2.out.trans k3 (fun _ _ f => f))) | (go_at_call 27; refine hp.mono ?_; rintro e w4 ⟨lv, rfl, s4⟩; have HS4 := hid (s4.base (HK2.out.trans k3 (fun _ _ f => f))); clear s4))
      all_goals go_wp2
      all_goals exact hyes.out _ _ HS4.out
end Go.Proofs.YtdfefjalamohjabGreatDoor
