/- Package bank: Code. -/
import Derived.Test.YtmoekoilcdkhfaaGreatDoorBkF
namespace Go.Proofs.YtmoekoilcdkhfaaGreatDoor
open Go.RowKit
set_option linter.unusedVariables false
set_option linter.unusedSimpArgs false
attribute [local go_sem ↓] Go.wp_at_zero Go.wp_at_succ

def plainB (l : List UInt8) : Bool := decide (8 < l.length) || l.all (fun b => decide (b.toNat < 128))
theorem plain_of {l : List UInt8} (h : plainB l = true) : Plain8 l := by
  intro h8 b hb
  unfold plainB at h
  rw [Bool.or_eq_true] at h
  rcases h with h | h
  · simp at h; omega
  · simpa using List.all_eq_true.1 h b hb
theorem plain_push (v : Int) : Plain8 (saidM (pushL v)) := by
  intro _ b hb
  unfold pushL at hb
  rw [push_said] at hb
  simp only [List.mem_cons] at hb
  rcases hb with rfl | rfl | rfl | rfl | rfl | hb
  · decide
  · decide
  · decide
  · decide
  · decide
  · have := itoa_mem v b hb
    omega
theorem plain_txt {ls : List (List UInt8)} (h10 : ∀ l ∈ ls, (10 : UInt8) ∉ l) (h : ∀ l ∈ ls, Plain8 (saidM l)) : PlainT (bs (txt ls)) := by
  intro x hx
  rw [lines_txt ls h10] at hx
  obtain ⟨l, hl, rfl⟩ := List.mem_map.1 hx
  rcases List.mem_append.1 hl with hl | hl
  · exact h l hl
  · rw [List.mem_singleton.1 hl]
    exact plain_of (by kernel_rfl)
theorem pay_plain (base n : Int) (d : Dd) : ∀ l ∈ payLs base n d, Plain8 (saidM l) := by
  intro l hl
  simp only [payLs, List.mem_cons, List.not_mem_nil, or_false] at hl
  rcases hl with rfl | rfl | rfl | rfl | rfl | rfl | rfl | rfl | rfl | rfl | rfl
  · exact plain_of (by kernel_rfl)
  · exact plain_of (by kernel_rfl)
  · exact plain_push _
  · exact plain_push _
  · exact plain_of (by kernel_rfl)
  · exact plain_push _
  · exact plain_of (by kernel_rfl)
  · exact plain_of (by kernel_rfl)
  · exact plain_of (by kernel_rfl)
  · exact plain_of (by kernel_rfl)
  · exact plain_of (by kernel_rfl)
theorem tak_plain (base n : Int) (d : Dd) : ∀ l ∈ takLs base n d, Plain8 (saidM l) := by
  intro l hl
  simp only [takLs, List.mem_cons, List.not_mem_nil, or_false] at hl
  rcases hl with rfl | rfl | rfl | rfl | rfl | rfl | rfl | rfl | rfl | rfl | rfl | rfl | rfl | rfl | rfl | rfl | rfl | rfl | rfl | rfl
  · exact plain_of (by kernel_rfl)
  · exact plain_of (by kernel_rfl)
  · exact plain_push _
  · exact plain_of (by kernel_rfl)
  · exact plain_of (by kernel_rfl)
  · exact plain_of (by kernel_rfl)
  · exact plain_push _
  · exact plain_of (by kernel_rfl)
  · exact plain_of (by kernel_rfl)
  · exact plain_of (by kernel_rfl)
  · exact plain_of (by kernel_rfl)
  · exact plain_of (by kernel_rfl)
  · exact plain_push _
  · exact plain_of (by kernel_rfl)
  · exact plain_push _
  · exact plain_of (by kernel_rfl)
  · exact plain_of (by kernel_rfl)
  · exact plain_of (by kernel_rfl)
  · exact plain_of (by kernel_rfl)
  · exact plain_of (by kernel_rfl)
theorem mov_plain (base n : Int) (d : Dd) : ∀ l ∈ movLs base n d, Plain8 (saidM l) := by
  intro l hl
  simp only [movLs, List.mem_cons, List.not_mem_nil, or_false] at hl
  rcases hl with rfl | rfl | rfl | rfl | rfl | rfl | rfl | rfl | rfl | rfl | rfl | rfl | rfl | rfl | rfl | rfl | rfl | rfl | rfl | rfl | rfl | rfl | rfl | rfl | rfl | rfl | rfl
  · exact plain_of (by kernel_rfl)
  · exact plain_of (by kernel_rfl)
  · exact plain_push _
  · exact plain_of (by kernel_rfl)
  · exact plain_of (by kernel_rfl)
  · exact plain_of (by kernel_rfl)
  · exact plain_push _
  · exact plain_of (by kernel_rfl)
  · exact plain_of (by kernel_rfl)
  · exact plain_of (by kernel_rfl)
  · exact plain_of (by kernel_rfl)
  · exact plain_of (by kernel_rfl)
  · exact plain_push _
  · exact plain_of (by kernel_rfl)
  · exact plain_push _
  · exact plain_of (by kernel_rfl)
  · exact plain_of (by kernel_rfl)
  · exact plain_of (by kernel_rfl)
  · exact plain_push _
  · exact plain_push _
  · exact plain_of (by kernel_rfl)
  · exact plain_push _
  · exact plain_of (by kernel_rfl)
  · exact plain_of (by kernel_rfl)
  · exact plain_of (by kernel_rfl)
  · exact plain_of (by kernel_rfl)
  · exact plain_of (by kernel_rfl)
theorem see_plain (base n : Int) (d : Dd) : ∀ l ∈ seeLs base n d, Plain8 (saidM l) := by
  intro l hl
  simp only [seeLs, List.mem_cons, List.not_mem_nil, or_false] at hl
  rcases hl with rfl | rfl | rfl | rfl | rfl | rfl
  · exact plain_of (by kernel_rfl)
  · exact plain_of (by kernel_rfl)
  · exact plain_push _
  · exact plain_of (by kernel_rfl)
  · exact plain_of (by kernel_rfl)
  · exact plain_of (by kernel_rfl)
theorem sum_plain (base n : Int) (d : Dd) : ∀ l ∈ sumLs base n d, Plain8 (saidM l) := by
  intro l hl
  simp only [sumLs, List.mem_cons, List.not_mem_nil, or_false] at hl
  rcases hl with rfl | rfl | rfl | rfl | rfl | rfl | rfl | rfl | rfl | rfl | rfl | rfl | rfl | rfl | rfl | rfl | rfl | rfl | rfl
  · exact plain_of (by kernel_rfl)
  · exact plain_of (by kernel_rfl)
  · exact plain_of (by kernel_rfl)
  · exact plain_push _
  · exact plain_of (by kernel_rfl)
  · exact plain_of (by kernel_rfl)
  · exact plain_of (by kernel_rfl)
  · exact plain_of (by kernel_rfl)
  · exact plain_of (by kernel_rfl)
  · exact plain_of (by kernel_rfl)
  · exact plain_of (by kernel_rfl)
  · exact plain_of (by kernel_rfl)
  · exact plain_of (by kernel_rfl)
  · exact plain_of (by kernel_rfl)
  · exact plain_push _
  · exact plain_of (by kernel_rfl)
  · exact plain_of (by kernel_rfl)
  · exact plain_of (by kernel_rfl)
  · exact plain_of (by kernel_rfl)
def okC (base n : Int) (d : Dd) : Bool := fitsM base n 256 && mayD n d
/-- The text of a deed that may be is read as its program. -/
theorem text_ok {base n : Int} {d : Dd} (h : okC base n d = true) : parseM (bs (wholeT base n d)) = .ok (codeM base n d) ∧ PlainT (bs (wholeT base n d)) ∧ (wholeT base n d).length ≤ 1000 ∧ Fits base n d := by
  unfold okC fitsM at h
  simp only [Bool.and_eq_true, decide_eq_true_eq] at h
  obtain ⟨⟨hr, hb0, hb1⟩, hm⟩ := h
  obtain ⟨hn1, hn2, hn3⟩ := room_pos hr
  have hf := may_fits hn1 hn2 hb0 (by omega) hm
  obtain ⟨h0, h1, h2, h3, h4, h5, h6, h7, h8, h9⟩ := hf
  rcases may_op hm with e | e | e | e | e
  · refine ⟨pay_parse e h0 h1 h2 h3 h4 h5 h6 h7 h8 h9, ?_, ?_, h0, h1, h2, h3, h4, h5, h6, h7, h8, h9⟩
    · rw [pay_txt base n d e]
      exact plain_txt (pay_no base n d) (pay_plain base n d)
    · rw [pay_txt base n d e]
      exact pay_len h0 h1 h2 h3 h4 h5 h6 h7 h8 h9
  · refine ⟨tak_parse e h0 h1 h2 h3 h4 h5 h6 h7 h8 h9, ?_, ?_, h0, h1, h2, h3, h4, h5, h6, h7, h8, h9⟩
    · rw [tak_txt base n d e]
      exact plain_txt (tak_no base n d) (tak_plain base n d)
    · rw [tak_txt base n d e]
      exact tak_len h0 h1 h2 h3 h4 h5 h6 h7 h8 h9
  · refine ⟨mov_parse e h0 h1 h2 h3 h4 h5 h6 h7 h8 h9, ?_, ?_, h0, h1, h2, h3, h4, h5, h6, h7, h8, h9⟩
    · rw [mov_txt base n d e]
      exact plain_txt (mov_no base n d) (mov_plain base n d)
    · rw [mov_txt base n d e]
      exact mov_len h0 h1 h2 h3 h4 h5 h6 h7 h8 h9
  · refine ⟨see_parse e h0 h1 h2 h3 h4 h5 h6 h7 h8 h9, ?_, ?_, h0, h1, h2, h3, h4, h5, h6, h7, h8, h9⟩
    · rw [see_txt base n d e]
      exact plain_txt (see_no base n d) (see_plain base n d)
    · rw [see_txt base n d e]
      exact see_len h0 h1 h2 h3 h4 h5 h6 h7 h8 h9
  · refine ⟨sum_parse e h0 h1 h2 h3 h4 h5 h6 h7 h8 h9, ?_, ?_, h0, h1, h2, h3, h4, h5, h6, h7, h8, h9⟩
    · rw [sum_txt base n d e]
      exact plain_txt (sum_no base n d) (sum_plain base n d)
    · rw [sum_txt base n d e]
      exact sum_len h0 h1 h2 h3 h4 h5 h6 h7 h8 h9
/-- How Code ends. -/
def CodeE (base n : Int) (d : Dd) (w : World) (e : Ending) (w' : World) : Prop :=
  if okC base n d = true then ∃ lv, e = .returned (.tuple #[lv, .int .i64 0]) ∧ St w [ownI 79 2 lv (codeM base n d).length (insCells (codeM base n d))] w'
  else e = .returned (.tuple #[.slice none 0 0, .int .i64 170]) ∧ Kept (fun _ => False) w w'
section
variable {w : World} {base n : Int} {d : Dd}
set_option maxRecDepth 100000 in
set_option maxHeartbeats 4000000 in
theorem Code_0 (h : ¬ 0 < roomM n ∨ d.op < 1 ∨ 5 < d.op) : Calls Tryz.prog 23 #[.int .i64 base, .int .i64 n, d.val] w (CodeE base n d w) := by
  have hno : okC base n d = false := by
    unfold okC fitsM
    rcases h with h | h
    · simp [h]
    · have : mayD n d = false := by
        rw [Bool.eq_false_iff]
        intro hm
        have := may_op hm
        omega
      simp [this]
  have HD : Hid (∀ e w', e = .returned (.tuple #[.slice none 0 0, .int .i64 170]) → Kept (fun _ => False) w w' → CodeE base n d w e w') := fun e w' h1 h2 => by
    unfold CodeE
    rw [if_neg (by rw [hno]; simp)]
    exact ⟨h1, h2⟩
  generalize CodeE base n d w = Q at *
  have hr := fun W => rowOf_no (w := W) h
  obtain ⟨op, a, b, x, y⟩ := d
  have s1 := (St.nil w).box #[.int .i64 op, .int .i64 a, .int .i64 b, .int .i64 x, .int .i64 y] 40
  show Calls _ _ #[_, _, .agg #[.int .i64 op, .int .i64 a, .int .i64 b, .int .i64 x, .int .i64 y]] _ _
  have hr1 : Calls Tryz.prog 33 #[.int .i64 n, .agg #[.int .i64 op, .int .i64 a, .int .i64 b, .int .i64 x, .int .i64 y]] (w.alloc (.cells #[.int .i64 op, .int .i64 a, .int .i64 b, .int .i64 x, .int .i64 y] 40)) _ := hr _
  generalize e1 : w.alloc (.cells #[.int .i64 op, .int .i64 a, .int .i64 b, .int .i64 x, .int .i64 y] 40) = w1 at *
  generalize eM : w.heap.size = M at *
  have c0 : w1.cell? ⟨M, 0, none⟩ = some (.int .i64 op) := s1.cell 0 rfl 0
  have c1 : w1.cell? ⟨M, 1, none⟩ = some (.int .i64 a) := s1.cell 0 rfl 1
  have c2 : w1.cell? ⟨M, 2, none⟩ = some (.int .i64 b) := s1.cell 0 rfl 2
  have c3 : w1.cell? ⟨M, 3, none⟩ = some (.int .i64 x) := s1.cell 0 rfl 3
  have c4 : w1.cell? ⟨M, 4, none⟩ = some (.int .i64 y) := s1.cell 0 rfl 4
  have HK := hid s1.same
  clear h hno hr s1
  go_enter Tryz.func23, Tryz.ntmps23
  go_wp2_with (first | simp only [e1, eM] | (go_at_call 33; refine hr1.mono ?_; rintro e w2 ⟨rfl, k2⟩; clear hr1 e1 eM c0 c1 c2 c3 c4))
  exact HD.out _ _ rfl ((HK.out.trans k2 (fun _ _ f => f)).alloc _)
set_option maxRecDepth 100000 in
set_option maxHeartbeats 8000000 in
theorem Code_1 (hroom : 0 < roomM n) (hop : d.op = 1) (hE0 : Env w) : Calls Tryz.prog 23 #[.int .i64 base, .int .i64 n, d.val] w (CodeE base n d w) := by
  obtain ⟨op, a, b, x, y⟩ := d
  simp only at hop
  subst hop
  have hr := fun W => rowOf_1 (w := W) (d := ⟨1, a, b, x, y⟩) hroom rfl
  have s1 := (St.nil w).box #[.int .i64 1, .int .i64 a, .int .i64 b, .int .i64 x, .int .i64 y] 40
  have hE := hid hE0
  clear hE0
  show Calls _ _ #[_, _, .agg #[.int .i64 1, .int .i64 a, .int .i64 b, .int .i64 x, .int .i64 y]] _ _
  have hr1 : Calls Tryz.prog 33 #[.int .i64 n, .agg #[.int .i64 1, .int .i64 a, .int .i64 b, .int .i64 x, .int .i64 y]] (w.alloc (.cells #[.int .i64 1, .int .i64 a, .int .i64 b, .int .i64 x, .int .i64 y] 40)) _ := hr _
  have hfit := fun W => fits_any base n 256 W (by decide) (by decide)
  by_cases hok : okC base n ⟨1, a, b, x, y⟩ = true
  · have htx := text_ok hok
    have HD : Hid (∀ (e : Ending) (w' : World) (lv : Value), e = .returned (.tuple #[lv, .int .i64 0]) → St w [ownI 79 2 lv (codeM base n ⟨1, a, b, x, y⟩).length (insCells (codeM base n ⟨1, a, b, x, y⟩))] w' → CodeE base n ⟨1, a, b, x, y⟩ w e w') := fun e w' lv h1 h2 => by
      unfold CodeE
      rw [if_pos hok]
      exact ⟨lv, h1, h2⟩
    unfold okC at hok
    rw [Bool.and_eq_true] at hok
    obtain ⟨hfi, hmay⟩ := hok
    rw [hmay] at hr1
    rw [hfi] at hfit
    generalize CodeE base n ⟨1, a, b, x, y⟩ w = Q at *
    obtain ⟨hpar, hpl, hlen, hfits⟩ := htx
    have HF := hid hfits
    have HW : Hid (wholeT base n ⟨1, a, b, x, y⟩ = [98, 101, 103, 105, 110, 10] ++ textM base n ⟨1, a, b, x, y⟩ ++ [99, 111, 109, 109, 105, 116, 10]) := by rfl
    have htl : (textM base n ⟨1, a, b, x, y⟩).length ≤ 1000 := by
      have := hlen
      rw [HW.out] at this
      simp only [List.length_append] at this
      omega
    have HP : Hid (∀ W, Kept (fun _ => False) w W → Calls Tryz.prog 34 #[.string (bs (wholeT base n ⟨1, a, b, x, y⟩))] W fun e w' => ∃ lv, e = .returned (.tuple #[lv, .int .i64 0, .int .i64 0]) ∧ St W [ownI 79 2 lv (codeM base n ⟨1, a, b, x, y⟩).length (insCells (codeM base n ⟨1, a, b, x, y⟩))] w') := fun W k => by
      have := Parse_any (bs (wholeT base n ⟨1, a, b, x, y⟩)) W (hE.out.kept k) hpl (by simp only [bs, ByteArray.size, List.size_toArray]; omega)
      rw [hpar] at this
      exact this
    have ht2 : textM base n ⟨1, a, b, x, y⟩ = fillM payT [base + a, base + a, x] := by simp [textM]
    have hcat : (⟨#[98, 101, 103, 105, 110, 10]⟩ : ByteArray) ++ bs (textM base n ⟨1, a, b, x, y⟩) ++ ⟨#[99, 111, 109, 109, 105, 116, 10]⟩ = bs (wholeT base n ⟨1, a, b, x, y⟩) := by
      rw [HW.out]
      exact (by rw [bs_append, bs_append] : bs [98, 101, 103, 105, 110, 10] ++ bs (textM base n ⟨1, a, b, x, y⟩) ++ bs [99, 111, 109, 109, 105, 116, 10] = _)
    have z1 : ¬ 9223372036854775807 < 6 + (bs (textM base n ⟨1, a, b, x, y⟩)).size := by simp only [bs, ByteArray.size, List.size_toArray]; omega
    have z2 : ¬ 9223372036854775807 < 6 + (bs (textM base n ⟨1, a, b, x, y⟩)).size + 7 := by simp only [bs, ByteArray.size, List.size_toArray]; omega
    rw [ht2] at hcat z1 z2
    generalize hww : bs (wholeT base n ⟨1, a, b, x, y⟩) = ww at *
    generalize e1 : w.alloc (.cells #[.int .i64 1, .int .i64 a, .int .i64 b, .int .i64 x, .int .i64 y] 40) = w1 at *
    generalize eM : w.heap.size = M at *
    have c0 : w1.cell? ⟨M, 0, none⟩ = some (.int .i64 1) := s1.cell 0 rfl 0
    have c1 : w1.cell? ⟨M, 1, none⟩ = some (.int .i64 a) := s1.cell 0 rfl 1
    have c2 : w1.cell? ⟨M, 2, none⟩ = some (.int .i64 b) := s1.cell 0 rfl 2
    have c3 : w1.cell? ⟨M, 3, none⟩ = some (.int .i64 x) := s1.cell 0 rfl 3
    have c4 : w1.cell? ⟨M, 4, none⟩ = some (.int .i64 y) := s1.cell 0 rfl 4
    have HS1 := hid s1
    have HCAT := hid hcat
    clear hr s1 hcat hww hpar hpl hlen hfits HW htl ht2 hfi hmay hroom
    go_enter Tryz.func23, Tryz.ntmps23
    go_upto_region 4 with (first | simp only [e1, eM] | (go_at_call 33; refine hr1.mono ?_; rintro e w2 ⟨B1, B2, B3, B4, rfl, s2⟩; have HS2 := hid ((HS1.out.join s2).box #[.bool true, .bool false, .bool true, fnV 61, fnV 62] 72); clear s2 hr1 e1 eM c0 c1 c2 c3 c4) | (go_at_call 31; refine (hfit _).mono ?_; rintro e w' ⟨rfl, rfl⟩))
    obtain ⟨w3, hw3⟩ : ∃ w3, w3 = w2.alloc (.cells #[.bool true, .bool false, .bool true, fnV 61, fnV 62] 72) := ⟨_, rfl⟩
    generalize hLL : w2.heap.size = L at *
    rw [← hw3] at HS2 ⊢
    clear hw3 hLL
    have k3 := hid HS2.out.same
    have l4 : w3.cell? ⟨L, 4, none⟩ = some (fnV 62) := HS2.out.cell 0 rfl 4
    have m0 : w3.cell? ⟨M, 0, none⟩ = some (.int .i64 1) := HS2.out.cell 5 rfl 0
    have m1 : w3.cell? ⟨M, 1, none⟩ = some (.int .i64 a) := HS2.out.cell 5 rfl 1
    have m2 : w3.cell? ⟨M, 2, none⟩ = some (.int .i64 b) := HS2.out.cell 5 rfl 2
    have m3 : w3.cell? ⟨M, 3, none⟩ = some (.int .i64 x) := HS2.out.cell 5 rfl 3
    have m4 : w3.cell? ⟨M, 4, none⟩ = some (.int .i64 y) := HS2.out.cell 5 rfl 4
    have hq := payT_any (d := ⟨1, a, b, x, y⟩) (hE.out.kept k3.out) HF.out
    have HQ := hid hq
    have hq2 : Calls Tryz.prog 62 #[.int .i64 base, .int .i64 n, .agg #[.int .i64 1, .int .i64 a, .int .i64 b, .int .i64 x, .int .i64 y]] w3 _ := HQ.out
    clear HQ hq HS2 HS1 hfit
    try simp only at hq2
    generalize bs (fillM payT [base + a, base + a, x]) = tt at hq2 HCAT z1 z2
    have HPP := hid (fun W k => HP.out W (k3.out.trans k (fun _ _ f => f)))
    rw [← HCAT.out] at HPP
    clear HP HCAT
    go_wp2_with (first | (go_at_call 62; refine hq2.mono ?_; rintro e w5 ⟨rfl, k5⟩; have hp := HPP.out _ k5; clear hq2 l4 m0 m1 m2 m3 m4) | (go_at_call 34; refine hp.mono ?_; rintro e w6 ⟨lv, rfl, s6⟩; have HS6 := hid s6; clear s6 hp HPP))
    exact HD.out _ _ _ rfl (HS6.out.base (k3.out.trans k5 (fun _ _ f => f)))
  · have HD : Hid (∀ e w', e = .returned (.tuple #[.slice none 0 0, .int .i64 170]) → Kept (fun _ => False) w w' → CodeE base n ⟨1, a, b, x, y⟩ w e w') := fun e w' h1 h2 => by
      unfold CodeE
      rw [if_neg hok]
      exact ⟨h1, h2⟩
    have ht : mayD n ⟨1, a, b, x, y⟩ = false ∨ (mayD n ⟨1, a, b, x, y⟩ = true ∧ fitsM base n 256 = false) := by
      unfold okC at hok
      cases hm : mayD n ⟨1, a, b, x, y⟩ with
      | false => exact .inl rfl
      | true => exact .inr ⟨rfl, by rw [hm] at hok; simpa using hok⟩
    generalize CodeE base n ⟨1, a, b, x, y⟩ w = Q at *
    generalize mayD n ⟨1, a, b, x, y⟩ = mm at *
    generalize fitsM base n 256 = ff at *
    generalize e1 : w.alloc (.cells #[.int .i64 1, .int .i64 a, .int .i64 b, .int .i64 x, .int .i64 y] 40) = w1 at *
    generalize eM : w.heap.size = M at *
    have c0 : w1.cell? ⟨M, 0, none⟩ = some (.int .i64 1) := s1.cell 0 rfl 0
    have c1 : w1.cell? ⟨M, 1, none⟩ = some (.int .i64 a) := s1.cell 0 rfl 1
    have c2 : w1.cell? ⟨M, 2, none⟩ = some (.int .i64 b) := s1.cell 0 rfl 2
    have c3 : w1.cell? ⟨M, 3, none⟩ = some (.int .i64 x) := s1.cell 0 rfl 3
    have c4 : w1.cell? ⟨M, 4, none⟩ = some (.int .i64 y) := s1.cell 0 rfl 4
    have HK := hid s1.same
    clear hr s1 hok hroom
    rcases ht with rfl | ⟨rfl, rfl⟩
    · go_enter Tryz.func23, Tryz.ntmps23
      go_wp2_with (first | simp only [e1, eM] | (go_at_call 33; refine hr1.mono ?_; rintro e w2 ⟨B1, B2, B3, B4, rfl, s2⟩; have k2 := hid s2.same; clear s2 hr1 e1 eM c0 c1 c2 c3 c4))
      exact HD.out _ _ rfl ((HK.out.trans k2.out (fun _ _ f => f)).alloc _)
    · go_enter Tryz.func23, Tryz.ntmps23
      go_wp2_with (first | simp only [e1, eM] | (go_at_call 33; refine hr1.mono ?_; rintro e w2 ⟨B1, B2, B3, B4, rfl, s2⟩; have k2 := hid s2.same; clear s2 hr1 e1 eM c0 c1 c2 c3 c4) | (go_at_call 31; refine (hfit _).mono ?_; rintro e w' ⟨rfl, rfl⟩))
      exact HD.out _ _ rfl ((HK.out.trans k2.out (fun _ _ f => f)).alloc _)
set_option maxRecDepth 100000 in
set_option maxHeartbeats 8000000 in
theorem Code_2 (hroom : 0 < roomM n) (hop : d.op = 2) (hE0 : Env w) : Calls Tryz.prog 23 #[.int .i64 base, .int .i64 n, d.val] w (CodeE base n d w) := by
  obtain ⟨op, a, b, x, y⟩ := d
  simp only at hop
  subst hop
  have hr := fun W => rowOf_2 (w := W) (d := ⟨2, a, b, x, y⟩) hroom rfl
  have s1 := (St.nil w).box #[.int .i64 2, .int .i64 a, .int .i64 b, .int .i64 x, .int .i64 y] 40
  have hE := hid hE0
  clear hE0
  show Calls _ _ #[_, _, .agg #[.int .i64 2, .int .i64 a, .int .i64 b, .int .i64 x, .int .i64 y]] _ _
  have hr1 : Calls Tryz.prog 33 #[.int .i64 n, .agg #[.int .i64 2, .int .i64 a, .int .i64 b, .int .i64 x, .int .i64 y]] (w.alloc (.cells #[.int .i64 2, .int .i64 a, .int .i64 b, .int .i64 x, .int .i64 y] 40)) _ := hr _
  have hfit := fun W => fits_any base n 256 W (by decide) (by decide)
  by_cases hok : okC base n ⟨2, a, b, x, y⟩ = true
  · have htx := text_ok hok
    have HD : Hid (∀ (e : Ending) (w' : World) (lv : Value), e = .returned (.tuple #[lv, .int .i64 0]) → St w [ownI 79 2 lv (codeM base n ⟨2, a, b, x, y⟩).length (insCells (codeM base n ⟨2, a, b, x, y⟩))] w' → CodeE base n ⟨2, a, b, x, y⟩ w e w') := fun e w' lv h1 h2 => by
      unfold CodeE
      rw [if_pos hok]
      exact ⟨lv, h1, h2⟩
    unfold okC at hok
    rw [Bool.and_eq_true] at hok
    obtain ⟨hfi, hmay⟩ := hok
    rw [hmay] at hr1
    rw [hfi] at hfit
    generalize CodeE base n ⟨2, a, b, x, y⟩ w = Q at *
    obtain ⟨hpar, hpl, hlen, hfits⟩ := htx
    have HF := hid hfits
    have HW : Hid (wholeT base n ⟨2, a, b, x, y⟩ = [98, 101, 103, 105, 110, 10] ++ textM base n ⟨2, a, b, x, y⟩ ++ [99, 111, 109, 109, 105, 116, 10]) := by rfl
    have htl : (textM base n ⟨2, a, b, x, y⟩).length ≤ 1000 := by
      have := hlen
      rw [HW.out] at this
      simp only [List.length_append] at this
      omega
    have HP : Hid (∀ W, Kept (fun _ => False) w W → Calls Tryz.prog 34 #[.string (bs (wholeT base n ⟨2, a, b, x, y⟩))] W fun e w' => ∃ lv, e = .returned (.tuple #[lv, .int .i64 0, .int .i64 0]) ∧ St W [ownI 79 2 lv (codeM base n ⟨2, a, b, x, y⟩).length (insCells (codeM base n ⟨2, a, b, x, y⟩))] w') := fun W k => by
      have := Parse_any (bs (wholeT base n ⟨2, a, b, x, y⟩)) W (hE.out.kept k) hpl (by simp only [bs, ByteArray.size, List.size_toArray]; omega)
      rw [hpar] at this
      exact this
    have ht2 : textM base n ⟨2, a, b, x, y⟩ = fillM takeT [base + a, x, base + a, x] ++ ([] ++ outT) := by simp [textM]
    have hcat : (⟨#[98, 101, 103, 105, 110, 10]⟩ : ByteArray) ++ bs (textM base n ⟨2, a, b, x, y⟩) ++ ⟨#[99, 111, 109, 109, 105, 116, 10]⟩ = bs (wholeT base n ⟨2, a, b, x, y⟩) := by
      rw [HW.out]
      exact (by rw [bs_append, bs_append] : bs [98, 101, 103, 105, 110, 10] ++ bs (textM base n ⟨2, a, b, x, y⟩) ++ bs [99, 111, 109, 109, 105, 116, 10] = _)
    have z1 : ¬ 9223372036854775807 < 6 + (bs (textM base n ⟨2, a, b, x, y⟩)).size := by simp only [bs, ByteArray.size, List.size_toArray]; omega
    have z2 : ¬ 9223372036854775807 < 6 + (bs (textM base n ⟨2, a, b, x, y⟩)).size + 7 := by simp only [bs, ByteArray.size, List.size_toArray]; omega
    rw [ht2] at hcat z1 z2
    generalize hww : bs (wholeT base n ⟨2, a, b, x, y⟩) = ww at *
    generalize e1 : w.alloc (.cells #[.int .i64 2, .int .i64 a, .int .i64 b, .int .i64 x, .int .i64 y] 40) = w1 at *
    generalize eM : w.heap.size = M at *
    have c0 : w1.cell? ⟨M, 0, none⟩ = some (.int .i64 2) := s1.cell 0 rfl 0
    have c1 : w1.cell? ⟨M, 1, none⟩ = some (.int .i64 a) := s1.cell 0 rfl 1
    have c2 : w1.cell? ⟨M, 2, none⟩ = some (.int .i64 b) := s1.cell 0 rfl 2
    have c3 : w1.cell? ⟨M, 3, none⟩ = some (.int .i64 x) := s1.cell 0 rfl 3
    have c4 : w1.cell? ⟨M, 4, none⟩ = some (.int .i64 y) := s1.cell 0 rfl 4
    have HS1 := hid s1
    have HCAT := hid hcat
    clear hr s1 hcat hww hpar hpl hlen hfits HW htl ht2 hfi hmay hroom
    go_enter Tryz.func23, Tryz.ntmps23
    go_upto_region 4 with (first | simp only [e1, eM] | (go_at_call 33; refine hr1.mono ?_; rintro e w2 ⟨B1, B2, B3, B4, rfl, s2⟩; have HS2 := hid ((HS1.out.join s2).box #[.bool true, .bool false, .bool true, cloV 81 B1, cloV 82 B2] 72); clear s2 hr1 e1 eM c0 c1 c2 c3 c4) | (go_at_call 31; refine (hfit _).mono ?_; rintro e w' ⟨rfl, rfl⟩))
    obtain ⟨w3, hw3⟩ : ∃ w3, w3 = w2.alloc (.cells #[.bool true, .bool false, .bool true, cloV 81 B1, cloV 82 B2] 72) := ⟨_, rfl⟩
    generalize hLL : w2.heap.size = L at *
    rw [← hw3] at HS2 ⊢
    clear hw3 hLL
    have k3 := hid HS2.out.same
    have l4 : w3.cell? ⟨L, 4, none⟩ = some (cloV 82 B2) := HS2.out.cell 0 rfl 4
    have m0 : w3.cell? ⟨M, 0, none⟩ = some (.int .i64 2) := HS2.out.cell 5 rfl 0
    have m1 : w3.cell? ⟨M, 1, none⟩ = some (.int .i64 a) := HS2.out.cell 5 rfl 1
    have m2 : w3.cell? ⟨M, 2, none⟩ = some (.int .i64 b) := HS2.out.cell 5 rfl 2
    have m3 : w3.cell? ⟨M, 3, none⟩ = some (.int .i64 x) := HS2.out.cell 5 rfl 3
    have m4 : w3.cell? ⟨M, 4, none⟩ = some (.int .i64 y) := HS2.out.cell 5 rfl 4
    have hq := thereT_any (d := ⟨2, a, b, x, y⟩) (F := 67) (B := B2) (rr := []) (hE.out.kept k3.out) HF.out (HS2.out.get 2 rfl) (.inl rfl) (by decide) (fun W _ => emptyT_any)
    have HQ := hid hq
    have hq2 : Calls Tryz.prog 82 #[.int .i64 base, .int .i64 n, .agg #[.int .i64 2, .int .i64 a, .int .i64 b, .int .i64 x, .int .i64 y], .pointer (some ⟨B2, 0, none⟩)] w3 _ := HQ.out
    clear HQ hq HS2 HS1 hfit
    try simp only at hq2
    generalize bs (fillM takeT [base + a, x, base + a, x] ++ ([] ++ outT)) = tt at hq2 HCAT z1 z2
    have HPP := hid (fun W k => HP.out W (k3.out.trans k (fun _ _ f => f)))
    rw [← HCAT.out] at HPP
    clear HP HCAT
    go_wp2_with (first | (go_at_call 82; refine hq2.mono ?_; rintro e w5 ⟨rfl, k5⟩; have hp := HPP.out _ k5; clear hq2 l4 m0 m1 m2 m3 m4) | (go_at_call 34; refine hp.mono ?_; rintro e w6 ⟨lv, rfl, s6⟩; have HS6 := hid s6; clear s6 hp HPP))
    exact HD.out _ _ _ rfl (HS6.out.base (k3.out.trans k5 (fun _ _ f => f)))
  · have HD : Hid (∀ e w', e = .returned (.tuple #[.slice none 0 0, .int .i64 170]) → Kept (fun _ => False) w w' → CodeE base n ⟨2, a, b, x, y⟩ w e w') := fun e w' h1 h2 => by
      unfold CodeE
      rw [if_neg hok]
      exact ⟨h1, h2⟩
    have ht : mayD n ⟨2, a, b, x, y⟩ = false ∨ (mayD n ⟨2, a, b, x, y⟩ = true ∧ fitsM base n 256 = false) := by
      unfold okC at hok
      cases hm : mayD n ⟨2, a, b, x, y⟩ with
      | false => exact .inl rfl
      | true => exact .inr ⟨rfl, by rw [hm] at hok; simpa using hok⟩
    generalize CodeE base n ⟨2, a, b, x, y⟩ w = Q at *
    generalize mayD n ⟨2, a, b, x, y⟩ = mm at *
    generalize fitsM base n 256 = ff at *
    generalize e1 : w.alloc (.cells #[.int .i64 2, .int .i64 a, .int .i64 b, .int .i64 x, .int .i64 y] 40) = w1 at *
    generalize eM : w.heap.size = M at *
    have c0 : w1.cell? ⟨M, 0, none⟩ = some (.int .i64 2) := s1.cell 0 rfl 0
    have c1 : w1.cell? ⟨M, 1, none⟩ = some (.int .i64 a) := s1.cell 0 rfl 1
    have c2 : w1.cell? ⟨M, 2, none⟩ = some (.int .i64 b) := s1.cell 0 rfl 2
    have c3 : w1.cell? ⟨M, 3, none⟩ = some (.int .i64 x) := s1.cell 0 rfl 3
    have c4 : w1.cell? ⟨M, 4, none⟩ = some (.int .i64 y) := s1.cell 0 rfl 4
    have HK := hid s1.same
    clear hr s1 hok hroom
    rcases ht with rfl | ⟨rfl, rfl⟩
    · go_enter Tryz.func23, Tryz.ntmps23
      go_wp2_with (first | simp only [e1, eM] | (go_at_call 33; refine hr1.mono ?_; rintro e w2 ⟨B1, B2, B3, B4, rfl, s2⟩; have k2 := hid s2.same; clear s2 hr1 e1 eM c0 c1 c2 c3 c4))
      exact HD.out _ _ rfl ((HK.out.trans k2.out (fun _ _ f => f)).alloc _)
    · go_enter Tryz.func23, Tryz.ntmps23
      go_wp2_with (first | simp only [e1, eM] | (go_at_call 33; refine hr1.mono ?_; rintro e w2 ⟨B1, B2, B3, B4, rfl, s2⟩; have k2 := hid s2.same; clear s2 hr1 e1 eM c0 c1 c2 c3 c4) | (go_at_call 31; refine (hfit _).mono ?_; rintro e w' ⟨rfl, rfl⟩))
      exact HD.out _ _ rfl ((HK.out.trans k2.out (fun _ _ f => f)).alloc _)
set_option maxRecDepth 100000 in
set_option maxHeartbeats 8000000 in
theorem Code_3 (hroom : 0 < roomM n) (hop : d.op = 3) (hE0 : Env w) : Calls Tryz.prog 23 #[.int .i64 base, .int .i64 n, d.val] w (CodeE base n d w) := by
  obtain ⟨op, a, b, x, y⟩ := d
  simp only at hop
  subst hop
  have hr := fun W => rowOf_3 (w := W) (d := ⟨3, a, b, x, y⟩) hroom rfl
  have s1 := (St.nil w).box #[.int .i64 3, .int .i64 a, .int .i64 b, .int .i64 x, .int .i64 y] 40
  have hE := hid hE0
  clear hE0
  show Calls _ _ #[_, _, .agg #[.int .i64 3, .int .i64 a, .int .i64 b, .int .i64 x, .int .i64 y]] _ _
  have hr1 : Calls Tryz.prog 33 #[.int .i64 n, .agg #[.int .i64 3, .int .i64 a, .int .i64 b, .int .i64 x, .int .i64 y]] (w.alloc (.cells #[.int .i64 3, .int .i64 a, .int .i64 b, .int .i64 x, .int .i64 y] 40)) _ := hr _
  have hfit := fun W => fits_any base n 256 W (by decide) (by decide)
  by_cases hok : okC base n ⟨3, a, b, x, y⟩ = true
  · have htx := text_ok hok
    have HD : Hid (∀ (e : Ending) (w' : World) (lv : Value), e = .returned (.tuple #[lv, .int .i64 0]) → St w [ownI 79 2 lv (codeM base n ⟨3, a, b, x, y⟩).length (insCells (codeM base n ⟨3, a, b, x, y⟩))] w' → CodeE base n ⟨3, a, b, x, y⟩ w e w') := fun e w' lv h1 h2 => by
      unfold CodeE
      rw [if_pos hok]
      exact ⟨lv, h1, h2⟩
    unfold okC at hok
    rw [Bool.and_eq_true] at hok
    obtain ⟨hfi, hmay⟩ := hok
    rw [hmay] at hr1
    rw [hfi] at hfit
    generalize CodeE base n ⟨3, a, b, x, y⟩ w = Q at *
    obtain ⟨hpar, hpl, hlen, hfits⟩ := htx
    have HF := hid hfits
    have HW : Hid (wholeT base n ⟨3, a, b, x, y⟩ = [98, 101, 103, 105, 110, 10] ++ textM base n ⟨3, a, b, x, y⟩ ++ [99, 111, 109, 109, 105, 116, 10]) := by rfl
    have htl : (textM base n ⟨3, a, b, x, y⟩).length ≤ 1000 := by
      have := hlen
      rw [HW.out] at this
      simp only [List.length_append] at this
      omega
    have HLA : Hid ((fillM addT [base + b, base + b, x]).length ≤ 1000) := by
      have h := hfits
      obtain ⟨h0, h1, h2, h3, h4, h5, h6, h7, h8, h9⟩ := h
      simp only at h4 h5 h6 h7 h8 h9
      refine Nat.le_trans (fillM_len [base + b, base + b, x] addT (by
        intro z hz
        simp only [List.mem_cons, List.not_mem_nil, or_false] at hz
        omega)) (by show addT.length + 21 * 3 ≤ 1000; decide)
    have HP : Hid (∀ W, Kept (fun _ => False) w W → Calls Tryz.prog 34 #[.string (bs (wholeT base n ⟨3, a, b, x, y⟩))] W fun e w' => ∃ lv, e = .returned (.tuple #[lv, .int .i64 0, .int .i64 0]) ∧ St W [ownI 79 2 lv (codeM base n ⟨3, a, b, x, y⟩).length (insCells (codeM base n ⟨3, a, b, x, y⟩))] w') := fun W k => by
      have := Parse_any (bs (wholeT base n ⟨3, a, b, x, y⟩)) W (hE.out.kept k) hpl (by simp only [bs, ByteArray.size, List.size_toArray]; omega)
      rw [hpar] at this
      exact this
    have ht2 : textM base n ⟨3, a, b, x, y⟩ = fillM takeT [base + a, x, base + a, x] ++ (fillM addT [base + b, base + b, x] ++ outT) := by simp [textM]
    have hcat : (⟨#[98, 101, 103, 105, 110, 10]⟩ : ByteArray) ++ bs (textM base n ⟨3, a, b, x, y⟩) ++ ⟨#[99, 111, 109, 109, 105, 116, 10]⟩ = bs (wholeT base n ⟨3, a, b, x, y⟩) := by
      rw [HW.out]
      exact (by rw [bs_append, bs_append] : bs [98, 101, 103, 105, 110, 10] ++ bs (textM base n ⟨3, a, b, x, y⟩) ++ bs [99, 111, 109, 109, 105, 116, 10] = _)
    have z1 : ¬ 9223372036854775807 < 6 + (bs (textM base n ⟨3, a, b, x, y⟩)).size := by simp only [bs, ByteArray.size, List.size_toArray]; omega
    have z2 : ¬ 9223372036854775807 < 6 + (bs (textM base n ⟨3, a, b, x, y⟩)).size + 7 := by simp only [bs, ByteArray.size, List.size_toArray]; omega
    rw [ht2] at hcat z1 z2
    generalize hww : bs (wholeT base n ⟨3, a, b, x, y⟩) = ww at *
    generalize e1 : w.alloc (.cells #[.int .i64 3, .int .i64 a, .int .i64 b, .int .i64 x, .int .i64 y] 40) = w1 at *
    generalize eM : w.heap.size = M at *
    have c0 : w1.cell? ⟨M, 0, none⟩ = some (.int .i64 3) := s1.cell 0 rfl 0
    have c1 : w1.cell? ⟨M, 1, none⟩ = some (.int .i64 a) := s1.cell 0 rfl 1
    have c2 : w1.cell? ⟨M, 2, none⟩ = some (.int .i64 b) := s1.cell 0 rfl 2
    have c3 : w1.cell? ⟨M, 3, none⟩ = some (.int .i64 x) := s1.cell 0 rfl 3
    have c4 : w1.cell? ⟨M, 4, none⟩ = some (.int .i64 y) := s1.cell 0 rfl 4
    have HS1 := hid s1
    have HCAT := hid hcat
    clear hr s1 hcat hww hpar hpl hlen hfits HW htl ht2 hfi hmay hroom
    go_enter Tryz.func23, Tryz.ntmps23
    go_upto_region 4 with (first | simp only [e1, eM] | (go_at_call 33; refine hr1.mono ?_; rintro e w2 ⟨B1, B2, B3, B4, rfl, s2⟩; have HS2 := hid ((HS1.out.join s2).box #[.bool true, .bool true, .bool true, cloV 81 B3, cloV 82 B4] 72); clear s2 hr1 e1 eM c0 c1 c2 c3 c4) | (go_at_call 31; refine (hfit _).mono ?_; rintro e w' ⟨rfl, rfl⟩))
    obtain ⟨w3, hw3⟩ : ∃ w3, w3 = w2.alloc (.cells #[.bool true, .bool true, .bool true, cloV 81 B3, cloV 82 B4] 72) := ⟨_, rfl⟩
    generalize hLL : w2.heap.size = L at *
    rw [← hw3] at HS2 ⊢
    clear hw3 hLL
    have k3 := hid HS2.out.same
    have l4 : w3.cell? ⟨L, 4, none⟩ = some (cloV 82 B4) := HS2.out.cell 0 rfl 4
    have m0 : w3.cell? ⟨M, 0, none⟩ = some (.int .i64 3) := HS2.out.cell 5 rfl 0
    have m1 : w3.cell? ⟨M, 1, none⟩ = some (.int .i64 a) := HS2.out.cell 5 rfl 1
    have m2 : w3.cell? ⟨M, 2, none⟩ = some (.int .i64 b) := HS2.out.cell 5 rfl 2
    have m3 : w3.cell? ⟨M, 3, none⟩ = some (.int .i64 x) := HS2.out.cell 5 rfl 3
    have m4 : w3.cell? ⟨M, 4, none⟩ = some (.int .i64 y) := HS2.out.cell 5 rfl 4
    have hq := thereT_any (d := ⟨3, a, b, x, y⟩) (F := 69) (B := B4) (rr := fillM addT [base + b, base + b, x]) (hE.out.kept k3.out) HF.out (HS2.out.get 4 rfl) (.inr rfl) (HLA.out) (fun W kW => addT_any (n := n) (d := ⟨3, a, b, x, y⟩) ((hE.out.kept k3.out).kept kW) HF.out)
    have HQ := hid hq
    have hq2 : Calls Tryz.prog 82 #[.int .i64 base, .int .i64 n, .agg #[.int .i64 3, .int .i64 a, .int .i64 b, .int .i64 x, .int .i64 y], .pointer (some ⟨B4, 0, none⟩)] w3 _ := HQ.out
    clear HQ hq HS2 HS1 hfit
    try simp only at hq2
    generalize bs (fillM takeT [base + a, x, base + a, x] ++ (fillM addT [base + b, base + b, x] ++ outT)) = tt at hq2 HCAT z1 z2
    have HPP := hid (fun W k => HP.out W (k3.out.trans k (fun _ _ f => f)))
    rw [← HCAT.out] at HPP
    clear HP HCAT
    go_wp2_with (first | (go_at_call 82; refine hq2.mono ?_; rintro e w5 ⟨rfl, k5⟩; have hp := HPP.out _ k5; clear hq2 l4 m0 m1 m2 m3 m4) | (go_at_call 34; refine hp.mono ?_; rintro e w6 ⟨lv, rfl, s6⟩; have HS6 := hid s6; clear s6 hp HPP))
    exact HD.out _ _ _ rfl (HS6.out.base (k3.out.trans k5 (fun _ _ f => f)))
  · have HD : Hid (∀ e w', e = .returned (.tuple #[.slice none 0 0, .int .i64 170]) → Kept (fun _ => False) w w' → CodeE base n ⟨3, a, b, x, y⟩ w e w') := fun e w' h1 h2 => by
      unfold CodeE
      rw [if_neg hok]
      exact ⟨h1, h2⟩
    have ht : mayD n ⟨3, a, b, x, y⟩ = false ∨ (mayD n ⟨3, a, b, x, y⟩ = true ∧ fitsM base n 256 = false) := by
      unfold okC at hok
      cases hm : mayD n ⟨3, a, b, x, y⟩ with
      | false => exact .inl rfl
      | true => exact .inr ⟨rfl, by rw [hm] at hok; simpa using hok⟩
    generalize CodeE base n ⟨3, a, b, x, y⟩ w = Q at *
    generalize mayD n ⟨3, a, b, x, y⟩ = mm at *
    generalize fitsM base n 256 = ff at *
    generalize e1 : w.alloc (.cells #[.int .i64 3, .int .i64 a, .int .i64 b, .int .i64 x, .int .i64 y] 40) = w1 at *
    generalize eM : w.heap.size = M at *
    have c0 : w1.cell? ⟨M, 0, none⟩ = some (.int .i64 3) := s1.cell 0 rfl 0
    have c1 : w1.cell? ⟨M, 1, none⟩ = some (.int .i64 a) := s1.cell 0 rfl 1
    have c2 : w1.cell? ⟨M, 2, none⟩ = some (.int .i64 b) := s1.cell 0 rfl 2
    have c3 : w1.cell? ⟨M, 3, none⟩ = some (.int .i64 x) := s1.cell 0 rfl 3
    have c4 : w1.cell? ⟨M, 4, none⟩ = some (.int .i64 y) := s1.cell 0 rfl 4
    have HK := hid s1.same
    clear hr s1 hok hroom
    rcases ht with rfl | ⟨rfl, rfl⟩
    · go_enter Tryz.func23, Tryz.ntmps23
      go_wp2_with (first | simp only [e1, eM] | (go_at_call 33; refine hr1.mono ?_; rintro e w2 ⟨B1, B2, B3, B4, rfl, s2⟩; have k2 := hid s2.same; clear s2 hr1 e1 eM c0 c1 c2 c3 c4))
      exact HD.out _ _ rfl ((HK.out.trans k2.out (fun _ _ f => f)).alloc _)
    · go_enter Tryz.func23, Tryz.ntmps23
      go_wp2_with (first | simp only [e1, eM] | (go_at_call 33; refine hr1.mono ?_; rintro e w2 ⟨B1, B2, B3, B4, rfl, s2⟩; have k2 := hid s2.same; clear s2 hr1 e1 eM c0 c1 c2 c3 c4) | (go_at_call 31; refine (hfit _).mono ?_; rintro e w' ⟨rfl, rfl⟩))
      exact HD.out _ _ rfl ((HK.out.trans k2.out (fun _ _ f => f)).alloc _)
set_option maxRecDepth 100000 in
set_option maxHeartbeats 8000000 in
theorem Code_4 (hroom : 0 < roomM n) (hop : d.op = 4) (hE0 : Env w) : Calls Tryz.prog 23 #[.int .i64 base, .int .i64 n, d.val] w (CodeE base n d w) := by
  obtain ⟨op, a, b, x, y⟩ := d
  simp only at hop
  subst hop
  have hr := fun W => rowOf_4 (w := W) (d := ⟨4, a, b, x, y⟩) hroom rfl
  have s1 := (St.nil w).box #[.int .i64 4, .int .i64 a, .int .i64 b, .int .i64 x, .int .i64 y] 40
  have hE := hid hE0
  clear hE0
  show Calls _ _ #[_, _, .agg #[.int .i64 4, .int .i64 a, .int .i64 b, .int .i64 x, .int .i64 y]] _ _
  have hr1 : Calls Tryz.prog 33 #[.int .i64 n, .agg #[.int .i64 4, .int .i64 a, .int .i64 b, .int .i64 x, .int .i64 y]] (w.alloc (.cells #[.int .i64 4, .int .i64 a, .int .i64 b, .int .i64 x, .int .i64 y] 40)) _ := hr _
  have hfit := fun W => fits_any base n 256 W (by decide) (by decide)
  by_cases hok : okC base n ⟨4, a, b, x, y⟩ = true
  · have htx := text_ok hok
    have HD : Hid (∀ (e : Ending) (w' : World) (lv : Value), e = .returned (.tuple #[lv, .int .i64 0]) → St w [ownI 79 2 lv (codeM base n ⟨4, a, b, x, y⟩).length (insCells (codeM base n ⟨4, a, b, x, y⟩))] w' → CodeE base n ⟨4, a, b, x, y⟩ w e w') := fun e w' lv h1 h2 => by
      unfold CodeE
      rw [if_pos hok]
      exact ⟨lv, h1, h2⟩
    unfold okC at hok
    rw [Bool.and_eq_true] at hok
    obtain ⟨hfi, hmay⟩ := hok
    rw [hmay] at hr1
    rw [hfi] at hfit
    generalize CodeE base n ⟨4, a, b, x, y⟩ w = Q at *
    obtain ⟨hpar, hpl, hlen, hfits⟩ := htx
    have HF := hid hfits
    have HW : Hid (wholeT base n ⟨4, a, b, x, y⟩ = [98, 101, 103, 105, 110, 10] ++ textM base n ⟨4, a, b, x, y⟩ ++ [99, 111, 109, 109, 105, 116, 10]) := by rfl
    have htl : (textM base n ⟨4, a, b, x, y⟩).length ≤ 1000 := by
      have := hlen
      rw [HW.out] at this
      simp only [List.length_append] at this
      omega
    have HP : Hid (∀ W, Kept (fun _ => False) w W → Calls Tryz.prog 34 #[.string (bs (wholeT base n ⟨4, a, b, x, y⟩))] W fun e w' => ∃ lv, e = .returned (.tuple #[lv, .int .i64 0, .int .i64 0]) ∧ St W [ownI 79 2 lv (codeM base n ⟨4, a, b, x, y⟩).length (insCells (codeM base n ⟨4, a, b, x, y⟩))] w') := fun W k => by
      have := Parse_any (bs (wholeT base n ⟨4, a, b, x, y⟩)) W (hE.out.kept k) hpl (by simp only [bs, ByteArray.size, List.size_toArray]; omega)
      rw [hpar] at this
      exact this
    have ht2 : textM base n ⟨4, a, b, x, y⟩ = fillM seeT [base + a] := by simp [textM]
    have hcat : (⟨#[98, 101, 103, 105, 110, 10]⟩ : ByteArray) ++ bs (textM base n ⟨4, a, b, x, y⟩) ++ ⟨#[99, 111, 109, 109, 105, 116, 10]⟩ = bs (wholeT base n ⟨4, a, b, x, y⟩) := by
      rw [HW.out]
      exact (by rw [bs_append, bs_append] : bs [98, 101, 103, 105, 110, 10] ++ bs (textM base n ⟨4, a, b, x, y⟩) ++ bs [99, 111, 109, 109, 105, 116, 10] = _)
    have z1 : ¬ 9223372036854775807 < 6 + (bs (textM base n ⟨4, a, b, x, y⟩)).size := by simp only [bs, ByteArray.size, List.size_toArray]; omega
    have z2 : ¬ 9223372036854775807 < 6 + (bs (textM base n ⟨4, a, b, x, y⟩)).size + 7 := by simp only [bs, ByteArray.size, List.size_toArray]; omega
    rw [ht2] at hcat z1 z2
    generalize hww : bs (wholeT base n ⟨4, a, b, x, y⟩) = ww at *
    generalize e1 : w.alloc (.cells #[.int .i64 4, .int .i64 a, .int .i64 b, .int .i64 x, .int .i64 y] 40) = w1 at *
    generalize eM : w.heap.size = M at *
    have c0 : w1.cell? ⟨M, 0, none⟩ = some (.int .i64 4) := s1.cell 0 rfl 0
    have c1 : w1.cell? ⟨M, 1, none⟩ = some (.int .i64 a) := s1.cell 0 rfl 1
    have c2 : w1.cell? ⟨M, 2, none⟩ = some (.int .i64 b) := s1.cell 0 rfl 2
    have c3 : w1.cell? ⟨M, 3, none⟩ = some (.int .i64 x) := s1.cell 0 rfl 3
    have c4 : w1.cell? ⟨M, 4, none⟩ = some (.int .i64 y) := s1.cell 0 rfl 4
    have HS1 := hid s1
    have HCAT := hid hcat
    clear hr s1 hcat hww hpar hpl hlen hfits HW htl ht2 hfi hmay hroom
    go_enter Tryz.func23, Tryz.ntmps23
    go_upto_region 4 with (first | simp only [e1, eM] | (go_at_call 33; refine hr1.mono ?_; rintro e w2 ⟨B1, B2, B3, B4, rfl, s2⟩; have HS2 := hid ((HS1.out.join s2).box #[.bool true, .bool false, .bool false, fnV 70, fnV 71] 72); clear s2 hr1 e1 eM c0 c1 c2 c3 c4) | (go_at_call 31; refine (hfit _).mono ?_; rintro e w' ⟨rfl, rfl⟩))
    obtain ⟨w3, hw3⟩ : ∃ w3, w3 = w2.alloc (.cells #[.bool true, .bool false, .bool false, fnV 70, fnV 71] 72) := ⟨_, rfl⟩
    generalize hLL : w2.heap.size = L at *
    rw [← hw3] at HS2 ⊢
    clear hw3 hLL
    have k3 := hid HS2.out.same
    have l4 : w3.cell? ⟨L, 4, none⟩ = some (fnV 71) := HS2.out.cell 0 rfl 4
    have m0 : w3.cell? ⟨M, 0, none⟩ = some (.int .i64 4) := HS2.out.cell 5 rfl 0
    have m1 : w3.cell? ⟨M, 1, none⟩ = some (.int .i64 a) := HS2.out.cell 5 rfl 1
    have m2 : w3.cell? ⟨M, 2, none⟩ = some (.int .i64 b) := HS2.out.cell 5 rfl 2
    have m3 : w3.cell? ⟨M, 3, none⟩ = some (.int .i64 x) := HS2.out.cell 5 rfl 3
    have m4 : w3.cell? ⟨M, 4, none⟩ = some (.int .i64 y) := HS2.out.cell 5 rfl 4
    have hq := seeT_any (d := ⟨4, a, b, x, y⟩) (hE.out.kept k3.out) HF.out
    have HQ := hid hq
    have hq2 : Calls Tryz.prog 71 #[.int .i64 base, .int .i64 n, .agg #[.int .i64 4, .int .i64 a, .int .i64 b, .int .i64 x, .int .i64 y]] w3 _ := HQ.out
    clear HQ hq HS2 HS1 hfit
    try simp only at hq2
    generalize bs (fillM seeT [base + a]) = tt at hq2 HCAT z1 z2
    have HPP := hid (fun W k => HP.out W (k3.out.trans k (fun _ _ f => f)))
    rw [← HCAT.out] at HPP
    clear HP HCAT
    go_wp2_with (first | (go_at_call 71; refine hq2.mono ?_; rintro e w5 ⟨rfl, k5⟩; have hp := HPP.out _ k5; clear hq2 l4 m0 m1 m2 m3 m4) | (go_at_call 34; refine hp.mono ?_; rintro e w6 ⟨lv, rfl, s6⟩; have HS6 := hid s6; clear s6 hp HPP))
    exact HD.out _ _ _ rfl (HS6.out.base (k3.out.trans k5 (fun _ _ f => f)))
  · have HD : Hid (∀ e w', e = .returned (.tuple #[.slice none 0 0, .int .i64 170]) → Kept (fun _ => False) w w' → CodeE base n ⟨4, a, b, x, y⟩ w e w') := fun e w' h1 h2 => by
      unfold CodeE
      rw [if_neg hok]
      exact ⟨h1, h2⟩
    have ht : mayD n ⟨4, a, b, x, y⟩ = false ∨ (mayD n ⟨4, a, b, x, y⟩ = true ∧ fitsM base n 256 = false) := by
      unfold okC at hok
      cases hm : mayD n ⟨4, a, b, x, y⟩ with
      | false => exact .inl rfl
      | true => exact .inr ⟨rfl, by rw [hm] at hok; simpa using hok⟩
    generalize CodeE base n ⟨4, a, b, x, y⟩ w = Q at *
    generalize mayD n ⟨4, a, b, x, y⟩ = mm at *
    generalize fitsM base n 256 = ff at *
    generalize e1 : w.alloc (.cells #[.int .i64 4, .int .i64 a, .int .i64 b, .int .i64 x, .int .i64 y] 40) = w1 at *
    generalize eM : w.heap.size = M at *
    have c0 : w1.cell? ⟨M, 0, none⟩ = some (.int .i64 4) := s1.cell 0 rfl 0
    have c1 : w1.cell? ⟨M, 1, none⟩ = some (.int .i64 a) := s1.cell 0 rfl 1
    have c2 : w1.cell? ⟨M, 2, none⟩ = some (.int .i64 b) := s1.cell 0 rfl 2
    have c3 : w1.cell? ⟨M, 3, none⟩ = some (.int .i64 x) := s1.cell 0 rfl 3
    have c4 : w1.cell? ⟨M, 4, none⟩ = some (.int .i64 y) := s1.cell 0 rfl 4
    have HK := hid s1.same
    clear hr s1 hok hroom
    rcases ht with rfl | ⟨rfl, rfl⟩
    · go_enter Tryz.func23, Tryz.ntmps23
      go_wp2_with (first | simp only [e1, eM] | (go_at_call 33; refine hr1.mono ?_; rintro e w2 ⟨B1, B2, B3, B4, rfl, s2⟩; have k2 := hid s2.same; clear s2 hr1 e1 eM c0 c1 c2 c3 c4))
      exact HD.out _ _ rfl ((HK.out.trans k2.out (fun _ _ f => f)).alloc _)
    · go_enter Tryz.func23, Tryz.ntmps23
      go_wp2_with (first | simp only [e1, eM] | (go_at_call 33; refine hr1.mono ?_; rintro e w2 ⟨B1, B2, B3, B4, rfl, s2⟩; have k2 := hid s2.same; clear s2 hr1 e1 eM c0 c1 c2 c3 c4) | (go_at_call 31; refine (hfit _).mono ?_; rintro e w' ⟨rfl, rfl⟩))
      exact HD.out _ _ rfl ((HK.out.trans k2.out (fun _ _ f => f)).alloc _)
set_option maxRecDepth 100000 in
set_option maxHeartbeats 8000000 in
theorem Code_5 (hroom : 0 < roomM n) (hop : d.op = 5) (hE0 : Env w) : Calls Tryz.prog 23 #[.int .i64 base, .int .i64 n, d.val] w (CodeE base n d w) := by
  obtain ⟨op, a, b, x, y⟩ := d
  simp only at hop
  subst hop
  have hr := fun W => rowOf_5 (w := W) (d := ⟨5, a, b, x, y⟩) hroom rfl
  have s1 := (St.nil w).box #[.int .i64 5, .int .i64 a, .int .i64 b, .int .i64 x, .int .i64 y] 40
  have hE := hid hE0
  clear hE0
  show Calls _ _ #[_, _, .agg #[.int .i64 5, .int .i64 a, .int .i64 b, .int .i64 x, .int .i64 y]] _ _
  have hr1 : Calls Tryz.prog 33 #[.int .i64 n, .agg #[.int .i64 5, .int .i64 a, .int .i64 b, .int .i64 x, .int .i64 y]] (w.alloc (.cells #[.int .i64 5, .int .i64 a, .int .i64 b, .int .i64 x, .int .i64 y] 40)) _ := hr _
  have hfit := fun W => fits_any base n 256 W (by decide) (by decide)
  by_cases hok : okC base n ⟨5, a, b, x, y⟩ = true
  · have htx := text_ok hok
    have HD : Hid (∀ (e : Ending) (w' : World) (lv : Value), e = .returned (.tuple #[lv, .int .i64 0]) → St w [ownI 79 2 lv (codeM base n ⟨5, a, b, x, y⟩).length (insCells (codeM base n ⟨5, a, b, x, y⟩))] w' → CodeE base n ⟨5, a, b, x, y⟩ w e w') := fun e w' lv h1 h2 => by
      unfold CodeE
      rw [if_pos hok]
      exact ⟨lv, h1, h2⟩
    unfold okC at hok
    rw [Bool.and_eq_true] at hok
    obtain ⟨hfi, hmay⟩ := hok
    rw [hmay] at hr1
    rw [hfi] at hfit
    generalize CodeE base n ⟨5, a, b, x, y⟩ w = Q at *
    obtain ⟨hpar, hpl, hlen, hfits⟩ := htx
    have HF := hid hfits
    have HW : Hid (wholeT base n ⟨5, a, b, x, y⟩ = [98, 101, 103, 105, 110, 10] ++ textM base n ⟨5, a, b, x, y⟩ ++ [99, 111, 109, 109, 105, 116, 10]) := by rfl
    have htl : (textM base n ⟨5, a, b, x, y⟩).length ≤ 1000 := by
      have := hlen
      rw [HW.out] at this
      simp only [List.length_append] at this
      omega
    have HP : Hid (∀ W, Kept (fun _ => False) w W → Calls Tryz.prog 34 #[.string (bs (wholeT base n ⟨5, a, b, x, y⟩))] W fun e w' => ∃ lv, e = .returned (.tuple #[lv, .int .i64 0, .int .i64 0]) ∧ St W [ownI 79 2 lv (codeM base n ⟨5, a, b, x, y⟩).length (insCells (codeM base n ⟨5, a, b, x, y⟩))] w') := fun W k => by
      have := Parse_any (bs (wholeT base n ⟨5, a, b, x, y⟩)) W (hE.out.kept k) hpl (by simp only [bs, ByteArray.size, List.size_toArray]; omega)
      rw [hpar] at this
      exact this
    have ht2 : textM base n ⟨5, a, b, x, y⟩ = fillM sumT [base, base + n] := by simp [textM]
    have hcat : (⟨#[98, 101, 103, 105, 110, 10]⟩ : ByteArray) ++ bs (textM base n ⟨5, a, b, x, y⟩) ++ ⟨#[99, 111, 109, 109, 105, 116, 10]⟩ = bs (wholeT base n ⟨5, a, b, x, y⟩) := by
      rw [HW.out]
      exact (by rw [bs_append, bs_append] : bs [98, 101, 103, 105, 110, 10] ++ bs (textM base n ⟨5, a, b, x, y⟩) ++ bs [99, 111, 109, 109, 105, 116, 10] = _)
    have z1 : ¬ 9223372036854775807 < 6 + (bs (textM base n ⟨5, a, b, x, y⟩)).size := by simp only [bs, ByteArray.size, List.size_toArray]; omega
    have z2 : ¬ 9223372036854775807 < 6 + (bs (textM base n ⟨5, a, b, x, y⟩)).size + 7 := by simp only [bs, ByteArray.size, List.size_toArray]; omega
    rw [ht2] at hcat z1 z2
    generalize hww : bs (wholeT base n ⟨5, a, b, x, y⟩) = ww at *
    generalize e1 : w.alloc (.cells #[.int .i64 5, .int .i64 a, .int .i64 b, .int .i64 x, .int .i64 y] 40) = w1 at *
    generalize eM : w.heap.size = M at *
    have c0 : w1.cell? ⟨M, 0, none⟩ = some (.int .i64 5) := s1.cell 0 rfl 0
    have c1 : w1.cell? ⟨M, 1, none⟩ = some (.int .i64 a) := s1.cell 0 rfl 1
    have c2 : w1.cell? ⟨M, 2, none⟩ = some (.int .i64 b) := s1.cell 0 rfl 2
    have c3 : w1.cell? ⟨M, 3, none⟩ = some (.int .i64 x) := s1.cell 0 rfl 3
    have c4 : w1.cell? ⟨M, 4, none⟩ = some (.int .i64 y) := s1.cell 0 rfl 4
    have HS1 := hid s1
    have HCAT := hid hcat
    clear hr s1 hcat hww hpar hpl hlen hfits HW htl ht2 hfi hmay hroom
    go_enter Tryz.func23, Tryz.ntmps23
    go_upto_region 4 with (first | simp only [e1, eM] | (go_at_call 33; refine hr1.mono ?_; rintro e w2 ⟨B1, B2, B3, B4, rfl, s2⟩; have HS2 := hid ((HS1.out.join s2).box #[.bool false, .bool false, .bool false, fnV 72, fnV 73] 72); clear s2 hr1 e1 eM c0 c1 c2 c3 c4) | (go_at_call 31; refine (hfit _).mono ?_; rintro e w' ⟨rfl, rfl⟩))
    obtain ⟨w3, hw3⟩ : ∃ w3, w3 = w2.alloc (.cells #[.bool false, .bool false, .bool false, fnV 72, fnV 73] 72) := ⟨_, rfl⟩
    generalize hLL : w2.heap.size = L at *
    rw [← hw3] at HS2 ⊢
    clear hw3 hLL
    have k3 := hid HS2.out.same
    have l4 : w3.cell? ⟨L, 4, none⟩ = some (fnV 73) := HS2.out.cell 0 rfl 4
    have m0 : w3.cell? ⟨M, 0, none⟩ = some (.int .i64 5) := HS2.out.cell 5 rfl 0
    have m1 : w3.cell? ⟨M, 1, none⟩ = some (.int .i64 a) := HS2.out.cell 5 rfl 1
    have m2 : w3.cell? ⟨M, 2, none⟩ = some (.int .i64 b) := HS2.out.cell 5 rfl 2
    have m3 : w3.cell? ⟨M, 3, none⟩ = some (.int .i64 x) := HS2.out.cell 5 rfl 3
    have m4 : w3.cell? ⟨M, 4, none⟩ = some (.int .i64 y) := HS2.out.cell 5 rfl 4
    have hq := sumT_any (d := ⟨5, a, b, x, y⟩) (hE.out.kept k3.out) HF.out
    have HQ := hid hq
    have hq2 : Calls Tryz.prog 73 #[.int .i64 base, .int .i64 n, .agg #[.int .i64 5, .int .i64 a, .int .i64 b, .int .i64 x, .int .i64 y]] w3 _ := HQ.out
    clear HQ hq HS2 HS1 hfit
    try simp only at hq2
    generalize bs (fillM sumT [base, base + n]) = tt at hq2 HCAT z1 z2
    have HPP := hid (fun W k => HP.out W (k3.out.trans k (fun _ _ f => f)))
    rw [← HCAT.out] at HPP
    clear HP HCAT
    go_wp2_with (first | (go_at_call 73; refine hq2.mono ?_; rintro e w5 ⟨rfl, k5⟩; have hp := HPP.out _ k5; clear hq2 l4 m0 m1 m2 m3 m4) | (go_at_call 34; refine hp.mono ?_; rintro e w6 ⟨lv, rfl, s6⟩; have HS6 := hid s6; clear s6 hp HPP))
    exact HD.out _ _ _ rfl (HS6.out.base (k3.out.trans k5 (fun _ _ f => f)))
  · have HD : Hid (∀ e w', e = .returned (.tuple #[.slice none 0 0, .int .i64 170]) → Kept (fun _ => False) w w' → CodeE base n ⟨5, a, b, x, y⟩ w e w') := fun e w' h1 h2 => by
      unfold CodeE
      rw [if_neg hok]
      exact ⟨h1, h2⟩
    have ht : mayD n ⟨5, a, b, x, y⟩ = false ∨ (mayD n ⟨5, a, b, x, y⟩ = true ∧ fitsM base n 256 = false) := by
      unfold okC at hok
      cases hm : mayD n ⟨5, a, b, x, y⟩ with
      | false => exact .inl rfl
      | true => exact .inr ⟨rfl, by rw [hm] at hok; simpa using hok⟩
    generalize CodeE base n ⟨5, a, b, x, y⟩ w = Q at *
    generalize mayD n ⟨5, a, b, x, y⟩ = mm at *
    generalize fitsM base n 256 = ff at *
    generalize e1 : w.alloc (.cells #[.int .i64 5, .int .i64 a, .int .i64 b, .int .i64 x, .int .i64 y] 40) = w1 at *
    generalize eM : w.heap.size = M at *
    have c0 : w1.cell? ⟨M, 0, none⟩ = some (.int .i64 5) := s1.cell 0 rfl 0
    have c1 : w1.cell? ⟨M, 1, none⟩ = some (.int .i64 a) := s1.cell 0 rfl 1
    have c2 : w1.cell? ⟨M, 2, none⟩ = some (.int .i64 b) := s1.cell 0 rfl 2
    have c3 : w1.cell? ⟨M, 3, none⟩ = some (.int .i64 x) := s1.cell 0 rfl 3
    have c4 : w1.cell? ⟨M, 4, none⟩ = some (.int .i64 y) := s1.cell 0 rfl 4
    have HK := hid s1.same
    clear hr s1 hok hroom
    rcases ht with rfl | ⟨rfl, rfl⟩
    · go_enter Tryz.func23, Tryz.ntmps23
      go_wp2_with (first | simp only [e1, eM] | (go_at_call 33; refine hr1.mono ?_; rintro e w2 ⟨B1, B2, B3, B4, rfl, s2⟩; have k2 := hid s2.same; clear s2 hr1 e1 eM c0 c1 c2 c3 c4))
      exact HD.out _ _ rfl ((HK.out.trans k2.out (fun _ _ f => f)).alloc _)
    · go_enter Tryz.func23, Tryz.ntmps23
      go_wp2_with (first | simp only [e1, eM] | (go_at_call 33; refine hr1.mono ?_; rintro e w2 ⟨B1, B2, B3, B4, rfl, s2⟩; have k2 := hid s2.same; clear s2 hr1 e1 eM c0 c1 c2 c3 c4) | (go_at_call 31; refine (hfit _).mono ?_; rintro e w' ⟨rfl, rfl⟩))
      exact HD.out _ _ rfl ((HK.out.trans k2.out (fun _ _ f => f)).alloc _)
theorem Code_any (base n : Int) (d : Dd) (w : World) (hE : Env w) : Calls Tryz.prog 23 #[.int .i64 base, .int .i64 n, d.val] w (CodeE base n d w) := by
  by_cases hr : 0 < roomM n
  · by_cases h1 : d.op < 1 ∨ 5 < d.op
    · exact Code_0 (.inr h1)
    · have h2 : d.op = 1 ∨ d.op = 2 ∨ d.op = 3 ∨ d.op = 4 ∨ d.op = 5 := by omega
      rcases h2 with e | e | e | e | e
      · exact Code_1 hr e hE
      · exact Code_2 hr e hE
      · exact Code_3 hr e hE
      · exact Code_4 hr e hE
      · exact Code_5 hr e hE
  · exact Code_0 (.inl hr)
end
end Go.Proofs.YtmoekoilcdkhfaaGreatDoor
