/- The form of a program; DequeCodes, walked. -/
import Derived.Test.YtahokdgodhhchaaGreatDoorDqL
import Derived.Test.YtahokdgodhhchaaGreatDoorAl
import Derived.Test.YtahokdgodhhchaaGreatDoorVfF
namespace Go.Proofs.YtahokdgodhhchaaGreatDoor
open Go.RowKit
set_option linter.unusedVariables false
set_option linter.unusedSimpArgs false
attribute [local go_sem ↓] Go.wp_at_zero Go.wp_at_succ

def cnt (o : Int) (l : List Ins) : Nat := (l.filter (fun x => x.op == o)).length
theorem cnt_snoc (o : Int) (l : List Ins) (x : Ins) : cnt o (l ++ [x]) = cnt o l + (if x.op == o then 1 else 0) := by
  unfold cnt
  rw [List.filter_append, List.length_append]
  congr 1
  by_cases h : (x.op == o) = true
  · simp [h]
  · simp [Bool.eq_false_iff.2 h]
def formB (l : List Ins) : Bool := l.all (fun x => !(x.op == 20) && !(x.op == 22)) && (cnt 16 l == 1 && (cnt 19 l == 1 && (decide (1 < l.length) && (decide (l.length ≤ 100) && ((l.getD 0 Ins.zero).op == 16 && (l.getD (l.length - 1) Ins.zero).op == 19)))))
theorem code_form {v : Nat → Int} {op : Int} (h : op = 1 ∨ op = 2 ∨ op = 3 ∨ op = 4 ∨ op = 5) : formB (codeS v op) = true := by
  rcases h with rfl | rfl | rfl | rfl | rfl <;> kernel_rfl
set_option maxRecDepth 100000 in
set_option maxHeartbeats 4000000 in
theorem formed_any (la : Option Addr) (n lc : Nat) (l : List Ins) (w : World) (hI : IIn w la n l) (hf : formB l = true) :
    Calls Tryz.prog 25 #[.slice la n lc] w fun e w' => e = .returned (.bool true) ∧ Kept (fun _ => False) w w' := by
  unfold formB at hf
  simp only [Bool.and_eq_true, List.all_eq_true, beq_iff_eq, decide_eq_true_eq, Bool.not_eq_true', beq_eq_false_iff_ne, ne_eq] at hf
  obtain ⟨f1, f2, f3, f4, f5, f6, f7⟩ := hf
  have hn := hI.1
  obtain ⟨g, o, rfl⟩ := hI.addr (by omega)
  have HI := hid hI
  have HN := hid hn
  have H1 := hid f1
  have H2 := hid f2
  have H3 := hid f3
  have H6 := hid f6
  have H7 := hid f7
  have hn1 : 1 < n := by omega
  have hn2 : n ≤ 100 := by omega
  clear hI hn f1 f2 f3 f4 f5 f6 f7
  go_enter Tryz.func25, Tryz.ntmps25
  go_wp2
  go_loopw [3, 4, 5] (fun b c i wr => ∃ j : Nat, i = .int .i64 j ∧ j ≤ n ∧ b = .int .i64 (cnt 16 (l.take j) : Nat) ∧ c = .int .i64 (cnt 19 (l.take j) : Nat) ∧ Kept (fun _ => False) w wr) (fun _ _ i _ => n - (intOf i).toNat)
  case atStart => exact ⟨0, rfl, Nat.zero_le _, rfl, rfl, Kept.refl _ _⟩
  case round =>
    obtain ⟨j, rfl, hj, rfl, rfl, hk⟩ := hrel
    by_cases hlt : j < n
    · have hjl : j < l.length := by have := HN.out; omega
      have c0 := ((HI.out.kept hk).cells hjl).1
      have hx := H1.out (l.getD j Ins.zero) (by simp [List.getD_eq_getElem?_getD, hjl])
      have h0 : (0 : Int) ≤ (j : Int) := Int.natCast_nonneg _
      have h1 : (j : Int) < (n : Int) := by omega
      have HT : Hid (∀ q, cnt q (l.take (j + 1)) = cnt q (l.take j) + (if (l.getD j Ins.zero).op == q then 1 else 0)) := fun q => by
        rw [List.take_succ_eq_append_getElem hjl, cnt_snoc]
        simp [List.getD_eq_getElem?_getD, hjl]
      have hb1 : cnt 16 (l.take j) ≤ 100 := by
        have := List.length_filter_le (fun x : Ins => x.op == 16) (l.take j)
        rw [List.length_take] at this
        unfold cnt
        omega
      have hb2 : cnt 19 (l.take j) ≤ 100 := by
        have := List.length_filter_le (fun x : Ins => x.op == 19) (l.take j)
        rw [List.length_take] at this
        unfold cnt
        omega
      generalize (l.getD j Ins.zero).op = q at *
      have e1 := HT.out 16
      have e2 := HT.out 19
      have HE1 := hid e1
      have HE2 := hid e2
      clear HT e1 e2
      generalize cnt 16 (l.take j) = B at *
      generalize cnt 19 (l.take j) = C at *
      by_cases h16 : q = 16
      · subst h16
        go_wp2
        go_roundw
        case rel => exact ⟨j + 1, by simp, by omega, by rw [HE1.out]; simp, by rw [HE2.out]; simp, hk⟩
        case measure => simp [intOf]; omega
      · have t16 : (q == 16) = false := by simpa using h16
        by_cases h19 : q = 19
        · subst h19
          go_wp2
          go_roundw
          case rel => exact ⟨j + 1, by simp, by omega, by rw [HE1.out]; simp, by rw [HE2.out]; simp, hk⟩
          case measure => simp [intOf]; omega
        · have t19 : (q == 19) = false := by simpa using h19
          have t20 : (q == 20) = false := by simpa using hx.1
          have t22 : (q == 22) = false := by simpa using hx.2
          rw [t16] at HE1
          rw [t19] at HE2
          clear hx h16 h19
          go_wp2
          go_roundw
          case rel => exact ⟨j + 1, by simp, by omega, by rw [HE1.out]; simp, by rw [HE2.out]; simp, hk⟩
          case measure => simp [intOf]; omega
    · have h1 : ¬ (j : Int) < (n : Int) := by omega
      have e : l.take j = l := List.take_of_length_le (by have := HN.out; omega)
      rw [e, H2.out, H3.out]
      have c0 := ((HI.out.kept hk).cells (j := 0) (by have := HN.out; omega)).1
      have c1 := ((HI.out.kept hk).cells (j := n - 1) (by have := HN.out; omega)).1
      rw [H6.out] at c0
      simp only [Nat.zero_mul, Nat.add_zero] at c0
      have h7 := H7.out
      rw [← HN.out] at h7
      rw [h7] at c1
      obtain ⟨m, rfl⟩ : ∃ m, n = m + 1 := ⟨n - 1, by omega⟩
      simp only [Nat.add_sub_cancel] at c1
      have q1 : (m : Int) + 1 - 1 = (m : Int) := by omega
      have q6 : (1 : Int) < (m : Int) + 1 := by omega
      have q7 : (m : Int) + 1 ≤ 100 := by omega
      have q8 : (m : Int) < (m : Int) + 1 := by omega
      have q9 : decide ((1 : Int) < (m : Int) + 1) = true := by simpa using q6
      have q10 : decide ((m : Int) + 1 ≤ 100) = true := by simpa using q7
      have q2 : (1 : Int) < ((m + 1 : Nat) : Int) := by omega
      have q3 : ((m + 1 : Nat) : Int) ≤ 100 := by omega
      have q4 : (0 : Int) ≤ (m : Int) := by omega
      have q5 : (m : Int) < ((m + 1 : Nat) : Int) := by omega
      clear e h7
      go_wp2
      go_ret
      exact ⟨rfl, hk⟩
set_option maxRecDepth 100000 in
set_option maxHeartbeats 4000000 in
theorem codes_walk (base n : Int) (d : Dd) (w : World) (hE : Env w) (hx : Rg d.x) : Calls Tryz.prog 7 #[.int .i64 base, .int .i64 n, d.val] w fun e w' => e = .returned (.bool true) ∧ Kept (fun _ => False) w w' := by
  have s1 := (St.nil w).box #[.int .i64 d.op, .int .i64 d.a, .int .i64 d.b, .int .i64 d.x, .int .i64 d.y] 40
  have hA := awake_any _ (hE.kept s1.same)
  have HC : Hid (∀ W, Kept (fun _ => False) w W → Calls Tryz.prog 23 #[.int .i64 base, .int .i64 n, d.val] W (CodeE base n d W)) := fun W k => Code_any (hE.kept k) hx
  have hQ := fun W => rRoom_any n W
  have HMy := hid (fun W => rMay_any n d W)
  have hB := fun b W => codeDeque_any b W
  have HOK : Hid (okC base n d = (decide (0 < roomS n) && (mayS d && (decide (0 ≤ base) && decide (base ≤ 256 - roomS n))))) := by
    show _ = _
    unfold okC fitsS
    generalize decide (0 < roomS n) = p
    generalize mayS d = q
    generalize decide (0 ≤ base) = r
    generalize decide (base ≤ 256 - roomS n) = s
    cases p <;> cases q <;> cases r <;> cases s <;> rfl
  have HF : Hid (okC base n d = true → formB (codeS (nvD base n.toNat d.x) d.op) = true ∧ verifyM (codeS (nvD base n.toNat d.x) d.op) = (0, 0)) := fun h => by
    unfold okC at h
    rw [Bool.and_eq_true] at h
    exact ⟨code_form (may_op h.2), code_verify (may_op h.2)⟩
  have hr0 : 0 ≤ roomS n := (roomS_le n).1
  have hr1 : roomS n ≤ 102 := (roomS_le n).2
  obtain ⟨op, a, b, x, y⟩ := d
  simp only at s1 hA
  unfold Dd.val at HC HMy ⊢
  simp only at HC HMy ⊢
  generalize mayS ⟨op, a, b, x, y⟩ = mm at *
  generalize roomS n = r at *
  generalize e1 : w.alloc (.cells #[.int .i64 op, .int .i64 a, .int .i64 b, .int .i64 x, .int .i64 y] 40) = w1 at *
  generalize eM : w.heap.size = M at *
  have HS := hid s1
  clear hE s1
  go_enter Tryz.func7, Tryz.ntmps7
  go_upto_region 2 with (first | simp only [e1, eM] | (go_at_call 9; refine hA.mono ?_; rintro e w2 ⟨rfl, k2⟩; clear hA e1 eM))
  have s2 := HS.out.calm k2
  have c0 : w2.cell? ⟨M, 0, none⟩ = some (.int .i64 op) := s2.cell 0 rfl 0
  have c1 : w2.cell? ⟨M, 1, none⟩ = some (.int .i64 a) := s2.cell 0 rfl 1
  have c2 : w2.cell? ⟨M, 2, none⟩ = some (.int .i64 b) := s2.cell 0 rfl 2
  have c3 : w2.cell? ⟨M, 3, none⟩ = some (.int .i64 x) := s2.cell 0 rfl 3
  have c4 : w2.cell? ⟨M, 4, none⟩ = some (.int .i64 y) := s2.cell 0 rfl 4
  have hc := HC.out w2 s2.same
  have HS2 := hid s2
  clear HS s2 HC k2
  unfold CodeE at hc
  by_cases hok : okC base n ⟨op, a, b, x, y⟩ = true
  · have h4 := HOK.out.symm.trans hok
    simp only [Bool.and_eq_true, decide_eq_true_eq] at h4
    obtain ⟨p1, p2, p3, p4⟩ := h4
    subst p2
    have t3 : decide (0 ≤ base) = true := by simpa using p3
    have t4 : decide (base ≤ 256 - r) = true := by simpa using p4
    simp only [if_pos hok] at hc
    obtain ⟨q1, q2⟩ := HF.out hok
    have HQ1 := hid q1
    have HQ2 := hid q2
    clear hok q1 q2 HF HOK
    generalize codeS (nvD base n.toNat x) op = L at *
    go_upto_region 3 with (go_at_call 23; refine hc.mono ?_; rintro e w3 ⟨lv, rfl, s3⟩)
    obtain ⟨la, lc, rfl, hI, _⟩ := own_iin (show w3.ownsRow 0 80 2 lv L.length (insCells L) from s3.get 0 rfl)
    have s4 := HS2.out.calm s3.same
    have d0 : w3.cell? ⟨M, 0, none⟩ = some (.int .i64 op) := s4.cell 0 rfl 0
    have d1 : w3.cell? ⟨M, 1, none⟩ = some (.int .i64 a) := s4.cell 0 rfl 1
    have d2 : w3.cell? ⟨M, 2, none⟩ = some (.int .i64 b) := s4.cell 0 rfl 2
    have d3 : w3.cell? ⟨M, 3, none⟩ = some (.int .i64 x) := s4.cell 0 rfl 3
    have d4 : w3.cell? ⟨M, 4, none⟩ = some (.int .i64 y) := s4.cell 0 rfl 4
    have HK := hid s4.same
    have HI := hid hI
    have hm := HMy.out w3
    clear hc s3 hI s4 c0 c1 c2 c3 c4 HS2 HMy
    go_upto_region 12 with (first | (go_at_call 12; refine (hQ _).mono ?_; rintro e w' ⟨rfl, rfl⟩) | (go_at_call 24; refine hm.mono ?_; rintro e w4 ⟨rfl, k4⟩; clear hm) | (go_at_call 15; refine (hB _ _).mono ?_; rintro e w' ⟨rfl, rfl⟩))
    have h5 := formed_any la L.length lc L w' (HI.out.kept k4) HQ1.out
    have HV : Hid (∀ W, Kept (fun _ => False) w' W → Calls Tryz.prog 26 #[.slice la L.length lc] W fun e w' => e = .returned (.tuple #[.int .i64 0, .int .i64 0]) ∧ Kept (fun _ => False) W w') := fun W k => by
      have := Verify_any la L.length lc L W ((HI.out.kept k4).kept k)
      rw [HQ2.out] at this
      exact this
    go_upto_region 13 with (go_at_call 25; refine h5.mono ?_; rintro e w5 ⟨rfl, k5⟩)
    have h6 := HV.out w5 k5
    clear h5 HV
    go_wp2_with (go_at_call 26; refine h6.mono ?_; rintro e w6 ⟨rfl, k6⟩)
    go_ret
    exact ⟨rfl, ((HK.out.trans k4 (fun _ _ f => f)).trans k5 (fun _ _ f => f)).trans k6 (fun _ _ f => f)⟩
  · simp only [if_neg hok] at hc
    have hno := HOK.out.symm.trans (Bool.eq_false_iff.2 hok)
    clear hok HF HOK
    go_upto_region 3 with (go_at_call 23; refine hc.mono ?_; rintro e w3 ⟨rfl, k3⟩)
    have s4 := HS2.out.calm k3
    have d0 : w3.cell? ⟨M, 0, none⟩ = some (.int .i64 op) := s4.cell 0 rfl 0
    have d1 : w3.cell? ⟨M, 1, none⟩ = some (.int .i64 a) := s4.cell 0 rfl 1
    have d2 : w3.cell? ⟨M, 2, none⟩ = some (.int .i64 b) := s4.cell 0 rfl 2
    have d3 : w3.cell? ⟨M, 3, none⟩ = some (.int .i64 x) := s4.cell 0 rfl 3
    have d4 : w3.cell? ⟨M, 4, none⟩ = some (.int .i64 y) := s4.cell 0 rfl 4
    have HK := hid s4.same
    have hm := HMy.out w3
    clear hc s4 c0 c1 c2 c3 c4 HS2 HMy k3
    by_cases p1 : 0 < r
    · cases mm with
      | false =>
        clear hno
        go_wp2_with (first | (go_at_call 12; refine (hQ _).mono ?_; rintro e w' ⟨rfl, rfl⟩) | (go_at_call 24; refine hm.mono ?_; rintro e w4 ⟨rfl, k4⟩; clear hm) | (go_at_call 15; refine (hB _ _).mono ?_; rintro e w' ⟨rfl, rfl⟩))
        go_ret
        exact ⟨rfl, HK.out.trans k4 (fun _ _ f => f)⟩
      | true =>
        by_cases p2 : 0 ≤ base
        · have p3 : decide (base ≤ 256 - r) = false := by simpa [p1, p2] using hno
          have t2 : decide (0 ≤ base) = true := by simpa using p2
          clear hno
          go_wp2_with (first | (go_at_call 12; refine (hQ _).mono ?_; rintro e w' ⟨rfl, rfl⟩) | (go_at_call 24; refine hm.mono ?_; rintro e w4 ⟨rfl, k4⟩; clear hm) | (go_at_call 15; refine (hB _ _).mono ?_; rintro e w' ⟨rfl, rfl⟩))
          go_ret
          exact ⟨rfl, HK.out.trans k4 (fun _ _ f => f)⟩
        · have t2 : decide (0 ≤ base) = false := by simpa using p2
          clear hno
          go_wp2_with (first | (go_at_call 12; refine (hQ _).mono ?_; rintro e w' ⟨rfl, rfl⟩) | (go_at_call 24; refine hm.mono ?_; rintro e w4 ⟨rfl, k4⟩; clear hm) | (go_at_call 15; refine (hB _ _).mono ?_; rintro e w' ⟨rfl, rfl⟩))
          go_ret
          exact ⟨rfl, HK.out.trans k4 (fun _ _ f => f)⟩
    · clear hno
      go_wp2_with (first | (go_at_call 12; refine (hQ _).mono ?_; rintro e w' ⟨rfl, rfl⟩) | (go_at_call 15; refine (hB _ _).mono ?_; rintro e w' ⟨rfl, rfl⟩))
      go_ret
      exact ⟨rfl, HK.out⟩
end Go.Proofs.YtahokdgodhhchaaGreatDoor
