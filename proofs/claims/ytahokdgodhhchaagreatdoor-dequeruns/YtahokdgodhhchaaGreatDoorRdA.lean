/- The document's Do. -/
import Derived.Test.YtahokdgodhhchaaGreatDoorDqL
namespace Go.Proofs.YtahokdgodhhchaaGreatDoor
open Go.RowKit
set_option linter.unusedVariables false
set_option linter.unusedSimpArgs false
attribute [local go_sem ↓] Go.wp_at_zero Go.wp_at_succ

/-- A list in memory, with its capacity. -/
def XV (w : World) (va : Option Addr) (n vc : Nat) (zs : List Int) : Prop := XIn w va n zs ∧ (va = none → n = 0 ∧ vc = 0) ∧ n ≤ vc
theorem XV.kept {w w' : World} {va : Option Addr} {n vc : Nat} {zs : List Int} (h : XV w va n vc zs) (k : Kept (fun _ => False) w w') : XV w' va n vc zs := ⟨h.1.kept k, h.2⟩
theorem xv_own {w : World} {v : Value} {zs : List Int} (h : w.ownsRow 0 2 1 v zs.length (xC zs)) : ∃ va vc, v = .slice va zs.length vc ∧ XV w va zs.length vc zs ∧ Adr va zs.length vc := by
  have hh := h
  obtain ⟨va, vc, e, hx, hc, hn⟩ := own_xin h
  refine ⟨va, vc, e, ⟨hx, hn, hc⟩, ?_⟩
  subst e
  cases va with
  | none => exact .inl ⟨rfl, hn rfl⟩
  | some ad =>
    rcases hh.2 with ⟨e, _⟩ | ⟨g, cap, cur, e, _⟩
    · cases e
    · simp only [Value.slice.injEq] at e
      exact .inr ⟨g, 0, e.1⟩
theorem xv_made {W : World} (zs : List Int) : XV (W.alloc (.cells (xC zs).toArray 2)) (some ⟨W.heap.size, 0, none⟩) zs.length zs.length zs := ⟨xin_made zs, fun e => (by cases e), Nat.le_refl _⟩
/-- How the document's Do ends. -/
def rDoE (l : List Int) (n : Int) (d : Dd) (w : World) (e : Ending) (w' : World) : Prop :=
  if okS l n d = true then ∃ va vc ta tc, e = .returned (.tuple #[.slice va (doS l n d).1.length vc, .slice ta (doS l n d).2.length tc, .bool true]) ∧ XV w' va (doS l n d).1.length vc (doS l n d).1 ∧ XV w' ta (doS l n d).2.length tc (doS l n d).2 ∧ Kept (fun _ => False) w w'
  else e = .returned (.tuple #[.slice none 0 0, .slice none 0 0, .bool false]) ∧ Kept (fun _ => False) w w'
set_option maxRecDepth 100000 in
set_option maxHeartbeats 8000000 in
theorem rDo_any (la : Option Addr) (m lc : Nat) (l : List Int) (n : Int) (d : Dd) (w : World) (hX : XIn w la m l) (hnil : la = none → m = 0 ∧ lc = 0) : Calls Tryz.prog 22 #[.slice la m lc, .int .i64 n, d.val] w (rDoE l n d w) := by
  have hml := hX.1
  have hR := fun W => rRoom_any n W
  have hB := fun W => rMay_any n d W
  obtain ⟨op, a, b, x, y⟩ := d
  have s1 := (St.nil w).box #[.int .i64 op, .int .i64 a, .int .i64 b, .int .i64 x, .int .i64 y] 40
  have HN : Hid (okS l n ⟨op, a, b, x, y⟩ = false → ∀ w', Kept (fun _ => False) w w' → rDoE l n ⟨op, a, b, x, y⟩ w (.returned (.tuple #[.slice none 0 0, .slice none 0 0, .bool false])) w') := hid (fun h w' k => by
    unfold rDoE
    rw [if_neg (by rw [h]; decide)]
    exact ⟨rfl, k⟩)
  have HY : Hid (okS l n ⟨op, a, b, x, y⟩ = true → ∀ va vc ta tc n1 n2 w' r1 r2, doS l n ⟨op, a, b, x, y⟩ = (r1, r2) → XV w' va n1 vc r1 → XV w' ta n2 tc r2 → Kept (fun _ => False) w w' → rDoE l n ⟨op, a, b, x, y⟩ w (.returned (.tuple #[.slice va n1 vc, .slice ta n2 tc, .bool true])) w') := hid (fun h va vc ta tc n1 n2 w' r1 r2 hr h1 h2 k => by
    unfold rDoE
    rw [if_pos h, hr]
    obtain rfl := h1.1.1
    obtain rfl := h2.1.1
    exact ⟨va, vc, ta, tc, rfl, h1, h2, k⟩)
  unfold Dd.val at hB ⊢
  simp only at hB ⊢
  have HM : Hid (mayS ⟨op, a, b, x, y⟩ = mayS ⟨op, a, b, x, y⟩) := hid rfl
  generalize hmay : mayS ⟨op, a, b, x, y⟩ = mm at *
  generalize e1 : w.alloc (.cells #[.int .i64 op, .int .i64 a, .int .i64 b, .int .i64 x, .int .i64 y] 40) = w1 at *
  generalize eM : w.heap.size = M at *
  have c0 : w1.cell? ⟨M, 0, none⟩ = some (.int .i64 op) := s1.cell 0 rfl 0
  have c1 : w1.cell? ⟨M, 1, none⟩ = some (.int .i64 a) := s1.cell 0 rfl 1
  have c2 : w1.cell? ⟨M, 2, none⟩ = some (.int .i64 b) := s1.cell 0 rfl 2
  have c3 : w1.cell? ⟨M, 3, none⟩ = some (.int .i64 x) := s1.cell 0 rfl 3
  have c4 : w1.cell? ⟨M, 4, none⟩ = some (.int .i64 y) := s1.cell 0 rfl 4
  have HS1 := hid s1
  have HX := hid hX
  have HML := hid hml
  have HNil := hid hnil
  have hr0 : 0 ≤ roomS n := (roomS_le n).1
  have HOK : Hid (okS l n ⟨op, a, b, x, y⟩ = (decide (0 < roomS n) && (decide ((l.length : Int) ≤ n) && mm))) := hid (by unfold okS; rw [hmay])
  have HRP : Hid (0 < roomS n → n ≤ 100) := hid (fun h => (roomS_pos h).2.1)
  have HOp : Hid (mm = true → op = 1 ∨ op = 2 ∨ op = 3 ∨ op = 4 ∨ op = 5) := hid (fun h => may_op (d := ⟨op, a, b, x, y⟩) (by rw [hmay]; exact h))
  clear hX hml hnil s1 hmay HM
  generalize rDoE l n ⟨op, a, b, x, y⟩ w = QQ at *
  generalize roomS n = r at *
  by_cases h0 : 0 < r
  case neg =>
    have hok : okS l n ⟨op, a, b, x, y⟩ = false := by rw [HOK.out]; simp [h0]
    have HQ := hid (HN.out hok)
    have t0 : (r == 0) = true := by simp; omega
    clear hok HOK HN HY h0 HRP
    go_enter Tryz.func22, Tryz.ntmps22
    go_wp2_with (first | simp only [e1, eM] | (go_at_call 24; refine (hB _).mono ?_; rintro e w2 ⟨rfl, k2⟩) | (go_at_call 12; refine (hR _).mono ?_; rintro e w' ⟨rfl, rfl⟩))
    go_ret3
    exact HQ.out _ (HS1.out.calm k2).same
  have t0 : (r == 0) = false := by simp; omega
  by_cases h1 : (m : Int) ≤ n
  case neg =>
    have hok : okS l n ⟨op, a, b, x, y⟩ = false := by rw [HOK.out]; have := HML.out; simp; omega
    have HQ := hid (HN.out hok)
    have t1 : decide (n < (m : Int)) = true := by simp; omega
    clear hok HOK HN HY h0 h1 HRP
    go_enter Tryz.func22, Tryz.ntmps22
    go_wp2_with (first | simp only [e1, eM] | (go_at_call 24; refine (hB _).mono ?_; rintro e w2 ⟨rfl, k2⟩) | (go_at_call 12; refine (hR _).mono ?_; rintro e w' ⟨rfl, rfl⟩))
    go_ret3
    exact HQ.out _ (HS1.out.calm k2).same
  have t1 : decide (n < (m : Int)) = false := by simp; omega
  cases mm with
  | false =>
    have hok : okS l n ⟨op, a, b, x, y⟩ = false := by rw [HOK.out]; simp
    have HQ := hid (HN.out hok)
    clear hok HOK HN HY h0 h1 HRP
    go_enter Tryz.func22, Tryz.ntmps22
    go_wp2_with (first | simp only [e1, eM] | (go_at_call 24; refine (hB _).mono ?_; rintro e w2 ⟨rfl, k2⟩) | (go_at_call 12; refine (hR _).mono ?_; rintro e w' ⟨rfl, rfl⟩))
    go_ret3
    exact HQ.out _ (HS1.out.calm k2).same
  | true =>
  have hm6 : m ≤ 100 := by have := HRP.out h0; omega
  have hok : okS l n ⟨op, a, b, x, y⟩ = true := by rw [HOK.out]; have := HML.out; simp; omega
  have HQ := hid (HY.out hok)
  have ho := HOp.out rfl
  have hbx0 := fun W => buildX0 W
  have hb1 := fun W x => buildX1 W x
  have hb2 := fun W x y => buildX2 W x y
  have HL0 := hid (fun (W : World) (k : Kept (fun _ => False) w1 W) => lst_new (HS1.out.calm k) [] (Nat.zero_le _))
  clear hok HOK HN HY h0 HRP HOp
  rcases ho with rfl | rfl | rfl | rfl | rfl
  · by_cases hn : (m : Int) = n
    · have t3 : ((m : Int) == n) = true := by simpa using hn
      have HD : Hid (doS l n ⟨1, a, b, x, y⟩ = (l, [0])) := hid (by unfold doS; have := HML.out; simp; omega)
      clear hn
      go_enter Tryz.func22, Tryz.ntmps22
      go_upto_region 5 with (first | simp only [e1, eM] | (go_at_call 24; refine (hB _).mono ?_; rintro e w2 ⟨rfl, k2⟩) | (go_at_call 12; refine (hR _).mono ?_; rintro e w' ⟨rfl, rfl⟩) | simp only [hbx0] | (at_builtin; refine wpList_app_st (HL0.out _ k2) rfl _ _ rfl rfl la _ lc rfl (HX.out.kept ((HS1.out.calm k2).alloc _).same) HNil.out (by have := HML.out; simp; omega) ?_; intro v5 w5 s5; have HS5 := hid s5; clear s5))
      have h5 := HS5.out
      rw [List.nil_append] at h5
      obtain ⟨va, vc, hv, hxv, had⟩ := xv_own (show w5.ownsRow 0 2 1 v5 l.length (xC l) from h5.get 0 rfl)
      rw [← HML.out] at hv hxv had
      subst hv
      have d0 : w5.cell? ⟨M, 0, none⟩ = some (.int .i64 1) := h5.cell 1 rfl 0
      have d3 : w5.cell? ⟨M, 3, none⟩ = some (.int .i64 x) := h5.cell 1 rfl 3
      have HXV := hid hxv
      have HK := hid h5.same
      have HH := hid h5
      have HA := hid had
      clear hxv h5 HS5 c0 c1 c2 c3 c4 k2 HL0 HS1 had
      go_wp2_with (simp only [hb1])
      go_ret3
      exact HQ.out _ _ _ _ _ _ _ _ _ (HD.out) (HXV.out.kept (kept_alloc _ _)) (xv_made [0]) (HK.out.trans (kept_alloc _ _) (fun _ _ f => f))
    · have t3 : ((m : Int) == n) = false := by simpa using hn
      have HD : Hid (doS l n ⟨1, a, b, x, y⟩ = (l ++ [x], [1])) := hid (by unfold doS; have := HML.out; simp; omega)
      clear hn
      go_enter Tryz.func22, Tryz.ntmps22
      go_upto_region 5 with (first | simp only [e1, eM] | (go_at_call 24; refine (hB _).mono ?_; rintro e w2 ⟨rfl, k2⟩) | (go_at_call 12; refine (hR _).mono ?_; rintro e w' ⟨rfl, rfl⟩) | simp only [hbx0] | (at_builtin; refine wpList_app_st (HL0.out _ k2) rfl _ _ rfl rfl la _ lc rfl (HX.out.kept ((HS1.out.calm k2).alloc _).same) HNil.out (by have := HML.out; simp; omega) ?_; intro v5 w5 s5; have HS5 := hid s5; clear s5))
      have h5 := HS5.out
      rw [List.nil_append] at h5
      obtain ⟨va, vc, hv, hxv, had⟩ := xv_own (show w5.ownsRow 0 2 1 v5 l.length (xC l) from h5.get 0 rfl)
      rw [← HML.out] at hv hxv had
      subst hv
      have d0 : w5.cell? ⟨M, 0, none⟩ = some (.int .i64 1) := h5.cell 1 rfl 0
      have d3 : w5.cell? ⟨M, 3, none⟩ = some (.int .i64 x) := h5.cell 1 rfl 3
      have HXV := hid hxv
      have HK := hid h5.same
      have HH := hid h5
      have HA := hid had
      clear hxv h5 HS5 c0 c1 c2 c3 c4 k2 HL0 HS1 had
      have HS6 : Hid (∀ z, St w (lstI (.slice va m vc) l :: lstI (.slice (some ⟨w5.heap.size, 0, none⟩) 1 1) [z] :: [boxI M #[.int .i64 1, .int .i64 a, .int .i64 b, .int .i64 x, .int .i64 y] 40]) (w5.alloc (.cells #[.int .i64 z] 2))) := hid (fun z => lst_under HH.out z)
      go_wp2_with (first | simp only [hb1] | (at_builtin; refine wpList_app_st (HS6.out x) rfl _ _ rfl rfl (some ⟨w5.heap.size, 0, none⟩) 1 1 rfl (zs := [x]) (st_xin (HS6.out x) 1 rfl rfl) (fun e => by cases e) (by have := HML.out; simp; omega) ?_; intro v6 w6 s6; obtain ⟨va6, vc6, hv6, hx6, -⟩ := xv_own (show w6.ownsRow 0 2 1 v6 (l ++ [x]).length (xC (l ++ [x])) from s6.get 0 rfl); have HK6 := hid s6.same; have HX6 := hid hx6; subst hv6; clear s6 hx6))
      go_ret3
      exact HQ.out _ _ _ _ _ _ _ _ _ HD.out (by simpa only [List.length_append, List.length_cons, List.length_nil, Nat.zero_add] using HX6.out.kept (kept_alloc _ _)) (xv_made [1]) (HK6.out.trans (kept_alloc _ _) (fun _ _ f => f))
  · by_cases hn : (m : Int) = n
    · have t3 : ((m : Int) == n) = true := by simpa using hn
      have HD : Hid (doS l n ⟨2, a, b, x, y⟩ = (l, [0])) := hid (by unfold doS; have := HML.out; simp; omega)
      clear hn
      go_enter Tryz.func22, Tryz.ntmps22
      go_upto_region 5 with (first | simp only [e1, eM] | (go_at_call 24; refine (hB _).mono ?_; rintro e w2 ⟨rfl, k2⟩) | (go_at_call 12; refine (hR _).mono ?_; rintro e w' ⟨rfl, rfl⟩) | simp only [hbx0] | (at_builtin; refine wpList_app_st (HL0.out _ k2) rfl _ _ rfl rfl la _ lc rfl (HX.out.kept ((HS1.out.calm k2).alloc _).same) HNil.out (by have := HML.out; simp; omega) ?_; intro v5 w5 s5; have HS5 := hid s5; clear s5))
      have h5 := HS5.out
      rw [List.nil_append] at h5
      obtain ⟨va, vc, hv, hxv, had⟩ := xv_own (show w5.ownsRow 0 2 1 v5 l.length (xC l) from h5.get 0 rfl)
      rw [← HML.out] at hv hxv had
      subst hv
      have d0 : w5.cell? ⟨M, 0, none⟩ = some (.int .i64 2) := h5.cell 1 rfl 0
      have d3 : w5.cell? ⟨M, 3, none⟩ = some (.int .i64 x) := h5.cell 1 rfl 3
      have HXV := hid hxv
      have HK := hid h5.same
      have HH := hid h5
      have HA := hid had
      clear hxv h5 HS5 c0 c1 c2 c3 c4 k2 HL0 HS1 had
      go_wp2_with (simp only [hb1])
      go_ret3
      exact HQ.out _ _ _ _ _ _ _ _ _ (HD.out) (HXV.out.kept (kept_alloc _ _)) (xv_made [0]) (HK.out.trans (kept_alloc _ _) (fun _ _ f => f))
    · have t3 : ((m : Int) == n) = false := by simpa using hn
      have HD : Hid (doS l n ⟨2, a, b, x, y⟩ = (x :: l, [1])) := hid (by unfold doS; have := HML.out; simp; omega)
      clear hn
      go_enter Tryz.func22, Tryz.ntmps22
      go_upto_region 5 with (first | simp only [e1, eM] | (go_at_call 24; refine (hB _).mono ?_; rintro e w2 ⟨rfl, k2⟩) | (go_at_call 12; refine (hR _).mono ?_; rintro e w' ⟨rfl, rfl⟩) | simp only [hbx0] | (at_builtin; refine wpList_app_st (HL0.out _ k2) rfl _ _ rfl rfl la _ lc rfl (HX.out.kept ((HS1.out.calm k2).alloc _).same) HNil.out (by have := HML.out; simp; omega) ?_; intro v5 w5 s5; have HS5 := hid s5; clear s5))
      have h5 := HS5.out
      rw [List.nil_append] at h5
      obtain ⟨va, vc, hv, hxv, had⟩ := xv_own (show w5.ownsRow 0 2 1 v5 l.length (xC l) from h5.get 0 rfl)
      rw [← HML.out] at hv hxv had
      subst hv
      have d0 : w5.cell? ⟨M, 0, none⟩ = some (.int .i64 2) := h5.cell 1 rfl 0
      have d3 : w5.cell? ⟨M, 3, none⟩ = some (.int .i64 x) := h5.cell 1 rfl 3
      have HXV := hid hxv
      have HK := hid h5.same
      have HH := hid h5
      have HA := hid had
      clear hxv h5 HS5 c0 c1 c2 c3 c4 k2 HL0 HS1 had
      have HS6 : Hid (∀ z, St w (lstI (.slice (some ⟨w5.heap.size, 0, none⟩) 1 1) [z] :: lstI (.slice va m vc) l :: [boxI M #[.int .i64 2, .int .i64 a, .int .i64 b, .int .i64 x, .int .i64 y] 40]) (w5.alloc (.cells #[.int .i64 z] 2))) := hid (fun z => lst_new HH.out [z] (by unfold maxLen; simp))
      go_wp2_with (first | simp only [hb1] | (at_builtin; refine wpList_app_st (HS6.out x) rfl _ _ rfl rfl va m vc rfl (zs := l) (HXV.out.1.kept (kept_alloc _ _)) HXV.out.2.1 (by have := HML.out; simp; omega) ?_; intro v6 w6 s6; obtain ⟨va6, vc6, hv6, hx6, -⟩ := xv_own (show w6.ownsRow 0 2 1 v6 ([x] ++ l).length (xC ([x] ++ l)) from s6.get 0 rfl); have HK6 := hid s6.same; have HX6 := hid hx6; subst hv6; clear s6 hx6))
      go_ret3
      exact HQ.out _ _ _ _ _ _ _ _ _ HD.out (HX6.out.kept (kept_alloc _ _)) (xv_made [1]) (HK6.out.trans (kept_alloc _ _) (fun _ _ f => f))
  · by_cases hn : m = 0
    · have t3 : ((m : Int) == 0) = true := by simpa using hn
      have HD : Hid (doS l n ⟨3, a, b, x, y⟩ = (l, [0])) := hid (by unfold doS; have h9 : l = [] := List.length_eq_zero_iff.1 (by rw [← HML.out]; exact hn); simp [h9])
      clear hn
      go_enter Tryz.func22, Tryz.ntmps22
      go_upto_region 5 with (first | simp only [e1, eM] | (go_at_call 24; refine (hB _).mono ?_; rintro e w2 ⟨rfl, k2⟩) | (go_at_call 12; refine (hR _).mono ?_; rintro e w' ⟨rfl, rfl⟩) | simp only [hbx0] | (at_builtin; refine wpList_app_st (HL0.out _ k2) rfl _ _ rfl rfl la _ lc rfl (HX.out.kept ((HS1.out.calm k2).alloc _).same) HNil.out (by have := HML.out; simp; omega) ?_; intro v5 w5 s5; have HS5 := hid s5; clear s5))
      have h5 := HS5.out
      rw [List.nil_append] at h5
      obtain ⟨va, vc, hv, hxv, had⟩ := xv_own (show w5.ownsRow 0 2 1 v5 l.length (xC l) from h5.get 0 rfl)
      rw [← HML.out] at hv hxv had
      subst hv
      have d0 : w5.cell? ⟨M, 0, none⟩ = some (.int .i64 3) := h5.cell 1 rfl 0
      have d3 : w5.cell? ⟨M, 3, none⟩ = some (.int .i64 x) := h5.cell 1 rfl 3
      have HXV := hid hxv
      have HK := hid h5.same
      have HH := hid h5
      have HA := hid had
      clear hxv h5 HS5 c0 c1 c2 c3 c4 k2 HL0 HS1 had
      go_wp2_with (simp only [hb1])
      go_ret3
      exact HQ.out _ _ _ _ _ _ _ _ _ (HD.out) (HXV.out.kept (kept_alloc _ _)) (xv_made [0]) (HK.out.trans (kept_alloc _ _) (fun _ _ f => f))
    · obtain ⟨q, rfl⟩ : ∃ q, m = q + 1 := ⟨m - 1, by omega⟩
      have HD : Hid (doS l n ⟨3, a, b, x, y⟩ = (l.take q, [1, l.getD q 0])) := hid (by unfold doS; have h9 : ¬ l = [] := (fun e => by have := HML.out; rw [e] at this; simp at this); have h8 : l.length - 1 = q := (by have := HML.out; omega); simp [h9, h8])
      have t3 : (((q + 1 : Nat) : Int) == 0) = false := by simp; omega
      clear hn
      go_enter Tryz.func22, Tryz.ntmps22
      go_upto_region 5 with (first | simp only [e1, eM] | (go_at_call 24; refine (hB _).mono ?_; rintro e w2 ⟨rfl, k2⟩) | (go_at_call 12; refine (hR _).mono ?_; rintro e w' ⟨rfl, rfl⟩) | simp only [hbx0] | (at_builtin; refine wpList_app_st (HL0.out _ k2) rfl _ _ rfl rfl la _ lc rfl (HX.out.kept ((HS1.out.calm k2).alloc _).same) HNil.out (by have := HML.out; simp; omega) ?_; intro v5 w5 s5; have HS5 := hid s5; clear s5))
      have h5 := HS5.out
      rw [List.nil_append] at h5
      obtain ⟨va, vc, hv, hxv, had⟩ := xv_own (show w5.ownsRow 0 2 1 v5 l.length (xC l) from h5.get 0 rfl)
      rw [← HML.out] at hv hxv had
      subst hv
      have d0 : w5.cell? ⟨M, 0, none⟩ = some (.int .i64 3) := h5.cell 1 rfl 0
      have d3 : w5.cell? ⟨M, 3, none⟩ = some (.int .i64 x) := h5.cell 1 rfl 3
      have HXV := hid hxv
      have HK := hid h5.same
      have HH := hid h5
      have HA := hid had
      clear hxv h5 HS5 c0 c1 c2 c3 c4 k2 HL0 HS1 had
      have m1 : ((q + 1 : Nat) : Int) - 1 = (q : Int) := by omega
      have m3 : IntKind.i64.wrap (q : Int) = (q : Int) := by rw [IntKind.wrap_i64]; omega
      have m4 : IntKind.i64.wrap (((q + 1 : Nat) : Int) - 1) = (q : Int) := by rw [IntKind.wrap_i64]; omega
      have m6 : (q : Int) < ((q + 1 : Nat) : Int) := by omega
      have m7 : (0 : Int) ≤ (q : Int) := by omega
      obtain ⟨g, o, rfl⟩ := HXV.out.1.addr (by omega)
      have hto := fun W => cutTo HA.out q (by omega) HXV.out.2.2 (q : Int) rfl W
      have c9 : w5.drew.cell? ⟨g, o + q, none⟩ = some (.int .i64 (l.getD q 0)) := HXV.out.1.cell (j := q) (by omega)
      have HX6 : Hid (XV w5 (some ⟨g, o, none⟩) q vc (l.take q)) := hid ⟨cutTo_x HA.out (by omega) HXV.out.1, fun e => (by cases e), by have := HXV.out.2.2; omega⟩
      generalize l.getD q 0 = lv at *
      generalize hQ1 : q + 1 = Q at *
      go_upto_region 16 with fail
      go_region_with (first | simp only [hto] | simp only [hb2])
      go_wp2
      go_ret3
      exact HQ.out _ _ _ _ _ _ _ _ _ HD.out (HX6.out.kept ((kept_alloc _ _).drew)) ((xv_made [1, lv]).kept (kept_drew _)) (HK.out.trans ((kept_alloc _ _).drew) (fun _ _ f => f))
  · by_cases hn : m = 0
    · have t3 : ((m : Int) == 0) = true := by simpa using hn
      have HD : Hid (doS l n ⟨4, a, b, x, y⟩ = (l, [0])) := hid (by unfold doS; have h9 : l = [] := List.length_eq_zero_iff.1 (by rw [← HML.out]; exact hn); simp [h9])
      clear hn
      go_enter Tryz.func22, Tryz.ntmps22
      go_upto_region 5 with (first | simp only [e1, eM] | (go_at_call 24; refine (hB _).mono ?_; rintro e w2 ⟨rfl, k2⟩) | (go_at_call 12; refine (hR _).mono ?_; rintro e w' ⟨rfl, rfl⟩) | simp only [hbx0] | (at_builtin; refine wpList_app_st (HL0.out _ k2) rfl _ _ rfl rfl la _ lc rfl (HX.out.kept ((HS1.out.calm k2).alloc _).same) HNil.out (by have := HML.out; simp; omega) ?_; intro v5 w5 s5; have HS5 := hid s5; clear s5))
      have h5 := HS5.out
      rw [List.nil_append] at h5
      obtain ⟨va, vc, hv, hxv, had⟩ := xv_own (show w5.ownsRow 0 2 1 v5 l.length (xC l) from h5.get 0 rfl)
      rw [← HML.out] at hv hxv had
      subst hv
      have d0 : w5.cell? ⟨M, 0, none⟩ = some (.int .i64 4) := h5.cell 1 rfl 0
      have d3 : w5.cell? ⟨M, 3, none⟩ = some (.int .i64 x) := h5.cell 1 rfl 3
      have HXV := hid hxv
      have HK := hid h5.same
      have HH := hid h5
      have HA := hid had
      clear hxv h5 HS5 c0 c1 c2 c3 c4 k2 HL0 HS1 had
      go_wp2_with (simp only [hb1])
      go_ret3
      exact HQ.out _ _ _ _ _ _ _ _ _ (HD.out) (HXV.out.kept (kept_alloc _ _)) (xv_made [0]) (HK.out.trans (kept_alloc _ _) (fun _ _ f => f))
    · obtain ⟨q, rfl⟩ : ∃ q, m = q + 1 := ⟨m - 1, by omega⟩
      have HD : Hid (doS l n ⟨4, a, b, x, y⟩ = (l.drop 1, [1, l.getD 0 0])) := hid (by unfold doS; have h9 : ¬ l = [] := (fun e => by have := HML.out; rw [e] at this; simp at this); simp [h9])
      have t3 : (((q + 1 : Nat) : Int) == 0) = false := by simp; omega
      clear hn
      go_enter Tryz.func22, Tryz.ntmps22
      go_upto_region 5 with (first | simp only [e1, eM] | (go_at_call 24; refine (hB _).mono ?_; rintro e w2 ⟨rfl, k2⟩) | (go_at_call 12; refine (hR _).mono ?_; rintro e w' ⟨rfl, rfl⟩) | simp only [hbx0] | (at_builtin; refine wpList_app_st (HL0.out _ k2) rfl _ _ rfl rfl la _ lc rfl (HX.out.kept ((HS1.out.calm k2).alloc _).same) HNil.out (by have := HML.out; simp; omega) ?_; intro v5 w5 s5; have HS5 := hid s5; clear s5))
      have h5 := HS5.out
      rw [List.nil_append] at h5
      obtain ⟨va, vc, hv, hxv, had⟩ := xv_own (show w5.ownsRow 0 2 1 v5 l.length (xC l) from h5.get 0 rfl)
      rw [← HML.out] at hv hxv had
      subst hv
      have d0 : w5.cell? ⟨M, 0, none⟩ = some (.int .i64 4) := h5.cell 1 rfl 0
      have d3 : w5.cell? ⟨M, 3, none⟩ = some (.int .i64 x) := h5.cell 1 rfl 3
      have HXV := hid hxv
      have HK := hid h5.same
      have HH := hid h5
      have HA := hid had
      clear hxv h5 HS5 c0 c1 c2 c3 c4 k2 HL0 HS1 had
      obtain ⟨z, hz⟩ : ∃ z : Nat, z = 1 := ⟨1, rfl⟩
      have HZ : Hid (Value.int .i64 1 = Value.int .i64 (z : Int)) := hid (by rw [hz]; rfl)
      obtain ⟨g, o, rfl⟩ := HXV.out.1.addr (by omega)
      obtain ⟨a6, hfr, hA6, hX6⟩ := cutFrom HA.out z (by omega) HXV.out.2.2 (z : Int) rfl
      have c9 : w5.drew.cell? ⟨g, o, none⟩ = some (.int .i64 (l.getD 0 0)) := HXV.out.1.cell (j := 0) (by omega)
      have HX6 : Hid (XV w5 a6 (q + 1 - z) (vc - z) (l.drop z)) := hid ⟨hX6 HXV.out.1, hA6.nil, by have := HXV.out.2.2; omega⟩
      have HD2 : Hid (doS l n ⟨4, a, b, x, y⟩ = (l.drop z, [(z : Int), l.getD 0 0])) := hid (by rw [HD.out, hz]; rfl)
      have m6 : (0 : Int) < ((q + 1 : Nat) : Int) := by omega
      clear hz hX6 HD
      generalize l.getD 0 0 = lv at *
      generalize q + 1 - z = kz at *
      generalize vc - z = cz at *
      generalize hQ1 : q + 1 = Q at *
      go_upto_region 17 with fail
      rw [HZ.out]
      go_region_with (first | simp only [hfr] | simp only [hb2])
      go_wp2
      go_ret3
      exact HQ.out _ _ _ _ _ _ _ _ _ HD2.out (HX6.out.kept ((kept_alloc _ _).drew)) ((xv_made [(z : Int), lv]).kept (kept_drew _)) (HK.out.trans ((kept_alloc _ _).drew) (fun _ _ f => f))
  · have HD : Hid (doS l n ⟨5, a, b, x, y⟩ = (l, [(m : Int)])) := hid (by unfold doS; rw [HML.out]; simp)
    go_enter Tryz.func22, Tryz.ntmps22
    go_upto_region 5 with (first | simp only [e1, eM] | (go_at_call 24; refine (hB _).mono ?_; rintro e w2 ⟨rfl, k2⟩) | (go_at_call 12; refine (hR _).mono ?_; rintro e w' ⟨rfl, rfl⟩) | simp only [hbx0] | (at_builtin; refine wpList_app_st (HL0.out _ k2) rfl _ _ rfl rfl la _ lc rfl (HX.out.kept ((HS1.out.calm k2).alloc _).same) HNil.out (by have := HML.out; simp; omega) ?_; intro v5 w5 s5; have HS5 := hid s5; clear s5))
    have h5 := HS5.out
    rw [List.nil_append] at h5
    obtain ⟨va, vc, hv, hxv, had⟩ := xv_own (show w5.ownsRow 0 2 1 v5 l.length (xC l) from h5.get 0 rfl)
    rw [← HML.out] at hv hxv had
    subst hv
    have d0 : w5.cell? ⟨M, 0, none⟩ = some (.int .i64 5) := h5.cell 1 rfl 0
    have d3 : w5.cell? ⟨M, 3, none⟩ = some (.int .i64 x) := h5.cell 1 rfl 3
    have HXV := hid hxv
    have HK := hid h5.same
    have HH := hid h5
    have HA := hid had
    clear hxv h5 HS5 c0 c1 c2 c3 c4 k2 HL0 HS1 had
    go_wp2_with (simp only [hb1])
    go_ret3
    exact HQ.out _ _ _ _ _ _ _ _ _ (HD.out) (HXV.out.kept (kept_alloc _ _)) (xv_made [(m : Int)]) (HK.out.trans (kept_alloc _ _) (fun _ _ f => f))
end Go.Proofs.YtahokdgodhhchaaGreatDoor
