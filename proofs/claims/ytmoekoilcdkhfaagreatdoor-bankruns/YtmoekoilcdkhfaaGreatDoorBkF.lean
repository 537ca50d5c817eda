/- Package bank: Do. -/
import Derived.Test.YtmoekoilcdkhfaaGreatDoorBkE
namespace Go.Proofs.YtmoekoilcdkhfaaGreatDoor
open Go.RowKit
set_option linter.unusedVariables false
set_option linter.unusedSimpArgs false
attribute [local go_sem ↓] Go.wp_at_zero Go.wp_at_succ

theorem St.two {o w : World} {a b : It} {R : List It} (h : St o (a :: b :: R) w) : St o [a, b] w := St.left (A := [a, b]) (B := R) h
def okD (l : List Int) (n : Int) (d : Dd) : Bool := decide (0 < roomM n) && (decide ((l.length : Int) = n) && mayD n d)
/-- How Do ends. -/
def DoE (l : List Int) (n : Int) (d : Dd) (w : World) (e : Ending) (w' : World) : Prop :=
  if okD l n d = true then ∃ v t, e = .returned (.tuple #[v, t, .int .i64 0]) ∧ St w [ownI 2 1 t 1 (xC [(doM l d).2]), ownI 2 1 v l.length (xC (doM l d).1)] w'
  else e = .returned (.tuple #[.slice none 0 0, .slice none 0 0, .int .i64 170]) ∧ Kept (fun _ => False) w w'
theorem may_op {n : Int} {d : Dd} (h : mayD n d = true) : d.op = 1 ∨ d.op = 2 ∨ d.op = 3 ∨ d.op = 4 ∨ d.op = 5 := by
  unfold mayD at h
  split at h
  · omega
  · split at h
    · omega
    · split at h
      · omega
      · split at h
        · omega
        · cases h
theorem may_a {n : Int} {d : Dd} (h : mayD n d = true) (ho : d.op ≠ 5) : 0 ≤ d.a ∧ d.a ≤ n - 1 := by
  unfold mayD at h
  split at h
  · simp [fldM] at h; omega
  · split at h
    · simp [fldM] at h; omega
    · split at h
      · simp [fldM] at h; omega
      · first | cases h | (split at h <;> first | omega | cases h)
theorem may_b {n : Int} {d : Dd} (h : mayD n d = true) (ho : d.op = 3) : 0 ≤ d.b ∧ d.b ≤ n - 1 := by
  unfold mayD at h
  rw [if_neg (by omega), if_pos ho] at h
  simp [fldM] at h
  omega
theorem may_fits {base n : Int} {d : Dd} (hn0 : 1 ≤ n) (hn1 : n ≤ 64) (hb0 : 0 ≤ base) (hb1 : base ≤ 256) (h : mayD n d = true) : Fits base n d := by
  unfold mayD at h
  refine ⟨hb0, hb1, by omega, hn1, ?_, ?_, ?_, ?_, ?_, ?_⟩
  all_goals
    split at h
    · simp [fldM] at h; omega
    · split at h
      · simp [fldM] at h; omega
      · split at h
        · simp [fldM] at h; omega
        · split at h
          · simp [fldM] at h; omega
          · cases h
section
variable {w : World} {n : Int} {d : Dd} {la : Option Addr} {m lc : Nat} {l : List Int}
set_option maxRecDepth 100000 in
set_option maxHeartbeats 4000000 in
theorem Do_0 (h : ¬ 0 < roomM n ∨ d.op < 1 ∨ 5 < d.op) : Calls Tryz.prog 21 #[.slice la m lc, .int .i64 n, d.val] w (DoE l n d w) := by
  have hno : okD l n d = false := by
    unfold okD
    rcases h with h | h
    · simp [h]
    · have : mayD n d = false := by
        rw [Bool.eq_false_iff]
        intro hm
        have := may_op hm
        omega
      simp [this]
  have HD : Hid (∀ e w', e = .returned (.tuple #[.slice none 0 0, .slice none 0 0, .int .i64 170]) → Kept (fun _ => False) w w' → DoE l n d w e w') := fun e w' h1 h2 => by
    unfold DoE
    rw [if_neg (by rw [hno]; simp)]
    exact ⟨h1, h2⟩
  generalize DoE l n d w = Q at *
  have hr := fun W => rowOf_no (w := W) h
  obtain ⟨op, a, b, x, y⟩ := d
  have s1 := (St.nil w).box #[.int .i64 op, .int .i64 a, .int .i64 b, .int .i64 x, .int .i64 y] 40
  show Calls _ _ #[_, _, .agg #[.int .i64 op, .int .i64 a, .int .i64 b, .int .i64 x, .int .i64 y]] _ _
  have hr1 : Calls Tryz.prog 33 #[.int .i64 n, .agg #[.int .i64 op, .int .i64 a, .int .i64 b, .int .i64 x, .int .i64 y]] (w.alloc (.cells #[.int .i64 op, .int .i64 a, .int .i64 b, .int .i64 x, .int .i64 y] 40)) _ := hr _
  generalize e1 : w.alloc (.cells #[.int .i64 op, .int .i64 a, .int .i64 b, .int .i64 x, .int .i64 y] 40) = w1 at *
  generalize eM : w.heap.size = M at *
  have c0 : w1.cell? ⟨M, 0, none⟩ = some (.int .i64 op) := s1.cell 0 rfl 0
  have c1 : w1.cell? ⟨M, 1, none⟩ = some (.int .i64 a) := s1.cell 0 rfl 1
  have c2 : w1.cell? ⟨M, 2, none⟩ = some (.int .i64 b) := s1.cell 0 rfl 2
  have c3 : w1.cell? ⟨M, 3, none⟩ = some (.int .i64 x) := s1.cell 0 rfl 3
  have c4 : w1.cell? ⟨M, 4, none⟩ = some (.int .i64 y) := s1.cell 0 rfl 4
  have HK := hid s1.same
  clear h hno hr s1
  go_enter Tryz.func21, Tryz.ntmps21
  go_wp2_with (first | simp only [e1, eM] | (go_at_call 33; refine hr1.mono ?_; rintro e w2 ⟨rfl, k2⟩; clear hr1 e1 eM c0 c1 c2 c3 c4))
  refine bodyPost_ret (v := .tuple #[.slice none 0 0, .slice none 0 0, .int .i64 170]) (by simp [results, Tryz.results21, go_sem]) rfl ?_
  exact HD.out _ _ rfl ((HK.out.trans k2 (fun _ _ f => f)).alloc _)
set_option maxRecDepth 100000 in
set_option maxHeartbeats 8000000 in
theorem Do_1 (hroom : 0 < roomM n) (hop : d.op = 1) (hX : XIn w la m l) (h0 : la = none → m = 0 ∧ lc = 0) : Calls Tryz.prog 21 #[.slice la m lc, .int .i64 n, d.val] w (DoE l n d w) := by
  obtain ⟨op, a, b, x, y⟩ := d
  simp only at hop
  subst hop
  obtain ⟨hn1, hn2, hn3⟩ := room_pos hroom
  have hr := fun W => rowOf_1 (w := W) (d := ⟨1, a, b, x, y⟩) hroom rfl
  have s1 := (St.nil w).box #[.int .i64 1, .int .i64 a, .int .i64 b, .int .i64 x, .int .i64 y] 40
  show Calls _ _ #[_, _, .agg #[.int .i64 1, .int .i64 a, .int .i64 b, .int .i64 x, .int .i64 y]] _ _
  have hr1 : Calls Tryz.prog 33 #[.int .i64 n, .agg #[.int .i64 1, .int .i64 a, .int .i64 b, .int .i64 x, .int .i64 y]] (w.alloc (.cells #[.int .i64 1, .int .i64 a, .int .i64 b, .int .i64 x, .int .i64 y] 40)) _ := hr _
  by_cases hmay : mayD n ⟨1, a, b, x, y⟩ = true ∧ (m : Int) = n
  · obtain ⟨hmay, hmn⟩ := hmay
    have hml := hX.1
    obtain ⟨ha0, ha1⟩ := may_a hmay (by show (1 : Int) ≠ 5; decide)
    simp only at ha0 ha1
    obtain ⟨ka, hka⟩ : ∃ ka : Nat, a = (ka : Int) := ⟨a.toNat, by omega⟩
    have hkn : ka < l.length := by omega
    have HD : Hid (∀ (e : Ending) (w' : World) (v t : Value), e = .returned (.tuple #[v, t, .int .i64 0]) → St w [ownI 2 1 t 1 (xC [wrap64 (l.getD ka 0 + x)]), ownI 2 1 v m (xC (l.set ka (wrap64 (l.getD ka 0 + x))))] w' → DoE l n ⟨1, a, b, x, y⟩ w e w') := fun e w' v t h1 h2 => by
      unfold DoE okD
      rw [if_pos (by simp [hmay, hroom]; omega)]
      refine ⟨v, t, h1, ?_⟩
      have hd : doM l ⟨1, a, b, x, y⟩ = (l.set ka (wrap64 (l.getD ka 0 + x)), wrap64 (l.getD ka 0 + x)) := by
        simp only [doM, ↓reduceIte, Int.reduceEq]
        simp only [hka, Int.toNat_natCast]
        try (split <;> rfl)
      rw [hd, ← hml]
      exact h2
    rw [hmay] at hr1
    generalize DoE l n ⟨1, a, b, x, y⟩ w = Q at *
    have HC : Hid (∀ W, Kept (fun _ => False) w W → Calls Tryz.prog 32 #[.slice la m lc] W fun e w' => ∃ v, e = .returned v ∧ St W [ownI 2 1 v m (xC l)] w') := fun W k => Clone_any la m lc l W (hX.kept k) h0 (by omega)
    generalize e1 : w.alloc (.cells #[.int .i64 1, .int .i64 a, .int .i64 b, .int .i64 x, .int .i64 y] 40) = w1 at *
    generalize eM : w.heap.size = M at *
    have c0 : w1.cell? ⟨M, 0, none⟩ = some (.int .i64 1) := s1.cell 0 rfl 0
    have c1 : w1.cell? ⟨M, 1, none⟩ = some (.int .i64 a) := s1.cell 0 rfl 1
    have c2 : w1.cell? ⟨M, 2, none⟩ = some (.int .i64 b) := s1.cell 0 rfl 2
    have c3 : w1.cell? ⟨M, 3, none⟩ = some (.int .i64 x) := s1.cell 0 rfl 3
    have c4 : w1.cell? ⟨M, 4, none⟩ = some (.int .i64 y) := s1.cell 0 rfl 4
    have tn : ((m : Int) != n) = false := by simp [hmn]
    have HS1 := hid s1
    have HX := hid hX
    have HN : Hid (0 < m ∧ m = l.length) := ⟨by omega, hml⟩
    have hkn : ka < m := by omega
    have HKA := hid hka
    clear hka ha0 ha1
    clear hr s1 hX hmn hml hmay hroom hn1 hn2 hn3
    go_enter Tryz.func21, Tryz.ntmps21
    go_upto_region 4 with (first | simp only [e1, eM] | (go_at_call 33; refine hr1.mono ?_; rintro e w2 ⟨B1, B2, B3, B4, rfl, s2⟩; have HS2 := hid ((HS1.out.join s2).box #[.bool true, .bool false, .bool true, fnV 61, fnV 62] 72); clear s2 hr1 e1 eM c0 c1 c2 c3 c4))
    generalize w2.heap.size = L at *
    obtain ⟨w3, hw3⟩ : ∃ w3, w3 = w2.alloc (.cells #[.bool true, .bool false, .bool true, fnV 61, fnV 62] 72) := ⟨_, rfl⟩
    rw [← hw3] at HS2 ⊢
    clear hw3
    have hc := HC.out w3 HS2.out.same
    go_upto_region 5 with (go_at_call 32; refine hc.mono ?_; rintro e w4 ⟨v, rfl, s4⟩)
    obtain ⟨g, cap, rfl⟩ := s4.form 0 rfl HN.out.1
    have s5 : St w (rowI g m cap l :: [boxI L #[.bool true, .bool false, .bool true, fnV 61, fnV 62] 72, boxI B1 #[fnV 65] 122, boxI B2 #[fnV 67] 124, boxI B3 #[fnV 68] 122, boxI B4 #[fnV 69] 124, boxI M #[.int .i64 1, .int .i64 a, .int .i64 b, .int .i64 x, .int .i64 y] 40]) w4 := HS2.out.join s4
    clear hc s4 HC
    have l3 : w4.cell? ⟨L, 3, none⟩ = some (fnV 61) := s5.cell 1 rfl 3
    have m0 : w4.cell? ⟨M, 0, none⟩ = some (.int .i64 1) := s5.cell 6 rfl 0
    have m1 : w4.cell? ⟨M, 1, none⟩ = some (.int .i64 a) := s5.cell 6 rfl 1
    have m2 : w4.cell? ⟨M, 2, none⟩ = some (.int .i64 b) := s5.cell 6 rfl 2
    have m3 : w4.cell? ⟨M, 3, none⟩ = some (.int .i64 x) := s5.cell 6 rfl 3
    have m4 : w4.cell? ⟨M, 4, none⟩ = some (.int .i64 y) := s5.cell 6 rfl 4
    have hq := pay_any s5 ⟨1, a, b, x, y⟩ ka HKA.out hkn
    have HQ := hid hq
    have hq2 : Calls Tryz.prog 61 #[.slice (some ⟨g, 0, none⟩) m cap, .agg #[.int .i64 1, .int .i64 a, .int .i64 b, .int .i64 x, .int .i64 y]] w4 _ := HQ.out
    clear HQ hq HS2 HS1 s5 
    try simp only at hq2
    generalize (l.set ka (wrap64 (l.getD ka 0 + x))) = rs at hq2 HD
    generalize ((wrap64 (l.getD ka 0 + x) : Int)) = tv at hq2 HD
    have hbx := fun W => buildX1 W tv
    go_upto_region 6 with (go_at_call 61; refine hq2.mono ?_; rintro e w5 ⟨rfl, s6⟩)
    have HS6 := hid (s6)
    clear s6 hq2 l3 m0 m1 m2 m3 m4
    go_wp2_with (simp only [hbx])
    refine bodyPost_ret (v := .tuple #[.slice (some ⟨g, 0, none⟩) m cap, .slice (some ⟨w5.heap.size, 0, none⟩) 1 1, .int .i64 0]) (by simp [results, Tryz.results21, go_sem]) rfl ?_
    refine HD.out _ _ _ _ rfl ?_
    have h7 := HS6.out.new64 [tv] (by show 1 ≤ maxLen; decide)
    exact St.two h7
  · have HD : Hid (∀ e w', e = .returned (.tuple #[.slice none 0 0, .slice none 0 0, .int .i64 170]) → Kept (fun _ => False) w w' → DoE l n ⟨1, a, b, x, y⟩ w e w') := fun e w' h1 h2 => by
      have hml := hX.1
      unfold DoE
      rw [if_neg (by
        unfold okD
        simp only [Bool.and_eq_true, decide_eq_true_eq, not_and]
        intro _ hl hm
        exact hmay ⟨hm, by omega⟩)]
      exact ⟨h1, h2⟩
    have ht : mayD n ⟨1, a, b, x, y⟩ = false ∨ (mayD n ⟨1, a, b, x, y⟩ = true ∧ ((m : Int) != n) = true) := by
      cases hm : mayD n ⟨1, a, b, x, y⟩ with
      | false => exact .inl rfl
      | true => exact .inr ⟨rfl, by simp; exact fun e => hmay ⟨hm, e⟩⟩
    generalize DoE l n ⟨1, a, b, x, y⟩ w = Q at *
    generalize mayD n ⟨1, a, b, x, y⟩ = mm at *
    generalize e1 : w.alloc (.cells #[.int .i64 1, .int .i64 a, .int .i64 b, .int .i64 x, .int .i64 y] 40) = w1 at *
    generalize eM : w.heap.size = M at *
    have c0 : w1.cell? ⟨M, 0, none⟩ = some (.int .i64 1) := s1.cell 0 rfl 0
    have c1 : w1.cell? ⟨M, 1, none⟩ = some (.int .i64 a) := s1.cell 0 rfl 1
    have c2 : w1.cell? ⟨M, 2, none⟩ = some (.int .i64 b) := s1.cell 0 rfl 2
    have c3 : w1.cell? ⟨M, 3, none⟩ = some (.int .i64 x) := s1.cell 0 rfl 3
    have c4 : w1.cell? ⟨M, 4, none⟩ = some (.int .i64 y) := s1.cell 0 rfl 4
    have HK := hid s1.same
    clear hr s1 hX hmay hroom hn1 hn2 hn3
    rcases ht with rfl | ⟨rfl, tn⟩
    · go_enter Tryz.func21, Tryz.ntmps21
      go_wp2_with (first | simp only [e1, eM] | (go_at_call 33; refine hr1.mono ?_; rintro e w2 ⟨B1, B2, B3, B4, rfl, s2⟩; have k2 := hid s2.same; clear s2 hr1 e1 eM c0 c1 c2 c3 c4))
      refine bodyPost_ret (v := .tuple #[.slice none 0 0, .slice none 0 0, .int .i64 170]) (by simp [results, Tryz.results21, go_sem]) rfl ?_
      exact HD.out _ _ rfl ((HK.out.trans k2.out (fun _ _ f => f)).alloc _)
    · go_enter Tryz.func21, Tryz.ntmps21
      go_wp2_with (first | simp only [e1, eM] | (go_at_call 33; refine hr1.mono ?_; rintro e w2 ⟨B1, B2, B3, B4, rfl, s2⟩; have k2 := hid s2.same; clear s2 hr1 e1 eM c0 c1 c2 c3 c4))
      refine bodyPost_ret (v := .tuple #[.slice none 0 0, .slice none 0 0, .int .i64 170]) (by simp [results, Tryz.results21, go_sem]) rfl ?_
      exact HD.out _ _ rfl ((HK.out.trans k2.out (fun _ _ f => f)).alloc _)
set_option maxRecDepth 100000 in
set_option maxHeartbeats 8000000 in
theorem Do_2 (hroom : 0 < roomM n) (hop : d.op = 2) (hX : XIn w la m l) (h0 : la = none → m = 0 ∧ lc = 0) : Calls Tryz.prog 21 #[.slice la m lc, .int .i64 n, d.val] w (DoE l n d w) := by
  obtain ⟨op, a, b, x, y⟩ := d
  simp only at hop
  subst hop
  obtain ⟨hn1, hn2, hn3⟩ := room_pos hroom
  have hr := fun W => rowOf_2 (w := W) (d := ⟨2, a, b, x, y⟩) hroom rfl
  have s1 := (St.nil w).box #[.int .i64 2, .int .i64 a, .int .i64 b, .int .i64 x, .int .i64 y] 40
  show Calls _ _ #[_, _, .agg #[.int .i64 2, .int .i64 a, .int .i64 b, .int .i64 x, .int .i64 y]] _ _
  have hr1 : Calls Tryz.prog 33 #[.int .i64 n, .agg #[.int .i64 2, .int .i64 a, .int .i64 b, .int .i64 x, .int .i64 y]] (w.alloc (.cells #[.int .i64 2, .int .i64 a, .int .i64 b, .int .i64 x, .int .i64 y] 40)) _ := hr _
  by_cases hmay : mayD n ⟨2, a, b, x, y⟩ = true ∧ (m : Int) = n
  · obtain ⟨hmay, hmn⟩ := hmay
    have hml := hX.1
    obtain ⟨ha0, ha1⟩ := may_a hmay (by show (2 : Int) ≠ 5; decide)
    simp only at ha0 ha1
    obtain ⟨ka, hka⟩ : ∃ ka : Nat, a = (ka : Int) := ⟨a.toNat, by omega⟩
    have hkn : ka < l.length := by omega
    have HD : Hid (∀ (e : Ending) (w' : World) (v t : Value), e = .returned (.tuple #[v, t, .int .i64 0]) → St w [ownI 2 1 t 1 (xC [if l.getD ka 0 < x then 0 else 1]), ownI 2 1 v m (xC (if l.getD ka 0 < x then l else l.set ka (wrap64 (l.getD ka 0 - x))))] w' → DoE l n ⟨2, a, b, x, y⟩ w e w') := fun e w' v t h1 h2 => by
      unfold DoE okD
      rw [if_pos (by simp [hmay, hroom]; omega)]
      refine ⟨v, t, h1, ?_⟩
      have hd : doM l ⟨2, a, b, x, y⟩ = (if l.getD ka 0 < x then l else l.set ka (wrap64 (l.getD ka 0 - x)), if l.getD ka 0 < x then 0 else 1) := by
        simp only [doM, ↓reduceIte, Int.reduceEq]
        simp only [hka, Int.toNat_natCast]
        try (split <;> rfl)
      rw [hd, ← hml]
      exact h2
    rw [hmay] at hr1
    generalize DoE l n ⟨2, a, b, x, y⟩ w = Q at *
    have HC : Hid (∀ W, Kept (fun _ => False) w W → Calls Tryz.prog 32 #[.slice la m lc] W fun e w' => ∃ v, e = .returned v ∧ St W [ownI 2 1 v m (xC l)] w') := fun W k => Clone_any la m lc l W (hX.kept k) h0 (by omega)
    generalize e1 : w.alloc (.cells #[.int .i64 2, .int .i64 a, .int .i64 b, .int .i64 x, .int .i64 y] 40) = w1 at *
    generalize eM : w.heap.size = M at *
    have c0 : w1.cell? ⟨M, 0, none⟩ = some (.int .i64 2) := s1.cell 0 rfl 0
    have c1 : w1.cell? ⟨M, 1, none⟩ = some (.int .i64 a) := s1.cell 0 rfl 1
    have c2 : w1.cell? ⟨M, 2, none⟩ = some (.int .i64 b) := s1.cell 0 rfl 2
    have c3 : w1.cell? ⟨M, 3, none⟩ = some (.int .i64 x) := s1.cell 0 rfl 3
    have c4 : w1.cell? ⟨M, 4, none⟩ = some (.int .i64 y) := s1.cell 0 rfl 4
    have tn : ((m : Int) != n) = false := by simp [hmn]
    have HS1 := hid s1
    have HX := hid hX
    have HN : Hid (0 < m ∧ m = l.length) := ⟨by omega, hml⟩
    have hkn : ka < m := by omega
    have HKA := hid hka
    clear hka ha0 ha1
    clear hr s1 hX hmn hml hmay hroom hn1 hn2 hn3
    go_enter Tryz.func21, Tryz.ntmps21
    go_upto_region 4 with (first | simp only [e1, eM] | (go_at_call 33; refine hr1.mono ?_; rintro e w2 ⟨B1, B2, B3, B4, rfl, s2⟩; have HS2 := hid ((HS1.out.join s2).box #[.bool true, .bool false, .bool true, cloV 81 B1, cloV 82 B2] 72); clear s2 hr1 e1 eM c0 c1 c2 c3 c4))
    generalize w2.heap.size = L at *
    obtain ⟨w3, hw3⟩ : ∃ w3, w3 = w2.alloc (.cells #[.bool true, .bool false, .bool true, cloV 81 B1, cloV 82 B2] 72) := ⟨_, rfl⟩
    rw [← hw3] at HS2 ⊢
    clear hw3
    have hc := HC.out w3 HS2.out.same
    go_upto_region 5 with (go_at_call 32; refine hc.mono ?_; rintro e w4 ⟨v, rfl, s4⟩)
    obtain ⟨g, cap, rfl⟩ := s4.form 0 rfl HN.out.1
    have s5 : St w (rowI g m cap l :: [boxI L #[.bool true, .bool false, .bool true, cloV 81 B1, cloV 82 B2] 72, boxI B1 #[fnV 65] 122, boxI B2 #[fnV 67] 124, boxI B3 #[fnV 68] 122, boxI B4 #[fnV 69] 124, boxI M #[.int .i64 2, .int .i64 a, .int .i64 b, .int .i64 x, .int .i64 y] 40]) w4 := HS2.out.join s4
    clear hc s4 HC
    have l3 : w4.cell? ⟨L, 3, none⟩ = some (cloV 81 B1) := s5.cell 1 rfl 3
    have m0 : w4.cell? ⟨M, 0, none⟩ = some (.int .i64 2) := s5.cell 6 rfl 0
    have m1 : w4.cell? ⟨M, 1, none⟩ = some (.int .i64 a) := s5.cell 6 rfl 1
    have m2 : w4.cell? ⟨M, 2, none⟩ = some (.int .i64 b) := s5.cell 6 rfl 2
    have m3 : w4.cell? ⟨M, 3, none⟩ = some (.int .i64 x) := s5.cell 6 rfl 3
    have m4 : w4.cell? ⟨M, 4, none⟩ = some (.int .i64 y) := s5.cell 6 rfl 4
    have s5p := s5.perm (List.Perm.cons _ (List.perm_middle (l₁ := [boxI L #[.bool true, .bool false, .bool true, cloV 81 B1, cloV 82 B2] 72])))
    have hq := ifThere_any (ys := fun z => l.set ka z) s5p ⟨2, a, b, x, y⟩ ka HKA.out hkn (.inl rfl) (fun W z hW => none_any hW _)
    have HQ := hid hq
    have hq2 : Calls Tryz.prog 81 #[.slice (some ⟨g, 0, none⟩) m cap, .agg #[.int .i64 2, .int .i64 a, .int .i64 b, .int .i64 x, .int .i64 y], .pointer (some ⟨B1, 0, none⟩)] w4 _ := HQ.out
    clear HQ hq HS2 HS1 s5 s5p
    try simp only at hq2
    generalize (if l.getD ka 0 < x then l else l.set ka (wrap64 (l.getD ka 0 - x))) = rs at hq2 HD
    generalize ((if l.getD ka 0 < x then 0 else 1 : Int)) = tv at hq2 HD
    have hbx := fun W => buildX1 W tv
    go_upto_region 6 with (go_at_call 81; refine hq2.mono ?_; rintro e w5 ⟨rfl, s6⟩)
    have HS6 := hid (s6)
    clear s6 hq2 l3 m0 m1 m2 m3 m4
    go_wp2_with (simp only [hbx])
    refine bodyPost_ret (v := .tuple #[.slice (some ⟨g, 0, none⟩) m cap, .slice (some ⟨w5.heap.size, 0, none⟩) 1 1, .int .i64 0]) (by simp [results, Tryz.results21, go_sem]) rfl ?_
    refine HD.out _ _ _ _ rfl ?_
    have h7 := HS6.out.new64 [tv] (by show 1 ≤ maxLen; decide)
    exact St.two h7
  · have HD : Hid (∀ e w', e = .returned (.tuple #[.slice none 0 0, .slice none 0 0, .int .i64 170]) → Kept (fun _ => False) w w' → DoE l n ⟨2, a, b, x, y⟩ w e w') := fun e w' h1 h2 => by
      have hml := hX.1
      unfold DoE
      rw [if_neg (by
        unfold okD
        simp only [Bool.and_eq_true, decide_eq_true_eq, not_and]
        intro _ hl hm
        exact hmay ⟨hm, by omega⟩)]
      exact ⟨h1, h2⟩
    have ht : mayD n ⟨2, a, b, x, y⟩ = false ∨ (mayD n ⟨2, a, b, x, y⟩ = true ∧ ((m : Int) != n) = true) := by
      cases hm : mayD n ⟨2, a, b, x, y⟩ with
      | false => exact .inl rfl
      | true => exact .inr ⟨rfl, by simp; exact fun e => hmay ⟨hm, e⟩⟩
    generalize DoE l n ⟨2, a, b, x, y⟩ w = Q at *
    generalize mayD n ⟨2, a, b, x, y⟩ = mm at *
    generalize e1 : w.alloc (.cells #[.int .i64 2, .int .i64 a, .int .i64 b, .int .i64 x, .int .i64 y] 40) = w1 at *
    generalize eM : w.heap.size = M at *
    have c0 : w1.cell? ⟨M, 0, none⟩ = some (.int .i64 2) := s1.cell 0 rfl 0
    have c1 : w1.cell? ⟨M, 1, none⟩ = some (.int .i64 a) := s1.cell 0 rfl 1
    have c2 : w1.cell? ⟨M, 2, none⟩ = some (.int .i64 b) := s1.cell 0 rfl 2
    have c3 : w1.cell? ⟨M, 3, none⟩ = some (.int .i64 x) := s1.cell 0 rfl 3
    have c4 : w1.cell? ⟨M, 4, none⟩ = some (.int .i64 y) := s1.cell 0 rfl 4
    have HK := hid s1.same
    clear hr s1 hX hmay hroom hn1 hn2 hn3
    rcases ht with rfl | ⟨rfl, tn⟩
    · go_enter Tryz.func21, Tryz.ntmps21
      go_wp2_with (first | simp only [e1, eM] | (go_at_call 33; refine hr1.mono ?_; rintro e w2 ⟨B1, B2, B3, B4, rfl, s2⟩; have k2 := hid s2.same; clear s2 hr1 e1 eM c0 c1 c2 c3 c4))
      refine bodyPost_ret (v := .tuple #[.slice none 0 0, .slice none 0 0, .int .i64 170]) (by simp [results, Tryz.results21, go_sem]) rfl ?_
      exact HD.out _ _ rfl ((HK.out.trans k2.out (fun _ _ f => f)).alloc _)
    · go_enter Tryz.func21, Tryz.ntmps21
      go_wp2_with (first | simp only [e1, eM] | (go_at_call 33; refine hr1.mono ?_; rintro e w2 ⟨B1, B2, B3, B4, rfl, s2⟩; have k2 := hid s2.same; clear s2 hr1 e1 eM c0 c1 c2 c3 c4))
      refine bodyPost_ret (v := .tuple #[.slice none 0 0, .slice none 0 0, .int .i64 170]) (by simp [results, Tryz.results21, go_sem]) rfl ?_
      exact HD.out _ _ rfl ((HK.out.trans k2.out (fun _ _ f => f)).alloc _)
set_option maxRecDepth 100000 in
set_option maxHeartbeats 8000000 in
theorem Do_3 (hroom : 0 < roomM n) (hop : d.op = 3) (hX : XIn w la m l) (h0 : la = none → m = 0 ∧ lc = 0) : Calls Tryz.prog 21 #[.slice la m lc, .int .i64 n, d.val] w (DoE l n d w) := by
  obtain ⟨op, a, b, x, y⟩ := d
  simp only at hop
  subst hop
  obtain ⟨hn1, hn2, hn3⟩ := room_pos hroom
  have hr := fun W => rowOf_3 (w := W) (d := ⟨3, a, b, x, y⟩) hroom rfl
  have s1 := (St.nil w).box #[.int .i64 3, .int .i64 a, .int .i64 b, .int .i64 x, .int .i64 y] 40
  show Calls _ _ #[_, _, .agg #[.int .i64 3, .int .i64 a, .int .i64 b, .int .i64 x, .int .i64 y]] _ _
  have hr1 : Calls Tryz.prog 33 #[.int .i64 n, .agg #[.int .i64 3, .int .i64 a, .int .i64 b, .int .i64 x, .int .i64 y]] (w.alloc (.cells #[.int .i64 3, .int .i64 a, .int .i64 b, .int .i64 x, .int .i64 y] 40)) _ := hr _
  by_cases hmay : mayD n ⟨3, a, b, x, y⟩ = true ∧ (m : Int) = n
  · obtain ⟨hmay, hmn⟩ := hmay
    have hml := hX.1
    obtain ⟨ha0, ha1⟩ := may_a hmay (by show (3 : Int) ≠ 5; decide)
    simp only at ha0 ha1
    obtain ⟨ka, hka⟩ : ∃ ka : Nat, a = (ka : Int) := ⟨a.toNat, by omega⟩
    have hkn : ka < l.length := by omega
    obtain ⟨hb0, hb1⟩ := may_b hmay rfl
    simp only at hb0 hb1
    obtain ⟨kb, hkb⟩ : ∃ kb : Nat, b = (kb : Int) := ⟨b.toNat, by omega⟩
    have hkbn : kb < l.length := by omega
    have HD : Hid (∀ (e : Ending) (w' : World) (v t : Value), e = .returned (.tuple #[v, t, .int .i64 0]) → St w [ownI 2 1 t 1 (xC [if l.getD ka 0 < x then 0 else 1]), ownI 2 1 v m (xC (if l.getD ka 0 < x then l else (l.set ka (wrap64 (l.getD ka 0 - x))).set kb (wrap64 ((l.set ka (wrap64 (l.getD ka 0 - x))).getD kb 0 + x))))] w' → DoE l n ⟨3, a, b, x, y⟩ w e w') := fun e w' v t h1 h2 => by
      unfold DoE okD
      rw [if_pos (by simp [hmay, hroom]; omega)]
      refine ⟨v, t, h1, ?_⟩
      have hd : doM l ⟨3, a, b, x, y⟩ = (if l.getD ka 0 < x then l else (l.set ka (wrap64 (l.getD ka 0 - x))).set kb (wrap64 ((l.set ka (wrap64 (l.getD ka 0 - x))).getD kb 0 + x)), if l.getD ka 0 < x then 0 else 1) := by
        simp only [doM, ↓reduceIte, Int.reduceEq]
        simp only [hka, Int.toNat_natCast]
        simp only [hkb, Int.toNat_natCast]
        try (split <;> rfl)
      rw [hd, ← hml]
      exact h2
    rw [hmay] at hr1
    generalize DoE l n ⟨3, a, b, x, y⟩ w = Q at *
    have HC : Hid (∀ W, Kept (fun _ => False) w W → Calls Tryz.prog 32 #[.slice la m lc] W fun e w' => ∃ v, e = .returned v ∧ St W [ownI 2 1 v m (xC l)] w') := fun W k => Clone_any la m lc l W (hX.kept k) h0 (by omega)
    generalize e1 : w.alloc (.cells #[.int .i64 3, .int .i64 a, .int .i64 b, .int .i64 x, .int .i64 y] 40) = w1 at *
    generalize eM : w.heap.size = M at *
    have c0 : w1.cell? ⟨M, 0, none⟩ = some (.int .i64 3) := s1.cell 0 rfl 0
    have c1 : w1.cell? ⟨M, 1, none⟩ = some (.int .i64 a) := s1.cell 0 rfl 1
    have c2 : w1.cell? ⟨M, 2, none⟩ = some (.int .i64 b) := s1.cell 0 rfl 2
    have c3 : w1.cell? ⟨M, 3, none⟩ = some (.int .i64 x) := s1.cell 0 rfl 3
    have c4 : w1.cell? ⟨M, 4, none⟩ = some (.int .i64 y) := s1.cell 0 rfl 4
    have tn : ((m : Int) != n) = false := by simp [hmn]
    have HS1 := hid s1
    have HX := hid hX
    have HN : Hid (0 < m ∧ m = l.length) := ⟨by omega, hml⟩
    have hkn : ka < m := by omega
    have HKA := hid hka
    have hkbn : kb < m := by omega
    have HKB := hid hkb
    clear hka ha0 ha1 hkb hb0 hb1
    clear hr s1 hX hmn hml hmay hroom hn1 hn2 hn3
    go_enter Tryz.func21, Tryz.ntmps21
    go_upto_region 4 with (first | simp only [e1, eM] | (go_at_call 33; refine hr1.mono ?_; rintro e w2 ⟨B1, B2, B3, B4, rfl, s2⟩; have HS2 := hid ((HS1.out.join s2).box #[.bool true, .bool true, .bool true, cloV 81 B3, cloV 82 B4] 72); clear s2 hr1 e1 eM c0 c1 c2 c3 c4))
    generalize w2.heap.size = L at *
    obtain ⟨w3, hw3⟩ : ∃ w3, w3 = w2.alloc (.cells #[.bool true, .bool true, .bool true, cloV 81 B3, cloV 82 B4] 72) := ⟨_, rfl⟩
    rw [← hw3] at HS2 ⊢
    clear hw3
    have hc := HC.out w3 HS2.out.same
    go_upto_region 5 with (go_at_call 32; refine hc.mono ?_; rintro e w4 ⟨v, rfl, s4⟩)
    obtain ⟨g, cap, rfl⟩ := s4.form 0 rfl HN.out.1
    have s5 : St w (rowI g m cap l :: [boxI L #[.bool true, .bool true, .bool true, cloV 81 B3, cloV 82 B4] 72, boxI B1 #[fnV 65] 122, boxI B2 #[fnV 67] 124, boxI B3 #[fnV 68] 122, boxI B4 #[fnV 69] 124, boxI M #[.int .i64 3, .int .i64 a, .int .i64 b, .int .i64 x, .int .i64 y] 40]) w4 := HS2.out.join s4
    clear hc s4 HC
    have l3 : w4.cell? ⟨L, 3, none⟩ = some (cloV 81 B3) := s5.cell 1 rfl 3
    have m0 : w4.cell? ⟨M, 0, none⟩ = some (.int .i64 3) := s5.cell 6 rfl 0
    have m1 : w4.cell? ⟨M, 1, none⟩ = some (.int .i64 a) := s5.cell 6 rfl 1
    have m2 : w4.cell? ⟨M, 2, none⟩ = some (.int .i64 b) := s5.cell 6 rfl 2
    have m3 : w4.cell? ⟨M, 3, none⟩ = some (.int .i64 x) := s5.cell 6 rfl 3
    have m4 : w4.cell? ⟨M, 4, none⟩ = some (.int .i64 y) := s5.cell 6 rfl 4
    have s5p := s5.perm (List.Perm.cons _ (List.perm_middle (l₁ := [boxI L #[.bool true, .bool true, .bool true, cloV 81 B3, cloV 82 B4] 72, boxI B1 #[fnV 65] 122, boxI B2 #[fnV 67] 124])))
    have hq := ifThere_any (ys := fun z => (l.set ka z).set kb (wrap64 ((l.set ka z).getD kb 0 + x))) s5p ⟨3, a, b, x, y⟩ ka HKA.out hkn (.inr rfl) (fun W z hW => add_any hW ⟨3, a, b, x, y⟩ kb HKB.out hkbn)
    have HQ := hid hq
    have hq2 : Calls Tryz.prog 81 #[.slice (some ⟨g, 0, none⟩) m cap, .agg #[.int .i64 3, .int .i64 a, .int .i64 b, .int .i64 x, .int .i64 y], .pointer (some ⟨B3, 0, none⟩)] w4 _ := HQ.out
    clear HQ hq HS2 HS1 s5 s5p
    try simp only at hq2
    generalize (if l.getD ka 0 < x then l else (l.set ka (wrap64 (l.getD ka 0 - x))).set kb (wrap64 ((l.set ka (wrap64 (l.getD ka 0 - x))).getD kb 0 + x))) = rs at hq2 HD
    generalize ((if l.getD ka 0 < x then 0 else 1 : Int)) = tv at hq2 HD
    have hbx := fun W => buildX1 W tv
    go_upto_region 6 with (go_at_call 81; refine hq2.mono ?_; rintro e w5 ⟨rfl, s6⟩)
    have HS6 := hid (s6)
    clear s6 hq2 l3 m0 m1 m2 m3 m4
    go_wp2_with (simp only [hbx])
    refine bodyPost_ret (v := .tuple #[.slice (some ⟨g, 0, none⟩) m cap, .slice (some ⟨w5.heap.size, 0, none⟩) 1 1, .int .i64 0]) (by simp [results, Tryz.results21, go_sem]) rfl ?_
    refine HD.out _ _ _ _ rfl ?_
    have h7 := HS6.out.new64 [tv] (by show 1 ≤ maxLen; decide)
    exact St.two h7
  · have HD : Hid (∀ e w', e = .returned (.tuple #[.slice none 0 0, .slice none 0 0, .int .i64 170]) → Kept (fun _ => False) w w' → DoE l n ⟨3, a, b, x, y⟩ w e w') := fun e w' h1 h2 => by
      have hml := hX.1
      unfold DoE
      rw [if_neg (by
        unfold okD
        simp only [Bool.and_eq_true, decide_eq_true_eq, not_and]
        intro _ hl hm
        exact hmay ⟨hm, by omega⟩)]
      exact ⟨h1, h2⟩
    have ht : mayD n ⟨3, a, b, x, y⟩ = false ∨ (mayD n ⟨3, a, b, x, y⟩ = true ∧ ((m : Int) != n) = true) := by
      cases hm : mayD n ⟨3, a, b, x, y⟩ with
      | false => exact .inl rfl
      | true => exact .inr ⟨rfl, by simp; exact fun e => hmay ⟨hm, e⟩⟩
    generalize DoE l n ⟨3, a, b, x, y⟩ w = Q at *
    generalize mayD n ⟨3, a, b, x, y⟩ = mm at *
    generalize e1 : w.alloc (.cells #[.int .i64 3, .int .i64 a, .int .i64 b, .int .i64 x, .int .i64 y] 40) = w1 at *
    generalize eM : w.heap.size = M at *
    have c0 : w1.cell? ⟨M, 0, none⟩ = some (.int .i64 3) := s1.cell 0 rfl 0
    have c1 : w1.cell? ⟨M, 1, none⟩ = some (.int .i64 a) := s1.cell 0 rfl 1
    have c2 : w1.cell? ⟨M, 2, none⟩ = some (.int .i64 b) := s1.cell 0 rfl 2
    have c3 : w1.cell? ⟨M, 3, none⟩ = some (.int .i64 x) := s1.cell 0 rfl 3
    have c4 : w1.cell? ⟨M, 4, none⟩ = some (.int .i64 y) := s1.cell 0 rfl 4
    have HK := hid s1.same
    clear hr s1 hX hmay hroom hn1 hn2 hn3
    rcases ht with rfl | ⟨rfl, tn⟩
    · go_enter Tryz.func21, Tryz.ntmps21
      go_wp2_with (first | simp only [e1, eM] | (go_at_call 33; refine hr1.mono ?_; rintro e w2 ⟨B1, B2, B3, B4, rfl, s2⟩; have k2 := hid s2.same; clear s2 hr1 e1 eM c0 c1 c2 c3 c4))
      refine bodyPost_ret (v := .tuple #[.slice none 0 0, .slice none 0 0, .int .i64 170]) (by simp [results, Tryz.results21, go_sem]) rfl ?_
      exact HD.out _ _ rfl ((HK.out.trans k2.out (fun _ _ f => f)).alloc _)
    · go_enter Tryz.func21, Tryz.ntmps21
      go_wp2_with (first | simp only [e1, eM] | (go_at_call 33; refine hr1.mono ?_; rintro e w2 ⟨B1, B2, B3, B4, rfl, s2⟩; have k2 := hid s2.same; clear s2 hr1 e1 eM c0 c1 c2 c3 c4))
      refine bodyPost_ret (v := .tuple #[.slice none 0 0, .slice none 0 0, .int .i64 170]) (by simp [results, Tryz.results21, go_sem]) rfl ?_
      exact HD.out _ _ rfl ((HK.out.trans k2.out (fun _ _ f => f)).alloc _)
set_option maxRecDepth 100000 in
set_option maxHeartbeats 8000000 in
theorem Do_4 (hroom : 0 < roomM n) (hop : d.op = 4) (hX : XIn w la m l) (h0 : la = none → m = 0 ∧ lc = 0) : Calls Tryz.prog 21 #[.slice la m lc, .int .i64 n, d.val] w (DoE l n d w) := by
  obtain ⟨op, a, b, x, y⟩ := d
  simp only at hop
  subst hop
  obtain ⟨hn1, hn2, hn3⟩ := room_pos hroom
  have hr := fun W => rowOf_4 (w := W) (d := ⟨4, a, b, x, y⟩) hroom rfl
  have s1 := (St.nil w).box #[.int .i64 4, .int .i64 a, .int .i64 b, .int .i64 x, .int .i64 y] 40
  show Calls _ _ #[_, _, .agg #[.int .i64 4, .int .i64 a, .int .i64 b, .int .i64 x, .int .i64 y]] _ _
  have hr1 : Calls Tryz.prog 33 #[.int .i64 n, .agg #[.int .i64 4, .int .i64 a, .int .i64 b, .int .i64 x, .int .i64 y]] (w.alloc (.cells #[.int .i64 4, .int .i64 a, .int .i64 b, .int .i64 x, .int .i64 y] 40)) _ := hr _
  by_cases hmay : mayD n ⟨4, a, b, x, y⟩ = true ∧ (m : Int) = n
  · obtain ⟨hmay, hmn⟩ := hmay
    have hml := hX.1
    obtain ⟨ha0, ha1⟩ := may_a hmay (by show (4 : Int) ≠ 5; decide)
    simp only at ha0 ha1
    obtain ⟨ka, hka⟩ : ∃ ka : Nat, a = (ka : Int) := ⟨a.toNat, by omega⟩
    have hkn : ka < l.length := by omega
    have HD : Hid (∀ (e : Ending) (w' : World) (v t : Value), e = .returned (.tuple #[v, t, .int .i64 0]) → St w [ownI 2 1 t 1 (xC [l.getD ka 0]), ownI 2 1 v m (xC (l))] w' → DoE l n ⟨4, a, b, x, y⟩ w e w') := fun e w' v t h1 h2 => by
      unfold DoE okD
      rw [if_pos (by simp [hmay, hroom]; omega)]
      refine ⟨v, t, h1, ?_⟩
      have hd : doM l ⟨4, a, b, x, y⟩ = (l, l.getD ka 0) := by
        simp only [doM, ↓reduceIte, Int.reduceEq]
        simp only [hka, Int.toNat_natCast]
        try (split <;> rfl)
      rw [hd, ← hml]
      exact h2
    rw [hmay] at hr1
    generalize DoE l n ⟨4, a, b, x, y⟩ w = Q at *
    have HC : Hid (∀ W, Kept (fun _ => False) w W → Calls Tryz.prog 32 #[.slice la m lc] W fun e w' => ∃ v, e = .returned v ∧ St W [ownI 2 1 v m (xC l)] w') := fun W k => Clone_any la m lc l W (hX.kept k) h0 (by omega)
    generalize e1 : w.alloc (.cells #[.int .i64 4, .int .i64 a, .int .i64 b, .int .i64 x, .int .i64 y] 40) = w1 at *
    generalize eM : w.heap.size = M at *
    have c0 : w1.cell? ⟨M, 0, none⟩ = some (.int .i64 4) := s1.cell 0 rfl 0
    have c1 : w1.cell? ⟨M, 1, none⟩ = some (.int .i64 a) := s1.cell 0 rfl 1
    have c2 : w1.cell? ⟨M, 2, none⟩ = some (.int .i64 b) := s1.cell 0 rfl 2
    have c3 : w1.cell? ⟨M, 3, none⟩ = some (.int .i64 x) := s1.cell 0 rfl 3
    have c4 : w1.cell? ⟨M, 4, none⟩ = some (.int .i64 y) := s1.cell 0 rfl 4
    have tn : ((m : Int) != n) = false := by simp [hmn]
    have HS1 := hid s1
    have HX := hid hX
    have HN : Hid (0 < m ∧ m = l.length) := ⟨by omega, hml⟩
    have hkn : ka < m := by omega
    have HKA := hid hka
    clear hka ha0 ha1
    clear hr s1 hX hmn hml hmay hroom hn1 hn2 hn3
    go_enter Tryz.func21, Tryz.ntmps21
    go_upto_region 4 with (first | simp only [e1, eM] | (go_at_call 33; refine hr1.mono ?_; rintro e w2 ⟨B1, B2, B3, B4, rfl, s2⟩; have HS2 := hid ((HS1.out.join s2).box #[.bool true, .bool false, .bool false, fnV 70, fnV 71] 72); clear s2 hr1 e1 eM c0 c1 c2 c3 c4))
    generalize w2.heap.size = L at *
    obtain ⟨w3, hw3⟩ : ∃ w3, w3 = w2.alloc (.cells #[.bool true, .bool false, .bool false, fnV 70, fnV 71] 72) := ⟨_, rfl⟩
    rw [← hw3] at HS2 ⊢
    clear hw3
    have hc := HC.out w3 HS2.out.same
    go_upto_region 5 with (go_at_call 32; refine hc.mono ?_; rintro e w4 ⟨v, rfl, s4⟩)
    obtain ⟨g, cap, rfl⟩ := s4.form 0 rfl HN.out.1
    have s5 : St w (rowI g m cap l :: [boxI L #[.bool true, .bool false, .bool false, fnV 70, fnV 71] 72, boxI B1 #[fnV 65] 122, boxI B2 #[fnV 67] 124, boxI B3 #[fnV 68] 122, boxI B4 #[fnV 69] 124, boxI M #[.int .i64 4, .int .i64 a, .int .i64 b, .int .i64 x, .int .i64 y] 40]) w4 := HS2.out.join s4
    clear hc s4 HC
    have l3 : w4.cell? ⟨L, 3, none⟩ = some (fnV 70) := s5.cell 1 rfl 3
    have m0 : w4.cell? ⟨M, 0, none⟩ = some (.int .i64 4) := s5.cell 6 rfl 0
    have m1 : w4.cell? ⟨M, 1, none⟩ = some (.int .i64 a) := s5.cell 6 rfl 1
    have m2 : w4.cell? ⟨M, 2, none⟩ = some (.int .i64 b) := s5.cell 6 rfl 2
    have m3 : w4.cell? ⟨M, 3, none⟩ = some (.int .i64 x) := s5.cell 6 rfl 3
    have m4 : w4.cell? ⟨M, 4, none⟩ = some (.int .i64 y) := s5.cell 6 rfl 4
    have hq := see_any s5 ⟨4, a, b, x, y⟩ ka HKA.out hkn
    have HQ := hid hq
    have hq2 : Calls Tryz.prog 70 #[.slice (some ⟨g, 0, none⟩) m cap, .agg #[.int .i64 4, .int .i64 a, .int .i64 b, .int .i64 x, .int .i64 y]] w4 _ := HQ.out
    clear HQ hq HS2 HS1 s5 
    try simp only at hq2
    generalize ((l.getD ka 0 : Int)) = tv at hq2 HD
    have hbx := fun W => buildX1 W tv
    go_upto_region 6 with (go_at_call 70; refine hq2.mono ?_; rintro e w5 ⟨rfl, s6⟩)
    have HS6 := hid (s6)
    clear s6 hq2 l3 m0 m1 m2 m3 m4
    go_wp2_with (simp only [hbx])
    refine bodyPost_ret (v := .tuple #[.slice (some ⟨g, 0, none⟩) m cap, .slice (some ⟨w5.heap.size, 0, none⟩) 1 1, .int .i64 0]) (by simp [results, Tryz.results21, go_sem]) rfl ?_
    refine HD.out _ _ _ _ rfl ?_
    have h7 := HS6.out.new64 [tv] (by show 1 ≤ maxLen; decide)
    exact St.two h7
  · have HD : Hid (∀ e w', e = .returned (.tuple #[.slice none 0 0, .slice none 0 0, .int .i64 170]) → Kept (fun _ => False) w w' → DoE l n ⟨4, a, b, x, y⟩ w e w') := fun e w' h1 h2 => by
      have hml := hX.1
      unfold DoE
      rw [if_neg (by
        unfold okD
        simp only [Bool.and_eq_true, decide_eq_true_eq, not_and]
        intro _ hl hm
        exact hmay ⟨hm, by omega⟩)]
      exact ⟨h1, h2⟩
    have ht : mayD n ⟨4, a, b, x, y⟩ = false ∨ (mayD n ⟨4, a, b, x, y⟩ = true ∧ ((m : Int) != n) = true) := by
      cases hm : mayD n ⟨4, a, b, x, y⟩ with
      | false => exact .inl rfl
      | true => exact .inr ⟨rfl, by simp; exact fun e => hmay ⟨hm, e⟩⟩
    generalize DoE l n ⟨4, a, b, x, y⟩ w = Q at *
    generalize mayD n ⟨4, a, b, x, y⟩ = mm at *
    generalize e1 : w.alloc (.cells #[.int .i64 4, .int .i64 a, .int .i64 b, .int .i64 x, .int .i64 y] 40) = w1 at *
    generalize eM : w.heap.size = M at *
    have c0 : w1.cell? ⟨M, 0, none⟩ = some (.int .i64 4) := s1.cell 0 rfl 0
    have c1 : w1.cell? ⟨M, 1, none⟩ = some (.int .i64 a) := s1.cell 0 rfl 1
    have c2 : w1.cell? ⟨M, 2, none⟩ = some (.int .i64 b) := s1.cell 0 rfl 2
    have c3 : w1.cell? ⟨M, 3, none⟩ = some (.int .i64 x) := s1.cell 0 rfl 3
    have c4 : w1.cell? ⟨M, 4, none⟩ = some (.int .i64 y) := s1.cell 0 rfl 4
    have HK := hid s1.same
    clear hr s1 hX hmay hroom hn1 hn2 hn3
    rcases ht with rfl | ⟨rfl, tn⟩
    · go_enter Tryz.func21, Tryz.ntmps21
      go_wp2_with (first | simp only [e1, eM] | (go_at_call 33; refine hr1.mono ?_; rintro e w2 ⟨B1, B2, B3, B4, rfl, s2⟩; have k2 := hid s2.same; clear s2 hr1 e1 eM c0 c1 c2 c3 c4))
      refine bodyPost_ret (v := .tuple #[.slice none 0 0, .slice none 0 0, .int .i64 170]) (by simp [results, Tryz.results21, go_sem]) rfl ?_
      exact HD.out _ _ rfl ((HK.out.trans k2.out (fun _ _ f => f)).alloc _)
    · go_enter Tryz.func21, Tryz.ntmps21
      go_wp2_with (first | simp only [e1, eM] | (go_at_call 33; refine hr1.mono ?_; rintro e w2 ⟨B1, B2, B3, B4, rfl, s2⟩; have k2 := hid s2.same; clear s2 hr1 e1 eM c0 c1 c2 c3 c4))
      refine bodyPost_ret (v := .tuple #[.slice none 0 0, .slice none 0 0, .int .i64 170]) (by simp [results, Tryz.results21, go_sem]) rfl ?_
      exact HD.out _ _ rfl ((HK.out.trans k2.out (fun _ _ f => f)).alloc _)
set_option maxRecDepth 100000 in
set_option maxHeartbeats 8000000 in
theorem Do_5 (hroom : 0 < roomM n) (hop : d.op = 5) (hX : XIn w la m l) (h0 : la = none → m = 0 ∧ lc = 0) : Calls Tryz.prog 21 #[.slice la m lc, .int .i64 n, d.val] w (DoE l n d w) := by
  obtain ⟨op, a, b, x, y⟩ := d
  simp only at hop
  subst hop
  obtain ⟨hn1, hn2, hn3⟩ := room_pos hroom
  have hr := fun W => rowOf_5 (w := W) (d := ⟨5, a, b, x, y⟩) hroom rfl
  have s1 := (St.nil w).box #[.int .i64 5, .int .i64 a, .int .i64 b, .int .i64 x, .int .i64 y] 40
  show Calls _ _ #[_, _, .agg #[.int .i64 5, .int .i64 a, .int .i64 b, .int .i64 x, .int .i64 y]] _ _
  have hr1 : Calls Tryz.prog 33 #[.int .i64 n, .agg #[.int .i64 5, .int .i64 a, .int .i64 b, .int .i64 x, .int .i64 y]] (w.alloc (.cells #[.int .i64 5, .int .i64 a, .int .i64 b, .int .i64 x, .int .i64 y] 40)) _ := hr _
  by_cases hmay : mayD n ⟨5, a, b, x, y⟩ = true ∧ (m : Int) = n
  · obtain ⟨hmay, hmn⟩ := hmay
    have hml := hX.1
    have HD : Hid (∀ (e : Ending) (w' : World) (v t : Value), e = .returned (.tuple #[v, t, .int .i64 0]) → St w [ownI 2 1 t 1 (xC [sumM l]), ownI 2 1 v m (xC (l))] w' → DoE l n ⟨5, a, b, x, y⟩ w e w') := fun e w' v t h1 h2 => by
      unfold DoE okD
      rw [if_pos (by simp [hmay, hroom]; omega)]
      refine ⟨v, t, h1, ?_⟩
      have hd : doM l ⟨5, a, b, x, y⟩ = (l, sumM l) := by
        simp only [doM, ↓reduceIte, Int.reduceEq]
        try (split <;> rfl)
      rw [hd, ← hml]
      exact h2
    rw [hmay] at hr1
    generalize DoE l n ⟨5, a, b, x, y⟩ w = Q at *
    have HC : Hid (∀ W, Kept (fun _ => False) w W → Calls Tryz.prog 32 #[.slice la m lc] W fun e w' => ∃ v, e = .returned v ∧ St W [ownI 2 1 v m (xC l)] w') := fun W k => Clone_any la m lc l W (hX.kept k) h0 (by omega)
    generalize e1 : w.alloc (.cells #[.int .i64 5, .int .i64 a, .int .i64 b, .int .i64 x, .int .i64 y] 40) = w1 at *
    generalize eM : w.heap.size = M at *
    have c0 : w1.cell? ⟨M, 0, none⟩ = some (.int .i64 5) := s1.cell 0 rfl 0
    have c1 : w1.cell? ⟨M, 1, none⟩ = some (.int .i64 a) := s1.cell 0 rfl 1
    have c2 : w1.cell? ⟨M, 2, none⟩ = some (.int .i64 b) := s1.cell 0 rfl 2
    have c3 : w1.cell? ⟨M, 3, none⟩ = some (.int .i64 x) := s1.cell 0 rfl 3
    have c4 : w1.cell? ⟨M, 4, none⟩ = some (.int .i64 y) := s1.cell 0 rfl 4
    have tn : ((m : Int) != n) = false := by simp [hmn]
    have HS1 := hid s1
    have HX := hid hX
    have HN : Hid (0 < m ∧ m = l.length) := ⟨by omega, hml⟩
    clear hr s1 hX hmn hml hmay hroom hn1 hn2 hn3
    go_enter Tryz.func21, Tryz.ntmps21
    go_upto_region 4 with (first | simp only [e1, eM] | (go_at_call 33; refine hr1.mono ?_; rintro e w2 ⟨B1, B2, B3, B4, rfl, s2⟩; have HS2 := hid ((HS1.out.join s2).box #[.bool false, .bool false, .bool false, fnV 72, fnV 73] 72); clear s2 hr1 e1 eM c0 c1 c2 c3 c4))
    generalize w2.heap.size = L at *
    obtain ⟨w3, hw3⟩ : ∃ w3, w3 = w2.alloc (.cells #[.bool false, .bool false, .bool false, fnV 72, fnV 73] 72) := ⟨_, rfl⟩
    rw [← hw3] at HS2 ⊢
    clear hw3
    have hc := HC.out w3 HS2.out.same
    go_upto_region 5 with (go_at_call 32; refine hc.mono ?_; rintro e w4 ⟨v, rfl, s4⟩)
    obtain ⟨g, cap, rfl⟩ := s4.form 0 rfl HN.out.1
    have s5 : St w (rowI g m cap l :: [boxI L #[.bool false, .bool false, .bool false, fnV 72, fnV 73] 72, boxI B1 #[fnV 65] 122, boxI B2 #[fnV 67] 124, boxI B3 #[fnV 68] 122, boxI B4 #[fnV 69] 124, boxI M #[.int .i64 5, .int .i64 a, .int .i64 b, .int .i64 x, .int .i64 y] 40]) w4 := HS2.out.join s4
    clear hc s4 HC
    have l3 : w4.cell? ⟨L, 3, none⟩ = some (fnV 72) := s5.cell 1 rfl 3
    have m0 : w4.cell? ⟨M, 0, none⟩ = some (.int .i64 5) := s5.cell 6 rfl 0
    have m1 : w4.cell? ⟨M, 1, none⟩ = some (.int .i64 a) := s5.cell 6 rfl 1
    have m2 : w4.cell? ⟨M, 2, none⟩ = some (.int .i64 b) := s5.cell 6 rfl 2
    have m3 : w4.cell? ⟨M, 3, none⟩ = some (.int .i64 x) := s5.cell 6 rfl 3
    have m4 : w4.cell? ⟨M, 4, none⟩ = some (.int .i64 y) := s5.cell 6 rfl 4
    have hq := sum_any s5 ⟨5, a, b, x, y⟩
    have HQ := hid hq
    have hq2 : Calls Tryz.prog 72 #[.slice (some ⟨g, 0, none⟩) m cap, .agg #[.int .i64 5, .int .i64 a, .int .i64 b, .int .i64 x, .int .i64 y]] w4 _ := HQ.out
    clear HQ hq HS2 HS1 s5 
    try simp only at hq2
    generalize ((sumM l : Int)) = tv at hq2 HD
    have hbx := fun W => buildX1 W tv
    go_upto_region 6 with (go_at_call 72; refine hq2.mono ?_; rintro e w5 ⟨rfl, s6⟩)
    have HS6 := hid (s6)
    clear s6 hq2 l3 m0 m1 m2 m3 m4
    go_wp2_with (simp only [hbx])
    refine bodyPost_ret (v := .tuple #[.slice (some ⟨g, 0, none⟩) m cap, .slice (some ⟨w5.heap.size, 0, none⟩) 1 1, .int .i64 0]) (by simp [results, Tryz.results21, go_sem]) rfl ?_
    refine HD.out _ _ _ _ rfl ?_
    have h7 := HS6.out.new64 [tv] (by show 1 ≤ maxLen; decide)
    exact St.two h7
  · have HD : Hid (∀ e w', e = .returned (.tuple #[.slice none 0 0, .slice none 0 0, .int .i64 170]) → Kept (fun _ => False) w w' → DoE l n ⟨5, a, b, x, y⟩ w e w') := fun e w' h1 h2 => by
      have hml := hX.1
      unfold DoE
      rw [if_neg (by
        unfold okD
        simp only [Bool.and_eq_true, decide_eq_true_eq, not_and]
        intro _ hl hm
        exact hmay ⟨hm, by omega⟩)]
      exact ⟨h1, h2⟩
    have ht : mayD n ⟨5, a, b, x, y⟩ = false ∨ (mayD n ⟨5, a, b, x, y⟩ = true ∧ ((m : Int) != n) = true) := by
      cases hm : mayD n ⟨5, a, b, x, y⟩ with
      | false => exact .inl rfl
      | true => exact .inr ⟨rfl, by simp; exact fun e => hmay ⟨hm, e⟩⟩
    generalize DoE l n ⟨5, a, b, x, y⟩ w = Q at *
    generalize mayD n ⟨5, a, b, x, y⟩ = mm at *
    generalize e1 : w.alloc (.cells #[.int .i64 5, .int .i64 a, .int .i64 b, .int .i64 x, .int .i64 y] 40) = w1 at *
    generalize eM : w.heap.size = M at *
    have c0 : w1.cell? ⟨M, 0, none⟩ = some (.int .i64 5) := s1.cell 0 rfl 0
    have c1 : w1.cell? ⟨M, 1, none⟩ = some (.int .i64 a) := s1.cell 0 rfl 1
    have c2 : w1.cell? ⟨M, 2, none⟩ = some (.int .i64 b) := s1.cell 0 rfl 2
    have c3 : w1.cell? ⟨M, 3, none⟩ = some (.int .i64 x) := s1.cell 0 rfl 3
    have c4 : w1.cell? ⟨M, 4, none⟩ = some (.int .i64 y) := s1.cell 0 rfl 4
    have HK := hid s1.same
    clear hr s1 hX hmay hroom hn1 hn2 hn3
    rcases ht with rfl | ⟨rfl, tn⟩
    · go_enter Tryz.func21, Tryz.ntmps21
      go_wp2_with (first | simp only [e1, eM] | (go_at_call 33; refine hr1.mono ?_; rintro e w2 ⟨B1, B2, B3, B4, rfl, s2⟩; have k2 := hid s2.same; clear s2 hr1 e1 eM c0 c1 c2 c3 c4))
      refine bodyPost_ret (v := .tuple #[.slice none 0 0, .slice none 0 0, .int .i64 170]) (by simp [results, Tryz.results21, go_sem]) rfl ?_
      exact HD.out _ _ rfl ((HK.out.trans k2.out (fun _ _ f => f)).alloc _)
    · go_enter Tryz.func21, Tryz.ntmps21
      go_wp2_with (first | simp only [e1, eM] | (go_at_call 33; refine hr1.mono ?_; rintro e w2 ⟨B1, B2, B3, B4, rfl, s2⟩; have k2 := hid s2.same; clear s2 hr1 e1 eM c0 c1 c2 c3 c4))
      refine bodyPost_ret (v := .tuple #[.slice none 0 0, .slice none 0 0, .int .i64 170]) (by simp [results, Tryz.results21, go_sem]) rfl ?_
      exact HD.out _ _ rfl ((HK.out.trans k2.out (fun _ _ f => f)).alloc _)
theorem Do_any (la : Option Addr) (m lc : Nat) (l : List Int) (n : Int) (d : Dd) (w : World) (hX : XIn w la m l) (h0 : la = none → m = 0 ∧ lc = 0) : Calls Tryz.prog 21 #[.slice la m lc, .int .i64 n, d.val] w (DoE l n d w) := by
  by_cases hr : 0 < roomM n
  · by_cases h1 : d.op < 1 ∨ 5 < d.op
    · exact Do_0 (.inr h1)
    · have h2 : d.op = 1 ∨ d.op = 2 ∨ d.op = 3 ∨ d.op = 4 ∨ d.op = 5 := by omega
      rcases h2 with e | e | e | e | e
      · exact Do_1 hr e hX h0
      · exact Do_2 hr e hX h0
      · exact Do_3 hr e hX h0
      · exact Do_4 hr e hX h0
      · exact Do_5 hr e hX h0
  · exact Do_0 (.inl hr)
end
end Go.Proofs.YtmoekoilcdkhfaaGreatDoor
