/- The document's Do. -/
import Derived.Test.YtmoekoilcdkhfaaGreatDoorBkV
namespace Go.Proofs.YtmoekoilcdkhfaaGreatDoor
open Go.RowKit
set_option linter.unusedVariables false
set_option linter.unusedSimpArgs false
attribute [local go_sem ↓] Go.wp_at_zero Go.wp_at_succ

/-- How the document's Do ends. -/
def rDoE (l : List Int) (n : Int) (d : Dd) (w : World) (e : Ending) (w' : World) : Prop :=
  if okD l n d = true then ∃ v t, e = .returned (.tuple #[v, t, .bool true]) ∧ St w [ownI 2 1 t 1 (xC [(doM l d).2]), ownI 2 1 v l.length (xC (doM l d).1)] w'
  else e = .returned (.tuple #[.slice none 0 0, .slice none 0 0, .bool false]) ∧ Kept (fun _ => False) w w'
section
variable {w : World} {n : Int} {d : Dd} {la : Option Addr} {m lc : Nat} {l : List Int}
set_option maxRecDepth 100000 in
set_option maxHeartbeats 4000000 in
theorem rDo_0 (hX : XIn w la m l) (hno : okD l n d = false) : Calls Tryz.prog 22 #[.slice la m lc, .int .i64 n, d.val] w (rDoE l n d w) := by
  have HD : Hid (∀ e w', e = .returned (.tuple #[.slice none 0 0, .slice none 0 0, .bool false]) → Kept (fun _ => False) w w' → rDoE l n d w e w') := fun e w' h1 h2 => by
    unfold rDoE
    rw [if_neg (by rw [hno]; simp)]
    exact ⟨h1, h2⟩
  generalize rDoE l n d w = Q at *
  have hm0 := fun W => rMay_any n d W
  have hQ := fun W => rRoom_any n W
  have hw : roomM n = 0 ∨ (roomM n ≠ 0 ∧ ((m : Int) != n) = true) ∨ (roomM n ≠ 0 ∧ ((m : Int) != n) = false ∧ mayD n d = false) := by
    have hml := hX.1
    unfold okD at hno
    by_cases h1 : roomM n = 0
    · exact .inl h1
    · have h2 : 0 < roomM n := by
        have : 0 ≤ roomM n := by unfold roomM; split <;> omega
        omega
      by_cases h3 : (m : Int) = n
      · refine .inr (.inr ⟨h1, by simp [h3], ?_⟩)
        have : (l.length : Int) = n := by omega
        simpa [h2, this] using hno
      · exact .inr (.inl ⟨h1, by simpa using h3⟩)
  obtain ⟨op, a, b, x, y⟩ := d
  have s1 := (St.nil w).box #[.int .i64 op, .int .i64 a, .int .i64 b, .int .i64 x, .int .i64 y] 40
  show Calls _ _ #[_, _, .agg #[.int .i64 op, .int .i64 a, .int .i64 b, .int .i64 x, .int .i64 y]] _ _
  have hm : Calls Tryz.prog 24 #[.int .i64 n, .agg #[.int .i64 op, .int .i64 a, .int .i64 b, .int .i64 x, .int .i64 y]] (w.alloc (.cells #[.int .i64 op, .int .i64 a, .int .i64 b, .int .i64 x, .int .i64 y] 40)) _ := hm0 _
  generalize mayD n ⟨op, a, b, x, y⟩ = mm at *
  generalize roomM n = r at *
  generalize e1 : w.alloc (.cells #[.int .i64 op, .int .i64 a, .int .i64 b, .int .i64 x, .int .i64 y] 40) = w1 at *
  generalize eM : w.heap.size = M at *
  have c0 : w1.cell? ⟨M, 0, none⟩ = some (.int .i64 op) := s1.cell 0 rfl 0
  have c1 : w1.cell? ⟨M, 1, none⟩ = some (.int .i64 a) := s1.cell 0 rfl 1
  have c2 : w1.cell? ⟨M, 2, none⟩ = some (.int .i64 b) := s1.cell 0 rfl 2
  have c3 : w1.cell? ⟨M, 3, none⟩ = some (.int .i64 x) := s1.cell 0 rfl 3
  have c4 : w1.cell? ⟨M, 4, none⟩ = some (.int .i64 y) := s1.cell 0 rfl 4
  have HK := hid s1.same
  clear hm0 hno s1 hX
  rcases hw with rfl | ⟨hr, tn⟩ | ⟨hr, tn, rfl⟩
  · go_enter Tryz.func22, Tryz.ntmps22
    go_wp2_with (first | simp only [e1, eM] | (go_at_call 24; refine hm.mono ?_; rintro e w2 ⟨rfl, k2⟩; clear hm e1 eM c0 c1 c2 c3 c4) | (go_at_call 12; refine (hQ _).mono ?_; rintro e w' ⟨rfl, rfl⟩))
    go_ret3
    exact HD.out _ _ rfl (HK.out.trans k2 (fun _ _ f => f))
  · have tr : (r == 0) = false := by simpa using hr
    clear hr
    go_enter Tryz.func22, Tryz.ntmps22
    go_wp2_with (first | simp only [e1, eM] | (go_at_call 24; refine hm.mono ?_; rintro e w2 ⟨rfl, k2⟩; clear hm e1 eM c0 c1 c2 c3 c4) | (go_at_call 12; refine (hQ _).mono ?_; rintro e w' ⟨rfl, rfl⟩))
    go_ret3
    exact HD.out _ _ rfl (HK.out.trans k2 (fun _ _ f => f))
  · have tr : (r == 0) = false := by simpa using hr
    clear hr
    go_enter Tryz.func22, Tryz.ntmps22
    go_wp2_with (first | simp only [e1, eM] | (go_at_call 24; refine hm.mono ?_; rintro e w2 ⟨rfl, k2⟩; clear hm e1 eM c0 c1 c2 c3 c4) | (go_at_call 12; refine (hQ _).mono ?_; rintro e w' ⟨rfl, rfl⟩))
    go_ret3
    exact HD.out _ _ rfl (HK.out.trans k2 (fun _ _ f => f))
set_option maxRecDepth 100000 in
set_option maxHeartbeats 8000000 in
theorem rDo_1 (hop : d.op = 1) (hX : XIn w la m l) (hok : okD l n d = true) : Calls Tryz.prog 22 #[.slice la m lc, .int .i64 n, d.val] w (rDoE l n d w) := by
  obtain ⟨op, a, b, x, y⟩ := d
  simp only at hop
  subst hop
  have hml := hX.1
  have hok2 := hok
  unfold okD at hok2
  simp only [Bool.and_eq_true, decide_eq_true_eq] at hok2
  obtain ⟨hroom, hln, hmay⟩ := hok2
  obtain ⟨hn1, hn2, hn3⟩ := room_pos hroom
  obtain rfl : n = (m : Int) := by omega
  obtain ⟨ha0, ha1⟩ := may_a hmay (by show (1 : Int) ≠ 5; decide)
  simp only at ha0 ha1
  obtain ⟨ka, rfl⟩ : ∃ ka : Nat, a = (ka : Int) := ⟨a.toNat, by omega⟩
  have hkn : ka < m := by omega
  have HD : Hid (∀ (e : Ending) (w' : World) (v t : Value), e = .returned (.tuple #[v, t, .bool true]) → St w [ownI 2 1 t 1 (xC [wrap64 (l.getD ka 0 + x)]), ownI 2 1 v m (xC (l.set ka (wrap64 (l.getD ka 0 + x))))] w' → rDoE l m ⟨1, (ka : Int), b, x, y⟩ w e w') := fun e w' v t h1 h2 => by
    unfold rDoE
    rw [if_pos hok]
    refine ⟨v, t, h1, ?_⟩
    have hd : doM l ⟨1, (ka : Int), b, x, y⟩ = (l.set ka (wrap64 (l.getD ka 0 + x)), wrap64 (l.getD ka 0 + x)) := by
      simp only [doM, ↓reduceIte, Int.reduceEq, Int.toNat_natCast]
      try (split <;> rfl)
    rw [hd, ← hml]
    exact h2
  generalize rDoE l m ⟨1, (ka : Int), b, x, y⟩ w = Q at *
  have hm0 := fun W => rMay_any m ⟨1, (ka : Int), b, x, y⟩ W
  rw [hmay] at hm0
  have hQ := fun W => rRoom_any m W
  rw [hn3] at hQ
  have s1 := (St.nil w).box #[.int .i64 1, .int .i64 (ka : Int), .int .i64 b, .int .i64 x, .int .i64 y] 40
  show Calls _ _ #[_, _, .agg #[.int .i64 1, .int .i64 (ka : Int), .int .i64 b, .int .i64 x, .int .i64 y]] _ _
  have hm : Calls Tryz.prog 24 #[.int .i64 m, .agg #[.int .i64 1, .int .i64 (ka : Int), .int .i64 b, .int .i64 x, .int .i64 y]] (w.alloc (.cells #[.int .i64 1, .int .i64 (ka : Int), .int .i64 b, .int .i64 x, .int .i64 y] 40)) _ := hm0 _
  generalize e1 : w.alloc (.cells #[.int .i64 1, .int .i64 (ka : Int), .int .i64 b, .int .i64 x, .int .i64 y] 40) = w1 at *
  generalize eM : w.heap.size = M at *
  have c0 : w1.cell? ⟨M, 0, none⟩ = some (.int .i64 1) := s1.cell 0 rfl 0
  have c1 : w1.cell? ⟨M, 1, none⟩ = some (.int .i64 (ka : Int)) := s1.cell 0 rfl 1
  have c2 : w1.cell? ⟨M, 2, none⟩ = some (.int .i64 b) := s1.cell 0 rfl 2
  have c3 : w1.cell? ⟨M, 3, none⟩ = some (.int .i64 x) := s1.cell 0 rfl 3
  have c4 : w1.cell? ⟨M, 4, none⟩ = some (.int .i64 y) := s1.cell 0 rfl 4
  have HS1 := hid s1
  have HX := hid hX
  have tr : ((m : Int) == 0) = false := by simp; omega
  have tn : ((m : Int) != m) = false := by simp
  have HML := hid hml
  clear hm0 hok s1 hX hmay hroom hln hn3 hml ha0 ha1
  go_enter Tryz.func22, Tryz.ntmps22
  go_upto_region 4 with (first | simp only [e1, eM] | (go_at_call 24; refine hm.mono ?_; rintro e w2 ⟨rfl, k2⟩; clear hm e1 eM c0 c1 c2 c3 c4) | (go_at_call 12; refine (hQ _).mono ?_; rintro e w' ⟨rfl, rfl⟩))
  have s2 := HS1.out.calm k2
  have hmk := makeX m (m : Int) rfl (by omega) w'
  obtain ⟨w3, hcp, k3, hg3⟩ := copyX la m lc m l w' (HX.out.kept s2.same)
  rw [show padM m l = l by rw [HML.out]; exact padM_self l] at hg3
  have s3 : St w [rowI w'.heap.size m m l, boxI M #[.int .i64 1, .int .i64 (ka : Int), .int .i64 b, .int .i64 x, .int .i64 y] 40] w3 := s2.own k3 (owns_row hg3 HML.out.symm (by unfold maxLen; omega))
  clear s2 k3 hg3 HX HS1 k2
  generalize w'.heap.size = g at *
  generalize (xC (List.replicate m 0)).toArray = Z at *
  go_upto_region 7 with (first | simp only [hmk] | simp only [hcp])
  clear hmk hcp
  have r1 : w3.drew.cell? ⟨g, ka, none⟩ = some (.int .i64 (l.getD ka 0)) := row_cell s3.drew hkn
  have r2 : w3.drew.frozen? ⟨g, ka, none⟩ = false := row_frozen s3.drew ka
  have h0 : (0 : Int) ≤ (ka : Int) := Int.natCast_nonneg _
  have h1 : (ka : Int) < (m : Int) := by omega
  have b0 : w3.drew.cell? ⟨M, 0, none⟩ = some (.int .i64 1) := s3.drew.cell 1 rfl 0
  have b1 : w3.drew.cell? ⟨M, 1, none⟩ = some (.int .i64 (ka : Int)) := s3.drew.cell 1 rfl 1
  have b2 : w3.drew.cell? ⟨M, 2, none⟩ = some (.int .i64 b) := s3.drew.cell 1 rfl 2
  have b3 : w3.drew.cell? ⟨M, 3, none⟩ = some (.int .i64 x) := s3.drew.cell 1 rfl 3
  have z0 : w3.cell? ⟨M, 0, none⟩ = some (.int .i64 1) := s3.cell 1 rfl 0
  have HS := hid (row_set s3.drew hkn (wrap64 (l.getD ka 0 + x)))
  have HG := hid (getD_set_same l (k := ka) (by have := HML.out; omega) (wrap64 (l.getD ka 0 + x)))
  clear s3
  generalize l.getD ka 0 = z at *
  go_upto_region 9 with fail
  go_region
  have e2 : (w3.setCell ⟨g, ka, none⟩ (.int .i64 (wrap64 (z + x)))).drew = w3.drew.setCell ⟨g, ka, none⟩ (.int .i64 (wrap64 (z + x))) := rfl
  rw [e2]
  generalize w3.drew.setCell ⟨g, ka, none⟩ (.int .i64 (wrap64 (z + x))) = w4 at *
  have d1 : w4.cell? ⟨M, 1, none⟩ = some (.int .i64 ka) := HS.out.cell 1 rfl 1
  have d2 : w4.cell? ⟨g, ka, none⟩ = some (.int .i64 (wrap64 (z + x))) := by rw [row_cell HS.out hkn, HG.out]
  clear b0 b1 b2 b3 r1 r2 z0 e2
  generalize wrap64 (z + x) = tv at *
  have hbx := fun W => buildX1 W tv
  go_wp2_with (simp only [hbx])
  go_ret3
  refine HD.out _ _ _ _ rfl ?_
  have h7 := HS.out.new64 [tv] (by show 1 ≤ maxLen; decide)
  exact St.two h7
set_option maxRecDepth 100000 in
set_option maxHeartbeats 8000000 in
theorem rDo_2 (hop : d.op = 2) (hX : XIn w la m l) (hok : okD l n d = true) : Calls Tryz.prog 22 #[.slice la m lc, .int .i64 n, d.val] w (rDoE l n d w) := by
  obtain ⟨op, a, b, x, y⟩ := d
  simp only at hop
  subst hop
  have hml := hX.1
  have hok2 := hok
  unfold okD at hok2
  simp only [Bool.and_eq_true, decide_eq_true_eq] at hok2
  obtain ⟨hroom, hln, hmay⟩ := hok2
  obtain ⟨hn1, hn2, hn3⟩ := room_pos hroom
  obtain rfl : n = (m : Int) := by omega
  obtain ⟨ha0, ha1⟩ := may_a hmay (by show (2 : Int) ≠ 5; decide)
  simp only at ha0 ha1
  obtain ⟨ka, rfl⟩ : ∃ ka : Nat, a = (ka : Int) := ⟨a.toNat, by omega⟩
  have hkn : ka < m := by omega
  have HD : Hid (∀ (e : Ending) (w' : World) (v t : Value), e = .returned (.tuple #[v, t, .bool true]) → St w [ownI 2 1 t 1 (xC [if l.getD ka 0 < x then 0 else 1]), ownI 2 1 v m (xC (if l.getD ka 0 < x then l else l.set ka (wrap64 (l.getD ka 0 - x))))] w' → rDoE l m ⟨2, (ka : Int), b, x, y⟩ w e w') := fun e w' v t h1 h2 => by
    unfold rDoE
    rw [if_pos hok]
    refine ⟨v, t, h1, ?_⟩
    have hd : doM l ⟨2, (ka : Int), b, x, y⟩ = (if l.getD ka 0 < x then l else l.set ka (wrap64 (l.getD ka 0 - x)), if l.getD ka 0 < x then 0 else 1) := by
      simp only [doM, ↓reduceIte, Int.reduceEq, Int.toNat_natCast]
      try (split <;> rfl)
    rw [hd, ← hml]
    exact h2
  generalize rDoE l m ⟨2, (ka : Int), b, x, y⟩ w = Q at *
  have hm0 := fun W => rMay_any m ⟨2, (ka : Int), b, x, y⟩ W
  rw [hmay] at hm0
  have hQ := fun W => rRoom_any m W
  rw [hn3] at hQ
  have s1 := (St.nil w).box #[.int .i64 2, .int .i64 (ka : Int), .int .i64 b, .int .i64 x, .int .i64 y] 40
  show Calls _ _ #[_, _, .agg #[.int .i64 2, .int .i64 (ka : Int), .int .i64 b, .int .i64 x, .int .i64 y]] _ _
  have hm : Calls Tryz.prog 24 #[.int .i64 m, .agg #[.int .i64 2, .int .i64 (ka : Int), .int .i64 b, .int .i64 x, .int .i64 y]] (w.alloc (.cells #[.int .i64 2, .int .i64 (ka : Int), .int .i64 b, .int .i64 x, .int .i64 y] 40)) _ := hm0 _
  generalize e1 : w.alloc (.cells #[.int .i64 2, .int .i64 (ka : Int), .int .i64 b, .int .i64 x, .int .i64 y] 40) = w1 at *
  generalize eM : w.heap.size = M at *
  have c0 : w1.cell? ⟨M, 0, none⟩ = some (.int .i64 2) := s1.cell 0 rfl 0
  have c1 : w1.cell? ⟨M, 1, none⟩ = some (.int .i64 (ka : Int)) := s1.cell 0 rfl 1
  have c2 : w1.cell? ⟨M, 2, none⟩ = some (.int .i64 b) := s1.cell 0 rfl 2
  have c3 : w1.cell? ⟨M, 3, none⟩ = some (.int .i64 x) := s1.cell 0 rfl 3
  have c4 : w1.cell? ⟨M, 4, none⟩ = some (.int .i64 y) := s1.cell 0 rfl 4
  have HS1 := hid s1
  have HX := hid hX
  have tr : ((m : Int) == 0) = false := by simp; omega
  have tn : ((m : Int) != m) = false := by simp
  have HML := hid hml
  clear hm0 hok s1 hX hmay hroom hln hn3 hml ha0 ha1
  go_enter Tryz.func22, Tryz.ntmps22
  go_upto_region 4 with (first | simp only [e1, eM] | (go_at_call 24; refine hm.mono ?_; rintro e w2 ⟨rfl, k2⟩; clear hm e1 eM c0 c1 c2 c3 c4) | (go_at_call 12; refine (hQ _).mono ?_; rintro e w' ⟨rfl, rfl⟩))
  have s2 := HS1.out.calm k2
  have hmk := makeX m (m : Int) rfl (by omega) w'
  obtain ⟨w3, hcp, k3, hg3⟩ := copyX la m lc m l w' (HX.out.kept s2.same)
  rw [show padM m l = l by rw [HML.out]; exact padM_self l] at hg3
  have s3 : St w [rowI w'.heap.size m m l, boxI M #[.int .i64 2, .int .i64 (ka : Int), .int .i64 b, .int .i64 x, .int .i64 y] 40] w3 := s2.own k3 (owns_row hg3 HML.out.symm (by unfold maxLen; omega))
  clear s2 k3 hg3 HX HS1 k2
  generalize w'.heap.size = g at *
  generalize (xC (List.replicate m 0)).toArray = Z at *
  go_upto_region 7 with (first | simp only [hmk] | simp only [hcp])
  clear hmk hcp
  have r1 : w3.drew.cell? ⟨g, ka, none⟩ = some (.int .i64 (l.getD ka 0)) := row_cell s3.drew hkn
  have h0 : (0 : Int) ≤ (ka : Int) := Int.natCast_nonneg _
  have h1 : (ka : Int) < (m : Int) := by omega
  have b0 : w3.drew.cell? ⟨M, 0, none⟩ = some (.int .i64 2) := s3.drew.cell 1 rfl 0
  have b1 : w3.drew.cell? ⟨M, 1, none⟩ = some (.int .i64 (ka : Int)) := s3.drew.cell 1 rfl 1
  have b2 : w3.drew.cell? ⟨M, 2, none⟩ = some (.int .i64 b) := s3.drew.cell 1 rfl 2
  have b3 : w3.drew.cell? ⟨M, 3, none⟩ = some (.int .i64 x) := s3.drew.cell 1 rfl 3
  have z0 : w3.cell? ⟨M, 0, none⟩ = some (.int .i64 2) := s3.cell 1 rfl 0
  by_cases hlt : l.getD ka 0 < x
  · simp only [if_pos hlt] at HD
    have t1 : decide (x ≤ l.getD ka 0) = false := decide_eq_false (by omega)
    have HS := hid s3.drew
    have hbx := fun W => buildX1 W 0
    clear hlt s3
    generalize l.getD ka 0 = z at *
    go_upto_region 13 with fail
    go_region
    have HS2 := hid HS.out
    generalize w3.drew = w4 at *
    go_wp2_with (simp only [hbx])
    go_ret3
    refine HD.out _ _ _ _ rfl ?_
    have h7 := HS2.out.new64 [0] (by show 1 ≤ maxLen; decide)
    exact St.two h7
  · simp only [if_neg hlt] at HD
    have t1 : decide (x ≤ l.getD ka 0) = true := decide_eq_true (by omega)
    have HS := hid (row_set s3.drew.drew hkn (wrap64 (l.getD ka 0 - x)))
    have q1 : w3.drew.drew.cell? ⟨M, 1, none⟩ = some (.int .i64 ka) := s3.drew.drew.cell 1 rfl 1
    have q3 : w3.drew.drew.cell? ⟨M, 3, none⟩ = some (.int .i64 x) := s3.drew.drew.cell 1 rfl 3
    have q4 : w3.drew.drew.cell? ⟨g, ka, none⟩ = some (.int .i64 (l.getD ka 0)) := row_cell s3.drew.drew hkn
    have q5 : w3.drew.drew.frozen? ⟨g, ka, none⟩ = false := row_frozen s3.drew.drew ka
    have hbx := fun W => buildX1 W 1
    clear hlt s3
    generalize l.getD ka 0 = z at *
    go_upto_region 13 with fail
    go_region
    go_upto_region 15 with fail
    go_region
    have e2 : (w3.setCell ⟨g, ka, none⟩ (.int .i64 (wrap64 (z - x)))).drew.drew = w3.drew.drew.setCell ⟨g, ka, none⟩ (.int .i64 (wrap64 (z - x))) := rfl
    rw [e2]
    generalize w3.drew.drew.setCell ⟨g, ka, none⟩ (.int .i64 (wrap64 (z - x))) = w4 at *
    have d0 : w4.cell? ⟨M, 0, none⟩ = some (.int .i64 2) := HS.out.cell 1 rfl 0
    clear b0 b1 b2 b3 r1 q1 q3 q4 q5 z0 e2
    go_wp2_with (simp only [hbx])
    go_ret3
    refine HD.out _ _ _ _ rfl ?_
    have h7 := HS.out.new64 [1] (by show 1 ≤ maxLen; decide)
    exact St.two h7
set_option maxRecDepth 100000 in
set_option maxHeartbeats 8000000 in
theorem rDo_3 (hop : d.op = 3) (hX : XIn w la m l) (hok : okD l n d = true) : Calls Tryz.prog 22 #[.slice la m lc, .int .i64 n, d.val] w (rDoE l n d w) := by
  obtain ⟨op, a, b, x, y⟩ := d
  simp only at hop
  subst hop
  have hml := hX.1
  have hok2 := hok
  unfold okD at hok2
  simp only [Bool.and_eq_true, decide_eq_true_eq] at hok2
  obtain ⟨hroom, hln, hmay⟩ := hok2
  obtain ⟨hn1, hn2, hn3⟩ := room_pos hroom
  obtain rfl : n = (m : Int) := by omega
  obtain ⟨ha0, ha1⟩ := may_a hmay (by show (3 : Int) ≠ 5; decide)
  simp only at ha0 ha1
  obtain ⟨ka, rfl⟩ : ∃ ka : Nat, a = (ka : Int) := ⟨a.toNat, by omega⟩
  have hkn : ka < m := by omega
  obtain ⟨hb0, hb1⟩ := may_b hmay rfl
  simp only at hb0 hb1
  obtain ⟨kb, rfl⟩ : ∃ kb : Nat, b = (kb : Int) := ⟨b.toNat, by omega⟩
  have hkbn : kb < m := by omega
  have HD : Hid (∀ (e : Ending) (w' : World) (v t : Value), e = .returned (.tuple #[v, t, .bool true]) → St w [ownI 2 1 t 1 (xC [if l.getD ka 0 < x then 0 else 1]), ownI 2 1 v m (xC (if l.getD ka 0 < x then l else (l.set ka (wrap64 (l.getD ka 0 - x))).set kb (wrap64 ((l.set ka (wrap64 (l.getD ka 0 - x))).getD kb 0 + x))))] w' → rDoE l m ⟨3, (ka : Int), (kb : Int), x, y⟩ w e w') := fun e w' v t h1 h2 => by
    unfold rDoE
    rw [if_pos hok]
    refine ⟨v, t, h1, ?_⟩
    have hd : doM l ⟨3, (ka : Int), (kb : Int), x, y⟩ = (if l.getD ka 0 < x then l else (l.set ka (wrap64 (l.getD ka 0 - x))).set kb (wrap64 ((l.set ka (wrap64 (l.getD ka 0 - x))).getD kb 0 + x)), if l.getD ka 0 < x then 0 else 1) := by
      simp only [doM, ↓reduceIte, Int.reduceEq, Int.toNat_natCast]
      try (split <;> rfl)
    rw [hd, ← hml]
    exact h2
  generalize rDoE l m ⟨3, (ka : Int), (kb : Int), x, y⟩ w = Q at *
  have hm0 := fun W => rMay_any m ⟨3, (ka : Int), (kb : Int), x, y⟩ W
  rw [hmay] at hm0
  have hQ := fun W => rRoom_any m W
  rw [hn3] at hQ
  have s1 := (St.nil w).box #[.int .i64 3, .int .i64 (ka : Int), .int .i64 (kb : Int), .int .i64 x, .int .i64 y] 40
  show Calls _ _ #[_, _, .agg #[.int .i64 3, .int .i64 (ka : Int), .int .i64 (kb : Int), .int .i64 x, .int .i64 y]] _ _
  have hm : Calls Tryz.prog 24 #[.int .i64 m, .agg #[.int .i64 3, .int .i64 (ka : Int), .int .i64 (kb : Int), .int .i64 x, .int .i64 y]] (w.alloc (.cells #[.int .i64 3, .int .i64 (ka : Int), .int .i64 (kb : Int), .int .i64 x, .int .i64 y] 40)) _ := hm0 _
  generalize e1 : w.alloc (.cells #[.int .i64 3, .int .i64 (ka : Int), .int .i64 (kb : Int), .int .i64 x, .int .i64 y] 40) = w1 at *
  generalize eM : w.heap.size = M at *
  have c0 : w1.cell? ⟨M, 0, none⟩ = some (.int .i64 3) := s1.cell 0 rfl 0
  have c1 : w1.cell? ⟨M, 1, none⟩ = some (.int .i64 (ka : Int)) := s1.cell 0 rfl 1
  have c2 : w1.cell? ⟨M, 2, none⟩ = some (.int .i64 (kb : Int)) := s1.cell 0 rfl 2
  have c3 : w1.cell? ⟨M, 3, none⟩ = some (.int .i64 x) := s1.cell 0 rfl 3
  have c4 : w1.cell? ⟨M, 4, none⟩ = some (.int .i64 y) := s1.cell 0 rfl 4
  have HS1 := hid s1
  have HX := hid hX
  have tr : ((m : Int) == 0) = false := by simp; omega
  have tn : ((m : Int) != m) = false := by simp
  have HML := hid hml
  clear hm0 hok s1 hX hmay hroom hln hn3 hml ha0 ha1 hb0 hb1
  go_enter Tryz.func22, Tryz.ntmps22
  go_upto_region 4 with (first | simp only [e1, eM] | (go_at_call 24; refine hm.mono ?_; rintro e w2 ⟨rfl, k2⟩; clear hm e1 eM c0 c1 c2 c3 c4) | (go_at_call 12; refine (hQ _).mono ?_; rintro e w' ⟨rfl, rfl⟩))
  have s2 := HS1.out.calm k2
  have hmk := makeX m (m : Int) rfl (by omega) w'
  obtain ⟨w3, hcp, k3, hg3⟩ := copyX la m lc m l w' (HX.out.kept s2.same)
  rw [show padM m l = l by rw [HML.out]; exact padM_self l] at hg3
  have s3 : St w [rowI w'.heap.size m m l, boxI M #[.int .i64 3, .int .i64 (ka : Int), .int .i64 (kb : Int), .int .i64 x, .int .i64 y] 40] w3 := s2.own k3 (owns_row hg3 HML.out.symm (by unfold maxLen; omega))
  clear s2 k3 hg3 HX HS1 k2
  generalize w'.heap.size = g at *
  generalize (xC (List.replicate m 0)).toArray = Z at *
  go_upto_region 7 with (first | simp only [hmk] | simp only [hcp])
  clear hmk hcp
  have r1 : w3.drew.cell? ⟨g, ka, none⟩ = some (.int .i64 (l.getD ka 0)) := row_cell s3.drew hkn
  have h0 : (0 : Int) ≤ (ka : Int) := Int.natCast_nonneg _
  have h1 : (ka : Int) < (m : Int) := by omega
  have b0 : w3.drew.cell? ⟨M, 0, none⟩ = some (.int .i64 3) := s3.drew.cell 1 rfl 0
  have b1 : w3.drew.cell? ⟨M, 1, none⟩ = some (.int .i64 (ka : Int)) := s3.drew.cell 1 rfl 1
  have b2 : w3.drew.cell? ⟨M, 2, none⟩ = some (.int .i64 (kb : Int)) := s3.drew.cell 1 rfl 2
  have b3 : w3.drew.cell? ⟨M, 3, none⟩ = some (.int .i64 x) := s3.drew.cell 1 rfl 3
  have z0 : w3.cell? ⟨M, 0, none⟩ = some (.int .i64 3) := s3.cell 1 rfl 0
  by_cases hlt : l.getD ka 0 < x
  · simp only [if_pos hlt] at HD
    have t1 : decide (x ≤ l.getD ka 0) = false := decide_eq_false (by omega)
    have HS := hid s3.drew
    have hbx := fun W => buildX1 W 0
    clear hlt s3
    generalize l.getD ka 0 = z at *
    go_upto_region 13 with fail
    go_region
    have HS2 := hid HS.out
    generalize w3.drew = w4 at *
    go_wp2_with (simp only [hbx])
    go_ret3
    refine HD.out _ _ _ _ rfl ?_
    have h7 := HS2.out.new64 [0] (by show 1 ≤ maxLen; decide)
    exact St.two h7
  · simp only [if_neg hlt] at HD
    have t1 : decide (x ≤ l.getD ka 0) = true := decide_eq_true (by omega)
    have HS := hid (row_set s3.drew.drew hkn (wrap64 (l.getD ka 0 - x)))
    have q1 : w3.drew.drew.cell? ⟨M, 1, none⟩ = some (.int .i64 ka) := s3.drew.drew.cell 1 rfl 1
    have q3 : w3.drew.drew.cell? ⟨M, 3, none⟩ = some (.int .i64 x) := s3.drew.drew.cell 1 rfl 3
    have q4 : w3.drew.drew.cell? ⟨g, ka, none⟩ = some (.int .i64 (l.getD ka 0)) := row_cell s3.drew.drew hkn
    have q5 : w3.drew.drew.frozen? ⟨g, ka, none⟩ = false := row_frozen s3.drew.drew ka
    have hbx := fun W => buildX1 W 1
    clear hlt s3
    generalize l.getD ka 0 = z at *
    go_upto_region 13 with fail
    go_region
    go_upto_region 15 with fail
    go_region
    have e2 : (w3.setCell ⟨g, ka, none⟩ (.int .i64 (wrap64 (z - x)))).drew.drew = w3.drew.drew.setCell ⟨g, ka, none⟩ (.int .i64 (wrap64 (z - x))) := rfl
    rw [e2]
    generalize w3.drew.drew.setCell ⟨g, ka, none⟩ (.int .i64 (wrap64 (z - x))) = w4 at *
    have d0 : w4.cell? ⟨M, 0, none⟩ = some (.int .i64 3) := HS.out.cell 1 rfl 0
    clear b0 b1 b2 b3 r1 q1 q3 q4 q5 z0 e2
    have d2 : w4.drew.cell? ⟨M, 2, none⟩ = some (.int .i64 kb) := HS.out.drew.cell 1 rfl 2
    have d3 : w4.drew.cell? ⟨M, 3, none⟩ = some (.int .i64 x) := HS.out.drew.cell 1 rfl 3
    have d4 : w4.drew.cell? ⟨g, kb, none⟩ = some (.int .i64 ((l.set ka (wrap64 (z - x))).getD kb 0)) := row_cell HS.out.drew hkbn
    have d5 : w4.drew.frozen? ⟨g, kb, none⟩ = false := row_frozen HS.out.drew kb
    have g0 : (0 : Int) ≤ (kb : Int) := Int.natCast_nonneg _
    have g1 : (kb : Int) < (m : Int) := by omega
    have HS2 := hid (row_set HS.out.drew hkbn (wrap64 ((l.set ka (wrap64 (z - x))).getD kb 0 + x)))
    generalize (l.set ka (wrap64 (z - x))).getD kb 0 = zb at *
    clear HS
    go_upto_region 17 with fail
    go_region
    have e3 : (w4.setCell ⟨g, kb, none⟩ (.int .i64 (wrap64 (zb + x)))).drew = w4.drew.setCell ⟨g, kb, none⟩ (.int .i64 (wrap64 (zb + x))) := rfl
    rw [e3]
    generalize w4.drew.setCell ⟨g, kb, none⟩ (.int .i64 (wrap64 (zb + x))) = w5 at *
    clear d0 d2 d3 d4 d5 e3
    go_wp2_with (simp only [hbx])
    go_ret3
    refine HD.out _ _ _ _ rfl ?_
    have h7 := HS2.out.new64 [1] (by show 1 ≤ maxLen; decide)
    exact St.two h7
set_option maxRecDepth 100000 in
set_option maxHeartbeats 8000000 in
theorem rDo_4 (hop : d.op = 4) (hX : XIn w la m l) (hok : okD l n d = true) : Calls Tryz.prog 22 #[.slice la m lc, .int .i64 n, d.val] w (rDoE l n d w) := by
  obtain ⟨op, a, b, x, y⟩ := d
  simp only at hop
  subst hop
  have hml := hX.1
  have hok2 := hok
  unfold okD at hok2
  simp only [Bool.and_eq_true, decide_eq_true_eq] at hok2
  obtain ⟨hroom, hln, hmay⟩ := hok2
  obtain ⟨hn1, hn2, hn3⟩ := room_pos hroom
  obtain rfl : n = (m : Int) := by omega
  obtain ⟨ha0, ha1⟩ := may_a hmay (by show (4 : Int) ≠ 5; decide)
  simp only at ha0 ha1
  obtain ⟨ka, rfl⟩ : ∃ ka : Nat, a = (ka : Int) := ⟨a.toNat, by omega⟩
  have hkn : ka < m := by omega
  have HD : Hid (∀ (e : Ending) (w' : World) (v t : Value), e = .returned (.tuple #[v, t, .bool true]) → St w [ownI 2 1 t 1 (xC [l.getD ka 0]), ownI 2 1 v m (xC (l))] w' → rDoE l m ⟨4, (ka : Int), b, x, y⟩ w e w') := fun e w' v t h1 h2 => by
    unfold rDoE
    rw [if_pos hok]
    refine ⟨v, t, h1, ?_⟩
    have hd : doM l ⟨4, (ka : Int), b, x, y⟩ = (l, l.getD ka 0) := by
      simp only [doM, ↓reduceIte, Int.reduceEq, Int.toNat_natCast]
      try (split <;> rfl)
    rw [hd, ← hml]
    exact h2
  generalize rDoE l m ⟨4, (ka : Int), b, x, y⟩ w = Q at *
  have hm0 := fun W => rMay_any m ⟨4, (ka : Int), b, x, y⟩ W
  rw [hmay] at hm0
  have hQ := fun W => rRoom_any m W
  rw [hn3] at hQ
  have s1 := (St.nil w).box #[.int .i64 4, .int .i64 (ka : Int), .int .i64 b, .int .i64 x, .int .i64 y] 40
  show Calls _ _ #[_, _, .agg #[.int .i64 4, .int .i64 (ka : Int), .int .i64 b, .int .i64 x, .int .i64 y]] _ _
  have hm : Calls Tryz.prog 24 #[.int .i64 m, .agg #[.int .i64 4, .int .i64 (ka : Int), .int .i64 b, .int .i64 x, .int .i64 y]] (w.alloc (.cells #[.int .i64 4, .int .i64 (ka : Int), .int .i64 b, .int .i64 x, .int .i64 y] 40)) _ := hm0 _
  generalize e1 : w.alloc (.cells #[.int .i64 4, .int .i64 (ka : Int), .int .i64 b, .int .i64 x, .int .i64 y] 40) = w1 at *
  generalize eM : w.heap.size = M at *
  have c0 : w1.cell? ⟨M, 0, none⟩ = some (.int .i64 4) := s1.cell 0 rfl 0
  have c1 : w1.cell? ⟨M, 1, none⟩ = some (.int .i64 (ka : Int)) := s1.cell 0 rfl 1
  have c2 : w1.cell? ⟨M, 2, none⟩ = some (.int .i64 b) := s1.cell 0 rfl 2
  have c3 : w1.cell? ⟨M, 3, none⟩ = some (.int .i64 x) := s1.cell 0 rfl 3
  have c4 : w1.cell? ⟨M, 4, none⟩ = some (.int .i64 y) := s1.cell 0 rfl 4
  have HS1 := hid s1
  have HX := hid hX
  have tr : ((m : Int) == 0) = false := by simp; omega
  have tn : ((m : Int) != m) = false := by simp
  have HML := hid hml
  clear hm0 hok s1 hX hmay hroom hln hn3 hml ha0 ha1
  go_enter Tryz.func22, Tryz.ntmps22
  go_upto_region 4 with (first | simp only [e1, eM] | (go_at_call 24; refine hm.mono ?_; rintro e w2 ⟨rfl, k2⟩; clear hm e1 eM c0 c1 c2 c3 c4) | (go_at_call 12; refine (hQ _).mono ?_; rintro e w' ⟨rfl, rfl⟩))
  have s2 := HS1.out.calm k2
  have hmk := makeX m (m : Int) rfl (by omega) w'
  obtain ⟨w3, hcp, k3, hg3⟩ := copyX la m lc m l w' (HX.out.kept s2.same)
  rw [show padM m l = l by rw [HML.out]; exact padM_self l] at hg3
  have s3 : St w [rowI w'.heap.size m m l, boxI M #[.int .i64 4, .int .i64 (ka : Int), .int .i64 b, .int .i64 x, .int .i64 y] 40] w3 := s2.own k3 (owns_row hg3 HML.out.symm (by unfold maxLen; omega))
  clear s2 k3 hg3 HX HS1 k2
  generalize w'.heap.size = g at *
  generalize (xC (List.replicate m 0)).toArray = Z at *
  go_upto_region 7 with (first | simp only [hmk] | simp only [hcp])
  clear hmk hcp
  have r1 : w3.cell? ⟨g, ka, none⟩ = some (.int .i64 (l.getD ka 0)) := row_cell s3 hkn
  have h0 : (0 : Int) ≤ (ka : Int) := Int.natCast_nonneg _
  have h1 : (ka : Int) < (m : Int) := by omega
  have b0 : w3.cell? ⟨M, 0, none⟩ = some (.int .i64 4) := s3.cell 1 rfl 0
  have b1 : w3.cell? ⟨M, 1, none⟩ = some (.int .i64 (ka : Int)) := s3.cell 1 rfl 1
  have b2 : w3.cell? ⟨M, 2, none⟩ = some (.int .i64 b) := s3.cell 1 rfl 2
  have b3 : w3.cell? ⟨M, 3, none⟩ = some (.int .i64 x) := s3.cell 1 rfl 3
  have HS3 := hid s3
  clear s3
  generalize l.getD ka 0 = tv at *
  have hbx := fun W => buildX1 W tv
  go_wp2_with (simp only [hbx])
  go_ret3
  refine HD.out _ _ _ _ rfl ?_
  have h7 := HS3.out.new64 [tv] (by show 1 ≤ maxLen; decide)
  exact St.two h7
set_option maxRecDepth 100000 in
set_option maxHeartbeats 8000000 in
theorem rDo_5 (hop : d.op = 5) (hX : XIn w la m l) (hok : okD l n d = true) : Calls Tryz.prog 22 #[.slice la m lc, .int .i64 n, d.val] w (rDoE l n d w) := by
  obtain ⟨op, a, b, x, y⟩ := d
  simp only at hop
  subst hop
  have hml := hX.1
  have hok2 := hok
  unfold okD at hok2
  simp only [Bool.and_eq_true, decide_eq_true_eq] at hok2
  obtain ⟨hroom, hln, hmay⟩ := hok2
  obtain ⟨hn1, hn2, hn3⟩ := room_pos hroom
  obtain rfl : n = (m : Int) := by omega
  have HD : Hid (∀ (e : Ending) (w' : World) (v t : Value), e = .returned (.tuple #[v, t, .bool true]) → St w [ownI 2 1 t 1 (xC [sumM l]), ownI 2 1 v m (xC (l))] w' → rDoE l m ⟨5, a, b, x, y⟩ w e w') := fun e w' v t h1 h2 => by
    unfold rDoE
    rw [if_pos hok]
    refine ⟨v, t, h1, ?_⟩
    have hd : doM l ⟨5, a, b, x, y⟩ = (l, sumM l) := by
      simp only [doM, ↓reduceIte, Int.reduceEq, Int.toNat_natCast]
      try (split <;> rfl)
    rw [hd, ← hml]
    exact h2
  generalize rDoE l m ⟨5, a, b, x, y⟩ w = Q at *
  have hm0 := fun W => rMay_any m ⟨5, a, b, x, y⟩ W
  rw [hmay] at hm0
  have hQ := fun W => rRoom_any m W
  rw [hn3] at hQ
  have s1 := (St.nil w).box #[.int .i64 5, .int .i64 a, .int .i64 b, .int .i64 x, .int .i64 y] 40
  show Calls _ _ #[_, _, .agg #[.int .i64 5, .int .i64 a, .int .i64 b, .int .i64 x, .int .i64 y]] _ _
  have hm : Calls Tryz.prog 24 #[.int .i64 m, .agg #[.int .i64 5, .int .i64 a, .int .i64 b, .int .i64 x, .int .i64 y]] (w.alloc (.cells #[.int .i64 5, .int .i64 a, .int .i64 b, .int .i64 x, .int .i64 y] 40)) _ := hm0 _
  generalize e1 : w.alloc (.cells #[.int .i64 5, .int .i64 a, .int .i64 b, .int .i64 x, .int .i64 y] 40) = w1 at *
  generalize eM : w.heap.size = M at *
  have c0 : w1.cell? ⟨M, 0, none⟩ = some (.int .i64 5) := s1.cell 0 rfl 0
  have c1 : w1.cell? ⟨M, 1, none⟩ = some (.int .i64 a) := s1.cell 0 rfl 1
  have c2 : w1.cell? ⟨M, 2, none⟩ = some (.int .i64 b) := s1.cell 0 rfl 2
  have c3 : w1.cell? ⟨M, 3, none⟩ = some (.int .i64 x) := s1.cell 0 rfl 3
  have c4 : w1.cell? ⟨M, 4, none⟩ = some (.int .i64 y) := s1.cell 0 rfl 4
  have HS1 := hid s1
  have HX := hid hX
  have tr : ((m : Int) == 0) = false := by simp; omega
  have tn : ((m : Int) != m) = false := by simp
  have HML := hid hml
  clear hm0 hok s1 hX hmay hroom hln hn3 hml 
  go_enter Tryz.func22, Tryz.ntmps22
  go_upto_region 4 with (first | simp only [e1, eM] | (go_at_call 24; refine hm.mono ?_; rintro e w2 ⟨rfl, k2⟩; clear hm e1 eM c0 c1 c2 c3 c4) | (go_at_call 12; refine (hQ _).mono ?_; rintro e w' ⟨rfl, rfl⟩))
  have s2 := HS1.out.calm k2
  have hmk := makeX m (m : Int) rfl (by omega) w'
  obtain ⟨w3, hcp, k3, hg3⟩ := copyX la m lc m l w' (HX.out.kept s2.same)
  rw [show padM m l = l by rw [HML.out]; exact padM_self l] at hg3
  have s3 : St w [rowI w'.heap.size m m l, boxI M #[.int .i64 5, .int .i64 a, .int .i64 b, .int .i64 x, .int .i64 y] 40] w3 := s2.own k3 (owns_row hg3 HML.out.symm (by unfold maxLen; omega))
  clear s2 k3 hg3 HX HS1 k2
  generalize w'.heap.size = g at *
  generalize (xC (List.replicate m 0)).toArray = Z at *
  go_upto_region 7 with (first | simp only [hmk] | simp only [hcp])
  clear hmk hcp
  have b0 : w3.cell? ⟨M, 0, none⟩ = some (.int .i64 5) := s3.cell 1 rfl 0
  have b1 : w3.cell? ⟨M, 1, none⟩ = some (.int .i64 a) := s3.cell 1 rfl 1
  have b2 : w3.cell? ⟨M, 2, none⟩ = some (.int .i64 b) := s3.cell 1 rfl 2
  have b3 : w3.cell? ⟨M, 3, none⟩ = some (.int .i64 x) := s3.cell 1 rfl 3
  have HC : Hid (∀ j, j < m → w3.cell? ⟨g, j, none⟩ = some (.int .i64 (l.getD j 0))) := fun j hj => row_cell s3 hj
  have HN := HML
  have HS3 := hid s3
  clear s3
  go_wp2
  go_loopw [11, 12] (fun t i wr => ∃ j : Nat, i = .int .i64 j ∧ j ≤ m ∧ t = .int .i64 (sumM (l.take j)) ∧ wr = w3) (fun _ i _ => m - (intOf i).toNat)
  case atStart => exact ⟨0, rfl, Nat.zero_le _, rfl, rfl⟩
  case round =>
    obtain ⟨j, rfl, hj, rfl, rfl⟩ := hrel
    by_cases hlt : j < m
    · have c1 := HC.out j hlt
      have h0 : (0 : Int) ≤ (j : Int) := Int.natCast_nonneg _
      have h1 : (j : Int) < (m : Int) := by omega
      have HT := hid (sumM_take l j (by have := HN.out; omega))
      generalize l.getD j 0 = z at *
      generalize sumM (l.take j) = t at *
      go_wp2
      go_roundw
      case rel => exact ⟨j + 1, by simp, by omega, by rw [HT.out], by trivial⟩
      case measure => simp [intOf]; omega
    · have h1 : ¬ (j : Int) < (m : Int) := by omega
      have HT : Hid (sumM (l.take j) = sumM l) := by
        show _ = _
        rw [List.take_of_length_le (by have := HN.out; omega)]
      rw [HT.out]
      clear HT HC
      generalize sumM l = tv at *
      have hbx := fun W => buildX1 W tv
      go_wp2_with (simp only [hbx])
      go_ret3
      refine HD.out _ _ _ _ rfl ?_
      have h7 := HS3.out.new64 [tv] (by show 1 ≤ maxLen; decide)
      exact St.two h7
theorem rDo_any (la : Option Addr) (m lc : Nat) (l : List Int) (n : Int) (d : Dd) (w : World) (hX : XIn w la m l) : Calls Tryz.prog 22 #[.slice la m lc, .int .i64 n, d.val] w (rDoE l n d w) := by
  cases hok : okD l n d with
  | false => exact rDo_0 hX hok
  | true =>
    have h2 := hok
    unfold okD at h2
    simp only [Bool.and_eq_true, decide_eq_true_eq] at h2
    rcases may_op h2.2.2 with e | e | e | e | e
    · exact rDo_1 e hX hok
    · exact rDo_2 e hX hok
    · exact rDo_3 e hX hok
    · exact rDo_4 e hX hok
    · exact rDo_5 e hX hok
end
end Go.Proofs.YtmoekoilcdkhfaaGreatDoor
