/- What the code's table does: New, Len, has, now, hasWord, Look, Word, Put. -/
import Derived.Test.YthbcbjkgjgmegaaGreatHdAll
import Derived.Test.YthbcbjkgjgmegaaGreatWd
import Derived.Test.YthbcbjkgjgmegaaGreatMod
namespace Go.Proofs.YthbcbjkgjgmegaaGreat
open Go.RowKit
set_option linter.unusedVariables false
set_option linter.unusedSimpArgs false
attribute [local go_sem ↓] Go.wp_at_zero Go.wp_at_succ

/-- A table in block t: its rows are in blocks r and q. -/
def tabI (t r q : Nat) : It := boxI t #[.pointer (some ⟨r, 0, none⟩), .pointer (some ⟨q, 0, none⟩)] 186

set_option maxRecDepth 100000 in
theorem tabNew_out (p : Value) (n : Int) (h : n < 1 ∨ 8 < n) (w : World) : Calls Tryz.prog 35 #[p, .int .i64 n] w fun e w' => e = .returned (.tuple #[.pointer none, .int .i64 1]) ∧ w' = w := by
  by_cases h1 : n < 1
  · clear h
    go_enter Tryz.func35, Tryz.ntmps35
    go_wp2
    go_ret2
    exact ⟨rfl, rfl⟩
  · have h2 : 8 < n := by omega
    clear h
    go_enter Tryz.func35, Tryz.ntmps35
    go_wp2
    go_ret2
    exact ⟨rfl, rfl⟩

set_option maxRecDepth 100000 in
theorem tabNew_st {o w : World} {its : List It} (h : St o its w) (mo : Option Nat) (n : Nat) (h1 : 1 ≤ n) (h8 : n ≤ 8) :
    Calls Tryz.prog 35 #[mptr mo, .int .i64 n] w fun e w' => ∃ t r c q d, e = .returned (.tuple #[.pointer (some ⟨t, 0, none⟩), .int .i64 0]) ∧
      St o (tabI t r q :: wdRowI q d mo 4 (List.replicate (n * 2) 0) :: hdRowI r c mo 3 (List.replicate n Hd.zero) :: its) w' := by
  have hh := hdNew_st h mo 3 n h1 (by omega)
  have hw : ∀ w1 its', St o its' w1 → Calls Tryz.prog 82 #[mptr mo, .int .i64 4, .int .i64 ((n : Int) * 2)] w1 fun e w' => ∃ q d, e = .returned (.tuple #[.pointer (some ⟨q, 0, none⟩), .int .i64 0]) ∧ St o (wdRowI q d mo 4 (List.replicate (n * 2) 0) :: its') w' := by
    intro w1 its' hS
    have e : ((n : Int) * 2) = ((n * 2 : Nat) : Int) := by omega
    rw [e]
    refine (wdNew_st hS mo 4 (n * 2) (by omega) (by omega)).mono ?_
    rintro e w' ⟨h1, h2, _⟩
    exact ⟨_, _, h1, h2⟩
  have i1 : ¬ (n : Int) < 1 := by omega
  have i2 : ¬ (8 : Int) < (n : Int) := by omega
  have i3 : (n : Int) ≤ 8 := by omega
  clear h
  simp only [mptr] at *
  generalize maddr mo = mp at *
  go_enter Tryz.func35, Tryz.ntmps35
  go_wp2_with fail
  refine hh.mono ?_
  rintro e w1 ⟨rfl, hS1, _⟩
  have hw1 := hw w1 _ hS1
  clear hh hw hS1
  generalize w.heap.size + 1 = r at *
  generalize w.heap.size = c at *
  go_wp2_with fail
  refine hw1.mono ?_
  rintro e w2 ⟨q, d, rfl, hS2⟩
  have HS : Hid _ := hS2.box #[.pointer (some ⟨r, 0, none⟩), .pointer (some ⟨q, 0, none⟩)] 186
  clear hw1 hS2
  go_wp2
  go_ret2
  exact ⟨_, _, _, _, _, rfl, HS.out⟩

set_option maxRecDepth 100000 in
theorem hdLen_st {o w : World} {its : List It} (h : St o its w) (b : Nat) {r c : Nat} {mo : Option Nat} {hs : List Hd} (hb : its[b]? = some (hdRowI r c mo 3 hs)) :
    Calls Tryz.prog 165 #[.pointer (some ⟨r, 0, none⟩)] w fun e w' => e = .returned (.int .i64 hs.length) ∧ w' = w := by
  have hr : HdRow w r c mo 3 hs := h.get b hb
  have c2 : w.cell? ⟨r, 2, none⟩ = some (.slice (some ⟨c, 0, none⟩) hs.length hs.length) := cell_of_heap hr.row
  clear hr h
  go_enter Tryz.func165, Tryz.ntmps165
  go_wp2
  go_ret
  exact ⟨rfl, rfl⟩

set_option maxRecDepth 100000 in
theorem tabLen_st {o w : World} {its : List It} (h : St o its w) (a b : Nat) {t r c q : Nat} {mo : Option Nat} {hs : List Hd} (ha : its[a]? = some (tabI t r q)) (hb : its[b]? = some (hdRowI r c mo 3 hs)) :
    Calls Tryz.prog 119 #[.pointer (some ⟨t, 0, none⟩)] w fun e w' => e = .returned (.int .i64 hs.length) ∧ w' = w := by
  have c0 : w.cell? ⟨t, 0, none⟩ = some (.pointer (some ⟨r, 0, none⟩)) := h.cell a ha 0
  have hc := hdLen_st h b hb
  clear h
  go_enter Tryz.func119, Tryz.ntmps119
  go_wp2_with (go_at_call 165; refine hc.mono ?_; rintro e w' ⟨rfl, rfl⟩)
  go_ret
  exact ⟨rfl, rfl⟩

def hasSlot (n : Nat) (i : Int) : Bool := decide (0 ≤ i) && decide (i < n)
set_option maxRecDepth 100000 in
theorem tabHas_st {o w : World} {its : List It} (h : St o its w) (a b : Nat) {t r c q : Nat} {mo : Option Nat} {hs : List Hd} (ha : its[a]? = some (tabI t r q)) (hb : its[b]? = some (hdRowI r c mo 3 hs)) (i : Int) :
    Calls Tryz.prog 304 #[.pointer (some ⟨t, 0, none⟩), .int .i64 i] w fun e w' => e = .returned (.bool (hasSlot hs.length i)) ∧ w' = w := by
  have hc := tabLen_st h a b ha hb
  clear h
  unfold hasSlot
  generalize hs.length = n at *
  cases h1 : decide ((0 : Int) ≤ i) <;> cases h2 : decide (i < (n : Int))
  all_goals
    go_enter Tryz.func304, Tryz.ntmps304
    go_wp2_with (go_at_call 119; refine hc.mono ?_; rintro e w' ⟨rfl, rfl⟩)
    go_ret
    first | exact ⟨rfl, rfl⟩ | simp_all

def hasWd (n : Nat) (i j : Int) : Bool := hasSlot n i && decide (0 ≤ j) && decide (j < 2)
set_option maxRecDepth 100000 in
theorem tabHasWord_st {o w : World} {its : List It} (h : St o its w) (a b : Nat) {t r c q : Nat} {mo : Option Nat} {hs : List Hd} (ha : its[a]? = some (tabI t r q)) (hb : its[b]? = some (hdRowI r c mo 3 hs)) (i j : Int) :
    Calls Tryz.prog 297 #[.pointer (some ⟨t, 0, none⟩), .int .i64 i, .int .i64 j] w fun e w' => e = .returned (.bool (hasWd hs.length i j)) ∧ w' = w := by
  have hc := tabHas_st h a b ha hb i
  clear h
  unfold hasWd
  generalize hasSlot hs.length i = ok at *
  cases ok <;> cases h1 : decide ((0 : Int) ≤ j) <;> cases h2 : decide (j < (2 : Int))
  all_goals
    go_enter Tryz.func297, Tryz.ntmps297
    go_wp2_with (go_at_call 304; refine hc.mono ?_; rintro e w' ⟨rfl, rfl⟩)
    go_ret
    first | exact ⟨rfl, rfl⟩ | simp_all

set_option maxRecDepth 100000 in
theorem isThread_any (t : Int) (w : World) : Calls Tryz.prog 365 #[.int .i64 t] w fun e w' => e = .returned (.bool (isTh t)) ∧ w' = w := by
  unfold isTh
  cases h1 : decide ((1 : Int) ≤ t) <;> cases h2 : decide (t ≤ (8 : Int))
  all_goals
    go_enter Tryz.func365, Tryz.ntmps365
    go_wp2
    go_ret
    first | exact ⟨rfl, rfl⟩ | simp_all

theorem hasSlot_iff (n : Nat) (i : Int) : hasSlot n i = true ↔ 0 ≤ i ∧ i < n := by
  simp [hasSlot]
/-- The head that is there, or nothing. -/
def nowAt (hs : List Hd) (i : Int) : Hd := (headAt hs i).getD Hd.zero

set_option maxRecDepth 100000 in
set_option maxHeartbeats 1000000 in
theorem tabNow_st {o w : World} {its : List It} (h : St o its w) (a b : Nat) {t r c q : Nat} {mo : Option Nat} {hs : List Hd} (ha : its[a]? = some (tabI t r q)) (hb : its[b]? = some (hdRowI r c mo 3 hs)) (i : Int) :
    Calls Tryz.prog 349 #[.pointer (some ⟨t, 0, none⟩), .int .i64 i] w fun e w' => e = .returned (nowAt hs i).val ∧ St o its w' := by
  unfold nowAt
  have hS0 := h.box #[.int .i64 0, .int .i64 0, .int .i64 0, .int .i64 0, .bool false, .int .i64 0] 181
  have hc : (w.alloc (.cells #[.int .i64 0, .int .i64 0, .int .i64 0, .int .i64 0, .bool false, .int .i64 0] 181)).cell? ⟨t, 0, none⟩ = some (.pointer (some ⟨r, 0, none⟩)) := hS0.cell (a + 1) ha 0
  have hh := tabHas_st hS0 (a + 1) (b + 1) ha hb i
  rcases headAt_cases hs i with ⟨k, hk, rfl, he⟩ | ⟨hk, he⟩
  · rw [he]
    have hok : hasSlot hs.length (k : Int) = true := (hasSlot_iff _ _).2 ⟨by omega, by omega⟩
    rw [hok] at hh
    have hcall := hdAll_st hS0 (b + 1) hb
    have i0 : (0 : Int) ≤ (k : Int) := Int.natCast_nonneg _
    have i1 : (k : Int) < (hs.length : Int) := by omega
    have hle : (hs.length : Int) ≤ 4096 := by have := (show HdRow w r c mo 3 hs from h.get b hb).small; omega
    have d := hdCells_at hs k hk
    generalize hx : hs[k] = x at d
    obtain ⟨xgn, xsa, xsp, xth, xdm, xwy⟩ := x
    simp only [Hd.val, Option.getD_some] at *
    obtain ⟨d0, d1, d2, d3, d4, d5⟩ := d
    clear h hx he hok
    go_enter Tryz.func349, Tryz.ntmps349
    go_wp2_with fail
    generalize w.alloc (.cells #[.int .i64 0, .int .i64 0, .int .i64 0, .int .i64 0, .bool false, .int .i64 0] 181) = W0 at *
    generalize w.heap.size = B at *
    refine hh.mono ?_
    rintro e w0 ⟨rfl, rfl⟩
    clear hh
    go_wp2_with fail
    refine hcall.mono ?_
    rintro e w1 ⟨v', rfl, hS1⟩
    have hown : w1.ownsRow 0 181 6 v' hs.length (hdCells hs) := hS1.get 0 rfl
    have hlen := hdCells_length hs
    obtain ⟨q', cap, rfl, _, _⟩ := hown.form (by omega)
    have p0 : w1.cell? ⟨q', k * 6, none⟩ = some (.int .i64 xgn) := (hown.cellAt (k * 6) (by omega)).trans d0
    have p1 : w1.cell? ⟨q', k * 6 + 1, none⟩ = some (.int .i64 xsa) := (hown.cellAt (k * 6 + 1) (by omega)).trans d1
    have p2 : w1.cell? ⟨q', k * 6 + 2, none⟩ = some (.int .i64 xsp) := (hown.cellAt (k * 6 + 2) (by omega)).trans d2
    have p3 : w1.cell? ⟨q', k * 6 + 3, none⟩ = some (.int .i64 xth) := (hown.cellAt (k * 6 + 3) (by omega)).trans d3
    have p4 : w1.cell? ⟨q', k * 6 + 4, none⟩ = some (.bool xdm) := (hown.cellAt (k * 6 + 4) (by omega)).trans d4
    have p5 : w1.cell? ⟨q', k * 6 + 5, none⟩ = some (.int .i64 xwy) := (hown.cellAt (k * 6 + 5) (by omega)).trans d5
    have b0 : w1.cell? ⟨B, 0, none⟩ = some (.int .i64 0) := hS1.cell 1 rfl 0
    have b1 : w1.cell? ⟨B, 1, none⟩ = some (.int .i64 0) := hS1.cell 1 rfl 1
    have b2 : w1.cell? ⟨B, 2, none⟩ = some (.int .i64 0) := hS1.cell 1 rfl 2
    have b3 : w1.cell? ⟨B, 3, none⟩ = some (.int .i64 0) := hS1.cell 1 rfl 3
    have b4 : w1.cell? ⟨B, 4, none⟩ = some (.bool false) := hS1.cell 1 rfl 4
    have b5 : w1.cell? ⟨B, 5, none⟩ = some (.int .i64 0) := hS1.cell 1 rfl 5
    have f0 : w1.frozen? ⟨B, 0, none⟩ = false := hS1.frozen 1 rfl 0
    have f1 : w1.frozen? ⟨B, 1, none⟩ = false := hS1.frozen 1 rfl 1
    have f2 : w1.frozen? ⟨B, 2, none⟩ = false := hS1.frozen 1 rfl 2
    have f3 : w1.frozen? ⟨B, 3, none⟩ = false := hS1.frozen 1 rfl 3
    have f4 : w1.frozen? ⟨B, 4, none⟩ = false := hS1.frozen 1 rfl 4
    have f5 : w1.frozen? ⟨B, 5, none⟩ = false := hS1.frozen 1 rfl 5
    have ne : ¬ q' = B := hS1.ne 0 1 rfl rfl (by omega) (by simp [ownI, Value.ownBlock]) (by simp [boxI])
    have HS : Hid (∀ u0 u1 u2 u3 u4 u5 : Value, St o its ((((((w1.setCell ⟨B, 0, none⟩ u0).setCell ⟨B, 1, none⟩ u1).setCell ⟨B, 2, none⟩ u2).setCell ⟨B, 3, none⟩ u3).setCell ⟨B, 4, none⟩ u4).setCell ⟨B, 5, none⟩ u5)) := fun u0 u1 u2 u3 u4 u5 => ((((((hS1.write 1 rfl 0 u0).write 1 rfl 1 u1).write 1 rfl 2 u2).write 1 rfl 3 u3).write 1 rfl 4 u4).write 1 rfl 5 u5).pop.pop
    clear hown hS1 hcall hS0 hc d0 d1 d2 d3 d4 d5 hlen
    go_wp2
    exact bodyPost_ret (v := .agg #[.int .i64 xgn, .int .i64 xsa, .int .i64 xsp, .int .i64 xth, .bool xdm, .int .i64 xwy]) (by simp [results, Tryz.results349, go_sem, b0, b1, b2, b3, b4, b5]) rfl ⟨rfl, HS.out _ _ _ _ _ _⟩
  · rw [he]
    have hok : hasSlot hs.length i = false := by
      cases hx : hasSlot hs.length i
      · rfl
      · exact absurd ((hasSlot_iff _ _).1 hx) hk
    rw [hok] at hh
    simp only [Hd.val, Hd.zero, Option.getD_none]
    clear h he hok hk
    go_enter Tryz.func349, Tryz.ntmps349
    go_wp2_with fail
    generalize w.alloc (.cells #[.int .i64 0, .int .i64 0, .int .i64 0, .int .i64 0, .bool false, .int .i64 0] 181) = W0 at *
    generalize w.heap.size = B at *
    refine hh.mono ?_
    rintro e w1 ⟨rfl, rfl⟩
    have b0 : w1.cell? ⟨B, 0, none⟩ = some (.int .i64 0) := hS0.cell 0 rfl 0
    have b1 : w1.cell? ⟨B, 1, none⟩ = some (.int .i64 0) := hS0.cell 0 rfl 1
    have b2 : w1.cell? ⟨B, 2, none⟩ = some (.int .i64 0) := hS0.cell 0 rfl 2
    have b3 : w1.cell? ⟨B, 3, none⟩ = some (.int .i64 0) := hS0.cell 0 rfl 3
    have b4 : w1.cell? ⟨B, 4, none⟩ = some (.bool false) := hS0.cell 0 rfl 4
    have b5 : w1.cell? ⟨B, 5, none⟩ = some (.int .i64 0) := hS0.cell 0 rfl 5
    have f0 : w1.frozen? ⟨B, 0, none⟩ = false := hS0.frozen 0 rfl 0
    have f1 : w1.frozen? ⟨B, 1, none⟩ = false := hS0.frozen 0 rfl 1
    have f2 : w1.frozen? ⟨B, 2, none⟩ = false := hS0.frozen 0 rfl 2
    have f3 : w1.frozen? ⟨B, 3, none⟩ = false := hS0.frozen 0 rfl 3
    have f4 : w1.frozen? ⟨B, 4, none⟩ = false := hS0.frozen 0 rfl 4
    have f5 : w1.frozen? ⟨B, 5, none⟩ = false := hS0.frozen 0 rfl 5
    have HS : Hid (∀ u0 u1 u2 u3 u4 u5 : Value, St o its ((((((w1.setCell ⟨B, 0, none⟩ u0).setCell ⟨B, 1, none⟩ u1).setCell ⟨B, 2, none⟩ u2).setCell ⟨B, 3, none⟩ u3).setCell ⟨B, 4, none⟩ u4).setCell ⟨B, 5, none⟩ u5)) := fun u0 u1 u2 u3 u4 u5 => ((((((hS0.write 0 rfl 0 u0).write 0 rfl 1 u1).write 0 rfl 2 u2).write 0 rfl 3 u3).write 0 rfl 4 u4).write 0 rfl 5 u5).pop
    clear hS0 hc hh
    go_wp2
    exact bodyPost_ret (v := .agg #[.int .i64 0, .int .i64 0, .int .i64 0, .int .i64 0, .bool false, .int .i64 0]) (by simp [results, Tryz.results349, go_sem, b0, b1, b2, b3, b4, b5]) rfl ⟨rfl, HS.out _ _ _ _ _ _⟩

/-- What Look answers, and notes. -/
def lookE (hs : List Hd) (i : Int) : Int := match headAt hs i with | none => 2 | some _ => 0
def lookS (s : Mt) (hs : List Hd) (i : Int) : Mt := match headAt hs i with | none => s | some _ => s.note 3 i 1 true
theorem lookS_within {s : Mt} {n : Nat} (h : s.within n) (hs : List Hd) (i : Int) : (lookS s hs i).within (n + 1) := by
  unfold lookS
  split
  · exact h.more (Nat.le_succ _)
  · exact h.note _ _ _ _

set_option maxRecDepth 100000 in
set_option maxHeartbeats 1000000 in
theorem tabLook_st {o w : World} {its : List It} (h : St o its w) (i a b : Nat) {t r c q : Nat} {mo : Option Nat} {s : Mt} {v : Value} {hs : List Hd} (hi : its[i]? = some (meterI 174 mo s v)) (ha : its[a]? = some (tabI t r q)) (hb : its[b]? = some (hdRowI r c mo 3 hs)) (hib : i ≠ b)
    {n : Nat} (hw : s.within n) (hn : n ≤ 4611686018427) (k : Int) :
    Calls Tryz.prog 309 #[.pointer (some ⟨t, 0, none⟩), .int .i64 k] w fun e w' => e = .returned (.tuple #[(nowAt hs k).val, .int .i64 (lookE hs k)]) ∧ ∃ v', St o (its.set i (meterI 174 mo (lookS s hs k) v')) w' := by
  have hS0 := h.box #[.int .i64 0, .int .i64 0, .int .i64 0, .int .i64 0, .bool false, .int .i64 0] 181
  have hc : (w.alloc (.cells #[.int .i64 0, .int .i64 0, .int .i64 0, .int .i64 0, .bool false, .int .i64 0] 181)).cell? ⟨t, 0, none⟩ = some (.pointer (some ⟨r, 0, none⟩)) := hS0.cell (a + 1) ha 0
  have hcall : Calls Tryz.prog 311 #[.pointer (some ⟨r, 0, none⟩), .int .i64 k] (w.alloc (.cells #[.int .i64 0, .int .i64 0, .int .i64 0, .int .i64 0, .bool false, .int .i64 0] 181)) fun e w' => e = .returned (.tuple #[(nowAt hs k).val, .int .i64 (lookE hs k)]) ∧ ∃ v', St o (boxI w.heap.size #[.int .i64 0, .int .i64 0, .int .i64 0, .int .i64 0, .bool false, .int .i64 0] 181 :: its.set i (meterI 174 mo (lookS s hs k) v')) w' := by
    unfold lookE lookS nowAt
    rcases headAt_cases hs k with ⟨j, hj, rfl, he⟩ | ⟨hj, he⟩
    · rw [he]
      exact hdLoad_st hS0 (i + 1) (b + 1) hi hb (by omega) hw hn j hj
    · rw [he]
      refine (hdLoad_out hS0 (b + 1) hb k hj).mono ?_
      rintro e w' ⟨h1, h2⟩
      refine ⟨h1, v, ?_⟩
      rw [set_back hi]
      exact h2
  generalize nowAt hs k = x at *
  obtain ⟨xgn, xsa, xsp, xth, xdm, xwy⟩ := x
  simp only [Hd.val] at *
  go_enter Tryz.func309, Tryz.ntmps309
  go_wp2_with fail
  generalize w.alloc (.cells #[.int .i64 0, .int .i64 0, .int .i64 0, .int .i64 0, .bool false, .int .i64 0] 181) = W0 at *
  generalize w.heap.size = B at *
  refine hcall.mono ?_
  rintro e w1 ⟨rfl, v', hS1⟩
  have b0 : w1.cell? ⟨B, 0, none⟩ = some (.int .i64 0) := hS1.cell 0 rfl 0
  have b1 : w1.cell? ⟨B, 1, none⟩ = some (.int .i64 0) := hS1.cell 0 rfl 1
  have b2 : w1.cell? ⟨B, 2, none⟩ = some (.int .i64 0) := hS1.cell 0 rfl 2
  have b3 : w1.cell? ⟨B, 3, none⟩ = some (.int .i64 0) := hS1.cell 0 rfl 3
  have b4 : w1.cell? ⟨B, 4, none⟩ = some (.bool false) := hS1.cell 0 rfl 4
  have b5 : w1.cell? ⟨B, 5, none⟩ = some (.int .i64 0) := hS1.cell 0 rfl 5
  have f0 : w1.frozen? ⟨B, 0, none⟩ = false := hS1.frozen 0 rfl 0
  have f1 : w1.frozen? ⟨B, 1, none⟩ = false := hS1.frozen 0 rfl 1
  have f2 : w1.frozen? ⟨B, 2, none⟩ = false := hS1.frozen 0 rfl 2
  have f3 : w1.frozen? ⟨B, 3, none⟩ = false := hS1.frozen 0 rfl 3
  have f4 : w1.frozen? ⟨B, 4, none⟩ = false := hS1.frozen 0 rfl 4
  have f5 : w1.frozen? ⟨B, 5, none⟩ = false := hS1.frozen 0 rfl 5
  have HS : Hid (∀ u0 u1 u2 u3 u4 u5 : Value, St o (its.set i (meterI 174 mo (lookS s hs k) v')) ((((((w1.setCell ⟨B, 0, none⟩ u0).setCell ⟨B, 1, none⟩ u1).setCell ⟨B, 2, none⟩ u2).setCell ⟨B, 3, none⟩ u3).setCell ⟨B, 4, none⟩ u4).setCell ⟨B, 5, none⟩ u5)) := fun u0 u1 u2 u3 u4 u5 => ((((((hS1.write 0 rfl 0 u0).write 0 rfl 1 u1).write 0 rfl 2 u2).write 0 rfl 3 u3).write 0 rfl 4 u4).write 0 rfl 5 u5).pop
  clear hcall hS0 h hc hS1
  go_wp2
  exact bodyPost_ret (v := .tuple #[.agg #[.int .i64 xgn, .int .i64 xsa, .int .i64 xsp, .int .i64 xth, .bool xdm, .int .i64 xwy], .int .i64 (lookE hs k)]) (by simp [results, Tryz.results309, go_sem, b0, b1, b2, b3, b4, b5]) rfl ⟨rfl, v', HS.out _ _ _ _ _ _⟩
end Go.Proofs.YthbcbjkgjgmegaaGreat
