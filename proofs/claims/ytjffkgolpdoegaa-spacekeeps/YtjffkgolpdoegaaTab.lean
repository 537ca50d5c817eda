/- What the code's table does: New, Len, has, now, hasWord, Look, Word, Put. -/
import Derived.Test.YtjffkgolpdoegaaHdLoad
import Derived.Test.YtjffkgolpdoegaaHdAll
import Derived.Test.YtjffkgolpdoegaaWd
import Derived.Test.YtjffkgolpdoegaaMod
namespace Go.Proofs.Ytjffkgolpdoegaa
open Go.RowKit
set_option linter.unusedVariables false
set_option linter.unusedSimpArgs false
attribute [local go_sem ↓] Go.wp_at_zero Go.wp_at_succ

/-- A table in block t: its rows are in blocks r and q. -/
def tabI (t r q : Nat) : It := boxI t #[.pointer (some ⟨r, 0, none⟩), .pointer (some ⟨q, 0, none⟩)] 96

set_option maxRecDepth 100000 in
theorem tabNew_out (p : Value) (n : Int) (h : n < 1 ∨ 8 < n) (w : World) : Calls Try.prog 26 #[p, .int .i64 n] w fun e w' => e = .returned (.tuple #[.pointer none, .int .i64 1]) ∧ w' = w := by
  by_cases h1 : n < 1
  · clear h
    go_enter Try.func26, Try.ntmps26
    go_wp2
    go_ret2
    exact ⟨rfl, rfl⟩
  · have h2 : 8 < n := by omega
    clear h
    go_enter Try.func26, Try.ntmps26
    go_wp2
    go_ret2
    exact ⟨rfl, rfl⟩

set_option maxRecDepth 100000 in
theorem tabNew_st {o w : World} {its : List It} (h : St o its w) (mo : Option Nat) (n : Nat) (h1 : 1 ≤ n) (h8 : n ≤ 8) :
    Calls Try.prog 26 #[mptr mo, .int .i64 n] w fun e w' => ∃ t r c q d, e = .returned (.tuple #[.pointer (some ⟨t, 0, none⟩), .int .i64 0]) ∧
      St o (tabI t r q :: wdRowI q d mo 4 (List.replicate (n * 2) 0) :: hdRowI r c mo 3 (List.replicate n Hd.zero) :: its) w' := by
  have hh := hdNew_st h mo 3 n h1 (by omega)
  have hw : ∀ w1 its', St o its' w1 → Calls Try.prog 41 #[mptr mo, .int .i64 4, .int .i64 ((n : Int) * 2)] w1 fun e w' => ∃ q d, e = .returned (.tuple #[.pointer (some ⟨q, 0, none⟩), .int .i64 0]) ∧ St o (wdRowI q d mo 4 (List.replicate (n * 2) 0) :: its') w' := by
    intro w1 its' hS
    have e : ((n : Int) * 2) = ((n * 2 : Nat) : Int) := by omega
    rw [e]
    refine (wdNew_st hS mo 4 (n * 2) (by omega) (by omega)).mono ?_
    rintro e w' ⟨h1, h2, _⟩
    exact ⟨_, _, h1, h2⟩
  have i1 : ¬ (n : Int) < 1 := by omega
  have i2 : ¬ (8 : Int) < (n : Int) := by omega
  have i3 : (n : Int) ≤ 8 := by omega
  clear h
  simp only [mptr] at *
  generalize maddr mo = mp at *
  go_enter Try.func26, Try.ntmps26
  go_wp2_with fail
  refine hh.mono ?_
  rintro e w1 ⟨rfl, hS1, _⟩
  have hw1 := hw w1 _ hS1
  clear hh hw hS1
  generalize w.heap.size + 1 = r at *
  generalize w.heap.size = c at *
  go_wp2_with fail
  refine hw1.mono ?_
  rintro e w2 ⟨q, d, rfl, hS2⟩
  have HS : Hid _ := hS2.box #[.pointer (some ⟨r, 0, none⟩), .pointer (some ⟨q, 0, none⟩)] 96
  clear hw1 hS2
  go_wp2
  go_ret2
  exact ⟨_, _, _, _, _, rfl, HS.out⟩

set_option maxRecDepth 100000 in
theorem hdLen_st {o w : World} {its : List It} (h : St o its w) (b : Nat) {r c : Nat} {mo : Option Nat} {hs : List Hd} (hb : its[b]? = some (hdRowI r c mo 3 hs)) :
    Calls Try.prog 53 #[.pointer (some ⟨r, 0, none⟩)] w fun e w' => e = .returned (.int .i64 hs.length) ∧ w' = w := by
  have hr : HdRow w r c mo 3 hs := h.get b hb
  have c2 : w.cell? ⟨r, 2, none⟩ = some (.slice (some ⟨c, 0, none⟩) hs.length hs.length) := cell_of_heap hr.row
  clear hr h
  go_enter Try.func53, Try.ntmps53
  go_wp2
  go_ret
  exact ⟨rfl, rfl⟩

set_option maxRecDepth 100000 in
theorem tabLen_st {o w : World} {its : List It} (h : St o its w) (a b : Nat) {t r c q : Nat} {mo : Option Nat} {hs : List Hd} (ha : its[a]? = some (tabI t r q)) (hb : its[b]? = some (hdRowI r c mo 3 hs)) :
    Calls Try.prog 46 #[.pointer (some ⟨t, 0, none⟩)] w fun e w' => e = .returned (.int .i64 hs.length) ∧ w' = w := by
  have c0 : w.cell? ⟨t, 0, none⟩ = some (.pointer (some ⟨r, 0, none⟩)) := h.cell a ha 0
  have hc := hdLen_st h b hb
  clear h
  go_enter Try.func46, Try.ntmps46
  go_wp2_with (go_at_call 53; refine hc.mono ?_; rintro e w' ⟨rfl, rfl⟩)
  go_ret
  exact ⟨rfl, rfl⟩

def hasSlot (n : Nat) (i : Int) : Bool := decide (0 ≤ i) && decide (i < n)
def hasWd (n : Nat) (i j : Int) : Bool := hasSlot n i && decide (0 ≤ j) && decide (j < 2)
theorem hasSlot_iff (n : Nat) (i : Int) : hasSlot n i = true ↔ 0 ≤ i ∧ i < n := by
  simp [hasSlot]
/-- The head that is there, or nothing. -/
def nowAt (hs : List Hd) (i : Int) : Hd := (headAt hs i).getD Hd.zero

/-- What Look answers, and notes. -/
def lookE (hs : List Hd) (i : Int) : Int := match headAt hs i with | none => 2 | some _ => 0
def lookS (s : Mt) (hs : List Hd) (i : Int) : Mt := match headAt hs i with | none => s | some _ => s.note 3 i 1 true
theorem lookS_within {s : Mt} {n : Nat} (h : s.within n) (hs : List Hd) (i : Int) : (lookS s hs i).within (n + 1) := by
  unfold lookS
  split
  · exact h.more (Nat.le_succ _)
  · exact h.note _ _ _ _

end Go.Proofs.Ytjffkgolpdoegaa
