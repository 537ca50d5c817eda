/- What deeds keep: plain facts. A deed's program is the deed, as plain data: the set's. No program is named here. A deed's program is the deed: the set's five. No program is named here. A set in cells, and its part read, as plain data. No program is named here. -/
import Derived.Test.YtdfefjalamohjaaGreatDoorSeG
import Derived.Test.YtdfefjalamohjaaGreatDoorRdA
import Derived.Test.YtdfefjalamohjaaGreatDoorRnG
import Derived.Test.YtdfefjalamohjaaGreatDoorCoM
import Derived.Test.YtdfefjalamohjaaGreatDoorLyM
import Derived.Test.YtdfefjalamohjaaGreatDoorCoB
namespace Go.Proofs.YtdfefjalamohjaaGreatDoor
open Go.RowKit
set_option linter.unusedVariables false
set_option linter.unusedSimpArgs false

theorem pairwise_rises {l : List Int} (h : l.Pairwise (· < ·)) : risesB l = true := by
  induction l with
  | nil => rfl
  | cons a l ih =>
    cases l with
    | nil => rfl
    | cons b l =>
      rw [List.pairwise_cons] at h
      simp only [risesB, Bool.and_eq_true, decide_eq_true_eq]
      exact ⟨h.1 b (by simp), ih h.2⟩
/-- What SetHas tells. -/
def hasS (l : List Int) (y : Int) : Int := if l.contains y = true then 1 else 0
theorem doS_has (l : List Int) (n y : Int) : doS l n ⟨3, 0, 0, y, 0⟩ = (l, [hasS l y]) := by
  unfold doS hasS
  simp only [Int.reduceEq, if_false, if_true]
  split <;> rfl
theorem doS_size (l : List Int) (n : Int) : doS l n ⟨5, 0, 0, 0, 0⟩ = (l, [(l.length : Int)]) := by
  unfold doS
  simp only [Int.reduceEq, if_false]
def kpD (puts : Bool) (x : Int) : Dd := if puts then ⟨1, 0, 0, x, 0⟩ else ⟨2, 0, 0, x, 0⟩
/-- What such a deed leaves: members, and that it rises. -/
theorem kp_mem {l : List Int} {n x : Int} (puts : Bool) (hr : risesB l = true) : risesB (doS l n (kpD puts x)).1 = true ∧ ∃ t, (doS l n (kpD puts x)).2 = [t] ∧
    (∀ y, y ≠ x → (y ∈ (doS l n (kpD puts x)).1 ↔ y ∈ l)) ∧ (x ∈ (doS l n (kpD puts x)).1 ↔ puts = true ∧ t ≠ 2) := by
  have hp := rises_pairwise hr
  have hless : ∀ y, y ∈ lessM l x ↔ y ∈ l ∧ y < x := fun y => by unfold lessM; rw [List.mem_filter, decide_eq_true_eq]
  have hmore : ∀ y, y ∈ moreM l x ↔ y ∈ l ∧ x < y := fun y => by unfold moreM; rw [List.mem_filter, decide_eq_true_eq]
  have pl : (lessM l x).Pairwise (· < ·) := hp.filter _
  have pm : (moreM l x).Pairwise (· < ·) := hp.filter _
  rw [← doR_doS hr]
  cases puts with
  | true =>
    show risesB (doR l n ⟨1, 0, 0, x, 0⟩).1 = true ∧ ∃ t, (doR l n ⟨1, 0, 0, x, 0⟩).2 = [t] ∧ (∀ y, y ≠ x → (y ∈ (doR l n ⟨1, 0, 0, x, 0⟩).1 ↔ y ∈ l)) ∧ (x ∈ (doR l n ⟨1, 0, 0, x, 0⟩).1 ↔ true = true ∧ t ≠ 2)
    by_cases hc : l.contains x = true
    · have hm : x ∈ l := by simpa using hc
      have e : doR l n ⟨1, 0, 0, x, 0⟩ = (l, [0]) := by unfold doR; rw [if_pos rfl, if_pos hc]
      rw [e]
      exact ⟨hr, 0, rfl, fun y _ => Iff.rfl, by simp [hm]⟩
    · have hm : x ∉ l := by simpa using hc
      have hc' : l.contains x = false := by simpa using hc
      by_cases hn : (l.length : Int) = n
      · have e : doR l n ⟨1, 0, 0, x, 0⟩ = (l, [2]) := by unfold doR; rw [if_pos rfl, if_neg hc, if_pos hn]
        rw [e]
        exact ⟨hr, 2, rfl, fun y _ => Iff.rfl, by simp [hm]⟩
      · have e : doR l n ⟨1, 0, 0, x, 0⟩ = (lessM l x ++ [x] ++ moreM l x, [1]) := by unfold doR; rw [if_pos rfl, if_neg hc, if_neg hn]
        rw [e]
        refine ⟨pairwise_rises ?_, 1, rfl, fun y hy => ?_, by simp⟩
        · rw [List.append_assoc, List.pairwise_append]
          refine ⟨pl, ?_, fun a ha b hb => ?_⟩
          · rw [List.singleton_append, List.pairwise_cons]
            exact ⟨fun b hb => ((hmore b).1 hb).2, pm⟩
          · have := ((hless a).1 ha).2
            rcases List.mem_append.1 hb with hb | hb
            · rw [List.mem_singleton] at hb; omega
            · have := ((hmore b).1 hb).2; omega
        · simp only [List.mem_append, hless, hmore, List.mem_singleton]
          constructor
          · rintro ((h | h) | h)
            · exact h.1
            · exact absurd h hy
            · exact h.1
          · intro h
            rcases Int.lt_or_gt_of_ne hy with h2 | h2
            · exact .inl (.inl ⟨h, h2⟩)
            · exact .inr ⟨h, h2⟩
  | false =>
    show risesB (doR l n ⟨2, 0, 0, x, 0⟩).1 = true ∧ ∃ t, (doR l n ⟨2, 0, 0, x, 0⟩).2 = [t] ∧ (∀ y, y ≠ x → (y ∈ (doR l n ⟨2, 0, 0, x, 0⟩).1 ↔ y ∈ l)) ∧ (x ∈ (doR l n ⟨2, 0, 0, x, 0⟩).1 ↔ false = true ∧ t ≠ 2)
    by_cases hc : l.contains x = true
    · have e : doR l n ⟨2, 0, 0, x, 0⟩ = (lessM l x ++ moreM l x, [1]) := by unfold doR; rw [if_neg (show ¬ (2 : Int) = 1 by decide), if_pos rfl, if_pos hc]
      rw [e]
      refine ⟨pairwise_rises ?_, 1, rfl, fun y hy => ?_, ?_⟩
      · rw [List.pairwise_append]
        refine ⟨pl, pm, fun a ha b hb => ?_⟩
        have := ((hless a).1 ha).2
        have := ((hmore b).1 hb).2
        omega
      · simp only [List.mem_append, hless, hmore]
        constructor
        · rintro (h | h)
          · exact h.1
          · exact h.1
        · intro h
          rcases Int.lt_or_gt_of_ne hy with h2 | h2
          · exact .inl ⟨h, h2⟩
          · exact .inr ⟨h, h2⟩
      · simp only [List.mem_append, hless, hmore]
        simp
    · have hm : x ∉ l := by simpa using hc
      have e : doR l n ⟨2, 0, 0, x, 0⟩ = (l, [0]) := by unfold doR; rw [if_neg (show ¬ (2 : Int) = 1 by decide), if_pos rfl, if_neg hc]
      rw [e]
      exact ⟨hr, 0, rfl, fun y _ => Iff.rfl, by simp [hm]⟩
theorem hasS_iff (l : List Int) (y : Int) : hasS l y = if y ∈ l then 1 else 0 := by
  unfold hasS
  by_cases h : y ∈ l
  · rw [if_pos h, if_pos (by simpa using h)]
  · rw [if_neg h, if_neg (by simpa using h)]
theorem kp_told {l : List Int} {n x : Int} (puts : Bool) (hr : risesB l = true) : ∃ t, (doS l n (kpD puts x)).2 = [t] ∧ hasS (doS l n (kpD puts x)).1 x = (if puts = true ∧ t ≠ 2 then 1 else 0) := by
  obtain ⟨_, t, e, _, h⟩ := kp_mem (n := n) (x := x) puts hr
  refine ⟨t, e, ?_⟩
  rw [hasS_iff]
  by_cases hx : x ∈ (doS l n (kpD puts x)).1
  · rw [if_pos hx, if_pos (h.1 hx)]
  · rw [if_neg hx, if_neg (fun hh => hx (h.2 hh))]
theorem kp_other {l : List Int} {n x y : Int} (puts : Bool) (hr : risesB l = true) (hy : y ≠ x) : hasS (doS l n (kpD puts x)).1 y = hasS l y := by
  obtain ⟨_, t, e, h, _⟩ := kp_mem (n := n) (x := x) puts hr
  rw [hasS_iff, hasS_iff]
  by_cases hx : y ∈ l
  · rw [if_pos hx, if_pos ((h y hy).2 hx)]
  · rw [if_neg hx, if_neg (fun hh => hx ((h y hy).1 hh))]
theorem kp_len {l : List Int} {n x : Int} (puts : Bool) (hl : (l.length : Int) ≤ n) : (((doS l n (kpD puts x)).1.length : Nat) : Int) ≤ n := by
  have hc := count_le l x
  unfold doS kpD
  cases puts with
  | true =>
    simp only [if_true]
    by_cases h : l.contains x = true
    · simp only [if_pos h]; exact hl
    · simp only [if_neg h]
      by_cases hn : (l.length : Int) = n
      · simp only [if_pos hn]; exact hl
      · simp only [if_neg hn, List.length_append, List.length_cons, List.length_take, List.length_drop]
        omega
  | false =>
    simp only [Bool.false_eq_true, if_false, Int.reduceEq, if_true]
    by_cases h : l.contains x = true
    · simp only [if_pos h, List.length_append, List.length_take, List.length_drop]; omega
    · simp only [if_neg h]; exact hl
theorem kp_ok {l : List Int} {n x y z : Int} (puts : Bool) (h : okS l n ⟨3, 0, 0, y, 0⟩ = true) : okS (doS l n (kpD puts x)).1 n ⟨3, 0, 0, z, 0⟩ = true := by
  unfold okS at h ⊢
  simp only [Bool.and_eq_true, decide_eq_true_eq] at h ⊢
  obtain ⟨h1, h2, h3, h4⟩ := h
  exact ⟨h1, kp_len puts h2, by simp [mayS], (kp_mem puts h4).1⟩
theorem kp_okz {l : List Int} {n x y : Int} (puts : Bool) (h : okS l n ⟨3, 0, 0, y, 0⟩ = true) : okS (doS l n (kpD puts x)).1 n ⟨5, 0, 0, 0, 0⟩ = true := by
  unfold okS at h ⊢
  simp only [Bool.and_eq_true, decide_eq_true_eq] at h ⊢
  obtain ⟨h1, h2, h3, h4⟩ := h
  exact ⟨h1, kp_len puts h2, by simp [mayS], (kp_mem puts h4).1⟩
theorem kp_same (l : List Int) (n x y : Int) (puts : Bool) : okS l n (kpD puts x) = okS l n ⟨3, 0, 0, y, 0⟩ := by
  unfold okS kpD
  cases puts <;> simp [mayS]
end Go.Proofs.YtdfefjalamohjaaGreatDoor

namespace Go.Proofs.YtdfefjalamohjaaGreatDoor
open Go.RowKit
set_option linter.unusedVariables false
set_option linter.unusedSimpArgs false

/-- A set in cells, from b on: the nodes of its list, the free ones. -/
structure StIn (cells : List Int) (b n : Nat) (a f : List Nat) : Prop where
  len : b + (3 + 2 * n) ≤ cells.length
  top : cells.length ≤ 256
  n0 : 0 < n
  n1 : n ≤ 60
  nod : ∀ k ∈ a ++ f, 1 ≤ k ∧ k ≤ n
  dup : (a ++ f).Nodup
  cnt : a.length + f.length = n
  ha : cells.getD b 0 = ((a.getD 0 0 : Nat) : Int)
  hf : cells.getD (b + 1) 0 = ((f.getD 0 0 : Nat) : Int)
  sz : cells.getD (b + 2) 0 = (a.length : Int)
  la : ∀ j, j < a.length → cells.getD (b + (2 + 2 * a.getD j 0)) 0 = ((a.getD (j + 1) 0 : Nat) : Int)
  lf : ∀ j, j < f.length → cells.getD (b + (2 + 2 * f.getD j 0)) 0 = ((f.getD (j + 1) 0 : Nat) : Int)
def keyC (cells : List Int) (b k : Nat) : Int := cells.getD (b + (1 + 2 * k)) 0
def keysC (cells : List Int) (b : Nat) (a : List Nat) : List Int := a.map (keyC cells b)
theorem nAt {a : List Nat} {j : Nat} (h : j < a.length) : a.getD j 0 ∈ a := by
  rw [List.getD_eq_getElem?_getD, List.getElem?_eq_getElem h]
  exact List.getElem_mem _
theorem StIn.an {cells : List Int} {b n : Nat} {a f : List Nat} (h : StIn cells b n a f) {j : Nat} (hj : j < a.length) : 1 ≤ a.getD j 0 ∧ a.getD j 0 ≤ n := h.nod _ (List.mem_append_left _ (nAt hj))
theorem StIn.fn {cells : List Int} {b n : Nat} {a f : List Nat} (h : StIn cells b n a f) {j : Nat} (hj : j < f.length) : 1 ≤ f.getD j 0 ∧ f.getD j 0 ≤ n := h.nod _ (List.mem_append_right _ (nAt hj))
theorem nodup_inj {a : List Nat} (h : a.Nodup) {i j : Nat} (hi : i < a.length) (hj : j < a.length) (e : a.getD i 0 = a.getD j 0) : i = j := by
  rw [List.getD_eq_getElem?_getD, List.getElem?_eq_getElem hi, List.getD_eq_getElem?_getD, List.getElem?_eq_getElem hj] at e
  simp only [Option.getD_some] at e
  have hp := List.pairwise_iff_getElem.1 h
  rcases Nat.lt_trichotomy i j with c | c | c
  · exact absurd e (hp i j hi hj c)
  · exact c
  · exact absurd e.symm (hp j i hj hi c)
theorem StIn.ainj {cells : List Int} {b n : Nat} {a f : List Nat} (h : StIn cells b n a f) {i j : Nat} (hi : i < a.length) (hj : j < a.length) (e : a.getD i 0 = a.getD j 0) : i = j := nodup_inj (List.nodup_append.1 h.dup).1 hi hj e
theorem StIn.afne {cells : List Int} {b n : Nat} {a f : List Nat} (h : StIn cells b n a f) {i j : Nat} (hi : i < a.length) (hj : j < f.length) : a.getD i 0 ≠ f.getD j 0 := (List.nodup_append.1 h.dup).2.2 _ (nAt hi) _ (nAt hj)
theorem keysC_at {cells : List Int} {b : Nat} {a : List Nat} {j : Nat} (h : j < a.length) : (keysC cells b a).getD j 0 = cells.getD (b + (1 + 2 * a.getD j 0)) 0 := by
  unfold keysC
  rw [List.getD_eq_getElem?_getD, List.getElem?_map, List.getD_eq_getElem?_getD (l := a), List.getElem?_eq_getElem h]
  rfl
/-- Where the link stands that leads to the j-th node. -/
def adr (b : Nat) (a : List Nat) (j : Nat) : Nat := if j = 0 then b else b + (2 + 2 * a.getD (j - 1) 0)
theorem adr_at {cells : List Int} {b n : Nat} {a f : List Nat} (h : StIn cells b n a f) {j : Nat} (hj : j ≤ a.length) : cells.getD (adr b a j) 0 = ((a.getD j 0 : Nat) : Int) ∧ adr b a j < cells.length := by
  have hl := h.len
  unfold adr
  by_cases h0 : j = 0
  · rw [if_pos h0, h0]
    exact ⟨h.ha, by omega⟩
  · rw [if_neg h0]
    have := h.an (j := j - 1) (by omega)
    have e := h.la (j - 1) (by omega)
    rw [show j - 1 + 1 = j by omega] at e
    exact ⟨e, by omega⟩
theorem getD_out {a : List Nat} {j : Nat} (h : a.length ≤ j) : a.getD j 0 = 0 := by
  rw [List.getD_eq_getElem?_getD, List.getElem?_eq_none h]
  rfl
def findI (b : Nat) (x : Int) : List Ins := [⟨16, 0⟩, ⟨1, (b : Int)⟩, ⟨6, 0⟩, ⟨5, 0⟩, ⟨17, 0⟩, ⟨3, 0⟩, ⟨6, 1⟩, ⟨15, 29⟩, ⟨5, 1⟩, ⟨1, 2⟩, ⟨9, 0⟩, ⟨1, (b : Int) + 1⟩, ⟨7, 0⟩, ⟨3, 0⟩, ⟨6, 2⟩, ⟨17, 0⟩, ⟨1, x⟩, ⟨11, 0⟩, ⟨15, 24⟩, ⟨5, 2⟩, ⟨1, 1⟩, ⟨7, 0⟩, ⟨6, 0⟩, ⟨14, 3⟩, ⟨5, 2⟩, ⟨17, 0⟩, ⟨1, x⟩, ⟨12, 0⟩, ⟨14, 30⟩, ⟨1, 0⟩]
section
variable {cells : List Int} {b n : Nat} {a f : List Nat} {x tr : Int} {R : List Ins}
/-- The search, from the j-th node on. -/
theorem find_from (h : StIn cells b n a f) (hr : risesB (keysC cells b a) = true) {i : Nat} (hi : i ≤ a.length) (hlo : ∀ j, j < i → (keysC cells b a).getD j 0 < x) (hhi : i < a.length → ¬ (keysC cells b a).getD i 0 < x) : ∀ (d j : Nat) (lc : List Int), j + d = i → lc.length = 8 → lc.getD 0 0 = ((adr b a j : Nat) : Int) →
    ∃ k lc', k ≤ 21 * (d + 1) ∧ Ow.To (findI b x ++ R) k (owS cells 3 [7, -7] lc [] [] tr) (owS cells 30 ([7, -7] ++ [if i < a.length ∧ (keysC cells b a).getD i 0 = x then 1 else 0]) lc' [] [] tr) ∧ lc'.length = 8 ∧ lc'.getD 0 0 = ((adr b a i : Nat) : Int) ∧ lc'.getD 1 0 = ((a.getD i 0 : Nat) : Int) ∧ (i < a.length → lc'.getD 2 0 = ((b + (1 + 2 * a.getD i 0) : Nat) : Int))
  | d, j, lc, hd, hl, h0 => by
    have hlen := h.len
    have htop := h.top
    have hn := h.n1
    obtain ⟨e1, e2⟩ := adr_at h (j := j) (by omega)
    by_cases hend : j = a.length
    · obtain rfl : j = i := by omega
      refine ⟨6, lc.set 1 0, by omega, ?_, by rw [List.length_set]; exact hl, by rw [lc_other (by decide)]; exact h0, by rw [lc_same hl 1 (by decide), getD_out (by omega)]; rfl, fun hh => by omega⟩
      rw [if_neg (fun hh => by omega)]
      refine to_get (q := 3) (i := 0) rfl (by decide) (by decide) ?_
      rw [h0]
      refine to_load (q := 4) (j := adr b a j) rfl (by simp) rfl e2 ?_
      rw [e1, getD_out (by omega)]
      refine to_dup (q := 5) rfl (by simp) ?_
      refine to_set (q := 6) (i := 1) rfl (by decide) (by simp) ?_
      refine to_zero (q := 7) rfl (by simp) ?_
      refine to_push (q := 29) rfl (by simp) ?_
      exact .here _
    · have hja : j < a.length := by omega
      have hnod := h.an hja
      have hkey := keysC_at (cells := cells) (b := b) hja
      have hlc2 : ((lc.set 1 ((a.getD j 0 : Nat) : Int)).set 2 ((b + (1 + 2 * a.getD j 0) : Nat) : Int)).length = 8 := by rw [List.length_set, List.length_set]; exact hl
      have head : ∀ (m : Nat) (o' : Ow), Ow.To (findI b x ++ R) m (owS cells (if (if (keysC cells b a).getD j 0 < x then (1 : Int) else 0) = 0 then 24 else 19) [7, -7] ((lc.set 1 ((a.getD j 0 : Nat) : Int)).set 2 ((b + (1 + 2 * a.getD j 0) : Nat) : Int)) [] [] tr) o' → Ow.To (findI b x ++ R) (m + 16) (owS cells 3 [7, -7] lc [] [] tr) o' := by
        intro m o' ht
        refine to_get (q := 3) (i := 0) rfl (by decide) (by decide) ?_
        rw [h0]
        refine to_load (q := 4) (j := adr b a j) rfl (by simp) rfl e2 ?_
        rw [e1]
        refine to_dup (q := 5) rfl (by simp) ?_
        refine to_set (q := 6) (i := 1) rfl (by decide) (by simp) ?_
        refine to_zero (q := 7) rfl (by simp) ?_
        rw [if_neg (by omega)]
        refine to_get (q := 8) (i := 1) rfl (by decide) (by decide) ?_
        rw [lc_same hl 1 (by decide)]
        refine to_push (q := 9) rfl (by simp) ?_
        refine to_sum9 (q := 10) rfl (by simp) ?_
        rw [so_mul (by omega) (by omega)]
        refine to_push (q := 11) rfl (by simp) ?_
        refine to_sum7 (q := 12) rfl (by simp) ?_
        rw [so_add (by omega) (by omega), show ((a.getD j 0 : Nat) : Int) * 2 + ((b : Int) + 1) = ((b + (1 + 2 * a.getD j 0) : Nat) : Int) by omega]
        refine to_dup (q := 13) rfl (by simp) ?_
        refine to_set (q := 14) (i := 2) rfl (by decide) (by simp) ?_
        refine to_load (q := 15) (j := b + (1 + 2 * a.getD j 0)) rfl (by simp) rfl (by omega) ?_
        rw [← hkey]
        refine to_push (q := 16) rfl (by simp) ?_
        refine to_sum11 (q := 17) rfl (by simp) ?_
        rw [show sumO 11 ((keysC cells b a).getD j 0) x = (if (keysC cells b a).getD j 0 < x then (1 : Int) else 0) by
          by_cases c : (keysC cells b a).getD j 0 < x
          · rw [so_less c, if_pos c]
          · rw [so_nless c, if_neg c]]
        refine to_zero (q := 18) rfl (by simp) ?_
        exact ht
      match d, hd with
      | 0, hd =>
        obtain rfl : j = i := by omega
        refine ⟨5 + 16, _, by omega, head 5 _ ?_, hlc2, ?_, ?_, fun _ => lc_same (by rw [List.length_set]; exact hl) 2 (by decide) _⟩
        · rw [if_neg (hhi hja), if_pos rfl]
          refine to_get (q := 24) (i := 2) rfl (by decide) (by decide) ?_
          rw [lc_same (by rw [List.length_set]; exact hl) 2 (by decide)]
          refine to_load (q := 25) (j := b + (1 + 2 * a.getD j 0)) rfl (by simp) rfl (by omega) ?_
          rw [← hkey]
          refine to_push (q := 26) rfl (by simp) ?_
          refine to_sum12 (q := 27) rfl (by simp) ?_
          rw [show sumO 12 ((keysC cells b a).getD j 0) x = (if j < a.length ∧ (keysC cells b a).getD j 0 = x then (1 : Int) else 0) by
            by_cases c : (keysC cells b a).getD j 0 = x
            · rw [so_same c, if_pos ⟨hja, c⟩]
            · rw [so_nsame c, if_neg (fun hh => c hh.2)]]
          refine to_jump (q := 28) rfl (by simp) ?_
          exact .here _
        · rw [lc_other (by decide), lc_other (by decide)]; exact h0
        · rw [lc_other (by decide), lc_same hl 1 (by decide)]
      | d + 1, hd =>
        have hlt := hlo j (by omega)
        have hlc3 : (((lc.set 1 ((a.getD j 0 : Nat) : Int)).set 2 ((b + (1 + 2 * a.getD j 0) : Nat) : Int)).set 0 ((adr b a (j + 1) : Nat) : Int)).length = 8 := by rw [List.length_set]; exact hlc2
        obtain ⟨k, lc', hk, hto, r⟩ := find_from h hr hi hlo hhi d (j + 1) _ (by omega) hlc3 (lc_same hlc2 0 (by decide) _)
        refine ⟨(k + 5) + 16, lc', by omega, head _ _ ?_, r⟩
        rw [if_pos hlt, if_neg (by decide)]
        refine to_get (q := 19) (i := 2) rfl (by decide) (by decide) ?_
        rw [lc_same (by rw [List.length_set]; exact hl) 2 (by decide)]
        refine to_push (q := 20) rfl (by simp) ?_
        refine to_sum7 (q := 21) rfl (by simp) ?_
        rw [so_add (by omega) (by omega), show ((b + (1 + 2 * a.getD j 0) : Nat) : Int) + 1 = ((adr b a (j + 1) : Nat) : Int) by unfold adr; rw [if_neg (by omega), show j + 1 - 1 = j by omega]; omega]
        refine to_set (q := 22) (i := 0) rfl (by decide) (by simp) ?_
        refine to_jump (q := 23) rfl (by simp) ?_
        exact hto
end
theorem find_is {l : List Int} (hr : risesB l = true) (x : Int) : (∀ j, j < atS l x → l.getD j 0 < x) ∧ (atS l x < l.length → ¬ l.getD (atS l x) 0 < x) ∧ (l.contains x = true ↔ atS l x < l.length ∧ l.getD (atS l x) 0 = x) := by
  have hp := rises_pairwise hr
  have h1 := less_take hp x
  have h2 := more_drop hp x
  have hc := count_le l x
  have hmore : ∀ y, y ∈ moreM l x → x < y := fun y hy => by unfold moreM at hy; rw [List.mem_filter, decide_eq_true_eq] at hy; exact hy.2
  have hless : ∀ y, y ∈ lessM l x → y < x := fun y hy => by unfold lessM at hy; rw [List.mem_filter, decide_eq_true_eq] at hy; exact hy.2
  generalize atS l x = i at *
  have at_drop : ∀ {q : Nat} (hq : q < l.length), l.getD q 0 ∈ l.drop q := fun {q} hq => by
    rw [List.getD_eq_getElem?_getD, List.getElem?_eq_getElem hq, Option.getD_some, List.drop_eq_getElem_cons hq]
    exact List.mem_cons_self ..
  refine ⟨fun j hj => ?_, fun hi => ?_, ?_⟩
  · refine hless _ ?_
    rw [← h1, List.getD_eq_getElem?_getD, ← List.getElem?_take_of_lt hj, List.getElem?_eq_getElem (by rw [List.length_take]; omega)]
    exact List.getElem_mem _
  · by_cases c : l.contains x = true
    · rw [if_pos c] at h2
      have hm : x ∈ l := by simpa using c
      rw [← List.take_append_drop i l, List.drop_eq_getElem_cons hi, h1, h2] at hm
      rcases List.mem_append.1 hm with h | h
      · have := hless x h; omega
      · rcases List.mem_cons.1 h with h | h
        · rw [List.getD_eq_getElem?_getD, List.getElem?_eq_getElem hi, Option.getD_some, ← h]; omega
        · have := hmore x h; omega
    · rw [if_neg c, Nat.add_zero] at h2
      have := hmore _ (by rw [← h2]; exact at_drop hi)
      omega
  · constructor
    · intro c
      rw [if_pos c] at h2
      have hm : x ∈ l := by simpa using c
      have hi : i < l.length := by
        rcases Nat.lt_or_ge i l.length with h | h
        · exact h
        · rw [List.take_of_length_le h] at h1
          rw [h1] at hm
          have := hless x hm
          omega
      refine ⟨hi, ?_⟩
      rw [← List.take_append_drop i l, List.drop_eq_getElem_cons hi, h1, h2] at hm
      rcases List.mem_append.1 hm with h | h
      · have := hless x h; omega
      · rcases List.mem_cons.1 h with h | h
        · rw [List.getD_eq_getElem?_getD, List.getElem?_eq_getElem hi, Option.getD_some, ← h]
        · have := hmore x h; omega
    · rintro ⟨hi, e⟩
      have : x ∈ l := by
        rw [← e]
        exact List.mem_of_mem_drop (at_drop hi)
      simpa using this
theorem ins_getD {a : List Nat} {i p j : Nat} (hi : i ≤ a.length) : (a.take i ++ p :: a.drop i).getD j 0 = if j < i then a.getD j 0 else if j = i then p else a.getD (j - 1) 0 := by
  have hl : (a.take i).length = i := by rw [List.length_take]; omega
  simp only [List.getD_eq_getElem?_getD]
  by_cases c : j < i
  · rw [if_pos c, List.getElem?_append_left (by omega), List.getElem?_take_of_lt c]
  · rw [if_neg c, List.getElem?_append_right (by omega), hl]
    by_cases c2 : j = i
    · rw [if_pos c2, c2, Nat.sub_self]
      rfl
    · rw [if_neg c2]
      obtain ⟨q, hq⟩ : ∃ q, j - i = q + 1 := ⟨j - i - 1, by omega⟩
      rw [hq, List.getElem?_cons_succ, List.getElem?_drop, show i + q = j - 1 by omega]
theorem del_getD {a : List Nat} {i j : Nat} (hi : i < a.length) : (a.take i ++ a.drop (i + 1)).getD j 0 = if j < i then a.getD j 0 else a.getD (j + 1) 0 := by
  have hl : (a.take i).length = i := by rw [List.length_take]; omega
  simp only [List.getD_eq_getElem?_getD]
  by_cases c : j < i
  · rw [if_pos c, List.getElem?_append_left (by omega), List.getElem?_take_of_lt c]
  · rw [if_neg c, List.getElem?_append_right (by omega), hl, List.getElem?_drop, show i + 1 + (j - i) = j + 1 by omega]
def putCells (cells : List Int) (b i : Nat) (a f : List Nat) (p : Nat) (x : Int) : List Int :=
  ((((cells.set (b + (1 + 2 * p)) x).set (b + 1) ((f.getD 0 0 : Nat) : Int)).set (b + (2 + 2 * p)) ((a.getD i 0 : Nat) : Int)).set (adr b a i) (p : Int)).set (b + 2) ((a.length : Int) + 1)
def drpCells (cells : List Int) (b i : Nat) (a f : List Nat) : List Int :=
  (((cells.set (adr b a i) ((a.getD (i + 1) 0 : Nat) : Int)).set (b + (2 + 2 * a.getD i 0)) ((f.getD 0 0 : Nat) : Int)).set (b + 1) ((a.getD i 0 : Nat) : Int)).set (b + 2) ((a.length : Int) - 1)
section
variable {cells : List Int} {b n i p : Nat} {a f : List Nat} {x : Int}
theorem put_other (h : StIn cells b n a (p :: f)) (hi : i ≤ a.length) {q : Nat} (h1 : q ≠ b + (1 + 2 * p)) (h2 : q ≠ b + 1) (h3 : q ≠ b + (2 + 2 * p)) (h4 : q ≠ adr b a i) (h5 : q ≠ b + 2) : (putCells cells b i a f p x).getD q 0 = cells.getD q 0 := by
  unfold putCells
  rw [at_other (by omega), at_other (by omega), at_other (by omega), at_other (by omega), at_other (by omega)]
theorem put_in (h : StIn cells b n a (p :: f)) (hi : i ≤ a.length) : StIn (putCells cells b i a f p x) b n (a.take i ++ p :: a.drop i) f ∧ keysC (putCells cells b i a f p x) b (a.take i ++ p :: a.drop i) = (keysC cells b a).take i ++ x :: (keysC cells b a).drop i := by
  have hlen := h.len
  have htop := h.top
  have hpn : 1 ≤ p ∧ p ≤ n := h.fn (j := 0) (by simp)
  have hpf : ∀ j, j < a.length → a.getD j 0 ≠ p := fun j hj => h.afne (j := 0) hj (by simp)
  have hff : ∀ j, j < f.length → f.getD j 0 ≠ p := fun j hj e => by
    have := nodup_inj (List.nodup_append.1 h.dup).2.1 (i := j + 1) (j := 0) (by simpa using hj) (by simp) (by simpa using e)
    omega
  have haf : ∀ j q, j < a.length → q < f.length → a.getD j 0 ≠ f.getD q 0 := fun j q hj hq => by
    have := h.afne (j := q + 1) hj (by simpa using hq)
    simpa using this
  have hfn : ∀ j, j < f.length → 1 ≤ f.getD j 0 ∧ f.getD j 0 ≤ n := fun j hj => by
    have := h.fn (j := j + 1) (by simpa using hj)
    simpa using this
  have hA : (i = 0 ∧ adr b a i = b) ∨ (0 < i ∧ adr b a i = b + (2 + 2 * a.getD (i - 1) 0) ∧ 1 ≤ a.getD (i - 1) 0 ∧ a.getD (i - 1) 0 ≠ p) := by
    unfold adr
    by_cases c : i = 0
    · exact .inl ⟨c, by rw [if_pos c]⟩
    · exact .inr ⟨by omega, by rw [if_neg c], (h.an (j := i - 1) (by omega)).1, hpf (i - 1) (by omega)⟩
  have hAl := (adr_at h hi).2
  have hperm : (a.take i ++ p :: a.drop i ++ f).Perm (a ++ p :: f) := by
    have e : a ++ p :: f = a.take i ++ (a.drop i ++ p :: f) := by rw [← List.append_assoc, List.take_append_drop]
    rw [e, List.append_assoc]
    exact List.Perm.append_left _ (List.perm_middle (a := p) (l₁ := a.drop i) (l₂ := f)).symm
  have vA : (putCells cells b i a f p x).getD (adr b a i) 0 = (p : Int) := by
    unfold putCells
    rw [at_other (by omega), at_same (by simp; omega)]
  have vP : (putCells cells b i a f p x).getD (b + (2 + 2 * p)) 0 = ((a.getD i 0 : Nat) : Int) := by
    unfold putCells
    rw [at_other (by omega), at_other (by omega), at_same (by simp only [List.length_set]; omega)]
  have vK : (putCells cells b i a f p x).getD (b + (1 + 2 * p)) 0 = x := by
    unfold putCells
    rw [at_other (by omega), at_other (by omega), at_other (by omega), at_other (by omega), at_same (by omega)]
  have hla : (a.take i ++ p :: a.drop i).length = a.length + 1 := by simp; omega
  refine ⟨⟨by simp [putCells]; exact hlen, by simp [putCells]; exact htop, h.n0, h.n1, fun k hk => h.nod k (hperm.mem_iff.1 hk), hperm.nodup_iff.2 h.dup, ?_, ?_, ?_, ?_, fun j hj => ?_, fun j hj => ?_⟩, ?_⟩
  · have := h.cnt
    rw [List.length_cons] at this
    rw [hla]
    omega
  · rw [ins_getD hi]
    by_cases c : i = 0
    · have : adr b a i = b := by unfold adr; rw [if_pos c]
      rw [if_neg (by omega), if_pos (by omega)]
      rw [this] at vA
      exact vA
    · rw [if_pos (by omega), put_other h hi (by omega) (by omega) (by omega) (by omega) (by omega)]
      exact h.ha
  · unfold putCells
    rw [at_other (by omega), at_other (by omega), at_other (by omega), at_same (by simp; omega)]
  · unfold putCells
    rw [at_same (by simp; omega), hla]
    omega
  · rw [hla] at hj
    rw [ins_getD hi, ins_getD hi]
    by_cases c1 : j < i
    · rw [if_pos c1]
      have hn := h.an (j := j) (by omega)
      by_cases c2 : j + 1 = i
      · have e : adr b a i = b + (2 + 2 * a.getD j 0) := by unfold adr; rw [if_neg (by omega), show i - 1 = j by omega]
        rw [if_neg (by omega), if_pos c2, ← e]
        exact vA
      · have hne : a.getD j 0 ≠ a.getD (i - 1) 0 := fun e => by
          have := h.ainj (by omega) (by omega) e
          omega
        have := hpf j (by omega)
        rw [if_pos (by omega), put_other h hi (by omega) (by omega) (by omega) (by omega) (by omega)]
        exact h.la j (by omega)
    · rw [if_neg c1]
      by_cases c2 : j = i
      · rw [if_pos c2, if_neg (by omega), if_neg (by omega), vP, show j + 1 - 1 = i by omega]
      · have hn := h.an (j := j - 1) (by omega)
        have hne : 0 < i → a.getD (j - 1) 0 ≠ a.getD (i - 1) 0 := fun h0 e => by
          have := h.ainj (by omega) (by omega) e
          omega
        have := hpf (j - 1) (by omega)
        rw [if_neg c2, if_neg (by omega), if_neg (by omega), put_other h hi (by omega) (by omega) (by omega) (by rcases hA with ⟨_, e⟩ | ⟨h0, e, _, _⟩ <;> first | omega | (have := hne h0; omega)) (by omega)]
        have e := h.la (j - 1) (by omega)
        rw [show j - 1 + 1 = j by omega] at e
        exact e
  · have hn := hfn j hj
    have h0 := hff j hj
    have h1 : 0 < i → a.getD (i - 1) 0 ≠ f.getD j 0 := fun h0 => haf _ _ (by omega) hj
    rw [put_other h hi (by omega) (by omega) (by omega) (by rcases hA with ⟨_, e⟩ | ⟨h0, e, _, _⟩ <;> first | omega | (have := h1 h0; omega)) (by omega)]
    have e := h.lf (j + 1) (by simpa using hj)
    simpa using e
  · have hk : ∀ k, k ∈ a → keyC (putCells cells b i a f p x) b k = keyC cells b k := fun k hk => by
      have h0 := h.nod k (List.mem_append_left _ hk)
      have h1 : k ≠ p := fun e => by
        have := (List.nodup_append.1 h.dup).2.2 k hk p (by simp)
        exact this e
      unfold keyC
      exact put_other h hi (by omega) (by omega) (by omega) (by omega) (by omega)
    unfold keysC
    rw [List.map_append, List.map_cons, ← List.map_take, ← List.map_drop]
    congr 1
    · exact List.map_congr_left (fun k hk' => hk k (List.mem_of_mem_take hk'))
    · congr 1
      · exact List.map_congr_left (fun k hk' => hk k (List.mem_of_mem_drop hk'))
theorem drp_other {q : Nat} (h2 : q ≠ b + 1) (h3 : q ≠ b + (2 + 2 * a.getD i 0)) (h4 : q ≠ adr b a i) (h5 : q ≠ b + 2) : (drpCells cells b i a f).getD q 0 = cells.getD q 0 := by
  unfold drpCells
  rw [at_other (by omega), at_other (by omega), at_other (by omega), at_other (by omega)]
theorem drp_in (h : StIn cells b n a f) (hi : i < a.length) : StIn (drpCells cells b i a f) b n (a.take i ++ a.drop (i + 1)) (a.getD i 0 :: f) ∧ keysC (drpCells cells b i a f) b (a.take i ++ a.drop (i + 1)) = (keysC cells b a).take i ++ (keysC cells b a).drop (i + 1) := by
  have hlen := h.len
  have htop := h.top
  have hpn := h.an hi
  have hpa : ∀ j, j < a.length → j ≠ i → a.getD j 0 ≠ a.getD i 0 := fun j hj hne e => hne (h.ainj hj hi e)
  have hpf : ∀ j, j < f.length → f.getD j 0 ≠ a.getD i 0 := fun j hj e => h.afne hi hj e.symm
  have hA : (i = 0 ∧ adr b a i = b) ∨ (0 < i ∧ adr b a i = b + (2 + 2 * a.getD (i - 1) 0) ∧ 1 ≤ a.getD (i - 1) 0 ∧ a.getD (i - 1) 0 ≠ a.getD i 0) := by
    unfold adr
    by_cases c : i = 0
    · exact .inl ⟨c, by rw [if_pos c]⟩
    · exact .inr ⟨by omega, by rw [if_neg c], (h.an (j := i - 1) (by omega)).1, hpa (i - 1) (by omega) (by omega)⟩
  have hAl := (adr_at h (Nat.le_of_lt hi)).2
  have hsplit : a = a.take i ++ a.getD i 0 :: a.drop (i + 1) := by
    have e : a.getD i 0 = a[i] := by rw [List.getD_eq_getElem?_getD, List.getElem?_eq_getElem hi]; rfl
    rw [e, ← List.drop_eq_getElem_cons hi, List.take_append_drop]
  have hperm : (a.take i ++ a.drop (i + 1) ++ a.getD i 0 :: f).Perm (a ++ f) := by
    have e : a ++ f = a.take i ++ (a.getD i 0 :: (a.drop (i + 1) ++ f)) := by
      conv => lhs; rw [hsplit]
      simp
    rw [e, List.append_assoc]
    exact List.Perm.append_left _ (List.perm_middle (a := a.getD i 0) (l₁ := a.drop (i + 1)) (l₂ := f))
  have vA : (drpCells cells b i a f).getD (adr b a i) 0 = ((a.getD (i + 1) 0 : Nat) : Int) := by
    unfold drpCells
    rw [at_other (by omega), at_other (by omega), at_other (by omega), at_same (by omega)]
  have vP : (drpCells cells b i a f).getD (b + (2 + 2 * a.getD i 0)) 0 = ((f.getD 0 0 : Nat) : Int) := by
    unfold drpCells
    rw [at_other (by omega), at_other (by omega), at_same (by simp only [List.length_set]; omega)]
  have hla : (a.take i ++ a.drop (i + 1)).length = a.length - 1 := by simp; omega
  refine ⟨⟨by simp [drpCells]; exact hlen, by simp [drpCells]; exact htop, h.n0, h.n1, fun k hk => h.nod k (hperm.mem_iff.1 hk), hperm.nodup_iff.2 h.dup, ?_, ?_, ?_, ?_, fun j hj => ?_, fun j hj => ?_⟩, ?_⟩
  · have := h.cnt
    rw [hla, List.length_cons]
    omega
  · rw [del_getD hi]
    by_cases c : i = 0
    · have : adr b a i = b := by unfold adr; rw [if_pos c]
      rw [this] at vA
      rw [if_neg (by omega), vA, c]
    · rw [if_pos (by omega), drp_other (by omega) (by omega) (by omega) (by omega)]
      exact h.ha
  · unfold drpCells
    rw [at_other (by omega), at_same (by simp; omega)]
    rfl
  · unfold drpCells
    rw [at_same (by simp; omega), hla]
    omega
  · rw [hla] at hj
    rw [del_getD hi, del_getD hi]
    by_cases c1 : j < i
    · rw [if_pos c1]
      have hn := h.an (j := j) (by omega)
      by_cases c2 : j + 1 = i
      · have e : adr b a i = b + (2 + 2 * a.getD j 0) := by unfold adr; rw [if_neg (by omega), show i - 1 = j by omega]
        rw [if_neg (by omega), ← e, vA, c2]
      · have hne : a.getD j 0 ≠ a.getD (i - 1) 0 := fun e => by
          have := h.ainj (by omega) (by omega) e
          omega
        have := hpa j (by omega) (by omega)
        rw [if_pos (by omega), drp_other (by omega) (by omega) (by omega) (by omega)]
        exact h.la j (by omega)
    · rw [if_neg c1, if_neg (by omega)]
      have hn := h.an (j := j + 1) (by omega)
      have hne : 0 < i → a.getD (j + 1) 0 ≠ a.getD (i - 1) 0 := fun h0 e => by
        have := h.ainj (by omega) (by omega) e
        omega
      have := hpa (j + 1) (by omega) (by omega)
      rw [drp_other (by omega) (by omega) (by rcases hA with ⟨_, e⟩ | ⟨h0, e, _, _⟩ <;> first | omega | (have := hne h0; omega)) (by omega)]
      exact h.la (j + 1) (by omega)
  · match j, hj with
    | 0, _ =>
      show (drpCells cells b i a f).getD (b + (2 + 2 * a.getD i 0)) 0 = ((f.getD 0 0 : Nat) : Int)
      exact vP
    | j + 1, hj =>
      have hj' : j < f.length := by simpa using hj
      have hn := h.fn hj'
      have h0 := hpf j hj'
      have h1 : 0 < i → a.getD (i - 1) 0 ≠ f.getD j 0 := fun h0 => h.afne (by omega) hj'
      show (drpCells cells b i a f).getD (b + (2 + 2 * f.getD j 0)) 0 = ((f.getD (j + 1) 0 : Nat) : Int)
      rw [drp_other (by omega) (by omega) (by rcases hA with ⟨_, e⟩ | ⟨h0, e, _, _⟩ <;> first | omega | (have := h1 h0; omega)) (by omega)]
      exact h.lf j hj'
  · have hk : ∀ k, k ∈ a → keyC (drpCells cells b i a f) b k = keyC cells b k := fun k hk => by
      have h0 := h.nod k (List.mem_append_left _ hk)
      unfold keyC
      exact drp_other (by omega) (by omega) (by omega) (by omega)
    unfold keysC
    rw [List.map_append, ← List.map_take, ← List.map_drop]
    congr 1
    · exact List.map_congr_left (fun k hk' => hk k (List.mem_of_mem_take hk'))
    · exact List.map_congr_left (fun k hk' => hk k (List.mem_of_mem_drop hk'))
end
end Go.Proofs.YtdfefjalamohjaaGreatDoor

namespace Go.Proofs.YtdfefjalamohjaaGreatDoor
open Go.RowKit
set_option linter.unusedVariables false
set_option linter.unusedSimpArgs false

/-- A set that has l, from b on. -/
def StHas (cells : List Int) (b n : Nat) (l : List Int) : Prop := ∃ a f, StIn cells b n a f ∧ l = keysC cells b a ∧ risesB l = true
/-- All other cells are as they were. -/
def Same (cells cells' : List Int) (b n : Nat) : Prop := cells'.length = cells.length ∧ ∀ i, i < b ∨ b + (3 + 2 * n) ≤ i → cells'.getD i 0 = cells.getD i 0
theorem Same.refl (cells : List Int) (b n : Nat) : Same cells cells b n := ⟨rfl, fun _ _ => rfl⟩
theorem keysC_len (cells : List Int) (b : Nat) (a : List Nat) : (keysC cells b a).length = a.length := by simp [keysC]
section
variable {cells lc : List Int} {b n : Nat} {a f : List Nat} {x tr : Int}
theorem begin_find (h : StIn cells b n a f) (hr : risesB (keysC cells b a) = true) (hl : lc.length = 8) (R : List Ins) :
    ∃ k lc', k ≤ 21 * 61 + 3 ∧ Ow.To (findI b x ++ R) k (owB cells lc tr) (owS cells 30 ([7, -7] ++ [if (keysC cells b a).contains x = true then 1 else 0]) lc' [] [] tr) ∧ lc'.length = 8 ∧ lc'.getD 0 0 = ((adr b a (atS (keysC cells b a) x) : Nat) : Int) ∧ lc'.getD 1 0 = ((a.getD (atS (keysC cells b a) x) 0 : Nat) : Int) ∧ (atS (keysC cells b a) x < a.length → lc'.getD 2 0 = ((b + (1 + 2 * a.getD (atS (keysC cells b a) x) 0) : Nat) : Int)) := by
  obtain ⟨h1, h2, h3⟩ := find_is hr x
  have hc := count_le (keysC cells b a) x
  rw [keysC_len] at h2 h3 hc
  have hn := h.n1
  have ht := h.top
  have hcnt := h.cnt
  obtain ⟨k, lc', hk, hto, r1, r2, r3, r4⟩ := find_from (x := x) (tr := tr) (R := R) h hr hc h1 h2 (atS (keysC cells b a) x) 0 (lc.set 0 (b : Int)) (by omega) (by rw [List.length_set]; exact hl) (by rw [lc_same hl 0 (by decide)]; rfl)
  have e : (if atS (keysC cells b a) x < a.length ∧ (keysC cells b a).getD (atS (keysC cells b a) x) 0 = x then (1 : Int) else 0) = if (keysC cells b a).contains x = true then 1 else 0 := by
    by_cases c : (keysC cells b a).contains x = true
    · rw [if_pos c, if_pos (h3.1 c)]
    · rw [if_neg c, if_neg (fun hh => c (h3.2 hh))]
  rw [e] at hto
  refine ⟨k + 3, lc', ?_, ?_, r1, r2, r3, r4⟩
  · have : 21 * (atS (keysC cells b a) x + 1) ≤ 21 * 61 := by omega
    omega
  · refine to_begin rfl (by omega) ?_
    refine to_push (q := 1) rfl (by decide) ?_
    refine to_set (q := 2) (i := 0) rfl (by decide) (by decide) ?_
    exact hto
theorem same_put {n p i : Nat} (h : StIn cells b n a (p :: f)) (hi : i ≤ a.length) : Same cells (putCells cells b i a f p x) b n := by
  have hpn := h.fn (j := 0) (by simp)
  have hA : adr b a i = b ∨ (adr b a i = b + (2 + 2 * a.getD (i - 1) 0) ∧ 1 ≤ a.getD (i - 1) 0 ∧ a.getD (i - 1) 0 ≤ n) := by
    unfold adr
    by_cases c : i = 0
    · exact .inl (by rw [if_pos c])
    · exact .inr ⟨by rw [if_neg c], h.an (j := i - 1) (by omega)⟩
  have hpn : 1 ≤ p ∧ p ≤ n := hpn
  have h0 := h.n0
  exact ⟨by simp [putCells], fun q hq => put_other h hi (by omega) (by omega) (by omega) (by omega) (by omega)⟩
theorem same_drp {i : Nat} (h : StIn cells b n a f) (hi : i < a.length) : Same cells (drpCells cells b i a f) b n := by
  have hpn := h.an hi
  have hA : adr b a i = b ∨ (adr b a i = b + (2 + 2 * a.getD (i - 1) 0) ∧ 1 ≤ a.getD (i - 1) 0 ∧ a.getD (i - 1) 0 ≤ n) := by
    unfold adr
    by_cases c : i = 0
    · exact .inl (by rw [if_pos c])
    · exact .inr ⟨by rw [if_neg c], h.an (j := i - 1) (by omega)⟩
  have h0 := h.n0
  exact ⟨by simp [drpCells], fun q hq => drp_other (by omega) (by omega) (by omega) (by omega)⟩
/-- What a deed's program does. -/
def Runs (P : List Ins) (cells lc : List Int) (b n : Nat) (tr : Int) (l' tells : List Int) : Prop :=
  ∃ k cells' lc' wrote, k ≤ 5000 ∧ Ow.To P k (owB cells lc tr) (owE cells' (P.length : Nat) lc' tells wrote tr) ∧ StHas cells' b n l' ∧ Same cells cells' b n ∧ wrote.length ≤ 8
theorem run_has (h : StIn cells b n a f) (hr : risesB (keysC cells b a) = true) (hl : lc.length = 8) : Runs (hasC (b : Int) x) cells lc b n tr (keysC cells b a) [if (keysC cells b a).contains x = true then 1 else 0] := by
  obtain ⟨k, lc', hk, hto, r1, r2, r3, r4⟩ := begin_find (x := x) (tr := tr) h hr hl [⟨21, 0⟩, ⟨19, 0⟩]
  refine ⟨k + 2, cells, lc', [], by omega, ?_, ⟨a, f, h, rfl, hr⟩, Same.refl _ _ _, by simp⟩
  refine hto.then ?_
  refine to_tell (q := 30) rfl (by simp) (by simp) ?_
  exact to_commit (q := 31) rfl (by simp) (by simp)
theorem run_size (h : StIn cells b n a f) (hr : risesB (keysC cells b a) = true) (hl : lc.length = 8) : Runs (sizC (b : Int) x) cells lc b n tr (keysC cells b a) [((keysC cells b a).length : Int)] := by
  have ht := h.top
  have hlen := h.len
  refine ⟨5, cells, lc, [], by omega, ?_, ⟨a, f, h, rfl, hr⟩, Same.refl _ _ _, by simp⟩
  refine to_begin rfl (by omega) ?_
  refine to_push (q := 1) rfl (by decide) ?_
  refine to_load (q := 2) (j := b + 2) rfl (by simp) (by omega) (by omega) ?_
  rw [h.sz, keysC_len]
  refine to_tell (q := 3) rfl (by simp) (by simp) ?_
  exact to_commit (q := 4) rfl (by simp) (by simp)
theorem run_least (h : StIn cells b n a f) (hr : risesB (keysC cells b a) = true) (hl : lc.length = 8) : Runs (lstC (b : Int) x) cells lc b n tr (keysC cells b a) (if keysC cells b a = [] then [0] else [1, (keysC cells b a).getD 0 0]) := by
  have ht := h.top
  have hlen := h.len
  have hn1 := h.n1
  by_cases c : a = []
  · subst c
    rw [if_pos (show keysC cells b [] = [] from rfl)]
    refine ⟨9, cells, lc.set 0 0, [], by omega, ?_, ⟨[], f, h, rfl, hr⟩, Same.refl _ _ _, by simp⟩
    refine to_begin rfl (by omega) ?_
    refine to_push (q := 1) rfl (by decide) ?_
    refine to_load (q := 2) (j := b) rfl (by simp) rfl (by omega) ?_
    rw [h.ha]
    refine to_dup (q := 3) rfl (by simp) ?_
    refine to_set (q := 4) (i := 0) rfl (by decide) (by simp) ?_
    refine to_zero (q := 5) rfl (by simp) ?_
    refine to_push (q := 15) rfl (by simp) ?_
    refine to_tell (q := 16) rfl (by simp) (by simp) ?_
    exact to_commit (q := 17) rfl (by simp) (by simp)
  · have hal : 0 < a.length := List.length_pos_iff.2 c
    have hn := h.an hal
    have hk := keysC_at (cells := cells) (b := b) hal
    rw [if_neg (fun e => c (by have := keysC_len cells b a; rw [e] at this; exact List.length_eq_zero_iff.1 this.symm))]
    refine ⟨17, cells, lc.set 0 ((a.getD 0 0 : Nat) : Int), [], by omega, ?_, ⟨a, f, h, rfl, hr⟩, Same.refl _ _ _, by simp⟩
    refine to_begin rfl (by omega) ?_
    refine to_push (q := 1) rfl (by decide) ?_
    refine to_load (q := 2) (j := b) rfl (by simp) rfl (by omega) ?_
    rw [h.ha]
    refine to_dup (q := 3) rfl (by simp) ?_
    refine to_set (q := 4) (i := 0) rfl (by decide) (by simp) ?_
    refine to_zero (q := 5) rfl (by simp) ?_
    rw [if_neg (by omega)]
    refine to_push (q := 6) rfl (by simp) ?_
    refine to_tell (q := 7) rfl (by simp) (by simp) ?_
    refine to_get (q := 8) (i := 0) rfl (by decide) (by simp) ?_
    rw [lc_same hl 0 (by decide)]
    refine to_push (q := 9) rfl (by simp) ?_
    refine to_sum9 (q := 10) rfl (by simp) ?_
    rw [so_mul (by omega) (by omega)]
    refine to_push (q := 11) rfl (by simp) ?_
    refine to_sum7 (q := 12) rfl (by simp) ?_
    rw [so_add (by omega) (by omega), show ((a.getD 0 0 : Nat) : Int) * 2 + ((b : Int) + 1) = ((b + (1 + 2 * a.getD 0 0) : Nat) : Int) by omega]
    refine to_load (q := 13) (j := b + (1 + 2 * a.getD 0 0)) rfl (by simp) rfl (by omega) ?_
    rw [← hk]
    refine to_jump (q := 14) rfl (by simp) ?_
    refine to_tell (q := 16) rfl (by simp) (by simp) ?_
    exact to_commit (q := 17) rfl (by simp) (by simp)
theorem run_drop (h : StIn cells b n a f) (hr : risesB (keysC cells b a) = true) (hl : lc.length = 8) : Runs (drpC (b : Int) x) cells lc b n tr
    (if (keysC cells b a).contains x = true then (keysC cells b a).take (atS (keysC cells b a) x) ++ (keysC cells b a).drop (atS (keysC cells b a) x + 1) else keysC cells b a) (if (keysC cells b a).contains x = true then [1] else [0]) := by
  have ht := h.top
  have hlen := h.len
  have hn1 := h.n1
  obtain ⟨k, lc', hk, hto, r1, r2, r3, r4⟩ := begin_find (x := x) (tr := tr) h hr hl ((drpC (b : Int) x).drop 30)
  have hrun : Ow.To (drpC (b : Int) x) k _ _ := hto
  obtain ⟨q1, q2, q3⟩ := find_is hr x
  have hc := count_le (keysC cells b a) x
  have hmem := kp_mem (l := keysC cells b a) (n := (n : Int)) (x := x) false hr
  by_cases c : (keysC cells b a).contains x = true
  · rw [if_pos c, if_pos c]
    rw [if_pos c] at hrun
    obtain ⟨hi, hx⟩ := q3.1 c
    have hris : risesB ((keysC cells b a).take (atS (keysC cells b a) x) ++ (keysC cells b a).drop (atS (keysC cells b a) x + 1)) = true := by
      have := hmem.1
      unfold kpD doS at this
      simp only [Bool.false_eq_true, if_false, Int.reduceEq, if_true, if_pos c] at this
      exact this
    rw [keysC_len] at hi
    have r4 := r4 hi
    obtain ⟨e1, e2⟩ := adr_at h (Nat.le_of_lt hi)
    obtain ⟨hin, hkeys⟩ := drp_in h hi
    have hsame := same_drp h hi
    have hnd := h.an hi
    have hla := h.la _ hi
    generalize atS (keysC cells b a) x = i at *
    have hA : (i = 0 ∧ adr b a i = b) ∨ (0 < i ∧ adr b a i = b + (2 + 2 * a.getD (i - 1) 0) ∧ 1 ≤ a.getD (i - 1) 0 ∧ a.getD (i - 1) 0 ≠ a.getD i 0) := by
      unfold adr
      by_cases c : i = 0
      · exact .inl ⟨c, by rw [if_pos c]⟩
      · exact .inr ⟨by omega, by rw [if_neg c], (h.an (j := i - 1) (by omega)).1, fun e => by
          have := h.ainj (by omega) hi e
          omega⟩
    have hAne : adr b a i ≠ b + 1 ∧ adr b a i ≠ b + 2 := by omega
    have w1 := addW_le ([] : List Int) ((adr b a i : Nat) : Int)
    have w2 := addW_le (addW [] ((adr b a i : Nat) : Int)) ((b + (2 + 2 * a.getD i 0) : Nat) : Int)
    have w3 := addW_le (addW (addW [] ((adr b a i : Nat) : Int)) ((b + (2 + 2 * a.getD i 0) : Nat) : Int)) ((b : Int) + 1)
    have w4 := addW_le (addW (addW (addW [] ((adr b a i : Nat) : Int)) ((b + (2 + 2 * a.getD i 0) : Nat) : Int)) ((b : Int) + 1)) ((b : Int) + 2)
    simp only [List.length_nil] at w1
    refine ⟨k + 25, drpCells cells b i a f, lc', addW (addW (addW (addW [] ((adr b a i : Nat) : Int)) ((b + (2 + 2 * a.getD i 0) : Nat) : Int)) ((b : Int) + 1)) ((b : Int) + 2), by omega, ?_, ⟨_, _, hin, hkeys.symm, hris⟩, hsame, by omega⟩
    refine hrun.then ?_
    refine to_dup (q := 30) rfl (by simp) ?_
    refine to_tell (q := 31) rfl (by simp) (by simp) ?_
    refine to_zero (q := 32) rfl (by simp) ?_
    refine to_get (q := 33) (i := 0) rfl (by decide) (by simp) ?_
    rw [r2]
    refine to_get (q := 34) (i := 2) rfl (by decide) (by simp) ?_
    rw [r4]
    refine to_push (q := 35) rfl (by simp) ?_
    refine to_sum7 (q := 36) rfl (by simp) ?_
    rw [so_add (by omega) (by omega), show ((b + (1 + 2 * a.getD i 0) : Nat) : Int) + 1 = ((b + (2 + 2 * a.getD i 0) : Nat) : Int) by omega]
    refine to_load (q := 37) (j := b + (2 + 2 * a.getD i 0)) rfl (by simp) rfl (by omega) ?_
    rw [hla]
    refine to_storeW (q := 38) (j := adr b a i) rfl (by simp) rfl e2 (by simp) ?_
    refine to_get (q := 39) (i := 2) rfl (by decide) (by simp) ?_
    rw [r4]
    refine to_push (q := 40) rfl (by simp) ?_
    refine to_sum7 (q := 41) rfl (by simp) ?_
    rw [so_add (by omega) (by omega), show ((b + (1 + 2 * a.getD i 0) : Nat) : Int) + 1 = ((b + (2 + 2 * a.getD i 0) : Nat) : Int) by omega]
    refine to_push (q := 42) rfl (by simp) ?_
    refine to_load (q := 43) (j := b + 1) rfl (by simp) (by omega) (by rw [List.length_set]; omega) ?_
    rw [at_other hAne.1, h.hf]
    refine to_storeW (q := 44) (j := b + (2 + 2 * a.getD i 0)) rfl (by simp) rfl (by rw [List.length_set]; omega) (by omega) ?_
    refine to_push (q := 45) rfl (by simp) ?_
    refine to_get (q := 46) (i := 1) rfl (by decide) (by simp) ?_
    rw [r3]
    refine to_storeW (q := 47) (j := b + 1) rfl (by simp) (by omega) (by rw [List.length_set, List.length_set]; omega) (by omega) ?_
    refine to_push (q := 48) rfl (by simp) ?_
    refine to_push (q := 49) rfl (by simp) ?_
    refine to_load (q := 50) (j := b + 2) rfl (by simp) (by omega) (by rw [List.length_set, List.length_set, List.length_set]; omega) ?_
    rw [at_other (by omega), at_other (by omega), at_other hAne.2, h.sz]
    refine to_push (q := 51) rfl (by simp) ?_
    refine to_sum8 (q := 52) rfl (by simp) ?_
    rw [so_sub (by omega) (by have := h.cnt; omega)]
    refine to_storeW (q := 53) (j := b + 2) rfl (by simp) (by omega) (by rw [List.length_set, List.length_set, List.length_set]; omega) (by omega) ?_
    exact to_commit (q := 54) rfl (by simp) (by simp)
  · rw [if_neg c, if_neg c]
    rw [if_neg c] at hrun
    refine ⟨k + 4, cells, lc', [], by omega, ?_, ⟨a, f, h, rfl, hr⟩, Same.refl _ _ _, by simp⟩
    refine hrun.then ?_
    refine to_dup (q := 30) rfl (by simp) ?_
    refine to_tell (q := 31) rfl (by simp) (by simp) ?_
    refine to_zero (q := 32) rfl (by simp) ?_
    exact to_commit (q := 54) rfl (by simp) (by simp)
theorem run_put (h : StIn cells b n a f) (hr : risesB (keysC cells b a) = true) (hl : lc.length = 8) : Runs (putC (b : Int) x) cells lc b n tr
    (if (keysC cells b a).contains x = true then keysC cells b a else if ((keysC cells b a).length : Int) = (n : Int) then keysC cells b a else (keysC cells b a).take (atS (keysC cells b a) x) ++ x :: (keysC cells b a).drop (atS (keysC cells b a) x))
    (if (keysC cells b a).contains x = true then [0] else if ((keysC cells b a).length : Int) = (n : Int) then [2] else [1]) := by
  have ht := h.top
  have hlen := h.len
  have hn1 := h.n1
  have hcnt := h.cnt
  obtain ⟨k, lc', hk, hto, r1, r2, r3, r4⟩ := begin_find (x := x) (tr := tr) h hr hl ((putC (b : Int) x).drop 30)
  have hrun : Ow.To (putC (b : Int) x) k _ _ := hto
  obtain ⟨q1, q2, q3⟩ := find_is hr x
  have hc := count_le (keysC cells b a) x
  have hmem := kp_mem (l := keysC cells b a) (n := (n : Int)) (x := x) true hr
  by_cases c : (keysC cells b a).contains x = true
  · rw [if_pos c, if_pos c]
    rw [if_pos c] at hrun
    refine ⟨k + 6, cells, lc', [], by omega, ?_, ⟨a, f, h, rfl, hr⟩, Same.refl _ _ _, by simp⟩
    refine hrun.then ?_
    refine to_not (q := 30) rfl (by simp) ?_
    rw [so_nsame (by decide)]
    refine to_zero (q := 31) rfl (by simp) ?_
    refine to_push (q := 68) rfl (by simp) ?_
    refine to_jump (q := 69) rfl (by simp) ?_
    refine to_tell (q := 71) rfl (by simp) (by simp) ?_
    exact to_commit (q := 72) rfl (by simp) (by simp)
  · rw [if_neg c, if_neg c]
    rw [if_neg c] at hrun
    by_cases hfull : ((keysC cells b a).length : Int) = (n : Int)
    · rw [if_pos hfull, if_pos hfull]
      rw [keysC_len] at hfull
      have hf0 : f = [] := List.length_eq_zero_iff.1 (by omega)
      refine ⟨k + 10, cells, lc'.set 3 0, [], by omega, ?_, ⟨a, f, h, rfl, hr⟩, Same.refl _ _ _, by simp⟩
      refine hrun.then ?_
      refine to_not (q := 30) rfl (by simp) ?_
      rw [so_same rfl]
      refine to_zero (q := 31) rfl (by simp) ?_
      refine to_push (q := 32) rfl (by simp) ?_
      refine to_load (q := 33) (j := b + 1) rfl (by simp) (by omega) (by omega) ?_
      rw [h.hf, hf0]
      refine to_dup (q := 34) rfl (by simp) ?_
      refine to_set (q := 35) (i := 3) rfl (by decide) (by simp) ?_
      refine to_zero (q := 36) rfl (by simp) ?_
      refine to_push (q := 70) rfl (by simp) ?_
      refine to_tell (q := 71) rfl (by simp) (by simp) ?_
      exact to_commit (q := 72) rfl (by simp) (by simp)
    · rw [if_neg hfull, if_neg hfull]
      have hris : risesB ((keysC cells b a).take (atS (keysC cells b a) x) ++ x :: (keysC cells b a).drop (atS (keysC cells b a) x)) = true := by
        have := hmem.1
        unfold kpD doS at this
        simp only [if_true, if_neg c, if_neg hfull] at this
        exact this
      rw [keysC_len] at hfull hc
      obtain ⟨p, g, rfl⟩ : ∃ p g, f = p :: g := by
        cases f with
        | nil => simp at hcnt; omega
        | cons p g => exact ⟨p, g, rfl⟩
      have hp : 1 ≤ p ∧ p ≤ n := h.fn (j := 0) (by simp)
      obtain ⟨e1, e2⟩ := adr_at h hc
      obtain ⟨hin, hkeys⟩ := put_in (x := x) h hc
      have hsame := same_put (x := x) h hc
      have hlf : cells.getD (b + (2 + 2 * p)) 0 = ((g.getD 0 0 : Nat) : Int) := h.lf 0 (by simp)
      have hhf : cells.getD (b + 1) 0 = (p : Int) := h.hf
      have hpf : ∀ j, j < a.length → a.getD j 0 ≠ p := fun j hj => h.afne (j := 0) hj (by simp)
      generalize atS (keysC cells b a) x = i at *
      have hA : (i = 0 ∧ adr b a i = b) ∨ (0 < i ∧ adr b a i = b + (2 + 2 * a.getD (i - 1) 0) ∧ 1 ≤ a.getD (i - 1) 0 ∧ a.getD (i - 1) 0 ≠ p) := by
        unfold adr
        by_cases c : i = 0
        · exact .inl ⟨c, by rw [if_pos c]⟩
        · exact .inr ⟨by omega, by rw [if_neg c], (h.an (j := i - 1) (by omega)).1, hpf (i - 1) (by omega)⟩
      have hAne : adr b a i ≠ b + 1 ∧ adr b a i ≠ b + 2 := by omega
      have w1 := addW_le ([] : List Int) ((b + (1 + 2 * p) : Nat) : Int)
      have w2 := addW_le (addW [] ((b + (1 + 2 * p) : Nat) : Int)) ((b : Int) + 1)
      have w3 := addW_le (addW (addW [] ((b + (1 + 2 * p) : Nat) : Int)) ((b : Int) + 1)) ((b + (2 + 2 * p) : Nat) : Int)
      have w4 := addW_le (addW (addW (addW [] ((b + (1 + 2 * p) : Nat) : Int)) ((b : Int) + 1)) ((b + (2 + 2 * p) : Nat) : Int)) ((adr b a i : Nat) : Int)
      have w5 := addW_le (addW (addW (addW (addW [] ((b + (1 + 2 * p) : Nat) : Int)) ((b : Int) + 1)) ((b + (2 + 2 * p) : Nat) : Int)) ((adr b a i : Nat) : Int)) ((b : Int) + 2)
      simp only [List.length_nil] at w1
      have hl3 : (lc'.set 3 (p : Int)).length = 8 := by rw [List.length_set]; exact r1
      have g0 : ((lc'.set 3 (p : Int)).set 4 ((b + (1 + 2 * p) : Nat) : Int)).getD 0 0 = ((adr b a i : Nat) : Int) := by rw [lc_other (by decide), lc_other (by decide)]; exact r2
      have g1 : ((lc'.set 3 (p : Int)).set 4 ((b + (1 + 2 * p) : Nat) : Int)).getD 1 0 = ((a.getD i 0 : Nat) : Int) := by rw [lc_other (by decide), lc_other (by decide)]; exact r3
      have g3 : ((lc'.set 3 (p : Int)).set 4 ((b + (1 + 2 * p) : Nat) : Int)).getD 3 0 = (p : Int) := by rw [lc_other (by decide), lc_same r1 3 (by decide)]
      have g4 : ((lc'.set 3 (p : Int)).set 4 ((b + (1 + 2 * p) : Nat) : Int)).getD 4 0 = ((b + (1 + 2 * p) : Nat) : Int) := lc_same hl3 4 (by decide) _
      refine ⟨k + 40, putCells cells b i a g p x, (lc'.set 3 (p : Int)).set 4 ((b + (1 + 2 * p) : Nat) : Int), addW (addW (addW (addW (addW [] ((b + (1 + 2 * p) : Nat) : Int)) ((b : Int) + 1)) ((b + (2 + 2 * p) : Nat) : Int)) ((adr b a i : Nat) : Int)) ((b : Int) + 2), by omega, ?_, ⟨_, _, hin, hkeys.symm, hris⟩, hsame, by omega⟩
      refine hrun.then ?_
      refine to_not (q := 30) rfl (by simp) ?_
      rw [so_same rfl]
      refine to_zero (q := 31) rfl (by simp) ?_
      refine to_push (q := 32) rfl (by simp) ?_
      refine to_load (q := 33) (j := b + 1) rfl (by simp) (by omega) (by omega) ?_
      rw [hhf]
      refine to_dup (q := 34) rfl (by simp) ?_
      refine to_set (q := 35) (i := 3) rfl (by decide) (by simp) ?_
      refine to_zero (q := 36) rfl (by simp) ?_
      rw [if_neg (by omega)]
      refine to_get (q := 37) (i := 3) rfl (by decide) (by simp) ?_
      rw [lc_same r1 3 (by decide)]
      refine to_push (q := 38) rfl (by simp) ?_
      refine to_sum9 (q := 39) rfl (by simp) ?_
      rw [so_mul (by omega) (by omega)]
      refine to_push (q := 40) rfl (by simp) ?_
      refine to_sum7 (q := 41) rfl (by simp) ?_
      rw [so_add (by omega) (by omega), show (p : Int) * 2 + ((b : Int) + 1) = ((b + (1 + 2 * p) : Nat) : Int) by omega]
      refine to_dup (q := 42) rfl (by simp) ?_
      refine to_set (q := 43) (i := 4) rfl (by decide) (by simp) ?_
      refine to_push (q := 44) rfl (by simp) ?_
      refine to_storeW (q := 45) (j := b + (1 + 2 * p)) rfl (by simp) rfl (by omega) (by simp) ?_
      refine to_push (q := 46) rfl (by simp) ?_
      refine to_get (q := 47) (i := 4) rfl (by decide) (by simp) ?_
      rw [g4]
      refine to_push (q := 48) rfl (by simp) ?_
      refine to_sum7 (q := 49) rfl (by simp) ?_
      rw [so_add (by omega) (by omega), show ((b + (1 + 2 * p) : Nat) : Int) + 1 = ((b + (2 + 2 * p) : Nat) : Int) by omega]
      refine to_load (q := 50) (j := b + (2 + 2 * p)) rfl (by simp) rfl (by rw [List.length_set]; omega) ?_
      rw [at_other (by omega), hlf]
      refine to_storeW (q := 51) (j := b + 1) rfl (by simp) (by omega) (by rw [List.length_set]; omega) (by omega) ?_
      refine to_get (q := 52) (i := 4) rfl (by decide) (by simp) ?_
      rw [g4]
      refine to_push (q := 53) rfl (by simp) ?_
      refine to_sum7 (q := 54) rfl (by simp) ?_
      rw [so_add (by omega) (by omega), show ((b + (1 + 2 * p) : Nat) : Int) + 1 = ((b + (2 + 2 * p) : Nat) : Int) by omega]
      refine to_get (q := 55) (i := 1) rfl (by decide) (by simp) ?_
      rw [g1]
      refine to_storeW (q := 56) (j := b + (2 + 2 * p)) rfl (by simp) rfl (by rw [List.length_set, List.length_set]; omega) (by omega) ?_
      refine to_get (q := 57) (i := 0) rfl (by decide) (by simp) ?_
      rw [g0]
      refine to_get (q := 58) (i := 3) rfl (by decide) (by simp) ?_
      rw [g3]
      refine to_storeW (q := 59) (j := adr b a i) rfl (by simp) rfl (by rw [List.length_set, List.length_set, List.length_set]; omega) (by omega) ?_
      refine to_push (q := 60) rfl (by simp) ?_
      refine to_push (q := 61) rfl (by simp) ?_
      refine to_load (q := 62) (j := b + 2) rfl (by simp) (by omega) (by rw [List.length_set, List.length_set, List.length_set, List.length_set]; omega) ?_
      rw [at_other hAne.2, at_other (by omega), at_other (by omega), at_other (by omega), h.sz]
      refine to_push (q := 63) rfl (by simp) ?_
      refine to_sum7 (q := 64) rfl (by simp) ?_
      rw [so_add (by omega) (by omega)]
      refine to_storeW (q := 65) (j := b + 2) rfl (by simp) (by omega) (by rw [List.length_set, List.length_set, List.length_set, List.length_set]; omega) (by omega) ?_
      refine to_push (q := 66) rfl (by simp) ?_
      refine to_jump (q := 67) rfl (by simp) ?_
      refine to_tell (q := 71) rfl (by simp) (by simp) ?_
      exact to_commit (q := 72) rfl (by simp) (by simp)
end
/-- The program of a deed that may be does the deed. -/
theorem deed_runs {cells lc l : List Int} {b n : Nat} {d : Dd} {tr : Int} (h : StHas cells b n l) (hl : lc.length = 8) (hd : mayS d = true) : Runs (codeS (b : Int) d.x d.op) cells lc b n tr (doS l (n : Int) d).1 (doS l (n : Int) d).2 := by
  obtain ⟨a, f, h, rfl, hr⟩ := h
  have ho := may_op hd
  obtain ⟨op, a', b', x, y⟩ := d
  simp only at ho ⊢
  unfold doS codeS
  rcases ho with rfl | rfl | rfl | rfl | rfl
  · simp only [if_true]
    have := run_put (x := x) (tr := tr) h hr hl
    by_cases c : (keysC cells b a).contains x = true
    · simp only [if_pos c] at this ⊢; exact this
    · simp only [if_neg c] at this ⊢
      by_cases c2 : ((keysC cells b a).length : Int) = (n : Int)
      · simp only [if_pos c2] at this ⊢; exact this
      · simp only [if_neg c2] at this ⊢; exact this
  · simp only [Int.reduceEq, if_false, if_true]
    have := run_drop (x := x) (tr := tr) h hr hl
    by_cases c : (keysC cells b a).contains x = true
    · simp only [if_pos c] at this ⊢; exact this
    · simp only [if_neg c] at this ⊢; exact this
  · simp only [Int.reduceEq, if_false, if_true]
    have := run_has (x := x) (tr := tr) h hr hl
    by_cases c : (keysC cells b a).contains x = true
    · simp only [if_pos c] at this ⊢; exact this
    · simp only [if_neg c] at this ⊢; exact this
  · simp only [Int.reduceEq, if_false, if_true]
    have := run_least (x := x) (tr := tr) h hr hl
    by_cases c : keysC cells b a = []
    · simp only [if_pos c] at this ⊢; exact this
    · simp only [if_neg c] at this ⊢; exact this
  · simp only [Int.reduceEq, if_false]
    exact run_size h hr hl
end Go.Proofs.YtdfefjalamohjaaGreatDoor

namespace Go.Proofs.YtdfefjalamohjaaGreatDoor
open Go.RowKit
set_option linter.unusedVariables false
set_option linter.unusedSimpArgs false

theorem getD_part {cells : List Int} {b k j : Nat} (hj : j < k) : ((cells.drop b).take k).getD j 0 = cells.getD (b + j) 0 := by
  simp only [List.getD_eq_getElem?_getD]
  rw [List.getElem?_take_of_lt hj, List.getElem?_drop]
theorem tr_nat {P : List Int} {n : Nat} : ∀ (a : List Nat) (f : Int), f = ((a.getD 0 0 : Nat) : Int) → (∀ k ∈ a, 1 ≤ k ∧ k ≤ n) → (∀ j, j < a.length → P.getD (2 + 2 * a.getD j 0) 0 = ((a.getD (j + 1) 0 : Nat) : Int)) → Tr P n f (a.map fun k : Nat => (k : Int)) 0
  | [], f, h, _, _ => h.symm
  | k :: a, f, h, hk, hl => by
    have h : f = (k : Int) := h
    have h1 := hk k (List.mem_cons_self ..)
    have h2 : isN n f = true := isN_iff.2 (by omega)
    refine ⟨by omega, h.symm, ?_⟩
    unfold nxtM
    rw [if_pos h2]
    refine tr_nat a _ ?_ (fun q hq => hk q (List.mem_cons_of_mem _ hq)) (fun j hj => hl (j + 1) (by simpa using hj))
    have := hl 0 (by simp)
    unfold lnkM
    rw [h, Int.toNat_natCast]
    exact this
theorem tr_back {P : List Int} {n : Nat} : ∀ (a : List Int) (f : Int), Tr P n f a 0 → (∀ k ∈ a, isN n k = true) → f = (((a.map Int.toNat).getD 0 0 : Nat) : Int) ∧ ∀ j, j < a.length → P.getD (2 + 2 * (a.map Int.toNat).getD j 0) 0 = (((a.map Int.toNat).getD (j + 1) 0 : Nat) : Int)
  | [], f, h, _ => ⟨h.symm, fun j hj => by simp at hj⟩
  | x :: a, f, h, hk => by
    obtain ⟨h1, rfl, h3⟩ := h
    have hx := hk x (List.mem_cons_self ..)
    have hx2 := isN_iff.1 hx
    unfold nxtM at h3
    rw [if_pos hx] at h3
    obtain ⟨e, r⟩ := tr_back a _ h3 (fun q hq => hk q (List.mem_cons_of_mem _ hq))
    refine ⟨?_, fun j hj => ?_⟩
    · show x = ((x.toNat : Nat) : Int)
      omega
    · match j, hj with
      | 0, _ =>
        show P.getD (2 + 2 * x.toNat) 0 = (((a.map Int.toNat).getD 0 0 : Nat) : Int)
        exact e
      | j + 1, hj => exact r j (by simpa using hj)
theorem natL_mem {n : Nat} {a : List Nat} (h : ∀ k ∈ a, 1 ≤ k ∧ k ≤ n) : ∀ k ∈ a.map (fun k : Nat => (k : Int)), isN n k = true := fun k hk => by
  obtain ⟨q, hq, rfl⟩ := List.mem_map.1 hk
  have := h q hq
  exact isN_iff.2 (by omega)
theorem StHas.read {cells : List Int} {b n : Nat} {l : List Int} (h : StHas cells b n l) : readM ((cells.drop b).take (3 + 2 * n)) n = some l := by
  obtain ⟨a, f, h, rfl, hr⟩ := h
  have hlen := h.len
  have hna : ∀ k ∈ a, 1 ≤ k ∧ k ≤ n := fun k hk => h.nod k (List.mem_append_left _ hk)
  have hnf : ∀ k ∈ f, 1 ≤ k ∧ k ≤ n := fun k hk => h.nod k (List.mem_append_right _ hk)
  have hcnt := h.cnt
  have p : ∀ j, j < 3 + 2 * n → ((cells.drop b).take (3 + 2 * n)).getD j 0 = cells.getD (b + j) 0 := fun j hj => getD_part hj
  generalize (cells.drop b).take (3 + 2 * n) = P at *
  have hkeys : (a.map fun k : Nat => (k : Int)).map (keyM P) = keysC cells b a := by
    rw [List.map_map]
    unfold keysC
    apply List.map_congr_left
    intro k hk
    have := hna k hk
    simp only [Function.comp, keyM, Int.toNat_natCast, keyC]
    exact p _ (by omega)
  have ha : LsOk P n (P.getD 0 0) (a.map fun k : Nat => (k : Int)) := by
    refine ⟨tr_nat a _ ?_ hna (fun j hj => ?_), natL_mem hna, by rw [List.length_map]; omega⟩
    · rw [p 0 (by omega)]
      exact h.ha
    · have := h.an hj
      rw [p _ (by omega)]
      exact h.la j hj
  have hf : LsOk P n (P.getD 1 0) (f.map fun k : Nat => (k : Int)) := by
    refine ⟨tr_nat f _ ?_ hnf (fun j hj => ?_), natL_mem hnf, by rw [List.length_map]; omega⟩
    · rw [p 1 (by omega)]
      exact h.hf
    · have := h.fn hj
      rw [p _ (by omega)]
      exact h.lf j hj
  have := read_yes ha hf (by rw [List.length_map, List.length_map]; exact hcnt) (by
    rw [← List.map_append, List.Nodup, List.pairwise_map]
    exact h.dup.imp (fun hne e => hne (by omega))) (by rw [p 2 (by omega), List.length_map]; exact h.sz) (by rw [hkeys]; exact hr)
  rw [hkeys] at this
  exact this
theorem map_back {n : Nat} {a : List Int} (h : ∀ k ∈ a, isN n k = true) : ∀ k ∈ a.map Int.toNat, 1 ≤ k ∧ k ≤ n := fun k hk => by
  obtain ⟨q, hq, rfl⟩ := List.mem_map.1 hk
  have := isN_iff.1 (h q hq)
  omega
theorem StHas.of {cells : List Int} {b n : Nat} {l : List Int} (hn0 : 0 < n) (hn1 : n ≤ 60) (hlen : b + (3 + 2 * n) ≤ cells.length) (htop : cells.length ≤ 256) (h : readM ((cells.drop b).take (3 + 2 * n)) n = some l) : StHas cells b n l := by
  have p : ∀ j, j < 3 + 2 * n → ((cells.drop b).take (3 + 2 * n)).getD j 0 = cells.getD (b + j) 0 := fun j hj => getD_part hj
  generalize (cells.drop b).take (3 + 2 * n) = P at *
  obtain ⟨a, f, h1, h2, h3, h4, h5, h6⟩ := read_some (L := P) (n := n) (by rw [h]; simp)
  have hy := read_yes h1 h2 h3 h4 h5 h6
  rw [h] at hy
  simp only [Option.some.injEq] at hy
  have na := map_back h1.2.1
  have nf := map_back h2.2.1
  obtain ⟨a0, a1⟩ := tr_back a _ h1.1 h1.2.1
  obtain ⟨f0, f1⟩ := tr_back f _ h2.1 h2.2.1
  have getN : ∀ {x : List Nat} {j : Nat}, (∀ k ∈ x, 1 ≤ k ∧ k ≤ n) → j < x.length → 1 ≤ x.getD j 0 ∧ x.getD j 0 ≤ n := fun hx hj => hx _ (nAt hj)
  refine ⟨a.map Int.toNat, f.map Int.toNat, ⟨hlen, htop, hn0, hn1, fun k hk => ?_, ?_, ?_, ?_, ?_, ?_, fun j hj => ?_, fun j hj => ?_⟩, ?_, ?_⟩
  · rcases List.mem_append.1 hk with hk | hk
    · exact na k hk
    · exact nf k hk
  · rw [← List.map_append, List.Nodup, List.pairwise_map]
    refine List.Pairwise.imp_of_mem (R := fun x y : Int => x ≠ y) (fun ha hb hne e => hne ?_) h4
    have m : ∀ k ∈ a ++ f, isN n k = true := fun k hk => by
      rcases List.mem_append.1 hk with hk | hk
      · exact h1.2.1 k hk
      · exact h2.2.1 k hk
    have := isN_iff.1 (m _ ha)
    have := isN_iff.1 (m _ hb)
    omega
  · rw [List.length_map, List.length_map]; exact h3
  · rw [← a0, p 0 (by omega)]; rfl
  · rw [← f0, p 1 (by omega)]
  · rw [List.length_map, ← h5, p 2 (by omega)]
  · have hb := getN na hj
    rw [List.length_map] at hj
    rw [← a1 j hj, p _ (by omega)]
  · have hb := getN nf hj
    rw [List.length_map] at hj
    rw [← f1 j hj, p _ (by omega)]
  · rw [hy]
    unfold keysC
    rw [List.map_map]
    apply List.map_congr_left
    intro k hk
    have := isN_iff.1 (h1.2.1 k hk)
    simp only [Function.comp, keyC, keyM]
    exact p _ (by omega)
  · rw [hy]; exact h6
theorem StHas.fits {cells : List Int} {b n : Nat} {l : List Int} (h : StHas cells b n l) : fitsS (b : Int) (n : Int) cells.length = true := by
  obtain ⟨a, f, h, _⟩ := h
  have := h.n0
  have := h.n1
  have := h.len
  have hr : roomS (n : Int) = 3 + 2 * (n : Int) := by unfold roomS; rw [if_pos (by omega)]
  unfold fitsS
  rw [hr]
  simp only [Bool.and_eq_true, decide_eq_true_eq]
  omega
theorem StHas.length {cells : List Int} {b n : Nat} {l : List Int} (h : StHas cells b n l) : l.length ≤ n := by
  obtain ⟨a, f, h, rfl, _⟩ := h
  have := h.cnt
  rw [keysC_len]
  omega
theorem StHas.ok {cells : List Int} {b n : Nat} {l : List Int} (h : StHas cells b n l) (d : Dd) : okS l (n : Int) d = mayS d ∧ okC (b : Int) (n : Int) d = mayS d := by
  have hl := h.length
  obtain ⟨a, f, h, _, hri⟩ := h
  have := h.n0
  have := h.n1
  have := h.len
  have := h.top
  have hr : roomS (n : Int) = 3 + 2 * (n : Int) := by unfold roomS; rw [if_pos (by omega)]
  constructor
  · unfold okS
    rw [hr, decide_eq_true (by omega), decide_eq_true (by omega), Bool.true_and, Bool.true_and, hri, Bool.and_true]
  · unfold okC fitsS
    rw [hr, decide_eq_true (by omega), decide_eq_true (by omega), decide_eq_true (by omega), Bool.true_and, Bool.true_and, Bool.true_and]
theorem code_le (b x op : Int) : (codeS b x op).length ≤ 73 := by
  unfold codeS
  repeat' split
  all_goals simp [putC, drpC, hasC, lstC, sizC]
theorem rises_end {l : List Int} {x : Int} (h : risesB l = true) (hx : l = [] ∨ l.getD (l.length - 1) 0 < x) : risesB (l ++ [x]) = true := by
  rw [rises_snoc l x h]
  rcases hx with rfl | hx
  · rfl
  · rw [decide_eq_true hx, Bool.or_true]
end Go.Proofs.YtdfefjalamohjaaGreatDoor
