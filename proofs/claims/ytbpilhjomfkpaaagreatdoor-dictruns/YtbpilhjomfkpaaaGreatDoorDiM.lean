/- Dicts as plain data: entries by rising keys, places in cells, what deeds do. No program is named here. -/
import Derived.Test.YtbpilhjomfkpaaaGreatDoorMp
namespace Go.Proofs.YtbpilhjomfkpaaaGreatDoor
open Go.RowKit
set_option linter.unusedVariables false
set_option linter.unusedSimpArgs false

/-- Keys rise. -/
def Rises (l : List Pr) : Prop := l.Pairwise (fun p q => p.1 < q.1)
def risesP : List Pr → Bool
  | [] => true
  | [_] => true
  | p :: q :: r => decide (p.1 < q.1) && risesP (q :: r)
theorem rises_iff : ∀ (l : List Pr), risesP l = true ↔ Rises l
  | [] => by simp [risesP, Rises]
  | [p] => by simp [risesP, Rises]
  | p :: q :: r => by
    have ih := rises_iff (q :: r)
    simp only [risesP, Bool.and_eq_true, decide_eq_true_eq, ih, Rises, List.pairwise_cons]
    constructor
    · rintro ⟨h1, h2, h3⟩
      refine ⟨fun a ha => ?_, h2, h3⟩
      rcases List.mem_cons.1 ha with rfl | ha
      · exact h1
      · have := h2 a ha; omega
    · rintro ⟨h1, h2, h3⟩
      exact ⟨h1 q (by simp), h2, h3⟩
theorem Rises.tail {p : Pr} {l : List Pr} (h : Rises (p :: l)) : Rises l := (List.pairwise_cons.1 h).2
theorem rises_eq : ∀ {a b : List Pr}, Rises a → Rises b → a.Perm b → a = b
  | [], b, _, _, h => h.nil_eq
  | p :: a, [], _, _, h => h.symm.nil_eq.symm
  | p :: a, q :: b, ha, hb, h => by
    have e : p = q := by
      have h1 : p ∈ q :: b := h.mem_iff.1 (by simp)
      have h2 : q ∈ p :: a := h.mem_iff.2 (by simp)
      rcases List.mem_cons.1 h1 with e | h1
      · exact e
      · rcases List.mem_cons.1 h2 with e | h2
        · exact e.symm
        · have := (List.pairwise_cons.1 hb).1 p h1
          have := (List.pairwise_cons.1 ha).1 q h2
          omega
    subst e
    rw [rises_eq ha.tail hb.tail ((List.perm_cons p).1 h)]
theorem Rises.apart {l : List Pr} (h : Rises l) : l.Pairwise (fun p q => p.1 ≠ q.1) := h.imp (fun {p q} h e => by omega)
/-- An entry among others that rise. -/
def insP (p : Pr) : List Pr → List Pr
  | [] => [p]
  | q :: l => if p.1 < q.1 then p :: q :: l else q :: insP p l
theorem insP_perm (p : Pr) : ∀ l, (insP p l).Perm (p :: l)
  | [] => List.Perm.refl _
  | q :: l => by
    unfold insP
    split
    · exact List.Perm.refl _
    · exact ((insP_perm p l).cons q).trans (List.Perm.swap _ _ _)
theorem insP_rises {p : Pr} : ∀ {l : List Pr}, Rises l → (∀ q ∈ l, q.1 ≠ p.1) → Rises (insP p l)
  | [], _, _ => by simp [insP, Rises]
  | q :: l, h, hn => by
    unfold insP
    have hq := hn q (by simp)
    split
    · rename_i hlt
      refine List.pairwise_cons.2 ⟨fun a ha => ?_, h⟩
      rcases List.mem_cons.1 ha with rfl | ha
      · exact hlt
      · have := (List.pairwise_cons.1 h).1 a ha; omega
    · rename_i hlt
      refine List.pairwise_cons.2 ⟨fun a ha => ?_, insP_rises h.tail (fun x hx => hn x (by simp [hx]))⟩
      rcases List.mem_cons.1 ((insP_perm p l).mem_iff.1 ha) with rfl | ha
      · omega
      · exact (List.pairwise_cons.1 h).1 a ha
def sortP : List Pr → List Pr
  | [] => []
  | p :: l => insP p (sortP l)
theorem sortP_perm : ∀ l, (sortP l).Perm l
  | [] => List.Perm.refl _
  | p :: l => (insP_perm p (sortP l)).trans ((sortP_perm l).cons p)
theorem sortP_rises : ∀ {l : List Pr}, l.Pairwise (fun p q => p.1 ≠ q.1) → Rises (sortP l)
  | [], _ => List.Pairwise.nil
  | p :: l, h => insP_rises (sortP_rises (List.pairwise_cons.1 h).2) (fun q hq => fun e => (List.pairwise_cons.1 h).1 q ((sortP_perm l).mem_iff.1 hq) e.symm)
/-- The value at a key. -/
def atP : List Pr → Int → Option Int
  | [], _ => none
  | p :: l, x => if p.1 = x then some p.2 else atP l x
theorem atP_none : ∀ {l : List Pr} {x : Int}, atP l x = none → ∀ p ∈ l, p.1 ≠ x
  | [], _, _, _, hp => by cases hp
  | q :: l, x, h, p, hp => by
    unfold atP at h
    split at h
    · cases h
    · rcases List.mem_cons.1 hp with rfl | hp
      · assumption
      · exact atP_none h p hp
theorem atP_some : ∀ {l : List Pr} {x v : Int}, atP l x = some v → (x, v) ∈ l
  | q :: l, x, v, h => by
    unfold atP at h
    split at h
    · rename_i e
      simp only [Option.some.injEq] at h
      obtain ⟨a, b⟩ := q
      simp only at e h
      subst e h
      simp
    · exact List.mem_cons_of_mem _ (atP_some h)
theorem atP_of_none {l : List Pr} {x : Int} (h : ∀ p ∈ l, p.1 ≠ x) : atP l x = none := by
  cases e : atP l x with
  | none => rfl
  | some v => exact absurd rfl (h _ (atP_some e))
theorem atP_of_mem {l : List Pr} (hg : l.Pairwise (fun p q => p.1 ≠ q.1)) {x v : Int} (h : (x, v) ∈ l) : atP l x = some v := by
  cases e : atP l x with
  | none => exact absurd rfl (atP_none e _ h)
  | some u =>
    have hm := atP_some e
    obtain ⟨i, hi, ei⟩ := List.getElem_of_mem hm
    obtain ⟨j, hj, ej⟩ := List.getElem_of_mem h
    rcases Nat.lt_trichotomy i j with hlt | heq | hgt
    · exact absurd (by rw [ei, ej]) (List.pairwise_iff_getElem.1 hg i j hi hj hlt)
    · subst heq
      rw [ei] at ej
      simp only [Prod.mk.injEq, true_and] at ej
      rw [ej]
    · exact absurd (by rw [ei, ej]) (List.pairwise_iff_getElem.1 hg j i hj hi hgt)
theorem turnP_rises {l : List Pr} (h : Rises l) (x v : Int) : Rises (turnP l x v) := by
  have := turnP_keys l x v
  have h2 : (l.map (·.1)).Pairwise (· < ·) := List.pairwise_map.2 h
  rw [← this] at h2
  exact List.pairwise_map.1 h2
theorem lackP_rises {l : List Pr} (h : Rises l) (x : Int) : Rises (lackP l x) := h.filter _
/-- A deed, as plain data. -/
structure Dd where
  op : Int
  a : Int
  b : Int
  x : Int
  y : Int
def Dd.val (d : Dd) : Value := .agg #[.int .i64 d.op, .int .i64 d.a, .int .i64 d.b, .int .i64 d.x, .int .i64 d.y]
def mayS (d : Dd) : Bool := decide (d.a = 0) && (decide (d.b = 0) && (decide (d.op = 1) || decide (d.op = 4) || ((decide (d.op = 2) || decide (d.op = 3)) && decide (d.y = 0)) || (decide (d.op = 5) && decide (d.x = 0) && decide (d.y = 0))))
theorem may_op {d : Dd} (h : mayS d = true) : d.op = 1 ∨ d.op = 2 ∨ d.op = 3 ∨ d.op = 4 ∨ d.op = 5 := by
  simp only [mayS, Bool.and_eq_true, Bool.or_eq_true, decide_eq_true_eq] at h
  omega
/-- What a deed does, and tells. -/
def doS (l : List Pr) (n : Int) (d : Dd) : List Pr × List Int :=
  if d.op = 5 then (l, [(l.length : Int)])
  else match atP l d.x with
    | some v => if d.op = 1 then (turnP l d.x d.y, [0]) else if d.op = 3 then (lackP l d.x, [1]) else if d.op = 4 then (turnP l d.x (wrap64 (v + d.y)), [1, wrap64 (v + d.y)]) else (l, [1, v])
    | none => if d.op = 1 then (if (l.length : Int) = n then (l, [2]) else (insP (d.x, d.y) l, [1])) else (l, [0])
theorem doS_rises {l : List Pr} (h : Rises l) (n : Int) (d : Dd) : Rises (doS l n d).1 := by
  unfold doS
  split
  · exact h
  · split
    · split
      · exact turnP_rises h _ _
      · split
        · exact lackP_rises h _
        · split
          · exact turnP_rises h _ _
          · exact h
    · rename_i e
      split
      · split
        · exact h
        · exact insP_rises h (atP_none e)
      · exact h
def roomS (n : Int) : Int := if 1 ≤ n ∧ n ≤ 60 then 1 + 3 * n else 0
theorem roomS_pos {n : Int} (h : 0 < roomS n) : 1 ≤ n ∧ n ≤ 60 ∧ roomS n = 1 + 3 * n := by
  unfold roomS at h ⊢
  split at h
  · rename_i hn; rw [if_pos hn]; exact ⟨hn.1, hn.2, rfl⟩
  · omega
theorem roomS_zero {n : Int} (h : ¬ 0 < roomS n) : roomS n = 0 := by
  unfold roomS at h ⊢
  split
  · rename_i hn; rw [if_pos hn] at h; omega
  · rfl
theorem roomS_le (n : Int) : roomS n ≤ 181 ∧ 0 ≤ roomS n := by
  unfold roomS
  split <;> omega
/-- A key's home. -/
def homeM (x : Int) (n : Nat) : Nat := (x % (n : Int)).toNat
theorem home_lt (x : Int) {n : Nat} (h : 0 < n) : homeM x n < n := by
  unfold homeM
  have h1 := Int.emod_nonneg x (show (n : Int) ≠ 0 by omega)
  have h2 := Int.emod_lt_of_pos x (show (0 : Int) < (n : Int) by omega)
  omega
theorem home_tmod (x : Int) {n : Nat} (h : 0 < n) : ((homeM x n : Nat) : Int) = if x.tmod n < 0 then x.tmod n + n else x.tmod n := by
  unfold homeM
  have h1 := Int.emod_nonneg x (show (n : Int) ≠ 0 by omega)
  rw [Int.toNat_of_nonneg h1]
  have h2 := Int.emod_lt_of_pos x (show (0 : Int) < (n : Int) by omega)
  rw [Int.tmod_eq_emod]
  split <;> split <;> omega
/-- A place's state, key, value. -/
def stA (c : List Int) (i : Nat) : Int := c.getD (1 + 3 * i) 0
def keyA (c : List Int) (i : Nat) : Int := c.getD (2 + 3 * i) 0
def valA (c : List Int) (i : Nat) : Int := c.getD (3 + 3 * i) 0
/-- Keys with their places, of the first i places; none: it is not right. -/
def usedM (c : List Int) : Nat → Option (List Pr)
  | 0 => some []
  | i + 1 => match usedM c i with
    | none => none
    | some ls => if stA c i = 0 ∨ stA c i = 2 then some ls else if stA c i = 1 then (match atP ls (keyA c i) with | some _ => none | none => some ((keyA c i, (i : Int)) :: ls)) else none
theorem usedM_none {c : List Int} {i j : Nat} (h : i ≤ j) (hn : usedM c i = none) : usedM c j = none := by
  induction j with
  | zero => obtain rfl : i = 0 := by omega
            exact hn
  | succ j ih =>
    by_cases e : i = j + 1
    · rw [← e]; exact hn
    · rw [usedM, ih (by omega)]
theorem usedM_good {c : List Int} (hc : ∀ i, -9223372036854775808 ≤ c.getD i 0 ∧ c.getD i 0 ≤ 9223372036854775807) : ∀ {i : Nat} {ls : List Pr}, usedM c i = some ls → Good ls ∧ ls.length ≤ i ∧ ∀ p ∈ ls, ∃ k : Nat, k < i ∧ p.2 = (k : Int)
  | 0, ls, h => by
    simp only [usedM, Option.some.injEq] at h
    subst h
    exact ⟨⟨List.Pairwise.nil, by simp⟩, by simp, by simp⟩
  | i + 1, ls, h => by
    rw [usedM] at h
    split at h
    · cases h
    · rename_i ls0 h0
      obtain ⟨g1, g2, g3⟩ := usedM_good hc h0
      have up : ∀ p ∈ ls0, ∃ k : Nat, k < i + 1 ∧ p.2 = (k : Int) := fun p hp => by
        obtain ⟨k, h1, h2⟩ := g3 p hp
        exact ⟨k, by omega, h2⟩
      split at h
      · simp only [Option.some.injEq] at h
        subst h
        exact ⟨g1, by omega, up⟩
      · split at h
        · split at h
          · cases h
          · rename_i hn
            simp only [Option.some.injEq] at h
            subst h
            refine ⟨⟨List.pairwise_cons.2 ⟨fun p hp => (atP_none hn p hp).symm, g1.1⟩, fun p hp => ?_⟩, by simp; omega, fun p hp => ?_⟩
            · rcases List.mem_cons.1 hp with rfl | hp
              · exact hc _
              · exact g1.2 p hp
            · rcases List.mem_cons.1 hp with rfl | hp
              · exact ⟨i, by omega, rfl⟩
              · exact up p hp
        · cases h
/-- No place is free from at on, so many places, round. -/
def noFree (c : List Int) (n at0 : Nat) : Nat → Bool
  | 0 => true
  | k + 1 => decide (stA c at0 ≠ 0) && noFree c n ((at0 + 1) % n) k
/-- How many places lie ahead of a place, from another on, round. -/
def wayM (n at0 p : Nat) : Nat := if at0 ≤ p then p - at0 else n - at0 + p
theorem way_zero {n p : Nat} : wayM n p p = 0 := by simp [wayM]
theorem way_next {n at0 p : Nat} (h1 : at0 < n) (h2 : p < n) (hne : at0 ≠ p) : wayM n at0 p = wayM n ((at0 + 1) % n) p + 1 := by
  unfold wayM
  by_cases e : at0 + 1 = n
  · rw [e, Nat.mod_self]
    split <;> split <;> omega
  · rw [Nat.mod_eq_of_lt (by omega)]
    split <;> split <;> omega
def reachM (c : List Int) (n : Nat) (x : Int) (p : Nat) : Bool := noFree c n (homeM x n) (wayM n (homeM x n) p)
/-- What cells have: none: they are not of a dict. -/
def readS (c : List Int) (n : Nat) : Option (List Pr) :=
  match usedM c n with
  | none => none
  | some ls => if (ls.length : Int) = c.getD 0 0 ∧ (ls.all fun p => reachM c n p.1 p.2.toNat) = true then some (sortP (ls.map fun p => (p.1, valA c p.2.toNat))) else none
end Go.Proofs.YtbpilhjomfkpaaaGreatDoor
