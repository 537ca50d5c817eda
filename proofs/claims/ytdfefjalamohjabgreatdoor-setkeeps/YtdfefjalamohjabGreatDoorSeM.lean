/- Sets as plain data: where links lead, which cells are of a set, keys that rise, what a deed does. No program is named here. -/
import Derived.Test.YtdfefjalamohjabGreatDoorKit
namespace Go.Proofs.YtdfefjalamohjabGreatDoor
open Go.RowKit
set_option linter.unusedVariables false
set_option linter.unusedSimpArgs false

def roomS (n : Int) : Int := if 1 ≤ n ∧ n ≤ 60 then 3 + 2 * n else 0
theorem roomS_pos {n : Int} (h : 0 < roomS n) : 1 ≤ n ∧ n ≤ 60 ∧ roomS n = 3 + 2 * n := by
  unfold roomS at *
  split at h
  · rename_i h'; rw [if_pos h']; exact ⟨h'.1, h'.2, rfl⟩
  · omega
theorem roomS_zero {n : Int} (h : ¬ 0 < roomS n) : roomS n = 0 := by
  unfold roomS at *
  split at h
  · omega
  · rename_i h'; rw [if_neg h']
theorem roomS_le (n : Int) : 0 ≤ roomS n ∧ roomS n ≤ 123 := by unfold roomS; split <;> omega
def fitsS (base n cells : Int) : Bool := decide (0 < roomS n) && (decide (0 ≤ base) && decide (base ≤ cells - roomS n))

/-- Is it a node of n? -/
def isN (n : Nat) (k : Int) : Bool := decide (1 ≤ k) && decide (k ≤ (n : Int))
theorem isN_iff {n : Nat} {k : Int} : isN n k = true ↔ 1 ≤ k ∧ k ≤ (n : Int) := by simp [isN]
def lnkM (L : List Int) (k : Int) : Int := L.getD (2 + 2 * k.toNat) 0
def keyM (L : List Int) (k : Int) : Int := L.getD (1 + 2 * k.toNat) 0
/-- Where one is led from a link. -/
def nxtM (L : List Int) (n : Nat) (k : Int) : Int := if isN n k = true then lnkM L k else 0
/-- From the link f on xs are handed on; then one is at the link g. -/
def Tr (L : List Int) (n : Nat) : Int → List Int → Int → Prop
  | f, [], g => g = f
  | f, x :: xs, g => f ≠ 0 ∧ x = f ∧ Tr L n (nxtM L n f) xs g
theorem Tr.snoc {L : List Int} {n : Nat} : ∀ {f g : Int} {xs : List Int}, Tr L n f xs g → g ≠ 0 → Tr L n f (xs ++ [g]) (nxtM L n g)
  | f, g, [], h, h0 => by
    have h : g = f := h
    subst h
    exact ⟨h0, rfl, rfl⟩
  | f, g, x :: xs, h, h0 => ⟨h.1, h.2.1, h.2.2.snoc h0⟩
theorem Tr.unsnoc {L : List Int} {n : Nat} : ∀ {f g y : Int} {xs : List Int}, Tr L n f (xs ++ [y]) g → Tr L n f xs y ∧ y ≠ 0 ∧ g = nxtM L n y
  | f, g, y, [], h => by
    obtain ⟨h1, h2, h3⟩ := h
    subst h2
    exact ⟨rfl, h1, h3⟩
  | f, g, y, x :: xs, h => by
    obtain ⟨h1, h2, h3⟩ := h
    obtain ⟨a, b, c⟩ := Tr.unsnoc h3
    exact ⟨⟨h1, h2, a⟩, b, c⟩
/-- Two ways from one link: the one is the other's beginning. -/
theorem Tr.pre {L : List Int} {n : Nat} : ∀ {f g : Int} {xs ys : List Int}, Tr L n f xs 0 → Tr L n f ys g → ys <+: xs
  | f, g, xs, [], _, _ => List.nil_prefix
  | f, g, [], y :: ys, h, h' => (h'.1 h.symm).elim
  | f, g, x :: xs, y :: ys, h, h' => by
    obtain ⟨_, rfl, h3⟩ := h
    obtain ⟨_, rfl, h3'⟩ := h'
    exact List.cons_prefix_cons.2 ⟨rfl, h3.pre h3'⟩
theorem Tr.uniq {L : List Int} {n : Nat} {f : Int} {xs ys : List Int} (h : Tr L n f xs 0) (h' : Tr L n f ys 0) : xs = ys :=
  (h'.pre h).eq_of_length (Nat.le_antisymm (h'.pre h).length_le (h.pre h').length_le)
theorem Tr.nonzero {L : List Int} {n : Nat} : ∀ {f g : Int} {xs : List Int}, Tr L n f xs g → ∀ x ∈ xs, x ≠ 0
  | f, g, [], _, x, hx => (List.not_mem_nil hx).elim
  | f, g, y :: ys, h, x, hx => by
    obtain ⟨h1, rfl, h3⟩ := h
    rcases List.mem_cons.1 hx with rfl | hx
    · exact h1
    · exact h3.nonzero x hx

/-- The way from a link among nodes that were not met; those that were met with them, or none if it leads astray. -/
def goM (L : List Int) (n : Nat) : Nat → Int → List Int → Option (List Int)
  | 0, _, _ => none
  | m + 1, f, vis => if f = 0 then some vis else if isN n f = true ∧ f ∉ vis then goM L n m (lnkM L f) (vis ++ [f]) else none
def onceM (L : List Int) (n : Nat) : Bool :=
  match goM L n (n + 2) (L.getD 0 0) [] with
  | none => false
  | some v1 => match goM L n (n + 2) (L.getD 1 0) v1 with
    | none => false
    | some v2 => decide (v2.length = n)
/-- Met nodes are nodes, none twice. -/
def Vis (n : Nat) (vis : List Int) : Prop := vis.Nodup ∧ ∀ k ∈ vis, isN n k = true
theorem Vis.len {n : Nat} {vis : List Int} (h : Vis n vis) : vis.length ≤ n := by
  have hsub : ∀ k ∈ vis, k ∈ (List.range n).map (fun i => ((i + 1 : Nat) : Int)) := by
    intro k hk
    have := isN_iff.1 (h.2 k hk)
    exact List.mem_map.2 ⟨k.toNat - 1, List.mem_range.2 (by omega), by omega⟩
  have := List.Nodup.length_le_of_subset h.1 hsub
  simpa using this
theorem Vis.snoc {n : Nat} {vis : List Int} (h : Vis n vis) {f : Int} (h1 : isN n f = true) (h2 : f ∉ vis) : Vis n (vis ++ [f]) := by
  refine ⟨List.nodup_append.2 ⟨h.1, by simp, fun a ha b hb e => ?_⟩, fun k hk => ?_⟩
  · rw [List.mem_singleton] at hb
    subst hb e
    exact h2 ha
  · rcases List.mem_append.1 hk with hk | hk
    · exact h.2 k hk
    · rw [List.mem_singleton.1 hk]; exact h1
/-- What has been handed on while nothing led astray, and what is still to come. -/
theorem goM_steps {L : List Int} {n : Nat} : ∀ {m : Nat} {f g : Int} {xs vis : List Int}, Tr L n f xs g → Vis n (vis ++ xs) → goM L n (m + xs.length) f vis = goM L n m g (vis ++ xs)
  | m, f, g, [], vis, h, _ => by
    have h : g = f := h
    subst h
    simp
  | m, f, g, x :: xs, vis, h, hv => by
    obtain ⟨h1, rfl, h3⟩ := h
    have hx : isN n x = true := hv.2 x (by simp)
    have hnot : x ∉ vis := by
      have := hv.1
      rw [List.nodup_append] at this
      exact fun hm => this.2.2 x hm x (by simp) rfl
    have e : vis ++ x :: xs = (vis ++ [x]) ++ xs := by simp
    rw [e] at hv ⊢
    have := goM_steps (m := m) h3 hv
    rw [List.length_cons, ← Nat.add_assoc, goM, if_neg h1, if_pos ⟨hx, hnot⟩, ← this]
    simp [nxtM, hx]

def risesB : List Int → Bool
  | [] => true
  | [_] => true
  | a :: b :: l => decide (a < b) && risesB (b :: l)
theorem rises_snoc (l : List Int) (x : Int) (h : risesB l = true) : risesB (l ++ [x]) = (l.isEmpty || decide (l.getD (l.length - 1) 0 < x)) := by
  induction l with
  | nil => rfl
  | cons a l ih =>
    cases l with
    | nil => simp [risesB]
    | cons b l =>
      simp only [risesB, Bool.and_eq_true, decide_eq_true_eq] at h
      have := ih h.2
      simp only [List.cons_append, risesB] at this ⊢
      rw [this]
      simp [h.1]
theorem rises_pre {l p : List Int} (h : risesB l = true) (hp : p <+: l) : risesB p = true := by
  obtain ⟨q, rfl⟩ := hp
  induction p with
  | nil => rfl
  | cons a p ih =>
    cases p with
    | nil => rfl
    | cons b p =>
      simp only [List.cons_append, risesB, Bool.and_eq_true, decide_eq_true_eq] at h ⊢
      exact ⟨h.1, ih (by simpa using h.2)⟩
theorem rises_pairwise {l : List Int} (h : risesB l = true) : l.Pairwise (· < ·) := by
  induction l with
  | nil => exact .nil
  | cons a l ih =>
    cases l with
    | nil => simp
    | cons b l =>
      simp only [risesB, Bool.and_eq_true, decide_eq_true_eq] at h
      have h2 := ih h.2
      refine List.pairwise_cons.2 ⟨fun y hy => ?_, h2⟩
      rcases List.mem_cons.1 hy with rfl | hy
      · exact h.1
      · have := (List.pairwise_cons.1 h2).1 y hy
        omega
end Go.Proofs.YtdfefjalamohjabGreatDoor
