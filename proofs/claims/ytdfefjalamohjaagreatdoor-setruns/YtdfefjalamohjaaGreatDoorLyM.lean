/- Sets as plain data: where links lead, which cells are of a set, keys that rise, what a deed does. No program is named here. Nodes that were met, as cells. No program is named here. Reading a set out of cells, and the cells of an empty one, as plain data. No program is named here. The document's list of nodes, as plain data. No program is named here. Cells of a set by a seed, as plain data. No program is named here. -/
import Derived.Test.YtdfefjalamohjaaGreatDoorKit
namespace Go.Proofs.YtdfefjalamohjaaGreatDoor
open Go.RowKit
set_option linter.unusedVariables false
set_option linter.unusedSimpArgs false

def roomS (n : Int) : Int := if 1 ≤ n ∧ n ≤ 60 then 3 + 2 * n else 0
theorem roomS_pos {n : Int} (h : 0 < roomS n) : 1 ≤ n ∧ n ≤ 60 ∧ roomS n = 3 + 2 * n := by
  unfold roomS at *
  split at h
  · rename_i h'; rw [if_pos h']; exact ⟨h'.1, h'.2, rfl⟩
  · omega
theorem roomS_zero {n : Int} (h : ¬ 0 < roomS n) : roomS n = 0 := by
  unfold roomS at *
  split at h
  · omega
  · rename_i h'; rw [if_neg h']
theorem roomS_le (n : Int) : 0 ≤ roomS n ∧ roomS n ≤ 123 := by unfold roomS; split <;> omega
def fitsS (base n cells : Int) : Bool := decide (0 < roomS n) && (decide (0 ≤ base) && decide (base ≤ cells - roomS n))

/-- Is it a node of n? -/
def isN (n : Nat) (k : Int) : Bool := decide (1 ≤ k) && decide (k ≤ (n : Int))
theorem isN_iff {n : Nat} {k : Int} : isN n k = true ↔ 1 ≤ k ∧ k ≤ (n : Int) := by simp [isN]
def lnkM (L : List Int) (k : Int) : Int := L.getD (2 + 2 * k.toNat) 0
def keyM (L : List Int) (k : Int) : Int := L.getD (1 + 2 * k.toNat) 0
/-- Where one is led from a link. -/
def nxtM (L : List Int) (n : Nat) (k : Int) : Int := if isN n k = true then lnkM L k else 0
/-- From the link f on xs are handed on; then one is at the link g. -/
def Tr (L : List Int) (n : Nat) : Int → List Int → Int → Prop
  | f, [], g => g = f
  | f, x :: xs, g => f ≠ 0 ∧ x = f ∧ Tr L n (nxtM L n f) xs g
theorem Tr.snoc {L : List Int} {n : Nat} : ∀ {f g : Int} {xs : List Int}, Tr L n f xs g → g ≠ 0 → Tr L n f (xs ++ [g]) (nxtM L n g)
  | f, g, [], h, h0 => by
    have h : g = f := h
    subst h
    exact ⟨h0, rfl, rfl⟩
  | f, g, x :: xs, h, h0 => ⟨h.1, h.2.1, h.2.2.snoc h0⟩
theorem Tr.unsnoc {L : List Int} {n : Nat} : ∀ {f g y : Int} {xs : List Int}, Tr L n f (xs ++ [y]) g → Tr L n f xs y ∧ y ≠ 0 ∧ g = nxtM L n y
  | f, g, y, [], h => by
    obtain ⟨h1, h2, h3⟩ := h
    subst h2
    exact ⟨rfl, h1, h3⟩
  | f, g, y, x :: xs, h => by
    obtain ⟨h1, h2, h3⟩ := h
    obtain ⟨a, b, c⟩ := Tr.unsnoc h3
    exact ⟨⟨h1, h2, a⟩, b, c⟩
/-- Two ways from one link: the one is the other's beginning. -/
theorem Tr.pre {L : List Int} {n : Nat} : ∀ {f g : Int} {xs ys : List Int}, Tr L n f xs 0 → Tr L n f ys g → ys <+: xs
  | f, g, xs, [], _, _ => List.nil_prefix
  | f, g, [], y :: ys, h, h' => (h'.1 h.symm).elim
  | f, g, x :: xs, y :: ys, h, h' => by
    obtain ⟨_, rfl, h3⟩ := h
    obtain ⟨_, rfl, h3'⟩ := h'
    exact List.cons_prefix_cons.2 ⟨rfl, h3.pre h3'⟩
theorem Tr.uniq {L : List Int} {n : Nat} {f : Int} {xs ys : List Int} (h : Tr L n f xs 0) (h' : Tr L n f ys 0) : xs = ys :=
  (h'.pre h).eq_of_length (Nat.le_antisymm (h'.pre h).length_le (h.pre h').length_le)
theorem Tr.nonzero {L : List Int} {n : Nat} : ∀ {f g : Int} {xs : List Int}, Tr L n f xs g → ∀ x ∈ xs, x ≠ 0
  | f, g, [], _, x, hx => (List.not_mem_nil hx).elim
  | f, g, y :: ys, h, x, hx => by
    obtain ⟨h1, rfl, h3⟩ := h
    rcases List.mem_cons.1 hx with rfl | hx
    · exact h1
    · exact h3.nonzero x hx

/-- The way from a link among nodes that were not met; those that were met with them, or none if it leads astray. -/
def goM (L : List Int) (n : Nat) : Nat → Int → List Int → Option (List Int)
  | 0, _, _ => none
  | m + 1, f, vis => if f = 0 then some vis else if isN n f = true ∧ f ∉ vis then goM L n m (lnkM L f) (vis ++ [f]) else none
def onceM (L : List Int) (n : Nat) : Bool :=
  match goM L n (n + 2) (L.getD 0 0) [] with
  | none => false
  | some v1 => match goM L n (n + 2) (L.getD 1 0) v1 with
    | none => false
    | some v2 => decide (v2.length = n)
/-- Met nodes are nodes, none twice. -/
def Vis (n : Nat) (vis : List Int) : Prop := vis.Nodup ∧ ∀ k ∈ vis, isN n k = true
theorem Vis.len {n : Nat} {vis : List Int} (h : Vis n vis) : vis.length ≤ n := by
  have hsub : ∀ k ∈ vis, k ∈ (List.range n).map (fun i => ((i + 1 : Nat) : Int)) := by
    intro k hk
    have := isN_iff.1 (h.2 k hk)
    exact List.mem_map.2 ⟨k.toNat - 1, List.mem_range.2 (by omega), by omega⟩
  have := List.Nodup.length_le_of_subset h.1 hsub
  simpa using this
theorem Vis.snoc {n : Nat} {vis : List Int} (h : Vis n vis) {f : Int} (h1 : isN n f = true) (h2 : f ∉ vis) : Vis n (vis ++ [f]) := by
  refine ⟨List.nodup_append.2 ⟨h.1, by simp, fun a ha b hb e => ?_⟩, fun k hk => ?_⟩
  · rw [List.mem_singleton] at hb
    subst hb e
    exact h2 ha
  · rcases List.mem_append.1 hk with hk | hk
    · exact h.2 k hk
    · rw [List.mem_singleton.1 hk]; exact h1
/-- What has been handed on while nothing led astray, and what is still to come. -/
theorem goM_steps {L : List Int} {n : Nat} : ∀ {m : Nat} {f g : Int} {xs vis : List Int}, Tr L n f xs g → Vis n (vis ++ xs) → goM L n (m + xs.length) f vis = goM L n m g (vis ++ xs)
  | m, f, g, [], vis, h, _ => by
    have h : g = f := h
    subst h
    simp
  | m, f, g, x :: xs, vis, h, hv => by
    obtain ⟨h1, rfl, h3⟩ := h
    have hx : isN n x = true := hv.2 x (by simp)
    have hnot : x ∉ vis := by
      have := hv.1
      rw [List.nodup_append] at this
      exact fun hm => this.2.2 x hm x (by simp) rfl
    have e : vis ++ x :: xs = (vis ++ [x]) ++ xs := by simp
    rw [e] at hv ⊢
    have := goM_steps (m := m) h3 hv
    rw [List.length_cons, ← Nat.add_assoc, goM, if_neg h1, if_pos ⟨hx, hnot⟩, ← this]
    simp [nxtM, hx]

def risesB : List Int → Bool
  | [] => true
  | [_] => true
  | a :: b :: l => decide (a < b) && risesB (b :: l)
theorem rises_snoc (l : List Int) (x : Int) (h : risesB l = true) : risesB (l ++ [x]) = (l.isEmpty || decide (l.getD (l.length - 1) 0 < x)) := by
  induction l with
  | nil => rfl
  | cons a l ih =>
    cases l with
    | nil => simp [risesB]
    | cons b l =>
      simp only [risesB, Bool.and_eq_true, decide_eq_true_eq] at h
      have := ih h.2
      simp only [List.cons_append, risesB] at this ⊢
      rw [this]
      simp [h.1]
theorem rises_pre {l p : List Int} (h : risesB l = true) (hp : p <+: l) : risesB p = true := by
  obtain ⟨q, rfl⟩ := hp
  induction p with
  | nil => rfl
  | cons a p ih =>
    cases p with
    | nil => rfl
    | cons b p =>
      simp only [List.cons_append, risesB, Bool.and_eq_true, decide_eq_true_eq] at h ⊢
      exact ⟨h.1, ih (by simpa using h.2)⟩
theorem rises_pairwise {l : List Int} (h : risesB l = true) : l.Pairwise (· < ·) := by
  induction l with
  | nil => exact .nil
  | cons a l ih =>
    cases l with
    | nil => simp
    | cons b l =>
      simp only [risesB, Bool.and_eq_true, decide_eq_true_eq] at h
      have h2 := ih h.2
      refine List.pairwise_cons.2 ⟨fun y hy => ?_, h2⟩
      rcases List.mem_cons.1 hy with rfl | hy
      · exact h.1
      · have := (List.pairwise_cons.1 h2).1 y hy
        omega
end Go.Proofs.YtdfefjalamohjaaGreatDoor

namespace Go.Proofs.YtdfefjalamohjaaGreatDoor
open Go.RowKit
set_option linter.unusedVariables false
set_option linter.unusedSimpArgs false

def beC (n : Nat) (vis : List Int) : Array Value := ((List.range (n + 1)).map fun (i : Nat) => Value.bool (decide ((i : Int) ∈ vis))).toArray
theorem beC_nil (n : Nat) : beC n [] = ((List.replicate (n + 1) false).map Value.bool).toArray := by
  unfold beC
  congr 1
  apply List.ext_getElem
  · simp
  · intro i h1 h2
    simp
theorem beC_at (n : Nat) (vis : List Int) {k : Nat} (hk : k ≤ n) : (beC n vis)[k]? = some (.bool (decide ((k : Int) ∈ vis))) := by
  simp [beC, List.getElem?_range (show k < n + 1 by omega)]
theorem beC_set (n : Nat) (vis : List Int) {k : Nat} (hk : k ≤ n) : (beC n vis).setIfInBounds k (.bool true) = beC n (vis ++ [(k : Int)]) := by
  apply Array.ext'
  rw [Array.toList_setIfInBounds]
  unfold beC
  simp only
  apply List.ext_getElem
  · simp
  · intro i h1 h2
    rw [List.getElem_set]
    split
    · rename_i e
      subst e
      simp
    · rename_i e
      have hne : ¬ (i : Int) = (k : Int) := by omega
      simp [hne]
theorem go_stray {L : List Int} {n : Nat} {f x : Int} {vis pre : List Int} (hT : Tr L n f pre x) (hx : x ≠ 0) (hv : Vis n (vis ++ pre)) (h : ¬ (isN n x = true ∧ x ∉ vis ++ pre)) : goM L n (n + 2) f vis = none := by
  have hlen := hv.len
  rw [List.length_append] at hlen
  obtain ⟨m, hm⟩ : ∃ m, n + 2 = (m + 1) + pre.length := ⟨n + 1 - pre.length, by omega⟩
  rw [hm, goM_steps hT hv, goM, if_neg hx, if_neg h]
theorem go_end {L : List Int} {n : Nat} {f : Int} {vis pre : List Int} (hT : Tr L n f pre 0) (hv : Vis n (vis ++ pre)) : goM L n (n + 2) f vis = some (vis ++ pre) := by
  have hlen := hv.len
  rw [List.length_append] at hlen
  obtain ⟨m, hm⟩ : ∃ m, n + 2 = (m + 1) + pre.length := ⟨n + 1 - pre.length, by omega⟩
  rw [hm, goM_steps hT hv, goM, if_pos rfl]
theorem Vis.nil (n : Nat) : Vis n [] := ⟨List.nodup_nil, fun k hk => (List.not_mem_nil hk).elim⟩
end Go.Proofs.YtdfefjalamohjaaGreatDoor

namespace Go.Proofs.YtdfefjalamohjaaGreatDoor
open Go.RowKit
set_option linter.unusedVariables false
set_option linter.unusedSimpArgs false

theorem goM_tr {L : List Int} {n : Nat} : ∀ {m : Nat} {f : Int} {vis v : List Int}, goM L n m f vis = some v → Vis n vis → ∃ xs, v = vis ++ xs ∧ Tr L n f xs 0 ∧ Vis n v
  | 0, f, vis, v, h, _ => by simp [goM] at h
  | m + 1, f, vis, v, h, hv => by
    rw [goM] at h
    split at h
    · rename_i h0
      cases h
      exact ⟨[], by simp, h0.symm, hv⟩
    · rename_i h0
      split at h
      · rename_i h1
        obtain ⟨xs, e, ht, hv'⟩ := goM_tr h (hv.snoc h1.1 h1.2)
        refine ⟨f :: xs, by rw [e]; simp, ⟨h0, rfl, ?_⟩, hv'⟩
        simpa [nxtM, h1.1] using ht
      · cases h
/-- The nodes of the list. -/
def nsM (L : List Int) (n : Nat) : List Int := (goM L n (n + 2) (L.getD 0 0) []).getD []
def keysM (L : List Int) (n : Nat) : List Int := (nsM L n).map (keyM L)
theorem ns_tr {L : List Int} {n : Nat} (h : onceM L n = true) : Tr L n (L.getD 0 0) (nsM L n) 0 ∧ (∀ k ∈ nsM L n, isN n k = true) ∧ (nsM L n).length ≤ n := by
  unfold onceM at h
  unfold nsM
  split at h
  · cases h
  · rename_i v1 e
    obtain ⟨xs, e1, ht, hv⟩ := goM_tr e (Vis.nil n)
    rw [e]
    simp only [List.nil_append] at e1
    subst e1
    exact ⟨ht, hv.2, hv.len⟩
def readM (L : List Int) (n : Nat) : Option (List Int) :=
  if onceM L n = true then if risesB (keysM L n) = true then if ((keysM L n).length : Int) = L.getD 2 0 then some (keysM L n) else none else none else none
/-- The cells of an empty set, when the links of the nodes below k are laid. -/
def stJ (k j : Nat) : Int := if j = 1 then 1 else if j % 2 = 0 ∧ 4 ≤ j ∧ j < 2 + 2 * k then ((j / 2 : Nat) : Int) else 0
def stM (n k : Nat) : List Int := (List.range (3 + 2 * n)).map (stJ k)
theorem stM_len (n k : Nat) : (stM n k).length = 3 + 2 * n := by simp [stM]
theorem stM_one (n : Nat) : (List.replicate (3 + 2 * n) (0 : Int)).set 1 1 = stM n 1 := by
  apply List.ext_getElem
  · simp [stM]
  · intro i h1 h2
    rw [List.getElem_set]
    simp only [stM, List.getElem_map, List.getElem_range, stJ, List.getElem_replicate]
    split
    · rename_i e; subst e; simp
    · rename_i e
      rw [if_neg (fun h => e h.symm), if_neg (by omega)]
theorem stM_set (n k : Nat) (h1 : 1 ≤ k) (hk : k < n) : (stM n k).set (2 + 2 * k) ((k : Int) + 1) = stM n (k + 1) := by
  apply List.ext_getElem
  · simp [stM]
  · intro i h2 h3
    rw [List.getElem_set]
    simp only [stM, List.getElem_map, List.getElem_range, stJ]
    split
    · rename_i e
      subst e
      rw [if_neg (by omega), if_pos (by omega)]
      omega
    · rename_i e
      split
      · rfl
      · by_cases hc : i % 2 = 0 ∧ 4 ≤ i ∧ i < 2 + 2 * k
        · rw [if_pos hc, if_pos (by omega)]
        · rw [if_neg hc, if_neg (by omega)]
end Go.Proofs.YtdfefjalamohjaaGreatDoor

namespace Go.Proofs.YtdfefjalamohjaaGreatDoor
open Go.RowKit
set_option linter.unusedVariables false
set_option linter.unusedSimpArgs false

/-- The nodes from a link on, to the end; not more than there are. -/
def LsOk (L : List Int) (n : Nat) (f : Int) (xs : List Int) : Prop := Tr L n f xs 0 ∧ (∀ k ∈ xs, isN n k = true) ∧ xs.length ≤ n
theorem LsOk.uniq {L : List Int} {n : Nat} {f : Int} {xs ys : List Int} (h : LsOk L n f xs) (h' : LsOk L n f ys) : xs = ys := h.1.uniq h'.1
/-- Where one is led astray there is no such list. -/
theorem LsOk.no {L : List Int} {n : Nat} {f x : Int} {pre : List Int} (hT : Tr L n f pre x) (hx : x ≠ 0) (h : isN n x = true → pre.length = n) : ∀ xs, ¬ LsOk L n f xs := fun xs ho => by
  have hp := ho.1.pre (hT.snoc hx)
  have hm : x ∈ xs := hp.subset (by simp)
  have h1 := ho.2.1 x hm
  have h2 := hp.length_le
  rw [List.length_append, List.length_singleton, h h1] at h2
  have := ho.2.2
  omega
/-- What is asked of cells that are a set's. -/
theorem once_iff {L : List Int} {n : Nat} : onceM L n = true ↔ ∃ a b, LsOk L n (L.getD 0 0) a ∧ LsOk L n (L.getD 1 0) b ∧ a.length + b.length = n ∧ (a ++ b).Nodup := by
  constructor
  · intro h
    unfold onceM at h
    split at h
    · cases h
    · rename_i v1 e1
      split at h
      · cases h
      · rename_i v2 e2
        obtain ⟨a, ea, ta, va⟩ := goM_tr e1 (Vis.nil n)
        rw [List.nil_append] at ea
        subst ea
        obtain ⟨b, eb, tb, vb⟩ := goM_tr e2 va
        subst eb
        rw [decide_eq_true_eq, List.length_append] at h
        refine ⟨v1, b, ⟨ta, va.2, va.len⟩, ⟨tb, fun k hk => vb.2 k (List.mem_append_right _ hk), by omega⟩, h, vb.1⟩
  · rintro ⟨a, b, ha, hb, hl, hn⟩
    have hv : Vis n (a ++ b) := ⟨hn, fun k hk => by
      rcases List.mem_append.1 hk with h | h
      · exact ha.2.1 k h
      · exact hb.2.1 k h⟩
    have hva : Vis n ([] ++ a) := ⟨(List.nodup_append.1 hn).1, ha.2.1⟩
    unfold onceM
    rw [go_end ha.1 hva, List.nil_append]
    simp only
    rw [go_end hb.1 hv]
    simp only [List.length_append]
    exact decide_eq_true hl
theorem ns_is {L : List Int} {n : Nat} {a b : List Int} (ha : LsOk L n (L.getD 0 0) a) (h : onceM L n = true) : nsM L n = a := (ns_tr h).1.uniq ha.1
theorem read_yes {L : List Int} {n : Nat} {a b : List Int} (ha : LsOk L n (L.getD 0 0) a) (hb : LsOk L n (L.getD 1 0) b) (hl : a.length + b.length = n) (hn : (a ++ b).Nodup) (hz : L.getD 2 0 = (a.length : Int)) (hr : risesB (a.map (keyM L)) = true) : readM L n = some (a.map (keyM L)) := by
  have ho := once_iff.2 ⟨a, b, ha, hb, hl, hn⟩
  have he : keysM L n = a.map (keyM L) := by unfold keysM; rw [ns_is (b := b) ha ho]
  unfold readM
  rw [if_pos ho, he, if_pos hr, if_pos (by rw [List.length_map, hz])]
theorem read_some {L : List Int} {n : Nat} (h : readM L n ≠ none) : ∃ a b, LsOk L n (L.getD 0 0) a ∧ LsOk L n (L.getD 1 0) b ∧ a.length + b.length = n ∧ (a ++ b).Nodup ∧ L.getD 2 0 = (a.length : Int) ∧ risesB (a.map (keyM L)) = true := by
  unfold readM at h
  split at h
  · rename_i ho
    obtain ⟨a, b, ha, hb, hl, hn⟩ := once_iff.1 ho
    have he : keysM L n = a.map (keyM L) := by unfold keysM; rw [ns_is (b := b) ha ho]
    rw [he] at h
    split at h
    · rename_i hr
      split at h
      · rename_i hz
        exact ⟨a, b, ha, hb, hl, hn, by rw [← hz, List.length_map], hr⟩
      · exact absurd rfl h
    · exact absurd rfl h
  · exact absurd rfl h
theorem read_no {L : List Int} {n : Nat} (h : ∀ a b, LsOk L n (L.getD 0 0) a → LsOk L n (L.getD 1 0) b → a.length + b.length = n → (a ++ b).Nodup → L.getD 2 0 = (a.length : Int) → risesB (a.map (keyM L)) = true → False) : readM L n = none := by
  cases e : readM L n with
  | none => rfl
  | some ks =>
    obtain ⟨a, b, h1, h2, h3, h4, h5, h6⟩ := read_some (L := L) (n := n) (by rw [e]; simp)
    exact (h a b h1 h2 h3 h4 h5 h6).elim
/-- The two lists are the ones that were found. -/
theorem read_no2 {L : List Int} {n : Nat} {a b : List Int} (ha : LsOk L n (L.getD 0 0) a) (hb : LsOk L n (L.getD 1 0) b) (h : ¬ (a.length + b.length = n ∧ (a ++ b).Nodup ∧ L.getD 2 0 = (a.length : Int) ∧ risesB (a.map (keyM L)) = true)) : readM L n = none :=
  read_no fun a' b' h1 h2 h3 h4 h5 h6 => by
    obtain rfl := ha.uniq h1
    obtain rfl := hb.uniq h2
    exact h ⟨h3, h4, h5, h6⟩
end Go.Proofs.YtdfefjalamohjaaGreatDoor

namespace Go.Proofs.YtdfefjalamohjaaGreatDoor
open Go.RowKit
set_option linter.unusedVariables false
set_option linter.unusedSimpArgs false

theorem sAt_same {cs : List Int} {i : Nat} (h : i < cs.length) (x : Int) : (cs.set i x).getD i 0 = x := by
  simp [List.getD_eq_getElem?_getD, h]
theorem sAt_other {cs : List Int} {i j : Nat} (hi : i ≠ j) (x : Int) : (cs.set i x).getD j 0 = cs.getD j 0 := by
  simp [List.getD_eq_getElem?_getD, hi]
/-- The first i places hold nodes up to i, none twice. -/
def OrdIn (ord : List Int) (i : Nat) : Prop := (∀ j, j < i → 1 ≤ ord.getD j 0 ∧ ord.getD j 0 ≤ (i : Int)) ∧ (∀ j j', j < i → j' < i → ord.getD j 0 = ord.getD j' 0 → j = j')
theorem OrdIn.zero (ord : List Int) : OrdIn ord 0 := ⟨fun j h => by omega, fun j j' h => by omega⟩
theorem OrdIn.plain {ord : List Int} {i : Nat} (h : OrdIn ord i) (hi : i < ord.length) : OrdIn (ord.set i ((i : Int) + 1)) (i + 1) := by
  have e1 := sAt_same hi ((i : Int) + 1)
  have e2 : ∀ j, j < i → (ord.set i ((i : Int) + 1)).getD j 0 = ord.getD j 0 := fun j hj => sAt_other (by omega) _
  refine ⟨fun j hj => ?_, fun j j' hj hj' e => ?_⟩
  · by_cases c : j = i
    · subst c; rw [e1]; omega
    · rw [e2 j (by omega)]
      have := h.1 j (by omega)
      omega
  · by_cases c : j = i
    · by_cases c' : j' = i
      · omega
      · subst c
        rw [e1, e2 j' (by omega)] at e
        have := h.1 j' (by omega)
        omega
    · by_cases c' : j' = i
      · subst c'
        rw [e1, e2 j (by omega)] at e
        have := h.1 j (by omega)
        omega
      · rw [e2 j (by omega), e2 j' (by omega)] at e
        exact h.2 j j' (by omega) (by omega) e
theorem OrdIn.swap {ord : List Int} {i k : Nat} (h : OrdIn ord (i + 1)) (hi : i < ord.length) (hk : k ≤ i) (x : Int) (hx : x = ord.getD i 0) : OrdIn ((ord.set i (ord.getD k 0)).set k x) (i + 1) := by
  subst hx
  have key : ∀ j, j < i + 1 → ∃ q, q < i + 1 ∧ ((ord.set i (ord.getD k 0)).set k (ord.getD i 0)).getD j 0 = ord.getD q 0 ∧ q = (if j = k then i else if j = i then k else j) := fun j hj => by
    by_cases c : j = k
    · subst c
      exact ⟨i, by omega, by rw [sAt_same (by rw [List.length_set]; omega)], by rw [if_pos rfl]⟩
    · by_cases c' : j = i
      · subst c'
        exact ⟨k, by omega, by rw [sAt_other (by omega), sAt_same hi], by rw [if_neg c, if_pos rfl]⟩
      · exact ⟨j, hj, by rw [sAt_other (by omega), sAt_other (by omega)], by rw [if_neg c, if_neg c']⟩
  refine ⟨fun j hj => ?_, fun j j' hj hj' e => ?_⟩
  · obtain ⟨q, hq, e, _⟩ := key j hj
    rw [e]
    exact h.1 q hq
  · obtain ⟨q, hq, e1, r1⟩ := key j hj
    obtain ⟨q', hq', e2, r2⟩ := key j' hj'
    rw [e1, e2] at e
    have := h.2 q q' hq hq' e
    rw [r1, r2] at this
    by_cases c1 : j = k
    · by_cases c2 : j' = k
      · omega
      · by_cases c3 : j' = i
        · simp only [c1, c3, if_true] at this; split at this <;> omega
        · simp only [c1, if_true, if_neg c2, if_neg c3] at this; omega
    · by_cases c2 : j' = k
      · by_cases c3 : j = i
        · simp only [c2, c3, if_true] at this; split at this <;> omega
        · simp only [c2, if_true, if_neg c1, if_neg c3] at this; omega
      · simp only [if_neg c1, if_neg c2] at this
        split at this <;> split at this <;> omega
/-- The link behind the i-th node. -/
def nxO (ord : List Int) (n ll i : Nat) : Int := if i + 1 < n ∧ i + 1 ≠ ll then ord.getD (i + 1) 0 else 0
structure LyIn (zs ord l : List Int) (n i : Nat) : Prop where
  len : zs.length = 3 + 2 * n
  z0 : zs.getD 0 0 = 0
  z1 : zs.getD 1 0 = 0
  z2 : zs.getD 2 0 = (l.length : Int)
  lnk : ∀ j, j < i → lnkM zs (ord.getD j 0) = nxO ord n l.length j
  key : ∀ j, j < i → j < l.length → keyM zs (ord.getD j 0) = l.getD j 0
theorem LyIn.start {n : Nat} (ord l : List Int) : LyIn ((List.replicate (3 + 2 * n) 0).set 2 (l.length : Int)) ord l n 0 := by
  have z : ∀ j, (List.replicate (3 + 2 * n) (0 : Int)).getD j 0 = 0 := fun j => by
    rw [List.getD_eq_getElem?_getD, List.getElem?_replicate]
    split <;> rfl
  refine ⟨by simp, ?_, ?_, ?_, fun j h => by omega, fun j h => by omega⟩
  · rw [sAt_other (by omega)]; exact z 0
  · rw [sAt_other (by omega)]; exact z 1
  · rw [sAt_same (by simp; omega)]
theorem ord_nat {ord : List Int} {n j : Nat} (h : OrdIn ord n) (hj : j < n) : ∃ p : Nat, ord.getD j 0 = (p : Int) ∧ 1 ≤ p ∧ p ≤ n := by
  have := h.1 j hj
  exact ⟨(ord.getD j 0).toNat, by omega, by omega, by omega⟩
theorem LyIn.link {zs ord l : List Int} {n i p : Nat} (h : LyIn zs ord l n i) (ho : OrdIn ord n) (hi : i < n) (hp : ord.getD i 0 = (p : Int)) (hk : i < l.length → keyM zs (p : Int) = l.getD i 0) (x : Int) (hx : x = nxO ord n l.length i) : LyIn (zs.set (2 + 2 * p) x) ord l n (i + 1) := by
  have hp1 := ho.1 i hi
  rw [hp] at hp1
  refine ⟨by rw [List.length_set]; exact h.len, ?_, ?_, ?_, fun j hj => ?_, fun j hj hjl => ?_⟩
  · rw [sAt_other (by omega)]; exact h.z0
  · rw [sAt_other (by omega)]; exact h.z1
  · rw [sAt_other (by omega)]; exact h.z2
  · by_cases c : j = i
    · subst c
      rw [hp]
      unfold lnkM
      rw [Int.toNat_natCast, sAt_same (by rw [h.len]; omega), hx]
    · obtain ⟨q, hq, q1, q2⟩ := ord_nat ho (j := j) (by omega)
      have hne : q ≠ p := fun e => c (ho.2 j i (by omega) hi (by rw [hq, hp, e]))
      have := h.lnk j (by omega)
      rw [hq] at this ⊢
      unfold lnkM at this ⊢
      rw [Int.toNat_natCast] at this ⊢
      rw [sAt_other (by omega)]
      exact this
  · by_cases c : j = i
    · subst c
      rw [hp]
      have := hk hjl
      unfold keyM at this ⊢
      rw [Int.toNat_natCast] at this ⊢
      rw [sAt_other (by omega)]
      exact this
    · obtain ⟨q, hq, q1, q2⟩ := ord_nat ho (j := j) (by omega)
      have := h.key j (by omega) hjl
      rw [hq] at this ⊢
      unfold keyM at this ⊢
      rw [Int.toNat_natCast] at this ⊢
      rw [sAt_other (by omega)]
      exact this
theorem LyIn.keyed {zs ord l : List Int} {n i p : Nat} (h : LyIn zs ord l n i) (ho : OrdIn ord n) (hi : i < n) (hp : ord.getD i 0 = (p : Int)) (x : Int) : LyIn (zs.set (1 + 2 * p) x) ord l n i ∧ keyM (zs.set (1 + 2 * p) x) (p : Int) = x := by
  have hp1 := ho.1 i hi
  rw [hp] at hp1
  refine ⟨⟨by rw [List.length_set]; exact h.len, ?_, ?_, ?_, fun j hj => ?_, fun j hj hjl => ?_⟩, ?_⟩
  · rw [sAt_other (by omega)]; exact h.z0
  · rw [sAt_other (by omega)]; exact h.z1
  · rw [sAt_other (by omega)]; exact h.z2
  · obtain ⟨q, hq, q1, q2⟩ := ord_nat ho (j := j) (by omega)
    have := h.lnk j hj
    rw [hq] at this ⊢
    unfold lnkM at this ⊢
    rw [Int.toNat_natCast] at this ⊢
    rw [sAt_other (by omega)]
    exact this
  · obtain ⟨q, hq, q1, q2⟩ := ord_nat ho (j := j) (by omega)
    have hne : q ≠ p := fun e => by
      have := ho.2 j i (by omega) hi (by rw [hq, hp, e])
      omega
    have := h.key j hj hjl
    rw [hq] at this ⊢
    unfold keyM at this ⊢
    rw [Int.toNat_natCast] at this ⊢
    rw [sAt_other (by omega)]
    exact this
  · unfold keyM
    rw [Int.toNat_natCast, sAt_same (by rw [h.len]; omega)]
/-- All is laid. -/
structure LyEnd (zs ord l : List Int) (n : Nat) : Prop where
  len : zs.length = 3 + 2 * n
  z0 : zs.getD 0 0 = if 0 < l.length then ord.getD 0 0 else 0
  z1 : zs.getD 1 0 = if l.length < n then ord.getD l.length 0 else 0
  z2 : zs.getD 2 0 = (l.length : Int)
  lnk : ∀ j, j < n → lnkM zs (ord.getD j 0) = nxO ord n l.length j
  key : ∀ j, j < n → j < l.length → keyM zs (ord.getD j 0) = l.getD j 0
theorem LyIn.head {zs ord l : List Int} {n j : Nat} (h : LyIn zs ord l n n) (ho : OrdIn ord n) (c : Nat) (hc : c < 2) (x : Int) : (∀ j, j < n → lnkM (zs.set c x) (ord.getD j 0) = nxO ord n l.length j) ∧ (∀ j, j < n → j < l.length → keyM (zs.set c x) (ord.getD j 0) = l.getD j 0) := by
  constructor
  · intro j hj
    obtain ⟨q, hq, q1, q2⟩ := ord_nat ho hj
    have := h.lnk j hj
    rw [hq] at this ⊢
    unfold lnkM at this ⊢
    rw [Int.toNat_natCast] at this ⊢
    rw [sAt_other (by omega)]
    exact this
  · intro j hj hjl
    obtain ⟨q, hq, q1, q2⟩ := ord_nat ho hj
    have := h.key j hj hjl
    rw [hq] at this ⊢
    unfold keyM at this ⊢
    rw [Int.toNat_natCast] at this ⊢
    rw [sAt_other (by omega)]
    exact this
theorem LyIn.fin {zs ord l : List Int} {n : Nat} (h : LyIn zs ord l n n) (ho : OrdIn ord n) (z2 : List Int) (h2 : z2 = if 0 < l.length then zs.set 0 (ord.getD 0 0) else zs) (z3 : List Int) (h3 : z3 = if l.length < n then z2.set 1 (ord.getD l.length 0) else z2) : LyEnd z3 ord l n := by
  have hl := h.len
  have a : LyEnd z3 ord l n ↔ LyEnd z3 ord l n := Iff.rfl
  subst h2 h3
  by_cases c1 : 0 < l.length
  · rw [if_pos c1]
    by_cases c2 : l.length < n
    · rw [if_pos c2]
      refine ⟨by simp; exact hl, ?_, ?_, ?_, fun j hj => ?_, fun j hj hjl => ?_⟩
      · rw [if_pos c1, sAt_other (by omega), sAt_same (by omega)]
      · rw [if_pos c2, sAt_same (by rw [List.length_set]; omega)]
      · rw [sAt_other (by omega), sAt_other (by omega)]; exact h.z2
      · obtain ⟨q, hq, q1, q2⟩ := ord_nat ho hj
        have := h.lnk j hj
        rw [hq] at this ⊢
        unfold lnkM at this ⊢
        rw [Int.toNat_natCast] at this ⊢
        rw [sAt_other (by omega), sAt_other (by omega)]
        exact this
      · obtain ⟨q, hq, q1, q2⟩ := ord_nat ho hj
        have := h.key j hj hjl
        rw [hq] at this ⊢
        unfold keyM at this ⊢
        rw [Int.toNat_natCast] at this ⊢
        rw [sAt_other (by omega), sAt_other (by omega)]
        exact this
    · rw [if_neg c2]
      obtain ⟨b1, b2⟩ := h.head (j := 0) ho 0 (by omega) (ord.getD 0 0)
      refine ⟨by simp; exact hl, ?_, ?_, ?_, b1, b2⟩
      · rw [if_pos c1, sAt_same (by omega)]
      · rw [if_neg c2, sAt_other (by omega)]; exact h.z1
      · rw [sAt_other (by omega)]; exact h.z2
  · rw [if_neg c1]
    by_cases c2 : l.length < n
    · rw [if_pos c2]
      obtain ⟨b1, b2⟩ := h.head (j := 0) ho 1 (by omega) (ord.getD l.length 0)
      refine ⟨by simp; exact hl, ?_, ?_, ?_, b1, b2⟩
      · rw [if_neg c1, sAt_other (by omega)]; exact h.z0
      · rw [if_pos c2, sAt_same (by omega)]
      · rw [sAt_other (by omega)]; exact h.z2
    · rw [if_neg c2]
      exact ⟨hl, by rw [if_neg c1]; exact h.z0, by rw [if_neg c2]; exact h.z1, h.z2, h.lnk, h.key⟩
/-- A stretch of the nodes. -/
def seg (ord : List Int) (s d : Nat) : List Int := (List.range d).map fun i => ord.getD (s + i) 0
theorem seg_succ (ord : List Int) (s d : Nat) : seg ord s (d + 1) = ord.getD s 0 :: seg ord (s + 1) d := by
  unfold seg
  rw [List.range_succ_eq_map, List.map_cons, List.map_map]
  congr 1
  apply List.map_congr_left
  intro i _
  simp only [Function.comp]
  congr 1
  omega
theorem seg_tr {zs ord : List Int} {n t : Nat} (hn : ∀ j, j < n → isN n (ord.getD j 0) = true) (ht : t ≤ n) : ∀ d s, s + d = t → (∀ j, s ≤ j → j < t → lnkM zs (ord.getD j 0) = if j + 1 < t then ord.getD (j + 1) 0 else 0) → Tr zs n (if s < t then ord.getD s 0 else 0) (seg ord s d) 0
  | 0, s, hs, _ => by
    rw [if_neg (by omega)]
    rfl
  | d + 1, s, hs, hl => by
    have ih := seg_tr (zs := zs) hn ht d (s + 1) (by omega) (fun j h1 h2 => hl j (by omega) h2)
    have h1 := hn s (by omega)
    have h2 := isN_iff.1 h1
    rw [if_pos (by omega), seg_succ]
    refine ⟨by omega, rfl, ?_⟩
    unfold nxtM
    rw [if_pos h1, hl s (Nat.le_refl _) (by omega)]
    exact ih
theorem seg_add (ord : List Int) (s a b : Nat) : seg ord s a ++ seg ord (s + a) b = seg ord s (a + b) := by
  unfold seg
  rw [List.range_add, List.map_append, List.map_map]
  congr 1
  apply List.map_congr_left
  intro i _
  simp only [Function.comp]
  congr 1
  omega
theorem seg_nodup {ord : List Int} {n : Nat} (ho : OrdIn ord n) : (seg ord 0 n).Nodup := by
  unfold seg
  rw [List.Nodup, List.pairwise_map]
  refine List.Pairwise.imp_of_mem (R := fun a b : Nat => a ≠ b) (fun ha hb hne e => ?_) (List.nodup_range)
  rw [List.mem_range] at ha hb
  simp only [Nat.zero_add] at e
  exact hne (ho.2 _ _ ha hb e)
/-- What the nodes are, and that they hold what was laid. -/
theorem LyEnd.lists {zs ord l : List Int} {n : Nat} (h : LyEnd zs ord l n) (ho : OrdIn ord n) (hl : l.length ≤ n) : LsOk zs n (zs.getD 0 0) (seg ord 0 l.length) ∧ LsOk zs n (zs.getD 1 0) (seg ord l.length (n - l.length)) ∧ (seg ord 0 l.length ++ seg ord l.length (n - l.length)).Nodup ∧ (seg ord 0 l.length).map (keyM zs) = l := by
  have hn : ∀ j, j < n → isN n (ord.getD j 0) = true := fun j hj => isN_iff.2 (ho.1 j hj)
  have hmem : ∀ s d, s + d ≤ n → ∀ k ∈ seg ord s d, isN n k = true := fun s d hs k hk => by
    obtain ⟨i, hi, rfl⟩ := List.mem_map.1 hk
    rw [List.mem_range] at hi
    exact hn _ (by omega)
  refine ⟨⟨?_, hmem _ _ (by omega), by simp [seg]; exact hl⟩, ⟨?_, hmem _ _ (by omega), by simp [seg]⟩, ?_, ?_⟩
  · rw [h.z0]
    exact seg_tr hn hl l.length 0 (by omega) (fun j _ hj => by
      rw [h.lnk j (by omega)]
      unfold nxO
      by_cases c : j + 1 < l.length
      · rw [if_pos c, if_pos (by omega)]
      · rw [if_neg c, if_neg (by omega)])
  · rw [h.z1]
    exact seg_tr hn (Nat.le_refl n) (n - l.length) l.length (by omega) (fun j h1 hj => by
      rw [h.lnk j (by omega)]
      unfold nxO
      by_cases c : j + 1 < n
      · rw [if_pos c, if_pos (by omega)]
      · rw [if_neg c, if_neg (by omega)])
  · have := seg_add ord 0 l.length (n - l.length)
    rw [Nat.zero_add] at this
    rw [this, show l.length + (n - l.length) = n by omega]
    exact seg_nodup ho
  · apply List.ext_getElem
    · simp [seg]
    · intro i h1 h2
      rw [List.getElem_map]
      simp only [seg, List.getElem_map, List.getElem_range, Nat.zero_add]
      rw [h.key i (by omega) h2, List.getD_eq_getElem?_getD, List.getElem?_eq_getElem h2]
      rfl
theorem LyEnd.read {zs ord l : List Int} {n : Nat} (h : LyEnd zs ord l n) (ho : OrdIn ord n) (hl : l.length ≤ n) (hr : risesB l = true) : readM zs n = some l := by
  obtain ⟨a, b, c, d⟩ := h.lists ho hl
  have := read_yes a b (by simp [seg]; omega) c (by rw [h.z2]; simp [seg]) (by rw [d]; exact hr)
  rw [d] at this
  exact this
end Go.Proofs.YtdfefjalamohjaaGreatDoor
