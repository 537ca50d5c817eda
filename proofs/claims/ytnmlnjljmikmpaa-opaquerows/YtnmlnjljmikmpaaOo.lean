/- The order by points, as plain data: what is ahead of what; sorting by halves. -/
import Derived.Test.YtnmlnjljmikmpaaOm
namespace Go.Proofs.Ytnmlnjljmikmpaa
set_option linter.unusedVariables false
set_option linter.unusedSimpArgs false

structure Pt where
  nu : Int
  st : Int
  ch : Bool
deriving DecidableEq
def ptOf (s : Sy) : Pt := ⟨(pointM s).1, (pointM s).2, writerM s⟩
def ltK (p o : Pt) : Bool := if p.nu ≠ o.nu then decide (p.nu < o.nu) else if p.ch ≠ o.ch then p.ch else decide (p.st < o.st)
def cI (x y : Int) : Int := if x < y then -1 else if y < x then 1 else 0
def cmpK (p o : Pt) : Int := if p.nu ≠ o.nu then cI p.nu o.nu else if p.ch = true ∧ o.ch = false then -1 else if o.ch = true ∧ p.ch = false then 1 else cI p.st o.st
def ordC (f : Nat → Pt) (a b : Nat) : Int := if cmpK (f a) (f b) ≠ 0 then cmpK (f a) (f b) else cI a b
/-- The whole order: of equal points the lesser place first. -/
def tlt (f : Nat → Pt) (a b : Nat) : Bool := ltK (f a) (f b) || (decide (f a = f b) && decide (a < b))
theorem cI_neg {x y : Int} : cI x y < 0 ↔ x < y := by unfold cI; split; · simp [*]
                                                      · split <;> omega
theorem cI_zero {x y : Int} : cI x y = 0 ↔ x = y := by unfold cI; split; · omega
                                                       · split <;> omega
theorem cmpK_neg (p o : Pt) : cmpK p o < 0 ↔ ltK p o = true := by
  obtain ⟨a, b, c⟩ := p
  obtain ⟨x, y, z⟩ := o
  simp only [cmpK, ltK]
  by_cases h : a = x
  · subst h
    cases c <;> cases z <;> simp [cI_neg]
  · simp [h, cI_neg]
theorem cmpK_zero (p o : Pt) : cmpK p o = 0 ↔ p = o := by
  obtain ⟨a, b, c⟩ := p
  obtain ⟨x, y, z⟩ := o
  simp only [cmpK, Pt.mk.injEq]
  by_cases h : a = x
  · subst h
    cases c <;> cases z <;> simp [cI_zero]
  · simp [h, cI_zero]
theorem ltK_irrefl (p : Pt) : ltK p p = false := by simp [ltK]
theorem ordC_neg (f : Nat → Pt) (a b : Nat) : ordC f a b < 0 ↔ tlt f a b = true := by
  unfold ordC tlt
  by_cases h : cmpK (f a) (f b) = 0
  · rw [if_neg (by simpa using h)]
    have e := (cmpK_zero _ _).1 h
    have hn : ltK (f a) (f b) = false := by
      cases hc : ltK (f a) (f b) with
      | false => rfl
      | true => have := (cmpK_neg _ _).2 hc; omega
    simp only [hn, Bool.false_or, e, decide_true, Bool.true_and, decide_eq_true_eq, cI_neg, ltK_irrefl]
    exact Int.ofNat_lt
  · rw [if_pos h, cmpK_neg]
    have e : ¬ f a = f b := fun e => h ((cmpK_zero _ _).2 e)
    simp [e]
theorem ltK_trans {p q r : Pt} (h : ltK p q = true) (k : ltK q r = true) : ltK p r = true := by
  obtain ⟨a, b, c⟩ := p
  obtain ⟨x, y, z⟩ := q
  obtain ⟨u, v, w⟩ := r
  simp only [ltK] at *
  by_cases h1 : a = x
  · subst h1
    by_cases h2 : a = u
    · subst h2
      cases c <;> cases z <;> cases w <;> simp at h k ⊢ <;> omega
    · simp [h2] at k ⊢; omega
  · by_cases h2 : x = u
    · subst h2
      simp [h1] at h ⊢; omega
    · simp [h1] at h
      simp [h2] at k
      have : a ≠ u := by omega
      simp [this]; omega
theorem ltK_total {p q : Pt} (h : ltK p q = false) (k : ltK q p = false) : p = q := by
  obtain ⟨a, b, c⟩ := p
  obtain ⟨x, y, z⟩ := q
  simp only [ltK] at *
  by_cases h1 : a = x
  · subst h1
    cases c <;> cases z <;> simp at h k ⊢ <;> omega
  · have : x ≠ a := fun e => h1 e.symm
    simp [h1, this] at h k
    omega
theorem tlt_irrefl (f : Nat → Pt) (a : Nat) : tlt f a a = false := by simp [tlt, ltK_irrefl]
theorem tlt_trans {f : Nat → Pt} {a b c : Nat} (h : tlt f a b = true) (k : tlt f b c = true) : tlt f a c = true := by
  simp only [tlt, Bool.or_eq_true, Bool.and_eq_true, decide_eq_true_eq] at *
  rcases h with h | ⟨h1, h2⟩ <;> rcases k with k | ⟨k1, k2⟩
  · exact .inl (ltK_trans h k)
  · exact .inl (by rw [← k1]; exact h)
  · exact .inl (by rw [h1]; exact k)
  · exact .inr ⟨h1.trans k1, by omega⟩
theorem tlt_total {f : Nat → Pt} {a b : Nat} (h : tlt f a b = false) (k : tlt f b a = false) : a = b := by
  simp only [tlt, Bool.or_eq_false_iff, Bool.and_eq_false_iff, decide_eq_false_iff_not] at *
  have e := ltK_total h.1 k.1
  rcases h.2 with h | h
  · exact absurd e h
  · rcases k.2 with k | k
    · exact absurd e.symm k
    · omega
/-- The places from a up to b, in order. -/
def Srt (f : Nat → Pt) (a b : Nat) (L : List Nat) : Prop := L.Perm (List.range' a (b - a)) ∧ L.Pairwise (fun x y => tlt f x y = true)
theorem Srt.len {f : Nat → Pt} {a b : Nat} {L : List Nat} (h : Srt f a b L) : L.length = b - a := by rw [h.1.length_eq]; simp
theorem Srt.mem {f : Nat → Pt} {a b : Nat} {L : List Nat} (h : Srt f a b L) {x : Nat} (hx : x ∈ L) : a ≤ x ∧ x < b := by
  have := h.1.mem_iff.1 hx
  simp only [List.mem_range'_1] at this
  omega
theorem srt_one {f : Nat → Pt} (a : Nat) : Srt f a (a + 1) [a] := ⟨by simp [show a + 1 - a = 1 by omega], by simp⟩
theorem sorted_uniq {f : Nat → Pt} : ∀ {L M : List Nat}, L.Pairwise (fun x y => tlt f x y = true) → M.Pairwise (fun x y => tlt f x y = true) → L.Perm M → L = M
  | [], M, _, _, h => h.nil_eq
  | x :: L, [], _, _, h => by have := h.length_eq; simp at this
  | x :: L, y :: M, hl, hm, h => by
    have e : x = y := by
      have h1 : x ∈ y :: M := h.mem_iff.1 (by simp)
      have h2 : y ∈ x :: L := h.mem_iff.2 (by simp)
      rcases List.mem_cons.1 h1 with e | h1
      · exact e
      · rcases List.mem_cons.1 h2 with e | h2
        · exact e.symm
        · have a1 := (List.pairwise_cons.1 hm).1 x h1
          have a2 := (List.pairwise_cons.1 hl).1 y h2
          have := tlt_trans a1 a2
          rw [tlt_irrefl] at this
          cases this
    subst e
    rw [sorted_uniq (List.pairwise_cons.1 hl).2 (List.pairwise_cons.1 hm).2 (List.Perm.cons_inv h)]
theorem srt_uniq {f : Nat → Pt} {a b : Nat} {L M : List Nat} (h : Srt f a b L) (k : Srt f a b M) : L = M := sorted_uniq h.2 k.2 (h.1.trans k.1.symm)
/-- Two rows made one: the second's first one only where it is ahead. -/
def mrg (f : Nat → Pt) : Nat → List Nat → List Nat → List Nat
  | 0, _, _ => []
  | _ + 1, [], b => b
  | _ + 1, a, [] => a
  | n + 1, x :: a, y :: b => if ltK (f y) (f x) then y :: mrg f n (x :: a) b else x :: mrg f n a (y :: b)
theorem mrg_perm (f : Nat → Pt) : ∀ (n : Nat) (A B : List Nat), A.length + B.length < n → (mrg f n A B).Perm (A ++ B)
  | 0, _, _, h => by omega
  | _ + 1, [], b, _ => by simp [mrg]
  | _ + 1, x :: a, [], _ => by simp [mrg]
  | n + 1, x :: a, y :: b, h => by
    simp only [List.length_cons] at h
    unfold mrg
    split
    · refine (List.Perm.cons y (mrg_perm f n (x :: a) b (by simp only [List.length_cons]; omega))).trans ?_
      exact (List.perm_middle (l₁ := x :: a)).symm
    · exact List.Perm.cons x (mrg_perm f n a (y :: b) (by simp only [List.length_cons]; omega))
theorem mrg_sorted (f : Nat → Pt) : ∀ (n : Nat) (A B : List Nat), A.length + B.length < n → A.Pairwise (fun x y => tlt f x y = true) → B.Pairwise (fun x y => tlt f x y = true) → (∀ x ∈ A, ∀ y ∈ B, x < y) → (mrg f n A B).Pairwise (fun x y => tlt f x y = true)
  | 0, _, _, h, _, _, _ => by omega
  | _ + 1, [], b, _, _, hb, _ => by simpa [mrg] using hb
  | _ + 1, x :: a, [], _, ha, _, _ => by simpa [mrg] using ha
  | n + 1, x :: a, y :: b, h, ha, hb, hl => by
    simp only [List.length_cons] at h
    unfold mrg
    split
    · rename_i hc
      rw [List.pairwise_cons]
      refine ⟨fun z hz => ?_, mrg_sorted f n (x :: a) b (by simp only [List.length_cons]; omega) ha (List.pairwise_cons.1 hb).2 (fun u hu v hv => hl u hu v (by simp [hv]))⟩
      have hyx : tlt f y x = true := by simp [tlt, hc]
      rcases List.mem_append.1 ((mrg_perm f n (x :: a) b (by simp only [List.length_cons]; omega)).mem_iff.1 hz) with hz | hz
      · rcases List.mem_cons.1 hz with rfl | hz
        · exact hyx
        · exact tlt_trans hyx ((List.pairwise_cons.1 ha).1 z hz)
      · exact (List.pairwise_cons.1 hb).1 z hz
    · rename_i hc
      rw [List.pairwise_cons]
      refine ⟨fun z hz => ?_, mrg_sorted f n a (y :: b) (by simp only [List.length_cons]; omega) (List.pairwise_cons.1 ha).2 hb (fun u hu v hv => hl u (by simp [hu]) v hv)⟩
      have hxy : tlt f x y = true := by
        have hlt := hl x (by simp) y (by simp)
        cases hk : ltK (f x) (f y) with
        | true => simp [tlt, hk]
        | false =>
          have e := ltK_total hk (by simpa using hc)
          simp [tlt, e, hlt]
      rcases List.mem_append.1 ((mrg_perm f n a (y :: b) (by simp only [List.length_cons]; omega)).mem_iff.1 hz) with hz | hz
      · exact (List.pairwise_cons.1 ha).1 z hz
      · rcases List.mem_cons.1 hz with rfl | hz
        · exact hxy
        · exact tlt_trans hxy ((List.pairwise_cons.1 hb).1 z hz)
theorem mrg_srt {f : Nat → Pt} {a m b n : Nat} {A B : List Nat} (h1 : Srt f a m A) (h2 : Srt f m b B) (ha : a ≤ m) (hb : m ≤ b) (hn : A.length + B.length < n) : Srt f a b (mrg f n A B) := by
  refine ⟨(mrg_perm f n A B hn).trans ?_, mrg_sorted f n A B hn h1.2 h2.2 (fun x hx y hy => ?_)⟩
  · refine (h1.1.append h2.1).trans ?_
    rw [show List.range' m (b - m) = List.range' (a + 1 * (m - a)) (b - m) by rw [show a + 1 * (m - a) = m by omega], List.range'_append, show m - a + (b - m) = b - a by omega]
  · have := h1.mem hx
    have := h2.mem hy
    omega
/-- A list of which each block of w places is in order. -/
def Blk (f : Nat → Pt) (n w : Nat) (L : List Nat) : Prop := L.length = n ∧ ∀ k, k * w < n → Srt f (k * w) (min (k * w + w) n) ((L.drop (k * w)).take w)
theorem blk_one (f : Nat → Pt) (n : Nat) : Blk f n 1 (List.range n) := by
  refine ⟨by simp, fun k hk => ?_⟩
  rw [Nat.mul_one] at *
  rw [show min (k + 1) n = k + 1 by omega]
  have e : ((List.range n).drop k).take 1 = [k] := by
    rw [List.take_one]
    simp [List.head?_drop, hk]
  rw [e]
  exact srt_one k
theorem blk_all {f : Nat → Pt} {n w : Nat} {L : List Nat} (h : Blk f n w L) (hw : n ≤ w) (hn : 0 < n) : Srt f 0 n L := by
  have hl := h.1
  have := h.2 0 (by omega)
  simp only [Nat.zero_mul, List.drop_zero, Nat.zero_add] at this
  rw [List.take_of_length_le (by omega), show min w n = n by omega] at this
  exact this
/-- The blocks of w below at are made blocks of 2w. -/
def Half (f : Nat → Pt) (n w at_ : Nat) (L : List Nat) : Prop := L.length = min at_ n ∧ ∀ k, k * (2 * w) < at_ → k * (2 * w) < n → Srt f (k * (2 * w)) (min (k * (2 * w) + 2 * w) n) ((L.drop (k * (2 * w))).take (2 * w))
theorem half_zero (f : Nat → Pt) (n w : Nat) : Half f n w 0 [] := ⟨by simp, fun k h => by omega⟩
theorem half_next {f : Nat → Pt} {n w j N : Nat} {L O : List Nat} (hw : 0 < w) (h : Blk f n w L) (ho : Half f n w (j * (2 * w)) O) (hj : j * (2 * w) < n) (hN : 2 * w < N) :
    Half f n w ((j + 1) * (2 * w)) (O ++ mrg f N ((L.drop (j * (2 * w))).take w) ((L.drop (j * (2 * w) + w)).take w)) := by
  obtain ⟨h0, h1⟩ := h
  have hA := h1 (2 * j) (by rw [show 2 * j * w = j * (2 * w) by rw [Nat.mul_comm 2 j, Nat.mul_assoc]]; exact hj)
  rw [show 2 * j * w = j * (2 * w) by rw [Nat.mul_comm 2 j, Nat.mul_assoc]] at hA
  have hB : Srt f (min (j * (2 * w) + w) n) (min (j * (2 * w) + 2 * w) n) ((L.drop (j * (2 * w) + w)).take w) := by
    by_cases hc : j * (2 * w) + w < n
    · have := h1 (2 * j + 1) (by rw [Nat.add_mul, Nat.one_mul, show 2 * j * w = j * (2 * w) by rw [Nat.mul_comm 2 j, Nat.mul_assoc]]; exact hc)
      rw [Nat.add_mul, Nat.one_mul, show 2 * j * w = j * (2 * w) by rw [Nat.mul_comm 2 j, Nat.mul_assoc]] at this
      rw [show min (j * (2 * w) + w) n = j * (2 * w) + w by omega, show j * (2 * w) + 2 * w = j * (2 * w) + w + w by omega]
      exact this
    · rw [show min (j * (2 * w) + w) n = n by omega, show min (j * (2 * w) + 2 * w) n = n by omega]
      have e : (L.drop (j * (2 * w) + w)).take w = [] := by rw [List.drop_of_length_le (by omega)]; simp
      rw [e]
      exact ⟨by simp, by simp⟩
  have hM := mrg_srt (n := N) hA hB (by omega) (by omega) (by rw [hA.len, hB.len]; omega)
  have hl := hM.len
  generalize mrg f N _ _ = M at *
  have hO : O.length = j * (2 * w) := by rw [ho.1]; omega
  refine ⟨?_, fun k hk hkn => ?_⟩
  · rw [List.length_append, hO, hl, Nat.add_mul, Nat.one_mul]; omega
  · by_cases hkj : k = j
    · subst hkj
      rw [List.drop_append, List.drop_of_length_le (by omega), List.nil_append, show k * (2 * w) - O.length = 0 by omega, List.drop_zero, List.take_of_length_le (by omega)]
      exact hM
    · have hlt : k < j := by
        rw [Nat.add_mul, Nat.one_mul] at hk
        rcases Nat.lt_or_ge k j with c | c
        · exact c
        · have : (j + 1) * (2 * w) ≤ k * (2 * w) := Nat.mul_le_mul_right _ (by omega)
          rw [Nat.add_mul, Nat.one_mul] at this
          omega
      have hle : (k + 1) * (2 * w) ≤ j * (2 * w) := Nat.mul_le_mul_right _ hlt
      rw [Nat.add_mul, Nat.one_mul] at hle
      have := ho.2 k (by omega) hkn
      rw [List.drop_append_of_le_length (by omega), List.take_append_of_le_length (by rw [List.length_drop]; omega)]
      exact this
theorem half_all {f : Nat → Pt} {n w at_ : Nat} {O : List Nat} (h : Half f n w at_ O) (hn : n ≤ at_) : Blk f n (2 * w) O := ⟨by rw [h.1]; omega, fun k hk => h.2 k (by omega) hk⟩
end Go.Proofs.Ytnmlnjljmikmpaa
