/- Plain mathematics: the most accesses of one step in a log, by runs of one number in a rising list. No program is named here. -/
import Derived.Test.YtebhjfoggogmaaaModel
namespace Go.Proofs.Ytebhjfoggogmaaa
set_option linter.unusedVariables false
set_option linter.unusedSimpArgs false

def steps (l : List Acc) : List Int := l.map (·.st)
theorem steps_length (l : List Acc) : (steps l).length = l.length := by simp [steps]

/-- What a meter's numbers say of its log. -/
structure Runs (s : Mt) : Prop where
  srt : (steps s.l).Pairwise (· ≤ ·)
  top : ∀ t ∈ steps s.l, t ≤ s.st
  dn : ((steps s.l).count s.st : Int) = s.dn
  all : ∀ t, ((steps s.l).count t : Int) ≤ s.mo
  one : s.mo = 0 ∨ ∃ t ∈ steps s.l, ((steps s.l).count t : Int) = s.mo

theorem Runs.zero : Runs Mt.zero := ⟨List.Pairwise.nil, fun t h => (List.not_mem_nil h).elim, rfl, fun _ => Int.le_refl _, .inl rfl⟩
theorem Runs.start {s : Mt} (h : Runs s) (t : Int) : Runs (s.start t) := by
  obtain ⟨a, b, c, d, e⟩ := h
  refine ⟨a, fun x hx => ?_, ?_, d, e⟩
  · have := b x hx; simp only [Mt.start]; omega
  · have hz : (steps s.l).count (s.st + 1) = 0 := List.count_eq_zero.2 (fun hx => by have := b _ hx; omega)
    simp only [Mt.start]
    rw [hz]; rfl
theorem Runs.note {s : Mt} (h : Runs s) (kind i op : Int) (ok : Bool) : Runs (s.note kind i op ok) := by
  obtain ⟨a, b, c, d, e⟩ := h
  have hs : steps (s.note kind i op ok).l = steps s.l ++ [s.st] := by simp [Mt.note, steps]
  have hc : ∀ t, (steps (s.note kind i op ok).l).count t = (steps s.l).count t + if s.st = t then 1 else 0 := by
    intro t; rw [hs, List.count_append]; simp [List.count_cons]
  refine ⟨?_, ?_, ?_, ?_, ?_⟩
  · rw [hs, List.pairwise_append]
    exact ⟨a, List.pairwise_singleton _ _, fun x hx y hy => by simp at hy; subst hy; exact b x hx⟩
  · intro t ht
    rw [hs, List.mem_append] at ht
    rcases ht with ht | ht
    · exact b t ht
    · simp at ht; subst ht; exact Int.le_refl _
  · show ((steps (s.note kind i op ok).l).count s.st : Int) = s.dn + 1
    rw [hc s.st, if_pos rfl]; omega
  · intro t
    rw [hc t]
    show _ ≤ max s.mo (s.dn + 1)
    have := d t
    split
    · rename_i hh; subst hh; omega
    · omega
  · right
    show ∃ t ∈ steps (s.note kind i op ok).l, ((steps (s.note kind i op ok).l).count t : Int) = max s.mo (s.dn + 1)
    by_cases hlt : s.mo ≤ s.dn + 1
    · exact ⟨s.st, by rw [hs]; simp, by rw [hc s.st, if_pos rfl]; omega⟩
    · rcases e with e | ⟨t, ht, hte⟩
      · have : (0 : Int) ≤ s.dn := by rw [← c]; omega
        omega
      · refine ⟨t, by rw [hs]; simp [ht], ?_⟩
        rw [hc t]
        by_cases hst : s.st = t
        · subst hst; omega
        · rw [if_neg hst]; omega
theorem Runs.row {s : Mt} (h : Runs s) (xs : List Int) (kind i op : Int) (ok : Bool) : Runs (rowNote s xs kind i op ok) := by
  unfold rowNote; split
  · exact h.note _ _ _ _
  · exact h

/-- i steps have been gone through, and i stands at a run's head. -/
structure Gone (S : List Int) (i : Nat) (most : Int) : Prop where
  le : i ≤ S.length
  cut : ∀ j k, j < i → i ≤ k → k < S.length → S.getD j 0 ≠ S.getD k 0
  all : ∀ j, j < i → (S.count (S.getD j 0) : Int) ≤ most
  one : most = 0 ∨ ∃ j, j < i ∧ (S.count (S.getD j 0) : Int) = most
  pos : 0 ≤ most
  fit : most ≤ S.length
theorem Gone.zero (S : List Int) : Gone S 0 0 := ⟨Nat.zero_le _, fun j k h => by omega, fun j h => by omega, .inl rfl, Int.le_refl _, by omega⟩

theorem count_run {S : List Int} (hs : S.Pairwise (· ≤ ·)) {i k : Nat} (hi : i < k) (hk : k ≤ S.length) (cut : ∀ j k, j < i → i ≤ k → k < S.length → S.getD j 0 ≠ S.getD k 0)
    (run : ∀ j, i ≤ j → j < k → S.getD j 0 = S.getD i 0) (stop : k = S.length ∨ S.getD k 0 ≠ S.getD i 0) : S.count (S.getD i 0) = k - i := by
  have hg : ∀ j, j < S.length → S.getD j 0 = S[j]! := fun j hj => by simp [hj]
  have e : S = S.take i ++ ((S.drop i).take (k - i) ++ S.drop k) := by
    have h1 : S.drop k = (S.drop i).drop (k - i) := by rw [List.drop_drop]; congr 1; omega
    rw [h1, List.take_append_drop, List.take_append_drop]
  generalize ht : S.getD i 0 = t at *
  have c1 : (S.take i).count t = 0 := by
    rw [List.count_eq_zero]
    intro hm
    obtain ⟨j, hj, hje⟩ := List.getElem_of_mem hm
    have hj' : j < i := by simp at hj; omega
    have := cut j i hj' (Nat.le_refl _) (by omega)
    rw [ht] at this
    apply this
    rw [← hje]
    simp [show j < S.length by omega]
  have c2 : ((S.drop i).take (k - i)).count t = k - i := by
    have hl : ((S.drop i).take (k - i)).length = k - i := by simp; omega
    have : ((S.drop i).take (k - i)) = List.replicate (k - i) t := by
      apply List.ext_getElem
      · simp; omega
      · intro n h1 h2
        simp at h1
        have := run (i + n) (by omega) (by omega)
        simp [show i + n < S.length by omega] at this
        simp [this]
    rw [this]; simp
  have c3 : (S.drop k).count t = 0 := by
    rw [List.count_eq_zero]
    intro hm
    obtain ⟨j, hj, hje⟩ := List.getElem_of_mem hm
    simp at hj
    rcases stop with hstop | hstop
    · omega
    · have hp := List.pairwise_iff_getElem.1 hs
      have h1 : S.getD k 0 = S[k]'(by omega) := by simp [show k < S.length by omega]
      have h2 : t = S[i]'(by omega) := ht.symm.trans (by simp [show i < S.length by omega])
      have h3 : S[i]'(by omega) ≤ S[k]'(by omega) := hp i k (by omega) (by omega) hi
      have h4 : S[k]'(by omega) ≤ S[k + j]'(by omega) := by
        by_cases h0 : j = 0
        · subst h0; exact Int.le_refl _
        · exact hp k (k + j) (by omega) (by omega) (by omega)
      have h5 : S[k + j]'(by omega) = t := Eq.trans (by simp) hje
      rw [h1] at hstop
      omega
  rw [e, List.count_append, List.count_append, c1, c2, c3]; omega

theorem Gone.step {S : List Int} (hs : S.Pairwise (· ≤ ·)) {i k : Nat} {most : Int} (h : Gone S i most) (hi : i < k) (hk : k ≤ S.length)
    (run : ∀ j, i ≤ j → j < k → S.getD j 0 = S.getD i 0) (stop : k = S.length ∨ S.getD k 0 ≠ S.getD i 0) : Gone S k (max most ((k : Int) - i)) := by
  have hc := count_run hs hi hk h.cut run stop
  have hp := List.pairwise_iff_getElem.1 hs
  refine ⟨hk, ?_, ?_, ?_, by have := h.pos; omega, by have := h.fit; omega⟩
  · intro a b ha hb hb2
    by_cases hai : a < i
    · exact h.cut a b hai (by omega) hb2
    · rw [run a (by omega) ha]
      rcases stop with hstop | hstop
      · omega
      · have h1 : S.getD k 0 = S[k]'(by omega) := by simp [show k < S.length by omega]
        have h2 : S.getD i 0 = S[i]'(by omega) := by simp [show i < S.length by omega]
        have h6 : S.getD b 0 = S[b]'(by omega) := by simp [hb2]
        have h3 : S[i]'(by omega) ≤ S[k]'(by omega) := hp i k (by omega) (by omega) hi
        have h4 : S[k]'(by omega) ≤ S[b]'(by omega) := by
          by_cases h0 : k = b
          · subst h0; exact Int.le_refl _
          · exact hp k b (by omega) (by omega) (by omega)
        rw [h2, h6]
        rw [h1, h2] at hstop
        omega
  · intro j hj
    by_cases hji : j < i
    · have := h.all j hji; omega
    · rw [run j (by omega) hj, hc]; omega
  · by_cases hm : most ≤ (k : Int) - i
    · exact .inr ⟨i, hi, by rw [hc]; omega⟩
    · rcases h.one with h1 | ⟨j, hj, he⟩
      · omega
      · exact .inr ⟨j, by omega, by rw [he]; omega⟩

theorem Gone.last {s : Mt} {most : Int} (hr : Runs s) (h : Gone (steps s.l) (steps s.l).length most) : s.mo = most := by
  have hin : ∀ t ∈ steps s.l, ((steps s.l).count t : Int) ≤ most := by
    intro t ht
    obtain ⟨j, hj, hje⟩ := List.getElem_of_mem ht
    have := h.all j hj
    simp only [List.getD_eq_getElem?_getD, List.getElem?_eq_getElem hj, Option.getD_some, hje] at this
    exact this
  have h0 : 0 ≤ s.mo := by have := hr.all 0; omega
  have := h.pos
  rcases hr.one with h1 | ⟨t, ht, he⟩
  · rcases h.one with h2 | ⟨j, hj, he⟩
    · omega
    · have := hr.all ((steps s.l).getD j 0); omega
  · have := hin t ht
    rcases h.one with h2 | ⟨j, hj, he2⟩
    · omega
    · have := hr.all ((steps s.l).getD j 0); omega
end Go.Proofs.Ytebhjfoggogmaaa
