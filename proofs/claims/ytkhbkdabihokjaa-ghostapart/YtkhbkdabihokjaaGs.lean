/- What follows of stories put together, as plain data: beginnings. -/
import Derived.Test.YtkhbkdabihokjaaGm
namespace Go.Proofs.Ytkhbkdabihokjaa
open Go.RowKit
set_option linter.unusedVariables false
set_option linter.unusedSimpArgs false

/-- Who is open lives; who lives has no end. -/
structure Bk.live (b : Bk) : Prop where
  opn : ∀ x p s, b.op x = some p → b.ss[p]? = some s → s.ft = 0
  fate : ∀ s ∈ b.ss, s.ft = 0 → s.en = 0 ∧ s.ga = 0 ∧ s.e = 0 ∧ s.by_ = 0
/-- A story as far as it had come. -/
structure Wi (a b : Sy) : Prop where
  th : a.th = b.th
  sp : a.sp = b.sp
  bg : a.bg = b.bg
  op : a.op = b.op
  ms : ∃ r, b.ms = a.ms ++ r
  lives : a.ft = 0 → a.en = 0 ∧ a.ga = 0 ∧ a.e = 0 ∧ a.by_ = 0
  ends : a.ft ≠ 0 → b = a
theorem Wi.refl {a : Sy} (h : a.ft = 0 → a.en = 0 ∧ a.ga = 0 ∧ a.e = 0 ∧ a.by_ = 0) : Wi a a := ⟨rfl, rfl, rfl, rfl, ⟨[], (List.append_nil _).symm⟩, h, fun _ => rfl⟩
theorem Wi.trans {a b c : Sy} (h : Wi a b) (k : Wi b c) : Wi a c := by
  refine ⟨h.th.trans k.th, h.sp.trans k.sp, h.bg.trans k.bg, h.op.trans k.op, ?_, h.lives, fun hf => ?_⟩
  · obtain ⟨r, hr⟩ := h.ms
    obtain ⟨q, hq⟩ := k.ms
    exact ⟨r ++ q, by rw [hq, hr, List.append_assoc]⟩
  · have e := h.ends hf
    subst e
    exact k.ends hf
def Grows (A B : List Sy) : Prop := ∀ (i : Nat) (a : Sy), A[i]? = some a → ∃ b, B[i]? = some b ∧ Wi a b
theorem Grows.trans {A B C : List Sy} (h : Grows A B) (k : Grows B C) : Grows A C := fun i a ha => by
  obtain ⟨b, hb, h1⟩ := h i a ha
  obtain ⟨c, hc, h2⟩ := k i b hb
  exact ⟨c, hc, h1.trans h2⟩
theorem Grows.refl {b : Bk} (h : b.live) : Grows b.ss b.ss := fun i a ha => ⟨a, ha, Wi.refl (h.fate a (List.mem_of_getElem? ha))⟩
theorem Grows.len {A B : List Sy} (h : Grows A B) : A.length ≤ B.length := by
  rcases Nat.eq_zero_or_pos A.length with h0 | h0
  · omega
  · obtain ⟨a, ha⟩ : ∃ a, A[A.length - 1]? = some a := ⟨_, List.getElem?_eq_getElem (by omega)⟩
    obtain ⟨b, hb, _⟩ := h _ _ ha
    have := (List.getElem?_eq_some_iff.1 hb).1
    omega
theorem grows_set {b : Bk} (h : b.live) {p : Nat} {s s' : Sy} (hs : b.ss[p]? = some s) (hw : Wi s s') : Grows b.ss (b.ss.set p s') := by
  intro i a ha
  have hi := (List.getElem?_eq_some_iff.1 ha).1
  by_cases e : p = i
  · subst e
    rw [hs] at ha
    cases ha
    exact ⟨s', by rw [List.getElem?_set_self hi], hw⟩
  · exact ⟨a, by rw [List.getElem?_set_ne e]; exact ha, Wi.refl (h.fate a (List.mem_of_getElem? ha))⟩
theorem getD_some {b : Bk} {p : Nat} (hp : p < b.ss.length) : b.ss[p]? = some (b.ss.getD p Sy.zero) := by
  rw [List.getD_eq_getElem?_getD, List.getElem?_eq_getElem hp]
  rfl
theorem Bk.live_zero : Bk.zero.live := ⟨fun x p s h => by simp [Bk.zero] at h, fun s h => by simp [Bk.zero] at h⟩
/-- One event that is taken. -/
theorem put_grows {b : Bk} {i : Nat} {v : Ev} (h : b.ok i) (hl : b.live) (ht : b.takes v = true) : (b.put v).live ∧ Grows b.ss (b.put v).ss := by
  obtain ⟨hm, _, hg⟩ := takes_parts ht
  obtain ⟨k1, k2, t1, t2, _, _⟩ := may_parts hm
  unfold Bk.put
  by_cases h1 : v.kd = 1
  · rw [if_pos h1]
    refine ⟨⟨fun x p s hx hs => ?_, fun s hs => ?_⟩, fun j a ha => ⟨a, ?_, Wi.refl (hl.fate a (List.mem_of_getElem? ha))⟩⟩
    · simp only [opSet] at hx
      split at hx
      · simp only [Option.some.injEq] at hx
        subst hx
        simp only [List.getElem?_concat_length, Option.some.injEq] at hs
        subst hs
        rfl
      · have hp := (h.place x p hx).1
        rw [List.getElem?_append_left hp] at hs
        exact hl.opn x p s hx hs
    · rcases List.mem_append.1 hs with hs | hs
      · exact hl.fate s hs
      · rw [List.mem_singleton.1 hs]; intro _; exact ⟨rfl, rfl, rfl, rfl⟩
    · rw [List.getElem?_append_left (List.getElem?_eq_some_iff.1 ha).1]; exact ha
  · rw [if_neg h1]
    cases ho : b.op v.th with
    | none => exact ⟨⟨hl.opn, hl.fate⟩, Grows.refl hl⟩
    | some p =>
      have hp := (h.place _ _ ho).1
      have hs := getD_some hp
      simp only
      generalize b.ss.getD p Sy.zero = s at hs ⊢
      have hf := hl.opn _ _ _ ho hs
      have hf4 := hl.fate s (List.mem_of_getElem? hs) hf
      by_cases h2 : v.kd = 2 ∨ v.kd = 3
      · rw [if_pos h2]
        have hw : Wi s (s.moved v) := ⟨rfl, rfl, rfl, rfl, ⟨[v.move], rfl⟩, fun _ => hf4, fun hn => absurd hf hn⟩
        refine ⟨⟨fun x q s' hx hs' => ?_, fun s' hs' => ?_⟩, grows_set hl hs hw⟩
        · by_cases e : p = q
          · subst e
            rw [List.getElem?_set_self hp] at hs'
            cases hs'
            exact hf
          · simp only [List.getElem?_set_ne e] at hs'
            exact hl.opn x q s' hx hs'
        · rcases mem_set_or hs' with hs' | hs'
          · exact hl.fate s' hs'
          · rw [hs']; intro _; exact hf4
      · rw [if_neg h2]
        have hft : (s.ended v).ft ≠ 0 := by unfold Sy.ended; split <;> simp
        have hw : Wi s (s.ended v) := by
          unfold Sy.ended
          split
          · exact ⟨rfl, rfl, rfl, rfl, ⟨[], (List.append_nil _).symm⟩, fun _ => hf4, fun hn => absurd hf hn⟩
          · exact ⟨rfl, rfl, rfl, rfl, ⟨[], (List.append_nil _).symm⟩, fun _ => hf4, fun hn => absurd hf hn⟩
        refine ⟨⟨fun x q s' hx hs' => ?_, fun s' hs' => ?_⟩, grows_set hl hs hw⟩
        · simp only [opSet] at hx
          split at hx
          · cases hx
          · rename_i hne
            by_cases e : p = q
            · subst e
              exact absurd (h.apart x v.th p hx ho) hne
            · simp only [List.getElem?_set_ne e] at hs'
              exact hl.opn x q s' hx hs'
        · rcases mem_set_or hs' with hs' | hs'
          · exact hl.fate s' hs'
          · rw [hs']; intro hn; exact absurd hn hft
theorem runB_append : ∀ (l r : List Ev) (b : Bk) (i : Nat), runB b (l ++ r) i = match (runB b l i).2 with | none => runB (runB b l i).1 r (i + l.length) | some j => ((runB b l i).1, some j)
  | [], r, b, i => rfl
  | v :: l, r, b, i => by
    rw [List.cons_append, runB, runB]
    by_cases h : b.takes v = true
    · rw [if_pos h, if_pos h, runB_append l r _ _, List.length_cons, show i + 1 + l.length = i + (l.length + 1) by omega]
    · rw [if_neg h, if_neg h]
theorem runB_place : ∀ (l : List Ev) (b : Bk) (i j : Nat), (runB b l i).2 = some j → i ≤ j ∧ j < i + l.length
  | [], b, i, j, h => by simp [runB] at h
  | v :: l, b, i, j, h => by
    rw [runB] at h
    by_cases ht : b.takes v = true
    · rw [if_pos ht] at h
      have := runB_place l _ _ _ h
      rw [List.length_cons]
      omega
    · rw [if_neg ht] at h
      simp only [Option.some.injEq] at h
      rw [List.length_cons]
      omega
theorem runB_grows : ∀ (l : List Ev) (b : Bk) (i j : Nat), b.ok j → b.live → (runB b l i).2 = none → (runB b l i).1.live ∧ (runB b l i).1.ok (j + l.length) ∧ Grows b.ss (runB b l i).1.ss
  | [], b, i, j, h, hl, _ => ⟨hl, h, Grows.refl hl⟩
  | v :: l, b, i, j, h, hl, hn => by
    rw [runB] at hn ⊢
    by_cases ht : b.takes v = true
    · rw [if_pos ht] at hn ⊢
      obtain ⟨h1, h2⟩ := put_grows h hl ht
      obtain ⟨a, b', c⟩ := runB_grows l _ _ _ (Bk.ok_put h ht) h1 hn
      exact ⟨a, by rw [List.length_cons, show j + (l.length + 1) = j + 1 + l.length by omega]; exact b', h2.trans c⟩
    · rw [if_neg ht] at hn
      cases hn
/-- A beginning of events. -/
theorem out_cut (l : List Ev) (k : Nat) (hk : k ≤ l.length) :
    (∀ j, (outR l).2 = some j → j < k → (outR (l.take k)).2 = some j) ∧
    (∀ j, (outR l).2 = some j → k ≤ j → (outR (l.take k)).2 = none ∧ j < l.length) ∧
    ((outR l).2 = none → (outR (l.take k)).2 = none ∧ Grows (outS (l.take k)) (outS l)) := by
  have e := runB_append (l.take k) (l.drop k) Bk.zero 0
  rw [List.take_append_drop, List.length_take, Nat.min_eq_left hk, Nat.zero_add] at e
  have hz : outR l = match (outR (l.take k)).2 with | none => runB (outR (l.take k)).1 (l.drop k) k | some j => ((outR (l.take k)).1, some j) := e
  have hp := runB_place (l.take k) Bk.zero 0
  have hg := runB_grows (l.take k) Bk.zero 0 0 Bk.ok_zero Bk.live_zero
  change ∀ j, (outR (l.take k)).2 = some j → _ at hp
  change (outR (l.take k)).2 = none → (outR (l.take k)).1.live ∧ (outR (l.take k)).1.ok _ ∧ _ at hg
  have hlt := runB_place l Bk.zero 0
  change ∀ j, (outR l).2 = some j → _ at hlt
  rw [List.length_take, Nat.min_eq_left hk] at hp
  cases hc : (outR (l.take k)).2 with
  | none =>
    rw [hc] at hz
    simp only at hz
    refine ⟨fun j hj hjk => ?_, fun j hj _ => ⟨rfl, by have := hlt j hj; omega⟩, fun hn => ⟨rfl, ?_⟩⟩
    · have := runB_place (l.drop k) (outR (l.take k)).1 k j (by rw [← hz]; exact hj)
      omega
    · obtain ⟨h1, h2, _⟩ := hg hc
      have h3 := (runB_grows (l.drop k) _ k _ h2 h1 (by rw [← hz]; exact hn)).2.2
      unfold outS
      rw [hc, hn]
      simp only
      rw [hz]
      exact h3
  | some j =>
    rw [hc] at hz
    simp only at hz
    have h2 : (outR l).2 = some j := by rw [hz]
    have := hp j hc
    refine ⟨fun i hi _ => by rw [h2] at hi; rw [hi], fun i hi hki => ?_, fun hn => by rw [h2] at hn; cases hn⟩
    rw [h2] at hi
    cases hi
    omega
end Go.Proofs.Ytkhbkdabihokjaa
