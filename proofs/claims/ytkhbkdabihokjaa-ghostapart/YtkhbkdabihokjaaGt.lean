/- What follows of stories put together, as plain data: one thread's events alone, and those that are no EventSlots. -/
import Derived.Test.YtkhbkdabihokjaaGs
namespace Go.Proofs.Ytkhbkdabihokjaa
open Go.RowKit
set_option linter.unusedVariables false
set_option linter.unusedSimpArgs false

section
variable {α : Type} (f : α → Bool)
theorem filter_set_yes : ∀ (l : List α) (p : Nat) (s s' : α), l[p]? = some s → f s = true → f s' = true → (l.set p s').filter f = (l.filter f).set ((l.take p).filter f).length s'
  | [], p, s, s', h, _, _ => by simp at h
  | a :: l, 0, s, s', h, h1, h2 => by
    simp only [List.getElem?_cons_zero, Option.some.injEq] at h
    subst h
    simp [List.filter_cons, h1, h2]
  | a :: l, p + 1, s, s', h, h1, h2 => by
    have ih := filter_set_yes l p s s' (by simpa using h) h1 h2
    rw [List.set_cons_succ, List.take_succ_cons, List.filter_cons, List.filter_cons, List.filter_cons]
    split
    · rw [ih, List.length_cons, List.set_cons_succ]
    · exact ih
theorem filter_set_no : ∀ (l : List α) (p : Nat) (s s' : α), l[p]? = some s → f s = false → f s' = false → (l.set p s').filter f = l.filter f
  | [], p, s, s', h, _, _ => by simp at h
  | a :: l, 0, s, s', h, h1, h2 => by
    simp only [List.getElem?_cons_zero, Option.some.injEq] at h
    subst h
    simp [List.filter_cons, h1, h2]
  | a :: l, p + 1, s, s', h, h1, h2 => by
    have ih := filter_set_no l p s s' (by simpa using h) h1 h2
    rw [List.set_cons_succ, List.filter_cons, List.filter_cons, ih]
theorem filter_get : ∀ (l : List α) (p : Nat) (s : α), l[p]? = some s → f s = true → (l.filter f)[((l.take p).filter f).length]? = some s
  | [], p, s, h, _ => by simp at h
  | a :: l, 0, s, h, h1 => by
    simp only [List.getElem?_cons_zero, Option.some.injEq] at h
    subst h
    simp [List.filter_cons, h1]
  | a :: l, p + 1, s, h, h1 => by
    have ih := filter_get l p s (by simpa using h) h1
    rw [List.take_succ_cons, List.filter_cons, List.filter_cons]
    split
    · rw [List.length_cons, List.getElem?_cons_succ]; exact ih
    · exact ih
theorem rank_set : ∀ (l : List α) (p q : Nat) (s s' : α), l[q]? = some s → f s' = f s → (((l.set q s').take p).filter f).length = ((l.take p).filter f).length
  | [], p, q, s, s', h, _ => by simp at h
  | a :: l, 0, q, s, s', h, _ => by simp
  | a :: l, p + 1, 0, s, s', h, h1 => by
    simp only [List.getElem?_cons_zero, Option.some.injEq] at h
    subst h
    rw [List.set_cons_zero, List.take_succ_cons, List.take_succ_cons, List.filter_cons, List.filter_cons, h1]
    split <;> simp
  | a :: l, p + 1, q + 1, s, s', h, h1 => by
    have ih := rank_set l p q s s' (by simpa using h) h1
    rw [List.set_cons_succ, List.take_succ_cons, List.take_succ_cons, List.filter_cons, List.filter_cons]
    split
    · rw [List.length_cons, List.length_cons, ih]
    · exact ih
end
def ofT (t : Int) (s : Sy) : Bool := s.th == t
def evT (t : Int) (v : Ev) : Bool := v.th == t
def evQ (v : Ev) : Bool := !(v.kd == 6)
/-- What one thread's own events make, beside what all make. -/
structure Mine (t : Int) (b b' : Bk) : Prop where
  ss : b'.ss = b.ss.filter (ofT t)
  oth : ∀ x, x ≠ t → b'.op x = none
  non : b.op t = none → b'.op t = none
  som : ∀ p, b.op t = some p → b'.op t = some ((b.ss.take p).filter (ofT t)).length
  st : b'.st ≤ b.st
  own : ∀ x p s, b.op x = some p → b.ss[p]? = some s → s.th = x
theorem moved_th (s : Sy) (v : Ev) : (s.moved v).th = s.th := rfl
theorem ended_th (s : Sy) (v : Ev) : (s.ended v).th = s.th := by unfold Sy.ended; split <;> rfl
theorem getD_of {l : List Sy} {p : Nat} {s : Sy} (h : l[p]? = some s) : l.getD p Sy.zero = s := by rw [List.getD_eq_getElem?_getD, h]; rfl
/-- Whatever becomes of the open story of v's thread. -/
theorem own_setS {b : Bk} {i p : Nat} {v : Ev} {s' : Sy} {op : Int → Option Nat} (h : b.ok i) (ho : b.op v.th = some p) (own : ∀ x p s, b.op x = some p → b.ss[p]? = some s → s.th = x) (hth : s'.th = v.th) (hop : ∀ x q, op x = some q → b.op x = some q) : ∀ x q s, op x = some q → (b.ss.set p s')[q]? = some s → s.th = x := by
  intro x q s hx hs
  by_cases e : p = q
  · subst e
    rw [List.getElem?_set_self (h.place _ _ ho).1] at hs
    cases hs
    rw [hth]
    exact h.apart _ _ _ ho (hop _ _ hx)
  · rw [List.getElem?_set_ne e] at hs
    exact own x q s (hop _ _ hx) hs
theorem opSet_none {op : Int → Option Nat} {y : Int} : ∀ x q, opSet op y none x = some q → op x = some q := by
  intro x q h
  simp only [opSet] at h
  split at h
  · cases h
  · exact h
/-- What an event that is taken does, by its kind. -/
theorem put_ways {b : Bk} {i : Nat} {v : Ev} (h : b.ok i) (ht : b.takes v = true) :
    (v.kd = 1 ∧ b.op v.th = none ∧ b.put v = ⟨b.ss ++ [v.opens], opSet b.op v.th (some b.ss.length), v.st⟩) ∨
    (v.kd = 6 ∧ b.op v.th = none ∧ b.put v = { b with st := v.st }) ∨
    (v.kd ≠ 6 ∧ v.first = false ∧ ∃ p s s' op', b.op v.th = some p ∧ b.ss[p]? = some s ∧ s.sp = v.sp ∧ s'.th = s.th ∧ b.put v = ⟨b.ss.set p s', op', v.st⟩ ∧ (op' = b.op ∨ op' = opSet b.op v.th none) ∧ (∀ c : Bk, c.op v.th ≠ none → ∀ q, c.op v.th = some q → c.ss.getD q Sy.zero = s → c.put v = ⟨c.ss.set q s', if op' v.th = none then opSet c.op v.th none else c.op, v.st⟩) ∧ (op' v.th = none ↔ ¬ (v.kd = 2 ∨ v.kd = 3)) ∧ (op' = if v.kd = 2 ∨ v.kd = 3 then b.op else opSet b.op v.th none)) := by
  obtain ⟨hm, _, hg⟩ := takes_parts ht
  by_cases h1 : v.kd = 1
  · left
    have hf : v.first = true := first_iff.2 (.inl h1)
    unfold Bk.goes at hg
    cases ho : b.op v.th with
    | some p => rw [ho] at hg; simp [hf] at hg
    | none => exact ⟨h1, rfl, by unfold Bk.put; rw [if_pos h1]⟩
  · right
    cases ho : b.op v.th with
    | none =>
      left
      unfold Bk.goes at hg
      rw [ho] at hg
      refine ⟨?_, rfl, by unfold Bk.put; rw [if_neg h1, ho]⟩
      rcases first_iff.1 hg with e | e
      · exact absurd e h1
      · exact e
    | some p =>
      right
      unfold Bk.goes at hg
      rw [ho] at hg
      simp only [Bool.and_eq_true, Bool.not_eq_true', beq_iff_eq] at hg
      have hp := (h.place _ _ ho).1
      have hs := getD_some hp
      have h6 : v.kd ≠ 6 := fun e => by have := first_iff.2 (.inr e : v.kd = 1 ∨ v.kd = 6); rw [hg.1] at this; cases this
      by_cases h2 : v.kd = 2 ∨ v.kd = 3
      · refine ⟨h6, hg.1, p, _, (b.ss.getD p Sy.zero).moved v, b.op, rfl, hs, hg.2, rfl, ?_, .inl rfl, ?_, ?_, ?_⟩
        · unfold Bk.put; rw [if_neg h1, ho]; simp only; rw [if_pos h2]
        · intro c _ q hq hcs
          unfold Bk.put; rw [if_neg h1, hq]; simp only; rw [if_pos h2, hcs, if_neg (by rw [ho]; simp)]
        · rw [ho]; simp [h2]
        · rw [if_pos h2]
      · refine ⟨h6, hg.1, p, _, (b.ss.getD p Sy.zero).ended v, opSet b.op v.th none, rfl, hs, hg.2, ended_th _ _, ?_, .inr rfl, ?_, ?_, ?_⟩
        · unfold Bk.put; rw [if_neg h1, ho]; simp only; rw [if_neg h2]
        · intro c _ q hq hcs
          unfold Bk.put; rw [if_neg h1, hq]; simp only; rw [if_neg h2, hcs, if_pos (by simp [opSet])]
        · simp [opSet, h2]
        · rw [if_neg h2]
/-- Another thread's event. -/
theorem Mine.other {t : Int} {b b' : Bk} {i : Nat} {v : Ev} (m : Mine t b b') (h : b.ok i) (ht : b.takes v = true) (hn : v.th ≠ t) : Mine t (b.put v) b' := by
  have hst : b'.st ≤ v.st := by have := (takes_parts ht).2.1; have := m.st; omega
  rcases put_ways h ht with ⟨_, ho, e⟩ | ⟨_, ho, e⟩ | ⟨_, _, p, s, s', op', ho, hs, _, hth, e, hop, _, _, _⟩
  · rw [e]
    refine ⟨?_, m.oth, ?_, ?_, hst, ?_⟩
    · rw [List.filter_append, ← m.ss]
      simp [ofT, Ev.opens, hn]
    · intro hx; simp only [opSet, if_neg (Ne.symm hn)] at hx; exact m.non hx
    · intro p hx
      simp only [opSet, if_neg (Ne.symm hn)] at hx
      rw [List.take_append_of_le_length (Nat.le_of_lt (h.place _ _ hx).1)]
      exact m.som p hx
    · intro x p s hx hs
      simp only [opSet] at hx
      split at hx
      · rename_i e1
        simp only [Option.some.injEq] at hx
        subst hx
        simp only [List.getElem?_concat_length, Option.some.injEq] at hs
        subst hs
        exact e1.symm
      · rw [List.getElem?_append_left (h.place _ _ hx).1] at hs
        exact m.own x p s hx hs
  · rw [e]
    exact ⟨m.ss, m.oth, m.non, m.som, hst, m.own⟩
  · rw [e]
    have hsv : s.th = v.th := m.own _ _ _ ho hs
    have hopx : ∀ x q, op' x = some q → b.op x = some q := by
      rcases hop with rfl | rfl
      · exact fun _ _ h => h
      · exact opSet_none
    have hopt : op' t = b.op t := by
      rcases hop with rfl | rfl
      · rfl
      · simp [opSet, Ne.symm hn]
    refine ⟨?_, m.oth, ?_, ?_, hst, own_setS h ho m.own (hth.trans hsv) hopx⟩
    · show _ = (b.ss.set p s').filter _
      rw [filter_set_no (ofT t) _ p s s' hs (by simp [ofT, hsv, hn]) (by simp [ofT, hth, hsv, hn])]
      exact m.ss
    · intro hx; change op' t = none at hx; rw [hopt] at hx; exact m.non hx
    · intro q hx
      change op' t = some q at hx
      rw [hopt] at hx
      show _ = some (((b.ss.set p s').take q).filter _).length
      rw [rank_set (ofT t) _ q p s s' hs (by simp [ofT, hth])]
      exact m.som q hx
/-- The thread's own event. -/
theorem Mine.own_ {t : Int} {b b' : Bk} {i : Nat} {v : Ev} (m : Mine t b b') (h : b.ok i) (ht : b.takes v = true) (hn : v.th = t) : b'.takes v = true ∧ Mine t (b.put v) (b'.put v) := by
  obtain ⟨hm, hv, hg⟩ := takes_parts ht
  have hst : ¬ v.st < b'.st := by have := m.st; omega
  have tk : b'.goes v = true → b'.takes v = true := fun hg' => by simp [Bk.takes, hm, hg', hst]
  subst hn
  rcases put_ways h ht with ⟨hk, ho, e⟩ | ⟨hk, ho, e⟩ | ⟨_, hf, p, s, s', op', ho, hs, hsp, hth, e, hop, hc, hn1, hop2⟩
  · have ho' := m.non ho
    have hf : v.first = true := first_iff.2 (.inl hk)
    refine ⟨tk (by unfold Bk.goes; rw [ho']; exact hf), ?_⟩
    rw [e, show b'.put v = ⟨b'.ss ++ [v.opens], opSet b'.op v.th (some b'.ss.length), v.st⟩ by unfold Bk.put; rw [if_pos hk]]
    refine ⟨?_, ?_, ?_, ?_, Int.le_refl _, ?_⟩
    · show _ = (b.ss ++ [v.opens]).filter _
      rw [List.filter_append, ← m.ss]
      simp [ofT, Ev.opens]
    · intro x hx; simp only [opSet, if_neg hx]; exact m.oth x hx
    · intro hx; simp [opSet] at hx
    · intro p hp
      simp only [opSet, if_true, Option.some.injEq] at hp ⊢
      subst hp
      rw [List.take_left', m.ss]
      rfl
    · intro x p s hx hs
      simp only [opSet] at hx
      split at hx
      · rename_i e1
        simp only [Option.some.injEq] at hx
        subst hx
        simp only [List.getElem?_concat_length, Option.some.injEq] at hs
        subst hs
        exact e1.symm
      · rw [List.getElem?_append_left (h.place _ _ hx).1] at hs
        exact m.own x p s hx hs
  · have ho' := m.non ho
    have hf : v.first = true := first_iff.2 (.inr hk)
    refine ⟨tk (by unfold Bk.goes; rw [ho']; exact hf), ?_⟩
    rw [e, show b'.put v = { b' with st := v.st } by unfold Bk.put; rw [if_neg (by omega), ho']]
    exact ⟨m.ss, m.oth, m.non, m.som, Int.le_refl _, m.own⟩
  · have hsv : s.th = v.th := m.own _ _ _ ho hs
    have ho' := m.som p ho
    have hget := filter_get (ofT v.th) b.ss p s hs (by simp [ofT, hsv])
    rw [← m.ss] at hget
    have hgd := getD_of hget
    refine ⟨tk (by unfold Bk.goes; rw [ho']; simp only; rw [hgd, hf, hsp]; simp), ?_⟩
    rw [e, hc b' (by rw [ho']; simp) _ ho' hgd]
    have hopx : ∀ x q, op' x = some q → b.op x = some q := by
      rcases hop with rfl | rfl
      · exact fun _ _ h => h
      · exact opSet_none
    refine ⟨?_, ?_, ?_, ?_, Int.le_refl _, own_setS h ho m.own (hth.trans hsv) hopx⟩
    · show b'.ss.set _ s' = (b.ss.set p s').filter _
      rw [filter_set_yes (ofT v.th) _ p s s' hs (by simp [ofT, hsv]) (by simp [ofT, hth, hsv]), m.ss]
    · intro x hx
      show (if op' v.th = none then opSet b'.op v.th none else b'.op) x = none
      split
      · simp only [opSet, if_neg hx]; exact m.oth x hx
      · exact m.oth x hx
    · intro hx
      show (if op' v.th = none then opSet b'.op v.th none else b'.op) v.th = none
      rw [if_pos hx]
      simp [opSet]
    · intro q hx
      change op' v.th = some q at hx
      have e2 := hopx _ _ hx
      rw [ho] at e2
      simp only [Option.some.injEq] at e2
      subst e2
      show (if op' v.th = none then opSet b'.op v.th none else b'.op) v.th = some (((b.ss.set p s').take p).filter _).length
      rw [if_neg (by rw [hx]; simp), rank_set (ofT v.th) _ p p s s' hs (by simp [ofT, hth])]
      exact ho'
theorem run_mine (t : Int) : ∀ (l : List Ev) (b b' : Bk) (i j k : Nat), b.ok k → Mine t b b' → (runB b l i).2 = none → (runB b' (l.filter (evT t)) j).2 = none ∧ Mine t (runB b l i).1 (runB b' (l.filter (evT t)) j).1
  | [], b, b', i, j, k, _, m, _ => ⟨rfl, m⟩
  | v :: l, b, b', i, j, k, h, m, hn => by
    rw [runB] at hn ⊢
    by_cases ht : b.takes v = true
    · rw [if_pos ht] at hn ⊢
      by_cases e : v.th = t
      · obtain ⟨h1, h2⟩ := m.own_ h ht e
        rw [List.filter_cons, if_pos (by simp [evT, e]), runB, if_pos h1]
        exact run_mine t l _ _ _ _ _ (Bk.ok_put h ht) h2 hn
      · rw [List.filter_cons, if_neg (by simp [evT, e])]
        exact run_mine t l _ _ _ _ _ (Bk.ok_put h ht) (m.other h ht e) hn
    · rw [if_neg ht] at hn
      cases hn
/-- Without EventSlots. -/
structure Quiet (b b' : Bk) : Prop where
  ss : b'.ss = b.ss
  op : b'.op = b.op
  st : b'.st ≤ b.st
theorem run_quiet : ∀ (l : List Ev) (b b' : Bk) (i j k : Nat), b.ok k → Quiet b b' → (runB b l i).2 = none → (runB b' (l.filter evQ) j).2 = none ∧ Quiet (runB b l i).1 (runB b' (l.filter evQ) j).1
  | [], b, b', i, j, k, _, m, _ => ⟨rfl, m⟩
  | v :: l, b, b', i, j, k, h, m, hn => by
    rw [runB] at hn ⊢
    by_cases ht : b.takes v = true
    · rw [if_pos ht] at hn ⊢
      obtain ⟨hm, hv, hg⟩ := takes_parts ht
      have hst : ¬ v.st < b'.st := by have := m.st; omega
      by_cases e : v.kd = 6
      · rw [List.filter_cons, if_neg (by simp [evQ, e])]
        refine run_quiet l _ _ _ _ _ (Bk.ok_put h ht) ?_ hn
        rcases put_ways h ht with ⟨hk, _⟩ | ⟨_, _, e2⟩ | ⟨h6, _⟩
        · omega
        · rw [e2]; exact ⟨m.ss, m.op, by show b'.st ≤ v.st; omega⟩
        · exact absurd e h6
      · have h1 : b'.takes v = true := by
          have : b'.goes v = true := by unfold Bk.goes at hg ⊢; rw [m.op, m.ss]; exact hg
          simp [Bk.takes, hm, this, hst]
        rw [List.filter_cons, if_pos (by simp [evQ, e]), runB, if_pos h1]
        refine run_quiet l _ _ _ _ _ (Bk.ok_put h ht) ?_ hn
        have e2 : (b'.put v).ss = (b.put v).ss ∧ (b'.put v).op = (b.put v).op ∧ (b'.put v).st = v.st ∧ (b.put v).st = v.st := by
          unfold Bk.put
          rw [m.op, m.ss]
          split
          · exact ⟨rfl, rfl, rfl, rfl⟩
          · split
            · exact ⟨rfl, rfl, rfl, rfl⟩
            · split
              · exact ⟨rfl, rfl, rfl, rfl⟩
              · exact ⟨rfl, rfl, rfl, rfl⟩
        exact ⟨e2.1, e2.2.1, by rw [e2.2.2.1, e2.2.2.2]; exact Int.le_refl _⟩
    · rw [if_neg ht] at hn
      cases hn
theorem out_mine (l : List Ev) (t : Int) (h : (outR l).2 = none) : (outR (l.filter (evT t))).2 = none ∧ outS (l.filter (evT t)) = (outS l).filter (ofT t) := by
  have m0 : Mine t Bk.zero Bk.zero := ⟨rfl, fun _ _ => rfl, fun _ => rfl, fun p h => by simp [Bk.zero] at h, Int.le_refl _, fun x p s h => by simp [Bk.zero] at h⟩
  obtain ⟨h1, h2⟩ := run_mine t l Bk.zero Bk.zero 0 0 0 Bk.ok_zero m0 h
  change (outR (l.filter (evT t))).2 = none at h1
  refine ⟨h1, ?_⟩
  unfold outS
  rw [h, h1]
  exact h2.ss
theorem out_quiet (l : List Ev) (h : (outR l).2 = none) : (outR (l.filter evQ)).2 = none ∧ outS (l.filter evQ) = outS l := by
  obtain ⟨h1, h2⟩ := run_quiet l Bk.zero Bk.zero 0 0 0 Bk.ok_zero ⟨rfl, rfl, Int.le_refl _⟩ h
  change (outR (l.filter evQ)).2 = none at h1
  refine ⟨h1, ?_⟩
  unfold outS
  rw [h, h1]
  exact h2.ss
end Go.Proofs.Ytkhbkdabihokjaa
