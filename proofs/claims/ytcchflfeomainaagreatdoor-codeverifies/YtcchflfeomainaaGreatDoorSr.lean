/- What a search finds: Verify's walk finds just what can be reached. No program is named here. -/
import Derived.Test.YtcchflfeomainaaGreatDoorVfM
namespace Go.Proofs.YtcchflfeomainaaGreatDoor
open Go.RowKit
set_option linter.unusedVariables false
set_option linter.unusedSimpArgs false

/-- The spots behind one. -/
def nextS (L : List Ins) (x : Spt) : List Spt :=
  if amissM (rowOf (L.getD x.p Ins.zero).op) x.s = 0 then
    (if (L.getD x.p Ins.zero).op = 22 then []
     else if (L.getD x.p Ins.zero).op = 14 ∨ (L.getD x.p Ins.zero).op = 20 then [⟨(L.getD x.p Ins.zero).a.toNat, behindM (L.getD x.p Ins.zero).op (rowOf (L.getD x.p Ins.zero).op) x.s⟩]
     else if (L.getD x.p Ins.zero).op = 15 then [⟨x.p + 1, behindM (L.getD x.p Ins.zero).op (rowOf (L.getD x.p Ins.zero).op) x.s⟩, ⟨(L.getD x.p Ins.zero).a.toNat, behindM (L.getD x.p Ins.zero).op (rowOf (L.getD x.p Ins.zero).op) x.s⟩]
     else [⟨x.p + 1, behindM (L.getD x.p Ins.zero).op (rowOf (L.getD x.p Ins.zero).op) x.s⟩])
  else []
def amissS (L : List Ins) (x : Spt) : Int := amissM (rowOf (L.getD x.p Ins.zero).op) x.s
inductive Rch (L : List Ins) : Spt → Prop
  | zero : Rch L Spt.zero
  | step {x y : Spt} : Rch L x → y ∈ nextS L x → Rch L y
def Fine (n : Nat) (x : Spt) : Prop := x.p < n ∧ x.s.ok ∧ (x.s.i = false → x.s.b = 0)
theorem num_inj {s t : Sst} (hs : s.ok) (ht : t.ok) (h1 : s.i = false → s.b = 0) (h2 : t.i = false → t.b = 0) (h : s.num = t.num) : s = t := by
  obtain ⟨d, i, b⟩ := s
  obtain ⟨d', i', b'⟩ := t
  obtain ⟨hs1, hs2⟩ := hs
  obtain ⟨ht1, ht2⟩ := ht
  simp only at hs1 hs2 ht1 ht2 h1 h2
  cases i <;> cases i' <;> simp only [Sst.num, if_true, Bool.false_eq_true, if_false] at h
  · have := h1 rfl; have := h2 rfl
    subst h; simp_all
  · omega
  · omega
  · have e1 : b = b' := by omega
    have e2 : d = d' := by omega
    rw [e1, e2]
theorem spot_inj {n : Nat} {x y : Spt} (hx : Fine n x) (hy : Fine n y) (h : x.p * 1122 + x.s.num = y.p * 1122 + y.s.num) : x = y := by
  have h1 := Sst.num_lt hx.2.1
  have h2 := Sst.num_lt hy.2.1
  have e1 : x.p = y.p := by omega
  have e2 : x.s = y.s := num_inj hx.2.1 hy.2.1 hx.2.2 hy.2.2 (by omega)
  obtain ⟨p, s⟩ := x
  obtain ⟨q, t⟩ := y
  simp only at e1 e2
  rw [e1, e2]
theorem next_fine {L : List Ins} (hL : Lok L) {x y : Spt} (hx : Fine L.length x) (h : y ∈ nextS L x) : Fine L.length y := by
  unfold nextS at h
  have hm : L.getD x.p Ins.zero ∈ L := by rw [List.getD_eq_getElem?_getD, List.getElem?_eq_getElem hx.1]; exact List.getElem_mem _
  split at h
  · rename_i ha
    have hb := behind_ok (op := (L.getD x.p Ins.zero).op) hx.2.1 ha
    have hf : (behindM (L.getD x.p Ins.zero).op (rowOf (L.getD x.p Ins.zero).op) x.s).i = false → (behindM (L.getD x.p Ins.zero).op (rowOf (L.getD x.p Ins.zero).op) x.s).b = 0 := by
      unfold behindM
      split
      · intro e; cases e
      · split
        · intro _; rfl
        · split
          · intro _; rfl
          · exact hx.2.2
    split at h
    · cases h
    · rename_i h22
      have hnx : x.p + 1 < L.length := by
        by_cases e : x.p = L.length - 1
        · rw [e] at h22; exact absurd hL.last h22
        · have := hx.1; omega
      split at h
      · rename_i hj
        rw [List.mem_singleton.1 h]
        exact ⟨(hL.place _ hm (by rcases hj with e | e; exact .inl e; exact .inr (.inr e))).2, hb, hf⟩
      · split at h
        · rename_i hz
          rcases List.mem_cons.1 h with rfl | h
          · exact ⟨hnx, hb, hf⟩
          · rw [List.mem_singleton.1 h]
            exact ⟨(hL.place _ hm (.inr (.inl hz))).2, hb, hf⟩
        · rw [List.mem_singleton.1 h]
          exact ⟨hnx, hb, hf⟩
  · cases h
theorem leave_next (L : List Ins) (x : Spt) (V : Vst) : leaveM L x V = if amissS L x = 0 then (nextS L x).foldl (fun V y => comeM y.p y.s V) V else noteM x.p (amissS L x) V := by
  unfold leaveM nextS amissS
  split
  · split
    · rfl
    · split
      · rfl
      · split
        · rfl
        · rfl
  · rfl
/-- What stands of a walk, H being what it has come to so far. -/
structure Core (L : List Ins) (V : Vst) (H : List Spt) : Prop where
  ok : V.seen.length = L.length * 1122 ∧ V.count.length = L.length
  nodup : H.Nodup
  seen : ∀ x, Fine L.length x → (V.seen.getD (x.p * 1122 + x.s.num) true = true ↔ x ∈ H)
  fine : ∀ x ∈ H, Fine L.length x
  cnt : ∀ p, p < L.length → V.count.getD p 0 = ((H.filter (fun x => x.p == p)).length : Nat)
  todo : ∀ x ∈ V.todo, x ∈ H
  tnd : V.todo.Nodup
  rch : ∀ x ∈ H, Rch L x
theorem Core.come {L : List Ins} {V : Vst} {H : List Spt} (h : Core L V H) {y : Spt} (hy : Fine L.length y) (hr : Rch L y) :
    ∃ H', Core L (comeM y.p y.s V) H' ∧ (∀ x ∈ H, x ∈ H') ∧ y ∈ H' ∧ (∀ x ∈ H', x ∉ (comeM y.p y.s V).todo → x ∈ H ∧ x ∉ V.todo) ∧ (∀ x ∈ H, x ∉ V.todo → x ∉ (comeM y.p y.s V).todo) ∧ (comeM y.p y.s V).wrong = V.wrong := by
  by_cases hm : y ∈ H
  · have hs := (h.seen y hy).2 hm
    have e : comeM y.p y.s V = V := by unfold comeM; rw [if_pos hs]
    rw [e]
    exact ⟨H, h, fun _ hx => hx, hm, fun x hx ht => ⟨hx, ht⟩, fun x hx ht => ht, rfl⟩
  · have hs : ¬ V.seen.getD (y.p * 1122 + y.s.num) true = true := fun e => hm ((h.seen y hy).1 e)
    have e : comeM y.p y.s V = ⟨V.seen.set (y.p * 1122 + y.s.num) true, V.count.set y.p (V.count.getD y.p 0 + 1), V.wrong, V.todo ++ [⟨y.p, y.s⟩]⟩ := by unfold comeM; rw [if_neg hs]
    have hk : y.p * 1122 + y.s.num < V.seen.length := by rw [h.ok.1]; have := hy.1; have := Sst.num_lt hy.2.1; omega
    rw [e]
    refine ⟨H ++ [y], ⟨⟨by simp [h.ok.1], by simp [h.ok.2]⟩, ?_, ?_, ?_, ?_, ?_, ?_, ?_⟩, fun x hx => List.mem_append_left _ hx, by simp, ?_, ?_, rfl⟩
    · rw [List.nodup_append]
      exact ⟨h.nodup, by simp, fun a ha b hb e => hm (by rw [← List.mem_singleton.1 hb, ← e]; exact ha)⟩
    · intro x hx
      simp only [getD_set, hk, and_true, List.mem_append, List.mem_singleton]
      by_cases e : y.p * 1122 + y.s.num = x.p * 1122 + x.s.num
      · rw [if_pos e]
        exact ⟨fun _ => .inr (spot_inj hx hy e.symm), fun _ => rfl⟩
      · rw [if_neg e, h.seen x hx]
        exact ⟨.inl, fun hh => by rcases hh with hh | rfl; exact hh; exact absurd rfl e⟩
    · intro x hx
      rcases List.mem_append.1 hx with hx | hx
      · exact h.fine x hx
      · rw [List.mem_singleton.1 hx]; exact hy
    · intro p hp
      simp only [getD_set, List.filter_append, List.length_append]
      by_cases e : y.p = p
      · subst e
        rw [if_pos ⟨rfl, by rw [h.ok.2]; exact hp⟩, h.cnt _ hp]
        simp
      · rw [if_neg (fun hh => e hh.1), h.cnt p hp]
        simp [e]
    · intro x hx
      rcases List.mem_append.1 hx with hx | hx
      · exact List.mem_append_left _ (h.todo x hx)
      · exact List.mem_append_right _ (by simpa using hx)
    · rw [List.nodup_append]
      exact ⟨h.tnd, by simp, fun a ha b hb e => hm (by
        have hb2 : b = y := by simpa using hb
        rw [← hb2, ← e]; exact h.todo a ha)⟩
    · intro x hx
      rcases List.mem_append.1 hx with hx | hx
      · exact h.rch x hx
      · rw [List.mem_singleton.1 hx]; exact hr
    · intro x hx ht
      simp only [List.mem_append, not_or] at ht
      rcases List.mem_append.1 hx with hx | hx
      · exact ⟨hx, ht.1⟩
      · exact absurd hx ht.2
    · intro x hx ht hh
      rcases List.mem_append.1 hh with hh | hh
      · exact ht hh
      · have : x = y := by simpa using hh
        exact hm (this ▸ hx)
theorem Core.comes {L : List Ins} : ∀ (ys : List Spt) {V : Vst} {H : List Spt}, Core L V H → (∀ y ∈ ys, Fine L.length y ∧ Rch L y) →
    ∃ H', Core L (ys.foldl (fun V y => comeM y.p y.s V) V) H' ∧ (∀ x ∈ H, x ∈ H') ∧ (∀ y ∈ ys, y ∈ H') ∧ (∀ x ∈ H', x ∉ (ys.foldl (fun V y => comeM y.p y.s V) V).todo → x ∈ H ∧ x ∉ V.todo) ∧ (∀ x ∈ H, x ∉ V.todo → x ∉ (ys.foldl (fun V y => comeM y.p y.s V) V).todo) ∧ (ys.foldl (fun V y => comeM y.p y.s V) V).wrong = V.wrong
  | [], V, H, h, _ => ⟨H, h, fun _ hx => hx, fun y hy => (by cases hy), fun x hx ht => ⟨hx, ht⟩, fun x hx ht => ht, rfl⟩
  | y :: ys, V, H, h, hy => by
    obtain ⟨H1, c1, a1, a2, a3, a4, a5⟩ := h.come (hy y (by simp)).1 (hy y (by simp)).2
    obtain ⟨H2, c2, b1, b2, b3, b4, b5⟩ := Core.comes ys c1 (fun z hz => hy z (List.mem_cons_of_mem _ hz))
    refine ⟨H2, c2, fun x hx => b1 x (a1 x hx), fun z hz => ?_, fun x hx ht => ?_, fun x hx ht => b4 x (a1 x hx) (a4 x hx ht), b5.trans a5⟩
    · rcases List.mem_cons.1 hz with rfl | hz
      · exact b1 _ a2
      · exact b2 z hz
    · obtain ⟨hx1, ht1⟩ := b3 x hx ht
      exact a3 x hx1 ht1
/-- What is wrong at a place among those that were left. -/
structure Wrg (L : List Ins) (V : Vst) (H : List Spt) : Prop where
  len : V.wrong.length = L.length
  deep : ∀ p, p < L.length → (V.wrong.getD p 0 = 155 ↔ ∃ x ∈ H, x ∉ V.todo ∧ x.p = p ∧ amissS L x = 155)
  tx : ∀ p, p < L.length → V.wrong.getD p 0 = 156 → ∃ x ∈ H, x ∉ V.todo ∧ x.p = p ∧ amissS L x = 156
  none : ∀ p, p < L.length → V.wrong.getD p 0 ≠ 155 → V.wrong.getD p 0 ≠ 156 → V.wrong.getD p 0 = 0 ∧ ∀ x ∈ H, x ∉ V.todo → x.p = p → amissS L x = 0
structure Inv (L : List Ins) (V : Vst) (H : List Spt) : Prop where
  core : Core L V H
  zero : Spt.zero ∈ H
  done : ∀ x ∈ H, x ∉ V.todo → ∀ y ∈ nextS L x, y ∈ H
  wrg : Wrg L V H
theorem amiss_cases (L : List Ins) (x : Spt) : amissS L x = 0 ∨ amissS L x = 155 ∨ amissS L x = 156 := by
  unfold amissS amissM
  split
  · exact .inr (.inl rfl)
  · split
    · exact .inr (.inr rfl)
    · exact .inl rfl
/-- When nothing is left to do, it has found what can be reached. -/
theorem Inv.found {L : List Ins} {V : Vst} {H : List Spt} (h : Inv L V H) (ht : V.todo = []) (x : Spt) : x ∈ H ↔ Rch L x := by
  refine ⟨h.core.rch x, fun hr => ?_⟩
  induction hr with
  | zero => exact h.zero
  | step _ hy ih => exact h.done _ ih (by rw [ht]; simp) _ hy
theorem Core.cut {L : List Ins} {V : Vst} {H : List Spt} (h : Core L V H) : Core L { V with todo := V.todo.dropLast } H :=
  ⟨h.ok, h.nodup, h.seen, h.fine, h.cnt, fun x hx => h.todo x ((List.dropLast_sublist _).subset hx), h.tnd.sublist (List.dropLast_sublist _), h.rch⟩
theorem todo_last {l : List Spt} (h : l ≠ []) : l = l.dropLast ++ [l.getLastD Spt.zero] := by
  have e : l.getLastD Spt.zero = l.getLast h := by rw [List.getLastD_eq_getLast?, List.getLast?_eq_some_getLast h]; rfl
  rw [e, List.dropLast_concat_getLast]
theorem Inv.step {L : List Ins} (hL : Lok L) {V : Vst} {H : List Spt} (h : Inv L V H) (h0 : V.todo ≠ []) : ∃ H', Inv L (stepV L V) H' := by
  have es : stepV L V = leaveM L (V.todo.getLastD Spt.zero) { V with todo := V.todo.dropLast } := by unfold stepV; rw [if_neg h0]
  have hl := todo_last h0
  have hxH : V.todo.getLastD Spt.zero ∈ H := h.core.todo _ (last_mem h0)
  have hnd := h.core.tnd
  rw [es, leave_next]
  generalize V.todo.getLastD Spt.zero = x at *
  rw [hl, List.nodup_append] at hnd
  have hx0 : x ∉ V.todo.dropLast := fun hh => hnd.2.2 x hh x (by simp) rfl
  have hin : ∀ z, z ∉ V.todo.dropLast → z ≠ x → z ∉ V.todo := fun z hz hne hh => by
    rw [hl] at hh
    rcases List.mem_append.1 hh with hh | hh
    · exact hz hh
    · exact hne (List.mem_singleton.1 hh)
  have hout : ∀ z, z ∉ V.todo → z ∉ V.todo.dropLast ∧ z ≠ x := fun z hz => ⟨fun hh => hz ((List.dropLast_sublist _).subset hh), fun e => hz (by rw [hl, e]; simp)⟩
  have hc := h.core.cut
  by_cases ha : amissS L x = 0
  · rw [if_pos ha]
    obtain ⟨H', c1, a1, a2, a3, a4, a5⟩ := Core.comes (nextS L x) hc (fun y hy => ⟨next_fine hL (h.core.fine x hxH) hy, .step (h.core.rch x hxH) hy⟩)
    simp only at a3 a4 a5
    have iff : ∀ z, (z ∈ H' ∧ z ∉ ((nextS L x).foldl (fun V y => comeM y.p y.s V) { V with todo := V.todo.dropLast }).todo) ↔ (z ∈ H ∧ z ∉ V.todo) ∨ z = x := by
      intro z
      constructor
      · rintro ⟨hz, ht⟩
        obtain ⟨h1, h2⟩ := a3 z hz ht
        by_cases e : z = x
        · exact .inr e
        · exact .inl ⟨h1, hin z h2 e⟩
      · rintro (⟨h1, h2⟩ | rfl)
        · exact ⟨a1 z h1, a4 z h1 (hout z h2).1⟩
        · exact ⟨a1 z hxH, a4 z hxH hx0⟩
    generalize (nextS L x).foldl (fun V y => comeM y.p y.s V) { V with todo := V.todo.dropLast } = V' at *
    refine ⟨H', c1, a1 _ h.zero, fun z hz ht y hy => ?_, ⟨by rw [a5]; exact h.wrg.len, fun p hp => ?_, fun p hp hw => ?_, fun p hp h1 h2 => ?_⟩⟩
    · rcases (iff z).1 ⟨hz, ht⟩ with ⟨h1, h2⟩ | rfl
      · exact a1 y (h.done z h1 h2 y hy)
      · exact a2 y hy
    · rw [a5, h.wrg.deep p hp]
      constructor
      · rintro ⟨z, h1, h2, h3, h4⟩
        have := (iff z).2 (.inl ⟨h1, h2⟩)
        exact ⟨z, this.1, this.2, h3, h4⟩
      · rintro ⟨z, h1, h2, h3, h4⟩
        rcases (iff z).1 ⟨h1, h2⟩ with ⟨g1, g2⟩ | rfl
        · exact ⟨z, g1, g2, h3, h4⟩
        · rw [ha] at h4; cases h4
    · rw [a5] at hw
      obtain ⟨z, h1, h2, h3, h4⟩ := h.wrg.tx p hp hw
      have := (iff z).2 (.inl ⟨h1, h2⟩)
      exact ⟨z, this.1, this.2, h3, h4⟩
    · rw [a5] at h1 h2 ⊢
      obtain ⟨g1, g2⟩ := h.wrg.none p hp h1 h2
      refine ⟨g1, fun z hz ht hp => ?_⟩
      rcases (iff z).1 ⟨hz, ht⟩ with ⟨k1, k2⟩ | rfl
      · exact g2 z k1 k2 hp
      · exact ha
  · rw [if_neg ha]
    have hn : nextS L x = [] := by unfold nextS; exact if_neg ha
    have hxp := (h.core.fine x hxH).1
    have hte : (noteM x.p (amissS L x) { V with todo := V.todo.dropLast }).todo = V.todo.dropLast := by unfold noteM; split <;> rfl
    have hwe : ∀ p, p < L.length → (noteM x.p (amissS L x) { V with todo := V.todo.dropLast }).wrong.getD p 0 = if p = x.p ∧ V.wrong.getD x.p 0 ≠ 155 then amissS L x else V.wrong.getD p 0 := by
      intro p hp
      unfold noteM
      simp only
      by_cases e : V.wrong.getD x.p 0 = 155
      · rw [if_pos e, if_neg (fun hh => hh.2 e)]
      · rw [if_neg e]
        simp only [getD_set]
        by_cases e2 : x.p = p
        · subst e2
          rw [if_pos ⟨rfl, by rw [h.wrg.len]; exact hxp⟩, if_pos ⟨rfl, e⟩]
        · rw [if_neg (fun hh => e2 hh.1), if_neg (fun hh => e2 hh.1.symm)]
    have hco : Core L (noteM x.p (amissS L x) { V with todo := V.todo.dropLast }) H := by
      unfold noteM
      split
      · exact hc
      · exact ⟨hc.ok, hc.nodup, hc.seen, hc.fine, hc.cnt, hc.todo, hc.tnd, hc.rch⟩
    have hle : (noteM x.p (amissS L x) { V with todo := V.todo.dropLast }).wrong.length = L.length := by
      unfold noteM
      split
      · exact h.wrg.len
      · simp [h.wrg.len]
    have iff : ∀ z, z ∉ V.todo.dropLast ↔ z ∉ V.todo ∨ z = x := fun z => by
      constructor
      · intro hz
        by_cases e : z = x
        · exact .inr e
        · exact .inl (hin z hz e)
      · rintro (hz | rfl)
        · exact (hout z hz).1
        · exact hx0
    generalize noteM x.p (amissS L x) { V with todo := V.todo.dropLast } = V' at *
    refine ⟨H, hco, h.zero, fun z hz ht y hy => ?_, ⟨hle, fun p hp => ?_, fun p hp hw => ?_, fun p hp h1 h2 => ?_⟩⟩
    · rw [hte] at ht
      rcases (iff z).1 ht with h2 | rfl
      · exact h.done z hz h2 y hy
      · rw [hn] at hy; cases hy
    · rw [hwe p hp, hte]
      constructor
      · intro hh
        split at hh
        · rename_i hc
          exact ⟨x, hxH, hx0, hc.1.symm, hh⟩
        · obtain ⟨z, h1, h2, h3, h4⟩ := (h.wrg.deep p hp).1 hh
          exact ⟨z, h1, (iff z).2 (.inl h2), h3, h4⟩
      · rintro ⟨z, h1, h2, h3, h4⟩
        rcases (iff z).1 h2 with h2 | rfl
        · have := (h.wrg.deep p hp).2 ⟨z, h1, h2, h3, h4⟩
          rw [if_neg (fun hh => hh.2 (by rw [← hh.1]; exact this))]
          exact this
        · subst h3
          split
          · exact h4
          · rename_i hh
            exact Decidable.byContradiction (fun e => hh ⟨rfl, e⟩)
    · rw [hwe p hp] at hw
      rw [hte]
      split at hw
      · rename_i hc
        exact ⟨x, hxH, hx0, hc.1.symm, hw⟩
      · obtain ⟨z, h1, h2, h3, h4⟩ := h.wrg.tx p hp hw
        exact ⟨z, h1, (iff z).2 (.inl h2), h3, h4⟩
    · rw [hwe p hp] at h1 h2 ⊢
      rw [hte]
      split at h1
      · rcases amiss_cases L x with e | e | e
        · exact absurd e ha
        · exact absurd e h1
        · rename_i hc
          rw [if_pos hc] at h2
          exact absurd e h2
      · rename_i hc
        rw [if_neg hc] at h2 ⊢
        obtain ⟨g1, g2⟩ := h.wrg.none p hp h1 h2
        refine ⟨g1, fun z hz ht hzp => ?_⟩
        rcases (iff z).1 ht with k2 | rfl
        · exact g2 z hz k2 hzp
        · exact absurd hzp.symm (fun e => hc ⟨e, fun e2 => h1 (by rw [e]; exact e2)⟩)
theorem Inv.run {L : List Ins} (hL : Lok L) : ∀ (k : Nat) {V : Vst} {H : List Spt}, Inv L V H → ∃ H', Inv L (runV L k V) H'
  | 0, V, H, h => ⟨H, h⟩
  | k + 1, V, H, h => by
    by_cases h0 : V.todo = []
    · rw [runV_done h0]; exact ⟨H, h⟩
    · obtain ⟨H', h'⟩ := h.step hL h0
      exact Inv.run hL k h'
theorem Inv.first {L : List Ins} (hp : 0 < L.length) : ∃ H, Inv L (firstV L.length) H := by
  have c0 : Core L ⟨List.replicate (L.length * 1122) false, List.replicate L.length 0, List.replicate L.length 0, []⟩ [] := by
    refine ⟨⟨by simp, by simp⟩, List.nodup_nil, fun x hx => ?_, fun x hx => (by cases hx), fun p hp => ?_, fun x hx => (by cases hx), List.nodup_nil, fun x hx => (by cases hx)⟩
    · have hk : x.p * 1122 + x.s.num < L.length * 1122 := by have := hx.1; have := Sst.num_lt hx.2.1; omega
      simp [List.getD_eq_getElem?_getD, hk]
    · simp [List.getD_eq_getElem?_getD, hp]
  have fz : Fine L.length Spt.zero := ⟨hp, ⟨Nat.zero_le _, Nat.zero_le _⟩, fun _ => rfl⟩
  obtain ⟨H, c1, a1, a2, a3, a4, a5⟩ := c0.come fz .zero
  have e : firstV L.length = comeM Spt.zero.p Spt.zero.s ⟨List.replicate (L.length * 1122) false, List.replicate L.length 0, List.replicate L.length 0, []⟩ := rfl
  rw [e]
  have no : ∀ x ∈ H, ¬ x ∉ (comeM Spt.zero.p Spt.zero.s ⟨List.replicate (L.length * 1122) false, List.replicate L.length 0, List.replicate L.length 0, []⟩).todo := fun x hx ht => by
    have := (a3 x hx ht).1
    cases this
  have wz : ∀ p, (comeM Spt.zero.p Spt.zero.s ⟨List.replicate (L.length * 1122) false, List.replicate L.length 0, List.replicate L.length 0, []⟩).wrong.getD p 0 = 0 := fun p => by
    rw [a5]
    simp only [List.getD_eq_getElem?_getD, List.getElem?_replicate]
    split <;> rfl
  generalize comeM Spt.zero.p Spt.zero.s ⟨List.replicate (L.length * 1122) false, List.replicate L.length 0, List.replicate L.length 0, []⟩ = V' at *
  refine ⟨H, c1, a2, fun x hx ht => absurd ht (no x hx), ⟨by rw [a5]; simp, fun p hp => ?_, fun p hp hw => ?_, fun p hp h1 h2 => ⟨wz p, fun x hx ht => absurd ht (no x hx)⟩⟩⟩
  · rw [wz p]
    exact ⟨fun e => (by cases e), fun ⟨x, hx, ht, _⟩ => absurd ht (no x hx)⟩
  · rw [wz p] at hw; cases hw
/-- What the document reads off a list of all that can be reached. -/
def readT (L : List Ins) (T : List Spt) (e : Nat) : Nat → Nat → Int × Int
  | 0, _ => (0, 0)
  | k + 1, p => if T.any (fun x => x.p == p && amissS L x == 155) then (155, (p : Int)) else if T.any (fun x => x.p == p && amissS L x == 156) then (156, (p : Int)) else if 1 < (T.filter (fun x => x.p == p)).length ∧ p < e then (157, (p : Int)) else readT L T e k (p + 1)
theorem least_read {L : List Ins} {V : Vst} {H T : List Spt} (h : Inv L V H) (ht : V.todo = []) (hn : T.Nodup) (hT : ∀ x, x ∈ T ↔ Rch L x) (e : Nat) : ∀ (k p : Nat), p + k ≤ L.length → leastFrom e V k p = readT L T e k p
  | 0, p, _ => rfl
  | k + 1, p, hk => by
    have hp : p < L.length := by omega
    have hm : ∀ x, x ∈ H ↔ x ∈ T := fun x => by rw [hT x, h.found ht x]
    have hperm : H.Perm T := (List.perm_ext_iff_of_nodup h.core.nodup hn).2 hm
    have hcnt : V.count.getD p 0 = ((T.filter (fun x => x.p == p)).length : Nat) := by
      rw [h.core.cnt p hp, (hperm.filter _).length_eq]
    have any1 : ∀ c : Int, T.any (fun x => x.p == p && amissS L x == c) = true ↔ ∃ x ∈ H, x ∉ V.todo ∧ x.p = p ∧ amissS L x = c := by
      intro c
      rw [List.any_eq_true]
      constructor
      · rintro ⟨x, hx, hb⟩
        simp only [Bool.and_eq_true, beq_iff_eq] at hb
        exact ⟨x, (hm x).2 hx, by rw [ht]; simp, hb.1, hb.2⟩
      · rintro ⟨x, hx, _, h1, h2⟩
        exact ⟨x, (hm x).1 hx, by simp [h1, h2]⟩
    unfold leastFrom readT
    by_cases w5 : V.wrong.getD p 0 = 155
    · rw [if_pos (by rw [w5]; decide), if_pos ((any1 155).2 ((h.wrg.deep p hp).1 w5)), w5]
    · have n5 : ¬ T.any (fun x => x.p == p && amissS L x == 155) = true := fun hh => w5 ((h.wrg.deep p hp).2 ((any1 155).1 hh))
      rw [if_neg n5]
      by_cases w6 : V.wrong.getD p 0 = 156
      · rw [if_pos (by rw [w6]; decide), if_pos ((any1 156).2 (h.wrg.tx p hp w6)), w6]
      · obtain ⟨g1, g2⟩ := h.wrg.none p hp w5 w6
        have n6 : ¬ T.any (fun x => x.p == p && amissS L x == 156) = true := fun hh => by
          obtain ⟨x, h1, h2, h3, h4⟩ := (any1 156).1 hh
          rw [g2 x h1 h2 h3] at h4
          cases h4
        rw [if_neg (by rw [g1]; decide), if_neg n6, hcnt]
        by_cases hb : 1 < (T.filter (fun x => x.p == p)).length ∧ p < e
        · rw [if_pos ⟨hb.2, by omega⟩, if_pos hb]
        · rw [if_neg (fun hh => hb ⟨by omega, hh.1⟩), if_neg hb]
          exact least_read h ht hn hT e k (p + 1) (by omega)
theorem verify_read {l : List Ins} (hc : (checkM l).1 = 0) {T : List Spt} (hn : T.Nodup) (hT : ∀ x, x ∈ T ↔ Rch (withHalt l) x) : verifyM l = readT (withHalt l) T l.length (l.length + 1) 0 := by
  have hL := Lok.of hc
  have hl : (withHalt l).length = l.length + 1 := by simp [withHalt]
  obtain ⟨H0, h0⟩ := Inv.first hL.pos
  obtain ⟨H, h⟩ := Inv.run hL (enough (l.length + 1)) h0
  rw [hl] at h
  have ht := runV_ends (L := withHalt l) _ _ (firstV_mu (l.length + 1))
  unfold verifyM
  rw [if_pos hc]
  unfold leastM
  rw [h.wrg.len, hl]
  exact least_read h ht hn hT _ _ 0 (by rw [hl]; omega)
end Go.Proofs.YtcchflfeomainaaGreatDoor
