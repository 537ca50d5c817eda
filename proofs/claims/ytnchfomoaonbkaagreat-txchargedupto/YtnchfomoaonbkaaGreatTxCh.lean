/- What stays true of a commit: its error, the number it took, whom it looks at and dooms. No program is named here. -/
import Derived.Test.YtnchfomoaonbkaaGreatTxN
namespace Go.Proofs.YtnchfomoaonbkaaGreat
open Go.RowKit
set_option linter.unusedVariables false
set_option linter.unusedSimpArgs false
/-- Its error, its number, and that it never meets its own slot. -/
structure Cm.sane (y : Cm) (c : Cfg) (n : Int) : Prop where
  e0 : y.st ≠ .up → y.st ≠ .free → y.st ≠ .over → y.e = 0
  e9 : y.e = 9 → c.ta = 2
  e8 : y.e = 8 → c.ta = 3
  ee : y.e = 0 ∨ y.e = 7 ∨ y.e = 8 ∨ y.e = 9
  up : y.st = .up → y.e ≠ 0
  wf : (y.st = .free ∨ y.st = .over) → (y.won = true ↔ y.e = 0)
  wn : y.st ≠ .free → y.st ≠ .over → y.won = false
  nm : y.st.holds = true → y.num = n
  wy : ∀ d, y.st = .doom d → d.wy = y.th
  ot : ∀ s, s ∈ y.lk.left → (s : Int) ≠ y.so
  om : y.lk.inW = true → y.lk.met.so ≠ y.so
  ov : ∀ t, t ∈ y.lk.vs → t.so ≠ y.so
  od : ∀ d, y.st = .doom d → ∀ t, t ∈ d.left → t.so ≠ y.so
theorem Cm.sane_new (so : Nat) (ge th sp : Int) (wr : List Pr) (sg : Sg) (n : Nat) (c : Cfg) (a : Int) : (Cm.new so ge th sp wr sg n).sane c a := by
  refine ⟨fun _ _ _ => rfl, fun h => by simp [Cm.new] at h, fun h => by simp [Cm.new] at h, .inl rfl, fun h => by simp [Cm.new] at h, fun h => by rcases h with h | h <;> simp [Cm.new] at h, fun _ _ => rfl, fun h => by simp [Cm.new, Stg.holds] at h, fun d h => by simp [Cm.new] at h, fun s hs => ?_, fun h => by simp [Cm.new, Lk.new] at h, fun t h => by simp [Cm.new, Lk.new] at h, fun d h => by simp [Cm.new] at h⟩
  have h1 := (List.mem_filter.1 (show s ∈ othersOf n so from hs)).2
  have h2 : s ≠ so := by simpa using h1
  simp only [Cm.new]
  omega
theorem vdV_yield {c : Cfg} {sp df : Int} {vs : List Vt} (h : vdV c sp df vs = 3) : c.ta = 3 := by
  unfold vdV at h
  split at h
  · split at h
    · omega
    · split at h
      · rename_i hc
        exact hc.1
      · omega
  · omega
theorem lookOn_sane {x : Cm} {c : Cfg} {df n : Int} (he : x.e = 0) (hw : x.won = false) (hn : x.num = n) (h1 : ∀ s, s ∈ x.lk.left → (s : Int) ≠ x.so) (h2 : x.lk.inW = true → x.lk.met.so ≠ x.so) (h3 : ∀ t, t ∈ x.lk.vs → t.so ≠ x.so) : (x.lookOn c df).sane c n := by
  unfold Cm.lookOn
  split
  · unfold Cm.judged
    split
    · rename_i hv
      exact ⟨fun h => absurd rfl h, fun _ => (vdV_defer hv).1, fun h => by simp [Cm.giveUp] at h, .inr (.inr (.inr rfl)), fun _ => by simp [Cm.giveUp], fun h => by rcases h with h | h <;> simp [Cm.giveUp] at h, fun _ _ => hw, fun _ => hn, fun d h => by simp [Cm.giveUp] at h, h1, h2, h3, fun d h => by simp [Cm.giveUp] at h⟩
    · split
      · rename_i hv
        exact ⟨fun h => absurd rfl h, fun h => by simp [Cm.giveUp] at h, fun _ => vdV_yield hv, .inr (.inr (.inl rfl)), fun _ => by simp [Cm.giveUp], fun h => by rcases h with h | h <;> simp [Cm.giveUp] at h, fun _ _ => hw, fun _ => hn, fun d h => by simp [Cm.giveUp] at h, h1, h2, h3, fun d h => by simp [Cm.giveUp] at h⟩
      · unfold Cm.doomOn
        simp only
        split
        · exact ⟨fun _ _ _ => he, fun h => by simp [he] at h, fun h => by simp [he] at h, .inl he, fun h => by simp at h, fun h => by rcases h with h | h <;> simp at h, fun _ _ => hw, fun _ => hn, fun d h => by simp at h, h1, h2, h3, fun d h => by simp at h⟩
        · refine ⟨fun _ _ _ => he, fun h => by simp [he] at h, fun h => by simp [he] at h, .inl he, fun h => by simp at h, fun h => by rcases h with h | h <;> simp at h, fun _ _ => hw, fun _ => hn, fun d h => ?_, h1, h2, h3, fun d h => ?_⟩
          · simp only [Stg.doom.injEq] at h
            subst h
            rfl
          · simp only [Stg.doom.injEq] at h
            subst h
            exact h3
  · exact ⟨fun _ _ _ => he, fun h => by simp [he] at h, fun h => by simp [he] at h, .inl he, fun h => by simp at h, fun h => by rcases h with h | h <;> simp at h, fun _ _ => hw, fun _ => hn, fun d h => by simp at h, h1, h2, h3, fun d h => by simp at h⟩
theorem Lk.other_next {k : Lk} {so : Int} (hf : k.fit) (h1 : ∀ s, s ∈ k.left → (s : Int) ≠ so) (h2 : k.inW = true → k.met.so ≠ so) (h3 : ∀ t, t ∈ k.vs → t.so ≠ so) (z : SSt) : (∀ s, s ∈ (k.next z).left → (s : Int) ≠ so) ∧ ((k.next z).inW = true → (k.next z).met.so ≠ so) ∧ (∀ t, t ∈ (k.next z).vs → t.so ≠ so) := by
  have htl : ∀ s, s ∈ k.left.tail → (s : Int) ≠ so := fun s hs => h1 s (List.mem_of_mem_tail hs)
  unfold Lk.next
  split
  · exact ⟨h1, h2, h3⟩
  · rename_i s r hl
    split
    · rename_i hi
      unfold Lk.word
      split
      · exact ⟨h1, h2, h3⟩
      · refine ⟨htl, fun e => by simp [Lk.pass] at e, fun t ht => ?_⟩
        simp only [Lk.pass] at ht
        split at ht
        · rcases List.mem_append.1 ht with ht | ht
          · exact h3 t ht
          · simp at ht
            subst ht
            exact h2 hi
        · exact h3 t ht
    · unfold Lk.head
      split
      · exact ⟨h1, fun _ => h1 s (by rw [hl]; simp), h3⟩
      · exact ⟨htl, fun e => by simp [Lk.pass] at e, h3⟩
theorem Cm.sane.next {y : Cm} {c : Cfg} {z : SSt} {df : Int} {n : Nat} (h : y.sane c z.x.n) (hf : y.fit n) (hth : gTh y.th = true) (hov : y.st ≠ .over) (hh : y.st.holds = true ↔ z.x.o = y.th) : (y.next c z df).sane c (z.commits y).x.n := by
  unfold Cm.next SSt.commits
  cases hst : y.st with
  | over => exact absurd hst hov
  | take =>
    have he := h.e0 (by rw [hst]; simp) (by rw [hst]; simp) (by rw [hst]; simp)
    have hw := h.wn (by rw [hst]; simp) (by rw [hst]; simp)
    simp only
    split
    · rename_i h0
      have ho : z.x.o = 0 := by
        simp only [takeE, hth] at h0
        by_cases e : z.x.o = 0
        · exact e
        · simp [e] at h0
      refine ⟨fun _ _ _ => he, fun q => by simp [he] at q, fun q => by simp [he] at q, .inl he, fun q => by simp at q, fun q => by rcases q with q | q <;> simp at q, fun _ _ => hw, fun _ => ?_, fun d q => by simp at q, h.ot, h.om, h.ov, fun d q => by simp at q⟩
      simp [takeR, SSt.take, takeX, hth, ho]
    · refine ⟨fun _ _ _ => he, h.e9, h.e8, h.ee, fun q => (by rw [hst] at q; cases q), h.wf, h.wn, fun q => (by rw [hst] at q; simp [Stg.holds] at q), h.wy, h.ot, h.om, h.ov, h.od⟩
  | own =>
    have he := h.e0 (by rw [hst]; simp) (by rw [hst]; simp) (by rw [hst]; simp)
    have hw := h.wn (by rw [hst]; simp) (by rw [hst]; simp)
    have hn := h.nm (by rw [hst]; rfl)
    simp only
    split
    · exact lookOn_sane he hw hn h.ot h.om h.ov
    · exact ⟨fun q => absurd rfl q, fun q => by simp [Cm.giveUp] at q, fun q => by simp [Cm.giveUp] at q, .inr (.inl rfl), fun _ => by simp [Cm.giveUp], fun q => by rcases q with q | q <;> simp [Cm.giveUp] at q, fun _ _ => hw, fun _ => hn, fun d q => by simp [Cm.giveUp] at q, h.ot, h.om, h.ov, fun d q => by simp [Cm.giveUp] at q⟩
  | look =>
    have he := h.e0 (by rw [hst]; simp) (by rw [hst]; simp) (by rw [hst]; simp)
    have hw := h.wn (by rw [hst]; simp) (by rw [hst]; simp)
    have hn := h.nm (by rw [hst]; rfl)
    have hx : (z.looks y.lk).x.n = z.x.n := by
      unfold SSt.looks
      split
      · rfl
      · split <;> rfl
    simp only
    rw [hx]
    obtain ⟨o1, o2, o3⟩ := Lk.other_next hf.lk h.ot h.om h.ov z
    exact lookOn_sane (x := y.looked z) he hw hn o1 o2 o3
  | doom d =>
    have he := h.e0 (by rw [hst]; simp) (by rw [hst]; simp) (by rw [hst]; simp)
    have hw := h.wn (by rw [hst]; simp) (by rw [hst]; simp)
    have hn := h.nm (by rw [hst]; rfl)
    have hx : (z.dooms d).x.n = z.x.n := by
      unfold SSt.dooms
      split <;> rfl
    simp only
    rw [hx]
    unfold Cm.doomOn
    try simp only
    split
    · exact ⟨fun _ _ _ => he, fun q => by simp [he] at q, fun q => by simp [he] at q, .inl he, fun q => by simp at q, fun q => by rcases q with q | q <;> simp at q, fun _ _ => hw, fun _ => hn, fun d q => by simp at q, h.ot, h.om, h.ov, fun d q => by simp at q⟩
    · refine ⟨fun _ _ _ => he, fun q => by simp [he] at q, fun q => by simp [he] at q, .inl he, fun q => by simp at q, fun q => by rcases q with q | q <;> simp at q, fun _ _ => hw, fun _ => hn, fun d' q => ?_, h.ot, h.om, h.ov, fun d' q => ?_⟩
      · simp only [Stg.doom.injEq] at q
        subst q
        have := h.wy d hst
        unfold Dm.next
        split <;> exact this
      · simp only [Stg.doom.injEq] at q
        subst q
        intro t ht
        refine h.od d hst t ?_
        unfold Dm.next at ht
        split at ht
        · exact ht
        · rename_i a l hl
          rw [hl]
          exact List.mem_cons_of_mem _ ht
  | write k =>
    have he := h.e0 (by rw [hst]; simp) (by rw [hst]; simp) (by rw [hst]; simp)
    have hw := h.wn (by rw [hst]; simp) (by rw [hst]; simp)
    have hn := h.nm (by rw [hst]; rfl)
    simp only
    split
    · exact ⟨fun _ _ _ => he, fun q => by simp [he] at q, fun q => by simp [he] at q, .inl he, fun q => by simp at q, fun q => by rcases q with q | q <;> simp at q, fun _ _ => hw, fun _ => hn, fun d q => by simp at q, h.ot, h.om, h.ov, fun d q => by simp at q⟩
    · exact ⟨fun _ _ _ => he, fun q => by simp [he] at q, fun q => by simp [he] at q, .inl he, fun q => by simp at q, fun q => by rcases q with q | q <;> simp at q, fun _ _ => hw, fun _ => hn, fun d q => by simp at q, h.ot, h.om, h.ov, fun d q => by simp at q⟩
  | give =>
    have he := h.e0 (by rw [hst]; simp) (by rw [hst]; simp) (by rw [hst]; simp)
    exact ⟨fun _ q => absurd rfl q, fun q => by simp [he] at q, fun q => by simp [he] at q, .inl he, fun q => by simp at q, fun _ => ⟨fun _ => he, fun _ => rfl⟩, fun q => absurd rfl q, fun q => by simp [Stg.holds] at q, fun d q => by simp at q, h.ot, h.om, h.ov, fun d q => by simp at q⟩
  | up =>
    have hu := h.up hst
    have hw := h.wn (by rw [hst]; simp) (by rw [hst]; simp)
    refine ⟨fun _ q => absurd rfl q, h.e9, h.e8, h.ee, fun q => by simp at q, fun _ => ⟨fun q => ?_, fun q => absurd q hu⟩, fun q => absurd rfl q, fun q => by simp [Stg.holds] at q, fun d q => by simp at q, h.ot, h.om, h.ov, fun d q => by simp at q⟩
    simp [hw] at q
  | free =>
    exact ⟨fun _ _ q => absurd rfl q, h.e9, h.e8, h.ee, fun q => by simp at q, fun _ => h.wf (.inl hst), fun _ q => absurd rfl q, fun q => by simp [Stg.holds] at q, fun d q => by simp at q, h.ot, h.om, h.ov, fun d q => by simp at q⟩
end Go.Proofs.YtnchfomoaonbkaaGreat
