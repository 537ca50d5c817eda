/- A move of four threads: who is doomed by it, what it notes. No program is named here. -/
import Derived.Test.YtnchfomoaonbkaaGreatTxCg
import Derived.Test.YtnchfomoaonbkaaGreatTxPot
namespace Go.Proofs.YtnchfomoaonbkaaGreat
open Go.RowKit
set_option linter.unusedVariables false
set_option linter.unusedSimpArgs false
theorem Cm.sane.gate {y : Cm} {c : Cfg} {n n' : Int} (h : y.sane c n) (e : y.st.holds = true → n' = n) : y.sane c n' :=
  ⟨h.e0, h.e9, h.e8, h.ee, h.up, h.wf, h.wn, fun q => by rw [e q]; exact h.nm q, h.wy, h.ot, h.om, h.ov, h.od⟩
theorem callT_sane {x : Tt} {c : Cfg} {a : Int} (h : ∀ y, x.dg = .com y → y.sane c a) (n : Nat) (m : Mv) (sp : Int) : ∀ y, (callT x c n m sp).dg = .com y → y.sane c a := by
  intro y e
  unfold callT at e
  split at e
  · unfold Tt.begin_ at e
    split at e
    · simp at e
    · exact h y e
  · split at e
    · split at e
      · unfold Tt.read at e
        split at e
        · exact h y e
        · split at e
          · exact h y e
          · split at e
            · simp at e
            · exact h y e
      · split at e
        · unfold Tt.write at e
          split at e
          · exact h y e
          · exact h y e
        · split at e
          · unfold Tt.commit at e
            split at e
            · exact h y e
            · split at e
              · simp at e
              · simp only [Dg.com.injEq] at e
                subst e
                exact Cm.sane_new _ _ _ _ _ _ _ _ _
          · unfold Tt.abort at e
            split at e
            · simp at e
            · exact h y e
    · exact h y e
/-- Who does not hold the gate turns it not, while another one does. -/
theorem steps_gate_same {x : Tt} {c : Cfg} {z : SSt} (h : x.dg.holds = false) (h0 : z.x.o ≠ 0) : (z.steps c x).x = z.x := by
  rw [(steps_bare z c x).2.1]
  by_cases hy : ∃ y, x.dg = .com y
  · obtain ⟨y, hy⟩ := hy
    have hb : (z.bare x).x = (z.commits y).x := by unfold SSt.bare; rw [hy]
    rw [hb]
    rw [hy] at h
    unfold SSt.commits
    cases hst : y.st with
    | take => simp [SSt.take, takeX, h0]
    | free => rfl
    | over => rfl
    | own => simp [Dg.holds, hst, Stg.holds] at h
    | look => simp [Dg.holds, hst, Stg.holds] at h
    | doom d => simp [Dg.holds, hst, Stg.holds] at h
    | write k => simp [Dg.holds, hst, Stg.holds] at h
    | give => simp [Dg.holds, hst, Stg.holds] at h
    | up => simp [Dg.holds, hst, Stg.holds] at h
  · exact bare_gate (fun y e => hy ⟨y, e⟩)
/-- What is noted by the call ahead of the step: nothing that counts. -/
theorem callZ_ev (x : Tt) (c : Cfg) (m : Mv) (z : SSt) : ∃ E : List Ev, (callZ x c m z).ev = z.ev ++ E ∧ ∀ e, e ∈ E → e.th = x.th ∧ (e.kd = 2 ∨ e.kd = 3) := by
  unfold callZ
  split
  · split
    · unfold Tt.readZ
      split
      · exact ⟨[], by simp, by simp⟩
      · split
        · refine ⟨_, rfl, fun e he => ?_⟩
          simp at he
          subst he
          exact ⟨rfl, .inl rfl⟩
        · exact ⟨[], by simp, by simp⟩
    · split
      · unfold Tt.writeZ
        split
        · refine ⟨_, rfl, fun e he => ?_⟩
          simp at he
          subst he
          exact ⟨rfl, .inr rfl⟩
        · exact ⟨[], by simp, by simp⟩
      · exact ⟨[], by simp, by simp⟩
  · exact ⟨[], by simp, by simp⟩
theorem bare_ev (z : SSt) (x : Tt) : (z.bare x).ev = z.ev := by
  unfold SSt.bare
  cases x.dg with
  | rest => rfl
  | act => rfl
  | beg b => exact (goes_rest z b).2.2
  | rd r => exact (reads_rest z r).2.2.1
  | leav => rfl
  | abo p e v => rfl
  | com y =>
    simp only [SSt.commits]
    cases y.st with
    | look =>
      simp only [SSt.looks]
      split
      · rfl
      · split <;> rfl
    | doom d =>
      simp only [SSt.dooms]
      split <;> rfl
    | _ => rfl
/-- What a step notes. -/
theorem steps_ev (x : Tt) (c : Cfg) (z : SSt) (hb : ∀ b, x.dg = .beg b → b.st = 0 ∨ b.st = 1 ∨ b.st = 2) : ∃ E : List Ev, (z.steps c x).ev = z.ev ++ E ∧ E.length ≤ 1 ∧ ∀ e, e ∈ E → e.th = x.th ∧
    ((e.kd = 1 ∧ ∃ b, x.dg = .beg b ∧ b.st = 2) ∨ (e.kd = 2 ∧ ∃ r, x.dg = .rd r) ∨ (e.kd = 6 ∧ ∃ b, x.dg = .beg b) ∨
     (e.kd = 4 ∧ ((x.dg = .leav) ∨ ∃ y, x.dg = .com y ∧ (y.next c z x.df).won = true ∧ y.won = false ∧ e.ga = (y.next c z x.df).num)) ∨
     (e.kd = 5 ∧ e.by_ = (if e.er = 7 then x.doomer z else 0) ∧ ((∃ p v, x.dg = .abo p e.er v) ∨ ∃ y, x.dg = .com y ∧ (y.next c z x.df).done = true ∧ (y.next c z x.df).e = e.er ∧ e.er ≠ 0))) := by
  cases hd : x.dg with
  | rest => exact ⟨[], by unfold SSt.steps; rw [hd]; simp, by simp, by simp⟩
  | act => exact ⟨[], by unfold SSt.steps; rw [hd]; simp, by simp, by simp⟩
  | beg b =>
    have hs : z.steps c x = x.begunZ (b.next z) (z.goes b) := by unfold SSt.steps; rw [hd]
    have he := (goes_rest z b).2.2
    rw [hs]
    unfold Tt.begunZ
    split
    · exact ⟨[], by simp [he], by simp, by simp⟩
    · rename_i h3
      split
      · rename_i h0
        refine ⟨_, by rw [SSt.noted, he], by simp, fun e hm => ?_⟩
        simp at hm
        subst hm
        refine ⟨rfl, .inl ⟨rfl, b, rfl, ?_⟩⟩
        unfold Bg.next at h3 h0
        split at h3
        · rename_i q
          rw [if_pos q] at h0
          unfold Bg.claim at h3 h0
          split at h3
          · simp at h3
          · rename_i q2
            rw [if_neg q2] at h0
            split at h3
            · rename_i q3
              rw [if_pos q3] at h0
              simp at h0
            · simp at h3
              omega
        · split at h3
          · rename_i q1 q2
            simp only [Bg.clear] at h3
            split at h3 <;> omega
          · split at h3
            · rename_i q3; exact q3
            · rename_i q1 q2 q3
              exfalso
              rcases hb b hd with r | r | r
              · exact q1 r
              · exact q2 r
              · exact q3 r
      · split
        · refine ⟨_, by rw [SSt.noted, he], by simp, fun e hm => ?_⟩
          simp at hm
          subst hm
          exact ⟨rfl, .inr (.inr (.inl ⟨rfl, b, rfl⟩))⟩
        · exact ⟨[], by simp [he], by simp, by simp⟩
  | rd r =>
    have hs : z.steps c x = x.readOnZ (r.next z) (z.reads r) := by unfold SSt.steps; rw [hd]
    have he := (reads_rest z r).2.2.1
    rw [hs]
    unfold Tt.readOnZ
    split
    · refine ⟨_, by rw [SSt.noted, he], by simp, fun e hm => ?_⟩
      simp at hm
      subst hm
      exact ⟨rfl, .inr (.inl ⟨rfl, r, rfl⟩)⟩
    · exact ⟨[], by simp [he], by simp, by simp⟩
  | leav =>
    refine ⟨_, by unfold SSt.steps; rw [hd]; rfl, by simp, fun e hm => ?_⟩
    simp at hm
    subst hm
    exact ⟨rfl, .inr (.inr (.inr (.inl ⟨rfl, .inl rfl⟩)))⟩
  | abo p er v =>
    refine ⟨_, by unfold SSt.steps; rw [hd]; rfl, by simp, fun e hm => ?_⟩
    simp at hm
    subst hm
    exact ⟨rfl, .inr (.inr (.inr (.inr ⟨rfl, rfl, .inl ⟨p, v, rfl⟩⟩)))⟩
  | com y =>
    have hs : z.steps c x = x.comZ (y.next c z x.df) (x.doomer z) (x.wonZ y (y.next c z x.df) (z.commits y)) := by unfold SSt.steps; rw [hd]
    have he : (z.commits y).ev = z.ev := by
      have := bare_ev z x
      unfold SSt.bare at this
      rw [hd] at this
      exact this
    rw [hs]
    unfold Tt.comZ
    split
    · rename_i h1
      have hnw : x.wonZ y (y.next c z x.df) (z.commits y) = z.commits y := by
        unfold Tt.wonZ
        split
        · rename_i h2
          exfalso
          simp only [Bool.and_eq_true, Bool.not_eq_true'] at h1 h2
          by_cases hf : y.st = .free
          · have e : y.next c z x.df = { y with st := .over } := by unfold Cm.next; rw [hf]
            rw [e] at h2
            have q1 : y.won = true := h2.1
            rw [h2.2] at q1
            cases q1
          · by_cases hov : y.st = .over
            · have e : y.next c z x.df = y := by unfold Cm.next; rw [hov]
              rw [e, h2.2] at h2
              cases h2.1
            · have := next_st_live (c := c) (z := z) (df := x.df) hf hov
              rw [h1.1] at this
              cases this
        · rfl
      rw [hnw]
      refine ⟨_, by rw [SSt.noted, he], by simp, fun e hm => ?_⟩
      simp at hm
      subst hm
      simp only [Bool.and_eq_true, Bool.not_eq_true', beq_eq_false_iff_ne] at h1
      exact ⟨rfl, .inr (.inr (.inr (.inr ⟨rfl, rfl, .inr ⟨y, rfl, h1.1, rfl, h1.2⟩⟩)))⟩
    · unfold Tt.wonZ
      split
      · rename_i h2
        refine ⟨_, by rw [SSt.noted, he], by simp, fun e hm => ?_⟩
        simp at hm
        subst hm
        simp only [Bool.and_eq_true, Bool.not_eq_true'] at h2
        exact ⟨rfl, .inr (.inr (.inr (.inl ⟨rfl, .inr ⟨y, rfl, h2.1, h2.2, rfl⟩⟩)))⟩
      · exact ⟨[], by simp [he], by simp, by simp⟩
theorem give_ev {x : Tt} {c : Cfg} {z : SSt} {y : Cm} (hd : x.dg = .com y) (hg : y.st = .give) (hw : y.won = false) : (z.steps c x).ev.length = z.ev.length + 1 := by
  have hs : z.steps c x = x.comZ (y.next c z x.df) (x.doomer z) (x.wonZ y (y.next c z x.df) (z.commits y)) := by unfold SSt.steps; rw [hd]
  have hn : y.next c z x.df = { y with won := true, st := .free } := by unfold Cm.next; rw [hg]
  have hc : (z.commits y).ev = z.ev := by unfold SSt.commits; rw [hg]; rfl
  rw [hs, hn]
  unfold Tt.comZ
  rw [if_neg (by simp [Cm.done, Stg.isOver])]
  unfold Tt.wonZ
  rw [if_pos (by simp [hw])]
  simp [SSt.noted, hc]
theorem won_give {y : Cm} {c : Cfg} {z : SSt} {df : Int} (h1 : (y.next c z df).won = true) (h2 : y.won = false) : y.st = .give ∧ (y.next c z df).num = y.num := by
  have hl : ∀ q : Cm, (q.lookOn c df).won = q.won := by
    intro q
    unfold Cm.lookOn
    split
    · unfold Cm.judged
      split
      · rfl
      · split
        · rfl
        · rfl
    · rfl
  unfold Cm.next at h1 ⊢
  cases hst : y.st with
  | give => exact ⟨rfl, rfl⟩
  | take =>
    rw [hst] at h1
    simp only at h1
    split at h1 <;> (rw [show y.won = true from h1] at h2; cases h2)
  | own =>
    rw [hst] at h1
    simp only at h1
    split at h1
    · rw [hl, h2] at h1; cases h1
    · rw [show y.won = true from h1] at h2; cases h2
  | look => rw [hst] at h1; simp only at h1; rw [hl] at h1; rw [show y.won = true from h1] at h2; cases h2
  | doom d => rw [hst] at h1; rw [show y.won = true from h1] at h2; cases h2
  | write k => rw [hst] at h1; rw [show y.won = true from h1] at h2; cases h2
  | up => rw [hst] at h1; rw [show y.won = true from h1] at h2; cases h2
  | free => rw [hst] at h1; rw [show y.won = true from h1] at h2; cases h2
  | over => rw [hst] at h1; rw [show y.won = true from h1] at h2; cases h2
theorem next_charged {y : Cm} {c : Cfg} {z : SSt} {df : Int} (h : (∃ d, y.st = .doom d) ∨ ∃ k, y.st = .write k) : (y.next c z df).st.holds = true ∧ (y.next c z df).st ≠ .own ∧ (y.next c z df).st ≠ .look ∧ (y.next c z df).st ≠ .up ∧ (z.commits y).x = z.x := by
  unfold Cm.next SSt.commits
  rcases h with ⟨d, hst⟩ | ⟨k, hst⟩
  · rw [hst]
    simp only [Cm.doomOn, SSt.dooms]
    refine ⟨by split <;> rfl, by split <;> simp, by split <;> simp, by split <;> simp, by split <;> rfl⟩
  · rw [hst]
    simp only
    refine ⟨by split <;> rfl, by split <;> simp, by split <;> simp, by split <;> simp, rfl⟩
theorem callT_abo2 (x : Tt) (c : Cfg) (n : Nat) (m : Mv) (sp : Int) : ∀ p e v, (callT x c n m sp).dg = .abo p e v → e = 3 ∨ (x.dg = .abo p e v ∧ callT x c n m sp = x) := by
  intro p e v he
  by_cases hx : ∃ p e v, x.dg = .abo p e v
  · obtain ⟨p', e', v', hx⟩ := hx
    have hc : callT x c n m sp = x := by
      unfold callT
      rw [hx]
      simp [Dg.phase]
    rw [hc] at he
    exact .inr ⟨he, hc⟩
  · left
    have hx : ∀ p e v, x.dg ≠ .abo p e v := fun p e v q => hx ⟨p, e, v, q⟩
    unfold callT at he
    split at he
    · unfold Tt.begin_ at he
      split at he
      · simp at he
      · exact absurd he (hx _ _ _)
    · split at he
      · split at he
        · unfold Tt.read at he
          split at he
          · exact absurd he (hx _ _ _)
          · split at he
            · exact absurd he (hx _ _ _)
            · split at he
              · simp at he
              · exact absurd he (hx _ _ _)
        · split at he
          · unfold Tt.write at he
            split at he
            · exact absurd he (hx _ _ _)
            · exact absurd he (hx _ _ _)
          · split at he
            · unfold Tt.commit at he
              split at he
              · exact absurd he (hx _ _ _)
              · split at he
                · simp at he
                · simp at he
            · unfold Tt.abort at he
              split at he
              · simp only [Dg.abo.injEq] at he
                omega
              · exact absurd he (hx _ _ _)
      · exact absurd he (hx _ _ _)
theorem lookOn_e7 {x : Cm} {c : Cfg} {df : Int} (h : (x.lookOn c df).e = 7) : x.e = 7 := by
  unfold Cm.lookOn at h
  split at h
  · unfold Cm.judged at h
    split at h
    · simp [Cm.giveUp] at h
    · split at h
      · simp [Cm.giveUp] at h
      · exact h
  · exact h
theorem next_e7 {y : Cm} {c : Cfg} {z : SSt} {df : Int} (h : (y.next c z df).e = 7) : y.e = 7 ∨ (y.st = .own ∧ (nowAt z.hs y.so).mine y.ge = false) := by
  unfold Cm.next at h
  cases hst : y.st with
  | take =>
    rw [hst] at h
    simp only at h
    split at h <;> exact .inl h
  | own =>
    rw [hst] at h
    simp only at h
    split at h
    · exact .inl (lookOn_e7 h)
    · rename_i hm
      exact .inr ⟨rfl, by simpa using hm⟩
  | look => rw [hst] at h; exact .inl (lookOn_e7 (x := y.looked z) h)
  | doom d => rw [hst] at h; exact .inl h
  | write k => rw [hst] at h; exact .inl h
  | give => rw [hst] at h; exact .inl h
  | up => rw [hst] at h; exact .inl h
  | free => rw [hst] at h; exact .inl h
  | over => rw [hst] at h; exact .inl h
theorem commits_hs_same {y : Cm} {z : SSt} (h1 : ∀ d, y.st ≠ .doom d) (h2 : y.st ≠ .free) : (z.commits y).hs = z.hs := by
  unfold SSt.commits
  cases hst : y.st with
  | doom d => exact absurd hst (h1 d)
  | free => exact absurd hst h2
  | look => simp only; exact SSt.looks_hs _ _
  | take => rfl
  | own => rfl
  | write k => rfl
  | give => rfl
  | up => rfl
  | over => rfl
theorem evsOk_append {c : Cfg} {C : Ch3} {E F : List Ev} (h : evsOk c C E) (h2 : evsOk c (E.foldl evC C) F) : evsOk c C (E ++ F) := by
  induction E generalizing C with
  | nil => exact h2
  | cons e E ih => exact ⟨h.1, ih h.2 h2⟩
theorem evs_idle {c : Cfg} {C : Ch3} {E : List Ev} {t : Int} (t1 : 1 ≤ t) (t4 : t ≤ 4) (h : ∀ e, e ∈ E → e.th = t ∧ (e.kd = 2 ∨ e.kd = 3)) : evsOk c C E ∧ E.foldl evC C = C := by
  induction E with
  | nil => exact ⟨trivial, rfl⟩
  | cons e E ih =>
    obtain ⟨q1, q2⟩ := h e (by simp)
    obtain ⟨i1, i2⟩ := ih (fun x hx => h x (by simp [hx]))
    have hc : evC C e = C := by
      unfold evC
      rw [if_neg (by omega), if_neg (by omega)]
    refine ⟨⟨⟨by omega, by omega, fun q => by omega⟩, by rw [hc]; exact i1⟩, ?_⟩
    rw [List.foldl_cons, hc]
    exact i2
end Go.Proofs.YtnchfomoaonbkaaGreat
