/- Who was doomed by whom, as it is counted beside four threads. No program is named here. -/
import Derived.Test.YtnchfomoaonbkaaGreatTxCh
namespace Go.Proofs.YtnchfomoaonbkaaGreat
open Go.RowKit
set_option linter.unusedVariables false
set_option linter.unusedSimpArgs false
/-- For each thread's number: the gate's number at which it was doomed, by whom; at which number it doomed others. -/
structure Ch3 where
  fl : Nat → Int
  by_ : Nat → Int
  nu : Nat → Int
def newD (hs hs' : List Hd) (s : Nat) : Bool := (hAt hs' s).dm && !(hAt hs s).dm
def dStep (hs hs' : List Hd) (a : Int) (k s : Nat) (C : Ch3) : Ch3 := if newD hs hs' s = true then ⟨upd C.fl (hAt hs' s).th.toNat a, upd C.by_ (hAt hs' s).th.toNat (k + 1), upd C.nu (k + 1) a⟩ else C
def dN (hs hs' : List Hd) (a : Int) (k : Nat) (C : Ch3) : Nat → Ch3
  | 0 => C
  | n + 1 => dStep hs hs' a k n (dN hs hs' a k C n)
theorem dN_none {hs hs' : List Hd} {a : Int} {k : Nat} {C : Ch3} {n : Nat} (h : ∀ s, s < n → newD hs hs' s = false) : dN hs hs' a k C n = C := by
  induction n with
  | zero => rfl
  | succ n ih =>
    rw [dN, ih (fun s hs => h s (by omega)), dStep, if_neg (by rw [h n (by omega)]; simp)]
theorem dN_one {hs hs' : List Hd} {a : Int} {k : Nat} {C : Ch3} {n s0 : Nat} (h0 : s0 < n) (h1 : newD hs hs' s0 = true) (h : ∀ s, s ≠ s0 → newD hs hs' s = false) : dN hs hs' a k C n = ⟨upd C.fl (hAt hs' s0).th.toNat a, upd C.by_ (hAt hs' s0).th.toNat (k + 1), upd C.nu (k + 1) a⟩ := by
  induction n with
  | zero => omega
  | succ n ih =>
    by_cases e : n = s0
    · subst e
      rw [dN, dN_none (fun s hs => h s (by omega)), dStep, if_pos h1]
    · rw [dN, ih (by omega), dStep, if_neg (by rw [h n e]; simp)]
def evC (C : Ch3) (e : Ev) : Ch3 := if e.kd = 1 then { C with fl := upd C.fl e.th.toNat 0 } else if e.kd = 4 then (if C.nu e.th.toNat = e.ga then { C with nu := upd C.nu e.th.toNat 0 } else C) else C
structure evOk (c : Cfg) (C : Ch3) (e : Ev) : Prop where
  t1 : 1 ≤ e.th
  t4 : e.th ≤ 4
  ab : e.kd = 5 → C.nu e.th.toNat = 0 ∧ ((e.er = 7 ∧ C.fl e.th.toNat ≠ 0 ∧ e.by_ = C.by_ e.th.toNat) ∨ (e.er = 9 ∧ c.ta = 2 ∧ e.by_ = 0) ∨ (e.er = 8 ∧ c.ta = 3 ∧ e.by_ = 0) ∨ (e.er = 3 ∧ e.by_ = 0))
def evsOk (c : Cfg) : Ch3 → List Ev → Prop
  | _, [] => True
  | C, e :: l => evOk c C e ∧ evsOk c (evC C e) l
structure Chg (g : Gp) (c : Cfg) (C : Ch3) : Prop where
  sane : ∀ j, j < 4 → ∀ y, (g.ts j).dg = .com y → y.sane c g.z.x.n
  dl : ∀ s, s < g.z.hs.length → (hAt g.z.hs s).dm = true → (hAt g.z.hs s).sa = 2
  a7 : ∀ j, j < 4 → ∀ p e v, (g.ts j).dg = .abo p e v → e = 3 ∨ (e = 7 ∧ (nowAt g.z.hs (g.ts j).fr.sl).dm = true)
  c7 : ∀ j, j < 4 → ∀ y, (g.ts j).dg = .com y → y.e = 7 → (nowAt g.z.hs (g.ts j).fr.sl).dm = true
  fl : ∀ j, j < 4 → ∀ s : Nat, ∀ n, (g.ts j).held = some ((s : Int), n, 2) → (hAt g.z.hs s).dm = true → C.fl (j + 1) ≠ 0 ∧ C.by_ (j + 1) = (hAt g.z.hs s).wy
  nu : ∀ j, j < 4 → C.nu (j + 1) ≠ 0 → ∃ y, (g.ts j).dg = .com y ∧ y.st.holds = true ∧ y.st ≠ .own ∧ y.st ≠ .look ∧ y.st ≠ .up ∧ C.nu (j + 1) = g.z.x.n
/-- What a step does to a head that is doomed already, and is not the thread's own. -/
theorem step_doomed {x : Tt} {c : Cfg} {z : SSt} {s : Nat} (hd : (hAt z.hs s).dm = true) (hl : (hAt z.hs s).sa = 2) (hno : x.held ≠ some ((s : Int), (hAt z.hs s).gn, 2)) (hcm : ∀ y, x.dg = .com y → y.so = x.fr.sl ∧ y.ge = x.fr.gn) : hAt (z.steps c x).hs s = hAt z.hs s := by
  rw [(steps_bare z c x).2.2.1]
  have hfr : ∀ (n i : Int), x.held = some (i, n, 2) → hAt ((freeOp n).H z.hs i) s = hAt z.hs s := by
    intro n i he
    rw [hAt_op]
    split
    · rename_i hc
      exfalso
      have h1 : i = s := hc.2.1
      have h2 : (hAt z.hs s).gn = n := by
        have := hc.2.2.2
        simp only [freeOp, Bool.and_eq_true, beq_iff_eq] at this
        exact this.2
      apply hno
      rw [he, h1, h2]
    · rfl
  unfold SSt.bare
  cases hg : x.dg with
  | rest => rfl
  | act => rfl
  | beg b =>
    simp only [SSt.goes]
    split
    · show hAt ((claimOp b.th).H z.hs b.sl) s = _
      rw [hAt_op]
      split
      · rename_i hc
        have := hc.2.2.2
        simp [claimOp, hl] at this
      · rfl
    · split
      · rfl
      · split
        · show hAt ((readyOp b.gn b.sp).H z.hs b.sl) s = _
          rw [hAt_op]
          split
          · rename_i hc
            have := hc.2.2.2
            simp [readyOp, hl] at this
          · rfl
        · rfl
  | rd r => simp only; rw [(reads_rest z r).2.2.2]
  | leav => exact hfr _ _ (by unfold Tt.held; rw [hg])
  | abo p e v => exact hfr _ _ (by unfold Tt.held; rw [hg])
  | com y =>
    obtain ⟨c1, c2⟩ := hcm y hg
    simp only [SSt.commits]
    cases hst : y.st with
    | take => rfl
    | own => rfl
    | look => simp only; rw [SSt.looks_hs]
    | doom d =>
      simp only [SSt.dooms]
      split
      · rfl
      · rename_i t l hl2
        show hAt ((doomOp t.ge d.wy).H z.hs t.so) s = _
        rw [hAt_op]
        split
        · simp only [doomOp]
          rw [if_pos hd]
        · rfl
    | write k => rfl
    | give => rfl
    | up => rfl
    | free =>
      rw [c1, c2]
      exact hfr _ _ (by unfold Tt.held; rw [hg])
    | over => rfl
/-- Who is doomed anew. -/
theorem step_new {x : Tt} {c : Cfg} {z : SSt} {s : Nat} (hn : newD z.hs (z.steps c x).hs s = true) : ∃ y d t l, x.dg = .com y ∧ y.st = .doom d ∧ d.left = t :: l ∧ t.so = s ∧ s < z.hs.length ∧ (hAt z.hs s).sa = 2 ∧ (hAt z.hs s).gn = t.ge ∧ hAt (z.steps c x).hs s = ⟨(hAt z.hs s).gn, (hAt z.hs s).sa, (hAt z.hs s).sp, (hAt z.hs s).th, true, d.wy⟩ := by
  simp only [newD, Bool.and_eq_true, Bool.not_eq_true'] at hn
  obtain ⟨h1, h2⟩ := hn
  by_cases hh : x.dg.holds = true
  · cases hg : x.dg with
    | com y =>
      rw [(steps_bare z c x).2.2.1] at h1 ⊢
      have hb : (z.bare x).hs = (z.commits y).hs := by unfold SSt.bare; rw [hg]
      rw [hb] at h1 ⊢
      cases hst : y.st with
      | doom d =>
        have hc : z.commits y = z.dooms d := by unfold SSt.commits; rw [hst]
        rw [hc] at h1 ⊢
        unfold SSt.dooms at h1 ⊢
        cases hl : d.left with
        | nil =>
          rw [hl] at h1
          simp only at h1
          rw [h2] at h1
          cases h1
        | cons t l =>
          rw [hl] at h1
          simp only at h1 ⊢
          have h1' : (hAt ((doomOp t.ge d.wy).H z.hs t.so) s).dm = true := h1
          show ∃ y' d' t' l', _ ∧ _ ∧ _ ∧ _ ∧ _ ∧ _ ∧ _ ∧ hAt ((doomOp t.ge d.wy).H z.hs t.so) s = _
          rw [hAt_op] at h1' ⊢
          split at h1'
          · rename_i hc2
            rw [if_pos hc2]
            have ho := hc2.2.2.2
            simp only [doomOp, Bool.and_eq_true, beq_iff_eq] at ho
            refine ⟨y, d, t, l, rfl, hst, hl, hc2.2.1, hc2.2.2.1, ho.1, ho.2, ?_⟩
            simp only [doomOp]
            rw [if_neg (by rw [h2]; simp)]
          · rw [h2] at h1'
            cases h1'
      | _ =>
        exfalso
        have hsame : (hAt (z.commits y).hs s).dm = (hAt z.hs s).dm := by
          unfold SSt.commits
          rw [hst]
          all_goals first
            | rfl
            | (simp only; rw [SSt.looks_hs]; done)
            | (exfalso; rw [hg] at hh; simp [Dg.holds, hst, Stg.holds] at hh; done)
        rw [hsame, h2] at h1
        cases h1
    | _ => rw [hg] at hh; cases hh
  · have := steps_dm (c := c) (by simpa using hh) s h1
    rw [h2] at this
    cases this
/-- A doomed head is of one that lives. -/
theorem step_dl {x : Tt} {c : Cfg} {z : SSt} {s : Nat} (h : (hAt z.hs s).dm = true → (hAt z.hs s).sa = 2) (hd : (hAt (z.steps c x).hs s).dm = true) : (hAt (z.steps c x).hs s).sa = 2 := by
  by_cases h0 : (hAt z.hs s).dm = true
  · have h2 := h h0
    rw [(steps_bare z c x).2.2.1] at hd ⊢
    have hfr : ∀ (n i : Int), (hAt ((freeOp n).H z.hs i) s).dm = true → (hAt ((freeOp n).H z.hs i) s).sa = 2 := by
      intro n i
      rw [hAt_op]
      split
      · intro q; simp [freeOp] at q
      · intro _; exact h2
    unfold SSt.bare at hd ⊢
    cases hg : x.dg with
    | rest => exact h2
    | act => exact h2
    | beg b =>
      rw [hg] at hd
      simp only [SSt.goes] at hd ⊢
      split at hd
      · rename_i hc; rw [if_pos hc]
        have hd' : (hAt ((claimOp b.th).H z.hs b.sl) s).dm = true := hd
        show (hAt ((claimOp b.th).H z.hs b.sl) s).sa = 2
        rw [hAt_op] at hd' ⊢
        split at hd'
        · simp [claimOp] at hd'
        · rename_i hq; rw [if_neg hq]; exact h2
      · rename_i hc; rw [if_neg hc]
        split at hd
        · rename_i hc2; rw [if_pos hc2]; exact h2
        · rename_i hc2; rw [if_neg hc2]
          split at hd
          · rename_i hc3; rw [if_pos hc3]
            show (hAt ((readyOp b.gn b.sp).H z.hs b.sl) s).sa = 2
            rw [hAt_op]
            split
            · rfl
            · exact h2
          · rename_i hc3; rw [if_neg hc3]; exact h2
    | rd r => simp only; rw [(reads_rest z r).2.2.2]; exact h2
    | leav => rw [hg] at hd; exact hfr _ _ hd
    | abo p e v => rw [hg] at hd; exact hfr _ _ hd
    | com y =>
      rw [hg] at hd
      simp only [SSt.commits] at hd ⊢
      cases hst : y.st with
      | take => exact h2
      | own => exact h2
      | look => simp only; rw [SSt.looks_hs]; exact h2
      | doom d =>
        simp only [SSt.dooms]
        split
        · exact h2
        · rename_i t l hl
          show (hAt ((doomOp t.ge d.wy).H z.hs t.so) s).sa = 2
          rw [hAt_op]
          split
          · simp only [doomOp]
            split
            · exact h2
            · exact h2
          · exact h2
      | write k => exact h2
      | give => exact h2
      | up => exact h2
      | free => rw [hst] at hd; exact hfr _ _ hd
      | over => exact h2
  · have h0 : (hAt z.hs s).dm = false := by simpa using h0
    obtain ⟨y, d, t, l, -, -, -, -, -, q1, -, q2⟩ := step_new (x := x) (c := c) (z := z) (s := s) (by simp [newD, hd, h0])
    rw [q2]
    exact q1
end Go.Proofs.YtnchfomoaonbkaaGreat
