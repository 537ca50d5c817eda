/- Who holds the gate; what a step may access; when Wait is answered. No program is named here. -/
import Derived.Test.YtnchfomoaonbkaaGreatTxG
namespace Go.Proofs.YtnchfomoaonbkaaGreat
open Go.RowKit
set_option linter.unusedVariables false
set_option linter.unusedSimpArgs false

/-- At most one access. -/
def One (s s' : Mt) : Prop := s' = s ∨ ∃ a b d e, s' = s.note a b d e
theorem One.refl (s : Mt) : One s s := .inl rfl
theorem One.dn {s s' : Mt} (h : One s s') (h0 : s.dn = 0) : s'.dn ≤ 1 := by
  rcases h with rfl | ⟨a, b, d, e, rfl⟩
  · omega
  · simp only [Mt.note]; omega
theorem One.mo {s s' : Mt} (h : One s s') (h0 : s.dn = 0) (hm : s.mo ≤ 1) : s'.mo ≤ 1 := by
  rcases h with rfl | ⟨a, b, d, e, rfl⟩
  · exact hm
  · simp only [Mt.note]; omega
theorem one_op (p : HOp) (s : Mt) (hs : List Hd) (i : Int) : One s (p.S s hs i) := by
  unfold HOp.S
  split
  · split
    · exact .inl rfl
    · exact .inr ⟨_, _, _, _, rfl⟩
  · exact .inl rfl
theorem one_look (s : Mt) (hs : List Hd) (i : Int) : One s (lookS s hs i) := by
  unfold lookS
  split
  · exact .inl rfl
  · exact .inr ⟨_, _, _, _, rfl⟩
theorem one_word (s : Mt) (n : Nat) (i j : Int) : One s (wordS s n i j) := by
  unfold wordS
  split
  · exact .inl rfl
  · exact .inr ⟨_, _, _, _, rfl⟩
theorem one_put (s : Mt) (n : Nat) (i j : Int) : One s (putS s n i j) := by
  unfold putS
  split
  · exact .inl rfl
  · exact .inr ⟨_, _, _, _, rfl⟩
theorem one_goes (z : SSt) (b : Bg) : One z.s (z.goes b).s := by
  unfold SSt.goes
  split
  · exact one_op _ _ _ _
  · split
    · exact one_put _ _ _ _
    · split
      · exact one_op _ _ _ _
      · exact .inl rfl
theorem one_reads (z : SSt) (r : Rd) : One z.s (z.reads r).s := by
  unfold SSt.reads
  split
  · exact one_put _ _ _ _
  · split
    · unfold SSt.load loadS
      split
      · exact .inr ⟨_, _, _, _, rfl⟩
      · exact .inl rfl
    · split
      · exact .inr ⟨_, _, _, _, rfl⟩
      · split
        · exact one_look _ _ _
        · exact .inl rfl
theorem one_commits (z : SSt) (y : Cm) : One z.s (z.commits y).s := by
  have ht : ∀ t, One z.s (z.take t).s := fun t => by
    unfold SSt.take takeS
    simp only
    split
    · exact .inr ⟨_, _, _, _, rfl⟩
    · exact .inl rfl
  have hg : ∀ t, One z.s (z.give t).s := fun t => by
    unfold SSt.give giveS
    simp only
    split
    · exact .inr ⟨_, _, _, _, rfl⟩
    · exact .inl rfl
  have hst : ∀ a b, One z.s (z.store a b).s := fun a b => by
    unfold SSt.store storeS
    simp only
    split
    · exact .inr ⟨_, _, _, _, rfl⟩
    · exact .inl rfl
  unfold SSt.commits
  cases y.st with
  | take => exact ht _
  | own => exact one_look _ _ _
  | look =>
    simp only [SSt.looks]
    split
    · exact .inl rfl
    · split
      · exact one_word _ _ _ _
      · exact one_look _ _ _
  | doom d =>
    simp only [SSt.dooms]
    split
    · exact .inl rfl
    · exact one_op _ _ _ _
  | write k => exact hst _ _
  | give => exact hg _
  | up => exact hg _
  | free => exact one_op (freeOp y.ge) z.s z.hs y.so
  | over => exact .inl rfl
theorem noted_s (z : SSt) (e : Ev) : (z.noted e).s = z.s ∧ (z.noted e).x = z.x ∧ (z.noted e).hs = z.hs ∧ (z.noted e).ws = z.ws ∧ (z.noted e).xs = z.xs := ⟨rfl, rfl, rfl, rfl, rfl⟩
/-- What a step leaves, but for the events. -/
def SSt.bare (z : SSt) (x : Tt) : SSt :=
  match x.dg with
  | .rest => z
  | .act => z
  | .beg b => z.goes b
  | .rd r => z.reads r
  | .leav => z.op (freeOp x.fr.gn) x.fr.sl
  | .com y => z.commits y
  | .abo _ _ _ => z.op (freeOp x.fr.gn) x.fr.sl
theorem steps_bare (z : SSt) (c : Cfg) (x : Tt) : (z.steps c x).s = (z.bare x).s ∧ (z.steps c x).x = (z.bare x).x ∧ (z.steps c x).hs = (z.bare x).hs ∧ (z.steps c x).ws = (z.bare x).ws ∧ (z.steps c x).xs = (z.bare x).xs := by
  unfold SSt.steps SSt.bare
  cases x.dg with
  | rest => exact ⟨rfl, rfl, rfl, rfl, rfl⟩
  | act => exact ⟨rfl, rfl, rfl, rfl, rfl⟩
  | beg b =>
    simp only [Tt.begunZ]
    split
    · exact ⟨rfl, rfl, rfl, rfl, rfl⟩
    · split
      · exact ⟨rfl, rfl, rfl, rfl, rfl⟩
      · split <;> exact ⟨rfl, rfl, rfl, rfl, rfl⟩
  | rd r =>
    simp only [Tt.readOnZ]
    split <;> exact ⟨rfl, rfl, rfl, rfl, rfl⟩
  | leav => exact ⟨rfl, rfl, rfl, rfl, rfl⟩
  | com y =>
    simp only [Tt.comZ, Tt.wonZ]
    split <;> split <;> exact ⟨rfl, rfl, rfl, rfl, rfl⟩
  | abo a b d => exact ⟨rfl, rfl, rfl, rfl, rfl⟩
theorem one_bare (z : SSt) (x : Tt) : One z.s (z.bare x).s := by
  unfold SSt.bare
  cases x.dg with
  | rest => exact .inl rfl
  | act => exact .inl rfl
  | beg b => exact one_goes _ _
  | rd r => exact one_reads _ _
  | leav => exact one_op (freeOp x.fr.gn) z.s z.hs x.fr.sl
  | com y => exact one_commits _ _
  | abo a b d => exact one_op (freeOp x.fr.gn) z.s z.hs x.fr.sl
theorem one_steps (z : SSt) (c : Cfg) (x : Tt) : One z.s (z.steps c x).s := by rw [(steps_bare z c x).1]; exact one_bare z x

/-- The gate is its own. -/
def Stg.holds : Stg → Bool
  | .own => true
  | .look => true
  | .doom _ => true
  | .write _ => true
  | .give => true
  | .up => true
  | _ => false
def Dg.holds : Dg → Bool
  | .com y => y.st.holds
  | _ => false
/-- A commit of the thread's own. -/
structure Tt.mine (x : Tt) (c : Cfg) : Prop where
  th : ∀ y, x.dg = .com y → y.th = x.th
  ov : ∀ y, x.dg = .com y → y.st ≠ .over
  up : ∀ y, x.dg = .com y → y.st = .up → y.e = 9 → c.ta = 2 ∧ 1 ≤ x.df ∧ x.df ≤ c.de
/-- Who holds the gate is told by it. -/
structure Gp.gate (g : Gp) (c : Cfg) : Prop where
  own : ∀ j, j < 4 → ((g.ts j).dg.holds = true ↔ g.z.x.o = j + 1)
  few : g.z.x.o ≤ 4
  mine : ∀ j, j < 4 → (g.ts j).mine c
  mo : g.z.s.mo ≤ 1

theorem goes_rest (z : SSt) (b : Bg) : (z.goes b).x = z.x ∧ (z.goes b).xs = z.xs ∧ (z.goes b).ev = z.ev := by
  unfold SSt.goes
  split
  · exact ⟨rfl, rfl, rfl⟩
  · split
    · exact ⟨rfl, rfl, rfl⟩
    · split <;> exact ⟨rfl, rfl, rfl⟩
theorem reads_rest (z : SSt) (r : Rd) : (z.reads r).x = z.x ∧ (z.reads r).xs = z.xs ∧ (z.reads r).ev = z.ev ∧ (z.reads r).hs = z.hs := by
  unfold SSt.reads
  split
  · exact ⟨rfl, rfl, rfl, rfl⟩
  · split
    · exact ⟨rfl, rfl, rfl, rfl⟩
    · split
      · exact ⟨rfl, rfl, rfl, rfl⟩
      · split <;> exact ⟨rfl, rfl, rfl, rfl⟩
theorem bare_gate {z : SSt} {x : Tt} (h : ∀ y, x.dg ≠ .com y) : (z.bare x).x = z.x := by
  unfold SSt.bare
  cases hd : x.dg with
  | rest => rfl
  | act => rfl
  | beg b => exact (goes_rest z b).1
  | rd r => exact (reads_rest z r).1
  | leav => rfl
  | com y => exact absurd hd (h y)
  | abo a b d => rfl
theorem lookOn_st (x : Cm) (c : Cfg) (df : Int) : (x.lookOn c df).st.holds = true ∧ (x.lookOn c df).th = x.th ∧ (x.lookOn c df).st ≠ .over := by
  unfold Cm.lookOn
  split
  · unfold Cm.judged
    split
    · exact ⟨rfl, rfl, by simp [Cm.giveUp]⟩
    · split
      · exact ⟨rfl, rfl, by simp [Cm.giveUp]⟩
      · unfold Cm.doomOn
        refine ⟨?_, rfl, ?_⟩
        · simp only; split <;> rfl
        · simp only; split <;> simp
  · exact ⟨rfl, rfl, by simp⟩
theorem vdV_defer {c : Cfg} {sp df : Int} {vs : List Vt} (h : vdV c sp df vs = 2) : c.ta = 2 ∧ df < c.de ∧ 0 ≤ df := by
  unfold vdV at h
  split at h
  · rename_i ho
    simp only [vdOk, Bool.and_eq_true, decide_eq_true_eq] at ho
    split at h
    · rename_i hc
      exact ⟨hc.1, hc.2.2, ho.2⟩
    · split at h <;> omega
  · omega
theorem lookOn_up (x : Cm) (c : Cfg) (df : Int) (h : (x.lookOn c df).st = .up) (he : (x.lookOn c df).e = 9) : c.ta = 2 ∧ 1 ≤ x.lookDf c df ∧ x.lookDf c df ≤ c.de := by
  unfold Cm.lookOn at h he
  unfold Cm.lookDf
  split at h
  · rename_i hl
    rw [if_pos hl] at he ⊢
    unfold Cm.judged at h he
    split at h
    · rename_i hv
      obtain ⟨a1, a2, a3⟩ := vdV_defer hv
      unfold nxt
      rw [if_pos hv]
      exact ⟨a1, by omega, by omega⟩
    · rename_i hv
      rw [if_neg hv] at he
      split at h
      · rename_i hv3
        rw [if_pos hv3] at he
        simp [Cm.giveUp] at he
      · unfold Cm.doomOn at h
        simp only at h
        split at h <;> cases h
  · cases h
theorem lookDf_cases (x : Cm) (c : Cfg) (df : Int) : x.lookDf c df = df ∨ (x.lookDf c df = df + 1 ∧ c.ta = 2) := by
  unfold Cm.lookDf
  split
  · unfold nxt
    split
    · rename_i h
      exact .inr ⟨rfl, (vdV_defer h).1⟩
    · exact .inl rfl
  · exact .inl rfl
theorem nextDf_cases (y : Cm) (c : Cfg) (z : SSt) (df : Int) : y.nextDf c z df = df ∨ (y.nextDf c z df = df + 1 ∧ c.ta = 2) := by
  unfold Cm.nextDf
  split
  · split
    · exact lookDf_cases _ _ _
    · exact .inl rfl
  · exact lookDf_cases _ _ _
  · exact .inl rfl

/-- What a commit's step does to the gate. -/
theorem commit_gate {y : Cm} {c : Cfg} {z : SSt} {df : Int} (hth : gTh y.th = true) (hov : y.st ≠ .over) (hg : GOk z.x.n z.x.o) (hh : y.st.holds = true ↔ z.x.o = y.th) (hu : y.st = .up → y.e = 9 → c.ta = 2 ∧ 1 ≤ df ∧ df ≤ c.de) :
    ((y.next c z df).st.holds = true ↔ (z.commits y).x.o = y.th) ∧ (y.next c z df).th = y.th ∧
    ((z.commits y).x.o = z.x.o ∨ (z.x.o = 0 ∧ (z.commits y).x.o = y.th) ∨ (z.x.o = y.th ∧ (z.commits y).x.o = 0)) ∧
    ((y.next c z df).st = .up → (y.next c z df).e = 9 → c.ta = 2 ∧ 1 ≤ y.nextDf c z df ∧ y.nextDf c z df ≤ c.de) ∧
    (y.ans z = 2 → (z.x.n % 2 = 1 ∧ z.x.o ≠ y.th) ∨ (c.ta = 2 ∧ z.x.o = y.th ∧ (y.next c z df).st = .free ∧ 1 ≤ y.nextDf c z df ∧ y.nextDf c z df ≤ c.de)) := by
  have t1 : 1 ≤ y.th := by simp [gTh] at hth; omega
  unfold Cm.next Cm.nextDf SSt.commits Cm.ans
  cases hst : y.st with
  | take =>
    rw [hst] at hh
    have hne : z.x.o ≠ y.th := fun e => by have := hh.2 e; simp [Stg.holds] at this
    simp only
    by_cases h0 : z.x.o = 0
    · have e1 : takeE z.x y.th = 0 := by simp [takeE, hth, h0]
      rw [if_pos e1, if_pos e1]
      have e2 : (z.take y.th).x = ⟨z.x.n + 1, y.th⟩ := by simp [SSt.take, takeX, hth, h0]
      rw [e2]
      exact ⟨⟨fun _ => rfl, fun _ => rfl⟩, rfl, .inr (.inl ⟨h0, rfl⟩), fun h => by simp at h, fun h => by omega⟩
    · have e1 : takeE z.x y.th ≠ 0 := by simp [takeE, hth, h0]
      rw [if_neg e1, if_neg e1]
      have e2 : (z.take y.th).x = z.x := by simp [SSt.take, takeX, h0]
      rw [e2]

      refine ⟨by rw [hst]; exact hh, rfl, .inl rfl, fun h => (by rw [hst] at h; cases h), fun _ => .inl ⟨?_, hne⟩⟩
      rcases hg with ⟨a, b⟩ | ⟨a, b, d⟩
      · omega
      · exact d
  | own =>
    rw [hst] at hh
    have ho : z.x.o = y.th := hh.1 rfl
    simp only
    split
    · obtain ⟨a1, a2, a3⟩ := lookOn_st y c df
      exact ⟨⟨fun _ => ho, fun _ => a1⟩, a2, .inl rfl, lookOn_up y c df, fun h => by omega⟩
    · exact ⟨⟨fun _ => ho, fun _ => rfl⟩, rfl, .inl rfl, fun _ h => by simp [Cm.giveUp] at h, fun h => by omega⟩
  | look =>
    rw [hst] at hh
    have ho : z.x.o = y.th := hh.1 rfl
    have hx : (z.looks y.lk).x = z.x := by
      unfold SSt.looks
      split
      · rfl
      · split <;> rfl
    simp only
    rw [hx]
    obtain ⟨a1, a2, a3⟩ := lookOn_st (y.looked z) c df
    exact ⟨⟨fun _ => ho, fun _ => a1⟩, a2, .inl rfl, lookOn_up (y.looked z) c df, fun h => by omega⟩
  | doom d =>
    rw [hst] at hh
    have ho : z.x.o = y.th := hh.1 rfl
    have hx : (z.dooms d).x = z.x := by
      unfold SSt.dooms
      split <;> rfl
    simp only
    rw [hx]
    unfold Cm.doomOn
    simp only
    refine ⟨⟨fun _ => ho, fun _ => by split <;> rfl⟩, (by first | rfl | trivial), (by first | exact .inl rfl | exact .inl trivial | trivial), fun h => ?_, fun h => by omega⟩
    split at h <;> cases h
  | write k =>
    rw [hst] at hh
    have ho : z.x.o = y.th := hh.1 rfl
    simp only
    refine ⟨⟨fun _ => ho, fun _ => by split <;> rfl⟩, (by first | rfl | trivial), (by first | exact .inl rfl | exact .inl trivial | trivial), fun h => ?_, fun h => by omega⟩
    split at h <;> cases h
  | give =>
    rw [hst] at hh
    have ho : z.x.o = y.th := hh.1 rfl
    have e2 : (z.give y.th).x = ⟨z.x.n + 1, 0⟩ := by simp [SSt.give, giveX, hth, ho]
    simp only
    rw [e2]
    exact ⟨⟨fun h => by simp [Stg.holds] at h, fun h => by simp only at h; omega⟩, trivial, .inr (.inr ⟨ho, rfl⟩), fun h => by simp at h, fun h => by omega⟩
  | up =>
    rw [hst] at hh
    have ho : z.x.o = y.th := hh.1 rfl
    have e2 : (z.give y.th).x = ⟨z.x.n + 1, 0⟩ := by simp [SSt.give, giveX, hth, ho]
    simp only
    rw [e2]
    refine ⟨⟨fun h => by simp [Stg.holds] at h, fun h => by simp only at h; omega⟩, trivial, .inr (.inr ⟨ho, rfl⟩), fun h => by simp at h, fun h => ?_⟩
    split at h
    · rename_i h9
      obtain ⟨q1, q2, q3⟩ := hu hst h9
      exact .inr ⟨q1, ho, trivial, q2, q3⟩
    · omega
  | free =>
    rw [hst] at hh
    simp only
    exact ⟨⟨fun h => by simp [Stg.holds] at h, fun h => by have := hh.2 h; simp [Stg.holds] at this⟩, (by first | rfl | trivial), (by first | exact .inl rfl | exact .inl trivial | trivial), fun h => by simp at h, fun h => by omega⟩
  | over => exact absurd hst hov
theorem next_over {y : Cm} (c : Cfg) (z : SSt) (df : Int) (hd : (y.next c z df).done = false) : (y.next c z df).st ≠ .over := by
  intro h
  unfold Cm.done at hd
  rw [h] at hd
  simp [Stg.isOver] at hd

/-- What is under way behind a call: the same commit, a new one, or none. -/
theorem callT_com (x : Tt) (c : Cfg) (n : Nat) (m : Mv) (sp : Int) : (∃ y, x.dg = .com y ∧ callT x c n m sp = x) ∨ ((∀ y, x.dg ≠ .com y) ∧ ∀ y, (callT x c n m sp).dg = .com y → y.st = .take ∧ y.th = x.th) := by
  by_cases hy : ∃ y, x.dg = .com y
  · obtain ⟨y, hy⟩ := hy
    refine .inl ⟨y, hy, ?_⟩
    unfold callT
    rw [hy]
    simp [Dg.phase]
  · refine .inr ⟨fun y e => hy ⟨y, e⟩, fun y e => ?_⟩
    unfold callT at e
    split at e
    · unfold Tt.begin_ at e
      split at e
      · simp at e
      · exact absurd ⟨y, e⟩ hy
    · split at e
      · split at e
        · unfold Tt.read at e
          split at e
          · exact absurd ⟨y, e⟩ hy
          · split at e
            · exact absurd ⟨y, e⟩ hy
            · split at e
              · simp at e
              · exact absurd ⟨y, e⟩ hy
        · split at e
          · unfold Tt.write at e
            split at e
            · exact absurd ⟨y, e⟩ hy
            · exact absurd ⟨y, e⟩ hy
          · split at e
            · unfold Tt.commit at e
              split at e
              · exact absurd ⟨y, e⟩ hy
              · split at e
                · simp at e
                · simp only [Dg.com.injEq] at e
                  subst e
                  exact ⟨rfl, rfl⟩
            · unfold Tt.abort at e
              split at e
              · simp at e
              · exact absurd ⟨y, e⟩ hy
      · exact absurd ⟨y, e⟩ hy
theorem callT_holds (x : Tt) (c : Cfg) (n : Nat) (m : Mv) (sp : Int) : (callT x c n m sp).dg.holds = x.dg.holds := by
  rcases callT_com x c n m sp with ⟨y, h1, h2⟩ | ⟨h1, h2⟩
  · rw [h2]
  · have e1 : x.dg.holds = false := by
      cases hd : x.dg with
      | com y => exact absurd hd (h1 y)
      | _ => rfl
    rw [e1]
    cases hd : (callT x c n m sp).dg with
    | com y =>
      have := (h2 y hd).1
      simp [Dg.holds, this, Stg.holds]
    | _ => rfl
theorem callT_mine {x : Tt} {c : Cfg} (h : x.mine c) (n : Nat) (m : Mv) (sp : Int) : (callT x c n m sp).mine c := by
  rcases callT_com x c n m sp with ⟨y, h1, h2⟩ | ⟨h1, h2⟩
  · rw [h2]; exact h
  · refine ⟨fun y e => ?_, fun y e => ?_, fun y e eu => ?_⟩
    · rw [callT_th]; exact (h2 y e).2
    · rw [(h2 y e).1]; simp
    · rw [(h2 y e).1] at eu; cases eu
theorem callT_df (x : Tt) (c : Cfg) (n : Nat) (m : Mv) (sp : Int) (h : 0 ≤ x.df) : (callT x c n m sp).df ≤ x.df := by
  unfold callT
  split
  · unfold Tt.begin_
    split
    · simp only
      split <;> omega
    · exact Int.le_refl _
  · split
    · split
      · unfold Tt.read
        split
        · exact Int.le_refl _
        · split
          · exact Int.le_refl _
          · split <;> exact Int.le_refl _
      · split
        · unfold Tt.write
          split <;> exact Int.le_refl _
        · split
          · unfold Tt.commit
            split
            · exact Int.le_refl _
            · split <;> exact Int.le_refl _
          · unfold Tt.abort
            split <;> exact Int.le_refl _
    · exact Int.le_refl _
/-- A step where no commit is under way. -/
theorem next_plain {x : Tt} {c : Cfg} {z : SSt} (h : ∀ y, x.dg ≠ .com y) : (x.next c z).df = x.df ∧ ∀ y, (x.next c z).dg ≠ .com y := by
  unfold Tt.next
  split
  · exact ⟨rfl, h⟩
  · exact ⟨rfl, h⟩
  · unfold Tt.begun
    split
    · exact ⟨rfl, fun y e => by simp at e⟩
    · split
      · exact ⟨rfl, fun y e => by simp at e⟩
      · exact ⟨rfl, fun y e => by simp at e⟩
  · unfold Tt.readOn
    split
    · exact ⟨rfl, fun y e => by simp at e⟩
    · split
      · exact ⟨rfl, fun y e => by simp at e⟩
      · exact ⟨rfl, fun y e => by simp at e⟩
  · exact ⟨rfl, fun y e => by simp at e⟩
  · rename_i y e
    exact absurd e (h y)
  · exact ⟨rfl, fun y e => by simp at e⟩
/-- A step where one is. -/
theorem next_com {x : Tt} {c : Cfg} {z : SSt} {y : Cm} (h : x.dg = .com y) : (x.next c z).df = y.nextDf c z x.df ∧ (((y.next c z x.df).done = true ∧ (x.next c z).dg = .rest) ∨ ((y.next c z x.df).done = false ∧ (x.next c z).dg = .com (y.next c z x.df))) := by
  unfold Tt.next
  rw [h]
  simp only [Tt.comOn]
  split
  · rename_i hd
    exact ⟨rfl, .inl ⟨hd, rfl⟩⟩
  · rename_i hd
    exact ⟨rfl, .inr ⟨by simpa using hd, rfl⟩⟩
theorem done_holds {y : Cm} (h : y.done = true) : y.st.holds = false := by
  unfold Cm.done at h
  cases hs : y.st <;> rw [hs] at h <;> first | rfl | (simp [Stg.isOver] at h)
theorem plain_holds {d : Dg} (h : ∀ y, d ≠ .com y) : d.holds = false := by
  cases d with
  | com y => exact absurd rfl (h y)
  | _ => rfl

/-- One step of a thread whose gate is told right. -/
theorem step_gate {x : Tt} {c : Cfg} {z : SSt} {n k : Nat} (hx : x.fit c n k) (hm : x.mine c) (hg : GOk z.x.n z.x.o) (hh : x.dg.holds = true ↔ z.x.o = x.th) :
    ((x.next c z).dg.holds = true ↔ (z.steps c x).x.o = x.th) ∧ (x.next c z).mine c ∧
    ((z.steps c x).x.o = z.x.o ∨ (z.x.o = 0 ∧ (z.steps c x).x.o = x.th) ∨ (z.x.o = x.th ∧ (z.steps c x).x.o = 0)) ∧
    ((x.next c z).df = x.df ∨ c.ta = 2) ∧
    (x.ans z = 2 → (z.x.n % 2 = 1 ∧ z.x.o ≠ x.th) ∨ (c.ta = 2 ∧ z.x.o = x.th ∧ (x.next c z).dg.phase = 4 ∧ 1 ≤ (x.next c z).df ∧ (x.next c z).df ≤ c.de)) := by
  have hs := (steps_bare z c x).2.1
  by_cases hy : ∃ y, x.dg = .com y
  · obtain ⟨y, hy⟩ := hy
    have hth := hm.th y hy
    have t1 := hx.th1
    have t8 := hx.th8
    have hgt : gTh y.th = true := by rw [hth]; simp [gTh]; omega
    have hhy : y.st.holds = true ↔ z.x.o = y.th := by rw [hth]; rw [hy] at hh; exact hh
    obtain ⟨a1, a2, a3, a4, a5⟩ := commit_gate (df := x.df) hgt (hm.ov y hy) hg hhy (hm.up y hy)
    have hb : (z.bare x).x = (z.commits y).x := by unfold SSt.bare; rw [hy]
    rw [hs, hb]
    obtain ⟨e1, e2⟩ := next_com (c := c) (z := z) hy
    have han : x.ans z = y.ans z := by unfold Tt.ans; rw [hy]
    rw [hth] at a1 a2 a3 a5
    rw [e1, han]
    rcases e2 with ⟨e2, e3⟩ | ⟨e2, e3⟩
    · rw [e3]
      have hnh := done_holds e2
      refine ⟨⟨fun h => by simp [Dg.holds] at h, fun h => ?_⟩, ⟨fun q e => (by rw [e3] at e; cases e), fun q e => (by rw [e3] at e; cases e), fun q e => (by rw [e3] at e; cases e)⟩, a3, ?_, ?_⟩
      · have := a1.2 h
        rw [hnh] at this
        cases this
      · rcases nextDf_cases y c z x.df with h | h
        · exact .inl h
        · exact .inr h.2
      · intro h
        rcases a5 h with h | ⟨h1, h2, h3, h4⟩
        · exact .inl h
        · unfold Cm.done at e2
          rw [h3] at e2
          simp [Stg.isOver] at e2
    · rw [e3]
      refine ⟨a1, ⟨fun q e => ?_, fun q e => ?_, fun q e => ?_⟩, a3, ?_, ?_⟩
      · rw [e3] at e
        cases e
        rw [a2, next_th]
      · rw [e3] at e
        cases e
        exact next_over c z x.df e2
      · rw [e3] at e
        cases e
        rw [e1]
        exact a4
      · rcases nextDf_cases y c z x.df with h | h
        · exact .inl h
        · exact .inr h.2
      · intro h
        rcases a5 h with h | ⟨h1, h2, h3, h4, h5⟩
        · exact .inl h
        · exact .inr ⟨h1, h2, rfl, h4, h5⟩
  · have hy : ∀ y, x.dg ≠ .com y := fun y e => hy ⟨y, e⟩
    rw [hs, bare_gate hy]
    obtain ⟨e1, e2⟩ := next_plain (c := c) (z := z) hy
    have h0 := plain_holds hy
    have hne : z.x.o ≠ x.th := fun e => by rw [hh.2 e] at h0; cases h0
    refine ⟨⟨fun h => (by rw [plain_holds e2] at h; cases h), fun h => absurd h hne⟩, ⟨fun q e => absurd e (e2 q), fun q e => absurd e (e2 q), fun q e => absurd e (e2 q)⟩, .inl rfl, .inl e1, ?_⟩
    intro h
    refine .inl ⟨?_, hne⟩
    unfold Tt.ans at h
    split at h
    · omega
    · omega
    · unfold Bg.ans at h
      split at h <;> omega
    · unfold Rd.ans at h
      split at h
      · omega
      · split at h
        · rename_i hc
          have := hc.2
          omega
        · omega
    · omega
    · rename_i y e
      exact absurd e (hy y)
    · omega
section
variable {g : Gp} {c : Cfg} {k : Nat}
theorem pre_x (g : Gp) (c : Cfg) (m : Mv) : (g.preZ c m).x = g.z.x ∧ (g.preZ c m).s = g.z.s.start (m.k + 1) := ⟨(callZ_ws _ _ _).2.2.2.1, (callZ_ws _ _ _).2.2.2.2⟩
/-- A move: who holds the gate, when Wait is answered, one access. -/
theorem Gp.gate.goes (h : g.gate c) (hk : g.ok c k) (m : Mv) : (g.goes c m).gate c ∧
    (g.ans c m = 2 → (g.z.x.n % 2 = 1 ∧ g.z.x.o ≠ m.k + 1) ∨ (c.ta = 2 ∧ g.z.x.o = m.k + 1 ∧ ((g.goes c m).ts m.k).dg.phase = 4 ∧ 1 ≤ ((g.goes c m).ts m.k).df ∧ ((g.goes c m).ts m.k).df ≤ c.de)) ∧
    (((g.goes c m).ts m.k).df ≤ (g.ts m.k).df ∨ c.ta = 2) ∧ (g.goes c m).z.s.dn ≤ 1 := by
  have hlt := m.k_lt
  have hfit := hk.preT m
  have hmine := callT_mine (h.mine m.k hlt) g.z.hs.length m (g.again m.k)
  obtain ⟨px, ps⟩ := pre_x g c m
  have hgk : GOk (g.preZ c m).x.n (g.preZ c m).x.o := by rw [px]; exact hk.z.gk
  have hth : (g.preT c m).th = m.k + 1 := by rw [Gp.preT, callT_th]; exact hk.th _ hlt
  have hh : (g.preT c m).dg.holds = true ↔ (g.preZ c m).x.o = (g.preT c m).th := by
    rw [hth, px, Gp.preT, callT_holds]
    exact h.own _ hlt
  obtain ⟨a1, a2, a3, a4, a5⟩ := step_gate hfit hmine hgk hh
  have h1 := one_steps (g.preZ c m) c (g.preT c m)
  have hdn : (g.preZ c m).s.dn = 0 := by rw [ps]; rfl
  have hmo : (g.preZ c m).s.mo ≤ 1 := by rw [ps]; exact h.mo
  have hat : (g.goes c m).ts m.k = (g.preT c m).next c (g.preZ c m) := upd_same _ _ _
  have hdf := callT_df (g.ts m.k) c g.z.hs.length m (g.again m.k) (hk.ts m.k hlt).df
  refine ⟨⟨?_, ?_, ?_, h1.mo hdn hmo⟩, ?_, ?_, h1.dn hdn⟩
  · intro j hj
    by_cases e : j = m.k
    · subst e
      rw [hat]
      have := a1
      rw [hth] at this
      exact this
    · have ho := h.own j hj
      rw [show (g.goes c m).ts j = g.ts j from upd_ne _ e _]
      rw [ho]
      show g.z.x.o = _ ↔ ((g.preZ c m).steps c (g.preT c m)).x.o = _
      rw [px, hth] at a3
      rcases a3 with h | ⟨h1, h2⟩ | ⟨h1, h2⟩
      · rw [h]
      · rw [h1, h2]
        constructor
        · intro q; omega
        · intro q; omega
      · rw [h1, h2]
        constructor
        · intro q; omega
        · intro q; omega
  · show ((g.preZ c m).steps c (g.preT c m)).x.o ≤ 4
    have := h.few
    rw [px, hth] at a3
    rcases a3 with h | ⟨h1, h2⟩ | ⟨h1, h2⟩ <;> omega
  · intro j hj
    by_cases e : j = m.k
    · subst e
      rw [hat]
      exact a2
    · rw [show (g.goes c m).ts j = g.ts j from upd_ne _ e _]
      exact h.mine j hj
  · intro ha
    rw [hat]
    rw [px, hth] at a5
    exact a5 ha
  · rw [hat]
    rcases a4 with h | h
    · rw [h]
      exact .inl hdf
    · exact .inr h
theorem Gp.gate_new (c : Cfg) (l : List Int) : (Gp.new c l).gate c := by
  refine ⟨fun j hj => ⟨fun h => by simp [Gp.new, Tt.new, Dg.holds] at h, fun h => ?_⟩, (by show (0 : Int) ≤ 4; decide), fun j _ => ⟨fun y e => by simp [Gp.new, Tt.new] at e, fun y e => by simp [Gp.new, Tt.new] at e, fun y e => by simp [Gp.new, Tt.new] at e⟩, (by show (0 : Int) ≤ 1; decide)⟩
  have : (0 : Int) = j + 1 := h
  omega
end
end Go.Proofs.YtnchfomoaonbkaaGreat
