/- How long the gate is held, and who wins: steps that are left. No program is named here. -/
import Derived.Test.YtnchfomoaonbkaaGreatTxH
namespace Go.Proofs.YtnchfomoaonbkaaGreat
open Go.RowKit
set_option linter.unusedVariables false
set_option linter.unusedSimpArgs false

/-- Steps that a look has ahead of it, at most. -/
def Lk.mu (k : Lk) : Nat := 3 * k.left.length - (if k.inW then 1 + k.ld.length else 0)
/-- Steps that a commit which holds the gate has ahead of it, at most. -/
def Cm.mu (y : Cm) : Nat :=
  match y.st with
  | .take => 0
  | .own => 1 + 3 * y.lk.left.length + (y.lk.vs.length + y.lk.left.length) + y.wr.length + 2
  | .look => y.lk.mu + (y.lk.vs.length + y.lk.left.length) + y.wr.length + 2
  | .doom d => d.left.length + y.wr.length + 2
  | .write k => y.wr.length - k + 2
  | .give => 2
  | .up => 2
  | .free => 1
  | .over => 0
theorem Lk.mu_next {k : Lk} (h : k.fit) (h0 : k.left ≠ []) (z : SSt) : (k.next z).mu + 1 ≤ k.mu ∧ (k.next z).vs.length + (k.next z).left.length ≤ k.vs.length + k.left.length := by
  have hl := h.ld
  have ho := h.out
  unfold Lk.next
  cases he : k.left with
  | nil => exact absurd he h0
  | cons s r =>
    simp only
    split
    · rename_i hi
      unfold Lk.word
      split
      · rename_i hd
        simp [Lk.mu, hi, he, hd]
        omega
      · rename_i a q hd
        have hq : q.length = 0 := by rw [hd] at hl; simp at hl ⊢; exact hl
        have hv : (if (⟨a, (wordR z.ws z.hs.length k.met.so k.ld.length).toNat⟩ : Sg).meets k.wr then k.vs ++ [k.met] else k.vs).length ≤ k.vs.length + 1 := by split <;> simp
        simp only [Lk.pass, Lk.mu, he, hi, hd, List.tail_cons, List.length_cons, hq]
        refine ⟨by simp; omega, ?_⟩
        rw [hd] at hv
        simp only [List.length_cons, hq] at hv
        omega
    · rename_i hi
      have hi : k.inW = false := by simpa using hi
      have hd := ho hi
      unfold Lk.head
      split
      · simp [Lk.mu, hi, he, hd]
        omega
      · simp [Lk.pass, Lk.mu, hi, he, hd]
        omega
theorem lookOn_mu (x : Cm) (c : Cfg) (df : Int) : (x.lookOn c df).mu ≤ (if x.lk.left = [] then 0 else x.lk.mu) + (x.lk.vs.length + x.lk.left.length) + x.wr.length + 2 ∧ ((x.lookOn c df).st = .look → (x.lookOn c df).lk.left ≠ []) ∧ (x.lookOn c df).st ≠ .take ∧ (x.lookOn c df).st ≠ .own := by
  unfold Cm.lookOn
  split
  · rename_i hl
    unfold Cm.judged
    split
    · exact ⟨by simp [Cm.giveUp, Cm.mu], fun h => by simp [Cm.giveUp] at h, by simp [Cm.giveUp], by simp [Cm.giveUp]⟩
    · split
      · exact ⟨by simp [Cm.giveUp, Cm.mu], fun h => by simp [Cm.giveUp] at h, by simp [Cm.giveUp], by simp [Cm.giveUp]⟩
      · unfold Cm.doomOn
        simp only
        split
        · refine ⟨?_, fun h => by simp at h, by simp, by simp⟩
          simp only [Cm.mu]
          omega
        · refine ⟨?_, fun h => by simp at h, by simp, by simp⟩
          simp only [Cm.mu]
          omega
  · rename_i hl
    refine ⟨?_, fun _ => hl, by simp, by simp⟩
    simp only [Cm.mu]
    omega
theorem Cm.mu_next {y : Cm} {c : Cfg} {z : SSt} {df : Int} {n : Nat} (hf : y.fit n) (h0 : y.st ≠ .take) (h1 : y.st ≠ .over) (hl : y.st = .look → y.lk.left ≠ []) :
    (y.next c z df).mu + 1 ≤ y.mu ∧ ((y.next c z df).st = .look → (y.next c z df).lk.left ≠ []) ∧ (y.next c z df).st ≠ .take ∧ (y.next c z df).st ≠ .own := by
  unfold Cm.next
  cases hst : y.st with
  | take => exact absurd hst h0
  | over => exact absurd hst h1
  | own =>
    simp only
    split
    · obtain ⟨a1, a2⟩ := lookOn_mu y c df
      refine ⟨?_, a2⟩
      have hm : y.mu = 1 + 3 * y.lk.left.length + (y.lk.vs.length + y.lk.left.length) + y.wr.length + 2 := by simp [Cm.mu, hst]
      have hk : (if y.lk.left = [] then 0 else y.lk.mu) ≤ 3 * y.lk.left.length := by
        split
        · omega
        · unfold Lk.mu; omega
      omega
    · refine ⟨?_, fun h => by simp [Cm.giveUp] at h, by simp [Cm.giveUp], by simp [Cm.giveUp]⟩
      simp only [Cm.giveUp, Cm.mu, hst]
      omega
  | look =>
    simp only
    have hne := hl hst
    obtain ⟨b1, b2⟩ := Lk.mu_next hf.lk hne z
    obtain ⟨a1, a2⟩ := lookOn_mu (y.looked z) c df
    refine ⟨?_, a2⟩
    have hm : y.mu = y.lk.mu + (y.lk.vs.length + y.lk.left.length) + y.wr.length + 2 := by simp [Cm.mu, hst]
    have hk : (if (y.looked z).lk.left = [] then 0 else (y.looked z).lk.mu) ≤ (y.lk.next z).mu := by
      split
      · omega
      · exact Nat.le_refl _
    have e1 : (y.looked z).lk = y.lk.next z := rfl
    have e2 : (y.looked z).wr = y.wr := rfl
    rw [e2] at a1
    rw [e1] at a1 hk
    omega
  | doom d =>
    obtain ⟨d1, d2⟩ := hf.dm d hst
    have hp := List.length_pos_iff.2 d1
    have hn : (d.next z.hs).left.length + 1 = d.left.length := by
      unfold Dm.next
      cases hd : d.left with
      | nil => exact absurd hd d1
      | cons a l => simp
    simp only [Cm.doomOn]
    split
    · refine ⟨?_, fun h => by simp at h, by simp, by simp⟩
      simp only [Cm.mu, hst]
      omega
    · refine ⟨?_, fun h => by simp at h, by simp, by simp⟩
      simp only [Cm.mu, hst]
      omega
  | write k =>
    have hk := hf.wk k hst
    simp only
    split
    · refine ⟨?_, fun h => by simp at h, by simp, by simp⟩
      simp only [Cm.mu, hst]
      omega
    · refine ⟨?_, fun h => by simp at h, by simp, by simp⟩
      simp only [Cm.mu, hst]
      omega
  | give => exact ⟨by simp [Cm.mu, hst], fun h => by simp at h, by simp, by simp⟩
  | up => exact ⟨by simp [Cm.mu, hst], fun h => by simp at h, by simp, by simp⟩
  | free => exact ⟨by simp [Cm.mu, hst], fun h => by simp at h, by simp, by simp⟩
theorem vdV_one {c : Cfg} (h1 : c.ta = 1) (hf : c.fits = true) {df : Int} (h0 : 0 ≤ df) (sp : Int) (vs : List Vt) : vdV c sp df vs = 1 := by
  unfold vdV
  rw [if_pos (by simp [vdOk, hf, h0]), if_neg (by omega), if_neg (by omega)]
theorem lookOn_win {c : Cfg} (h1 : c.ta = 1) (hf : c.fits = true) {df : Int} (h0 : 0 ≤ df) {x : Cm} (he : x.e = 0) : (x.lookOn c df).e = 0 ∧ (x.lookOn c df).st ≠ .up := by
  unfold Cm.lookOn
  split
  · rw [vdV_one h1 hf h0]
    unfold Cm.judged
    rw [if_neg (by decide), if_neg (by decide)]
    unfold Cm.doomOn
    refine ⟨he, ?_⟩
    simp only
    split <;> simp
  · exact ⟨he, by simp⟩
theorem Cm.win_next {y : Cm} {c : Cfg} {z : SSt} {df : Int} (h1 : c.ta = 1) (hf : c.fits = true) (h0 : 0 ≤ df) (he : y.e = 0) (hu : y.st ≠ .up) (hm : y.st = .own → (nowAt z.hs y.so).mine y.ge = true) : (y.next c z df).e = 0 ∧ (y.next c z df).st ≠ .up := by
  unfold Cm.next
  cases hst : y.st with
  | take =>
    simp only
    split
    · exact ⟨he, by simp⟩
    · exact ⟨he, hu⟩
  | own =>
    simp only
    rw [if_pos (hm hst)]
    exact lookOn_win h1 hf h0 he
  | look => exact lookOn_win h1 hf h0 (x := y.looked z) he
  | doom d =>
    refine ⟨he, ?_⟩
    simp only [Cm.doomOn]
    split <;> simp
  | write k =>
    refine ⟨he, ?_⟩
    simp only
    split <;> simp
  | give => exact ⟨he, by simp⟩
  | up => exact absurd hst hu
  | free => exact ⟨he, by simp⟩
  | over => exact ⟨he, by simp [hst]⟩
/-- Only who holds the gate dooms. -/
theorem steps_dm {x : Tt} {c : Cfg} {z : SSt} (h : x.dg.holds = false) (s : Nat) (hd : (hAt (z.steps c x).hs s).dm = true) : (hAt z.hs s).dm = true := by
  rw [(steps_bare z c x).2.2.1] at hd
  have hop : ∀ (p : HOp) (i : Int), (∀ q : Hd, (p.nw q).dm = true → q.dm = true) → (hAt (p.H z.hs i) s).dm = true → (hAt z.hs s).dm = true := by
    intro p i hp hh
    rw [hAt_op] at hh
    split at hh
    · exact hp _ hh
    · exact hh
  have hfr : ∀ n q, ((freeOp n).nw q).dm = true → q.dm = true := fun n q hh => by simp [freeOp] at hh
  unfold SSt.bare at hd
  cases hg : x.dg with
  | rest => rw [hg] at hd; exact hd
  | act => rw [hg] at hd; exact hd
  | beg b =>
    rw [hg] at hd
    simp only [SSt.goes] at hd
    split at hd
    · exact hop (claimOp b.th) b.sl (fun q hh => by simp [claimOp] at hh) hd
    · split at hd
      · exact hd
      · split at hd
        · exact hop (readyOp b.gn b.sp) b.sl (fun q hh => by simpa [readyOp] using hh) hd
        · exact hd
  | rd r =>
    rw [hg] at hd
    simp only at hd
    rw [(reads_rest z r).2.2.2] at hd
    exact hd
  | leav => rw [hg] at hd; exact hop (freeOp x.fr.gn) x.fr.sl (hfr _) hd
  | abo a b d => rw [hg] at hd; exact hop (freeOp x.fr.gn) x.fr.sl (hfr _) hd
  | com y =>
    rw [hg] at hd h
    simp only [SSt.commits] at hd
    cases hst : y.st with
    | take => rw [hst] at hd; exact hd
    | free => rw [hst] at hd; exact hop (freeOp y.ge) y.so (hfr _) hd
    | over => rw [hst] at hd; exact hd
    | own => simp [Dg.holds, hst, Stg.holds] at h
    | look => simp [Dg.holds, hst, Stg.holds] at h
    | doom d => simp [Dg.holds, hst, Stg.holds] at h
    | write k => simp [Dg.holds, hst, Stg.holds] at h
    | give => simp [Dg.holds, hst, Stg.holds] at h
    | up => simp [Dg.holds, hst, Stg.holds] at h
/-- A commit that waits has no error yet; one that looks has slots left. -/
structure Tt.bd (x : Tt) : Prop where
  tk : ∀ y, x.dg = .com y → y.st = .take → y.e = 0
  lk : ∀ y, x.dg = .com y → y.st = .look → y.lk.left ≠ []
theorem callT_new (x : Tt) (c : Cfg) (n : Nat) (m : Mv) (sp : Int) (y : Cm) (e : (callT x c n m sp).dg = .com y) : x.dg = .com y ∨ (y.st = .take ∧ y.e = 0) := by
  unfold callT at e
  split at e
  · unfold Tt.begin_ at e
    split at e
    · simp at e
    · exact .inl e
  · split at e
    · split at e
      · unfold Tt.read at e
        split at e
        · exact .inl e
        · split at e
          · exact .inl e
          · split at e
            · simp at e
            · exact .inl e
      · split at e
        · unfold Tt.write at e
          split at e
          · exact .inl e
          · exact .inl e
        · split at e
          · unfold Tt.commit at e
            split at e
            · exact .inl e
            · split at e
              · simp at e
              · simp only [Dg.com.injEq] at e
                subst e
                exact .inr ⟨rfl, rfl⟩
          · unfold Tt.abort at e
            split at e
            · simp at e
            · exact .inl e
    · exact .inl e
theorem callT_bd {x : Tt} (h : x.bd) (c : Cfg) (n : Nat) (m : Mv) (sp : Int) : (callT x c n m sp).bd := by
  refine ⟨fun y e hs => ?_, fun y e hs => ?_⟩
  · rcases callT_new x c n m sp y e with h1 | h1
    · exact h.tk y h1 hs
    · exact h1.2
  · rcases callT_new x c n m sp y e with h1 | h1
    · exact h.lk y h1 hs
    · rw [h1.1] at hs; cases hs
theorem next_bd {x : Tt} {c : Cfg} {z : SSt} {n k : Nat} (hx : x.fit c n k) (hm : x.mine c) (h : x.bd) : (x.next c z).bd := by
  by_cases hy : ∃ y, x.dg = .com y
  · obtain ⟨y, hy⟩ := hy
    obtain ⟨-, e2⟩ := next_com (c := c) (z := z) hy
    rcases e2 with ⟨-, e3⟩ | ⟨-, e3⟩
    · exact ⟨fun q e => (by rw [e3] at e; cases e), fun q e => (by rw [e3] at e; cases e)⟩
    · by_cases ht : y.st = .take
      · have hn : y.next c z x.df = if takeE z.x y.th = 0 then { y with num := takeR z.x y.th, st := .own } else y := by unfold Cm.next; rw [ht]
        refine ⟨fun q e hs => ?_, fun q e hs => ?_⟩
        · rw [e3] at e
          cases e
          rw [hn]
          split
          · exact h.tk y hy ht
          · exact h.tk y hy ht
        · rw [e3] at e
          cases e
          rw [hn] at hs
          split at hs
          · simp at hs
          · rw [ht] at hs; cases hs
      · obtain ⟨a1, a2, a3, a4⟩ := Cm.mu_next (c := c) (z := z) (df := x.df) (hx.cm y hy) ht (hm.ov y hy) (h.lk y hy)
        refine ⟨fun q e hs => ?_, fun q e hs => ?_⟩
        · rw [e3] at e
          cases e
          exact absurd hs a3
        · rw [e3] at e
          cases e
          exact a2 hs
  · obtain ⟨-, e2⟩ := next_plain (c := c) (z := z) (fun y e => hy ⟨y, e⟩)
    exact ⟨fun q e => absurd e (e2 q), fun q e => absurd e (e2 q)⟩
/-- What is counted of four threads. -/
structure Bnd (g : Gp) (c : Cfg) (S : Nat → Int) (W : Nat → Bool) : Prop where
  bd : ∀ j, j < 4 → (g.ts j).bd
  s : ∀ j, j < 4 → S j = -1 ∨ ∃ y, (g.ts j).dg = .com y ∧ y.st ≠ .take ∧ 0 ≤ S j ∧ S j + y.mu ≤ 52
  w : ∀ j, j < 4 → W j = true → c.ta = 1 ∧ ∃ y, (g.ts j).dg = .com y ∧ y.st ≠ .take ∧ y.e = 0 ∧ y.st ≠ .up ∧ (y.st = .own → (nowAt g.z.hs y.so).dm = false)
section
variable {g : Gp} {c : Cfg} {k : Nat} {S : Nat → Int} {W : Nat → Bool}
theorem Bnd.goes (h : Bnd g c S W) (hk : g.ok c k) (hg : g.gate c) (ho : g.own) (m : Mv) :
    (0 ≤ S m.k → S m.k + 1 ≤ 52) ∧ -1 ≤ S m.k ∧
    ((g.goes c m).z.x.o = m.k + 1 → g.z.x.o ≠ m.k + 1 → ((g.goes c m).ts m.k).wr ≠ [] ∧ ((g.goes c m).ts m.k).dg.phase = 4 ∧
      Bnd (g.goes c m) c (upd S m.k 0) (upd W m.k (decide (c.ta = 1) && !(nowAt (g.goes c m).z.hs ((g.goes c m).ts m.k).fr.sl).dm))) ∧
    (((g.goes c m).ts m.k).dg.phase = 0 → (W m.k = true → ((g.goes c m).ts m.k).lo = 4 ∧ ((g.goes c m).ts m.k).le = 0 ∧ ((g.goes c m).ts m.k).lx = 0) ∧ Bnd (g.goes c m) c (upd S m.k (-1)) (upd W m.k false)) ∧
    (((g.goes c m).ts m.k).dg.phase ≠ 0 → Bnd (g.goes c m) c (upd S m.k (if 0 ≤ S m.k then S m.k + 1 else S m.k)) W) := by
  have hlt := m.k_lt
  have hfit := hk.preT m
  have hmine := callT_mine (hg.mine m.k hlt) g.z.hs.length m (g.again m.k)
  have hbd := callT_bd (h.bd m.k hlt) c g.z.hs.length m (g.again m.k)
  have hat : (g.goes c m).ts m.k = (g.preT c m).next c (g.preZ c m) := upd_same _ _ _
  have hph := hk.preHs m
  have hok' := hk.goes m
  have hg' := (hg.goes hk m).1
  obtain ⟨ho', -, -, hco⟩ := ho.goes hk hg m
  have hbd' : ((g.goes c m).ts m.k).bd := by rw [hat]; exact next_bd hfit hmine hbd
  have hhold : (g.preT c m).dg.holds = (g.ts m.k).dg.holds := callT_holds _ _ _ _ _
  -- the other threads
  have hoth : ∀ (S' : Nat → Int) (W' : Nat → Bool), (∀ j, j ≠ m.k → S' j = S j) → (∀ j, j ≠ m.k → W' j = W j) →
      (S' m.k = -1 ∨ ∃ y, ((g.goes c m).ts m.k).dg = .com y ∧ y.st ≠ .take ∧ 0 ≤ S' m.k ∧ S' m.k + y.mu ≤ 52) →
      (W' m.k = true → c.ta = 1 ∧ ∃ y, ((g.goes c m).ts m.k).dg = .com y ∧ y.st ≠ .take ∧ y.e = 0 ∧ y.st ≠ .up ∧ (y.st = .own → (nowAt (g.goes c m).z.hs y.so).dm = false)) →
      Bnd (g.goes c m) c S' W' := by
    intro S' W' hS hW h1 h2
    refine ⟨fun j hj => ?_, fun j hj => ?_, fun j hj => ?_⟩
    · by_cases e : j = m.k
      · rw [e]; exact hbd'
      · rw [show (g.goes c m).ts j = g.ts j from upd_ne _ e _]; exact h.bd j hj
    · by_cases e : j = m.k
      · rw [e]; exact h1
      · rw [show (g.goes c m).ts j = g.ts j from upd_ne _ e _, hS j e]; exact h.s j hj
    · by_cases e : j = m.k
      · rw [e]; exact h2
      · rw [show (g.goes c m).ts j = g.ts j from upd_ne _ e _, hW j e]
        intro hw
        obtain ⟨a1, y, a2, a3, a4, a5, a6⟩ := h.w j hj hw
        refine ⟨a1, y, a2, a3, a4, a5, fun hown => ?_⟩
        have hy := (hk.ts j hj).cm y a2
        obtain ⟨s, hs⟩ := Int.eq_ofNat_of_zero_le hy.s0
        have hsl : s < g.z.hs.length := by have := hy.sn; omega
        have hsl' : s < (g.goes c m).z.hs.length := by
          have h1 := (hok'.ts j hj).cm y (by rw [show (g.goes c m).ts j = g.ts j from upd_ne _ e _]; exact a2)
          have := h1.sn
          omega
        have h6 := a6 hown
        rw [hs, nowAt_h hsl] at h6
        rw [hs, nowAt_h hsl']
        have hjo : g.z.x.o = j + 1 := (hg.own j hj).1 (by rw [a2]; simp [Dg.holds, hown, Stg.holds])
        have hkh : (g.preT c m).dg.holds = false := by
          rw [hhold]
          cases hq : (g.ts m.k).dg.holds with
          | false => rfl
          | true =>
            have := (hg.own m.k hlt).1 hq
            omega
        cases hd : (hAt (g.goes c m).z.hs s).dm with
        | false => rfl
        | true =>
          have := steps_dm (c := c) (z := g.preZ c m) hkh s hd
          rw [hph, h6] at this
          cases this
  -- a commit that has the gate goes on
  have hgo : ∀ y, (g.ts m.k).dg = .com y → y.st ≠ .take → (g.preT c m).dg = .com y ∧ (y.next c (g.preZ c m) (g.preT c m).df).mu + 1 ≤ y.mu ∧ (y.next c (g.preZ c m) (g.preT c m).df).st ≠ .take ∧ (y.next c (g.preZ c m) (g.preT c m).df).st ≠ .own := by
    intro y hy ht
    have hp : (g.preT c m).dg = .com y := by
      rcases callT_com (g.ts m.k) c g.z.hs.length m (g.again m.k) with ⟨q, q1, q2⟩ | ⟨q1, q2⟩
      · unfold Gp.preT; rw [q2]; exact hy
      · exact absurd hy (q1 y)
    obtain ⟨a1, a2, a3, a4⟩ := Cm.mu_next (c := c) (z := g.preZ c m) (df := (g.preT c m).df) (hfit.cm y hp) ht (hmine.ov y hp) (hbd.lk y hp)
    exact ⟨hp, a1, a3, a4⟩
  have hwin : W m.k = true → ∃ y, (g.preT c m).dg = .com y ∧ c.ta = 1 ∧ (y.next c (g.preZ c m) (g.preT c m).df).e = 0 ∧ (y.next c (g.preZ c m) (g.preT c m).df).st ≠ .up ∧ (y.next c (g.preZ c m) (g.preT c m).df).st ≠ .take ∧ (y.next c (g.preZ c m) (g.preT c m).df).st ≠ .own := by
    intro hw
    obtain ⟨a1, y, a2, a3, a4, a5, a6⟩ := h.w m.k hlt hw
    obtain ⟨b1, b2, b3, b4⟩ := hgo y a2 a3
    have hm : y.st = .own → (nowAt (g.preZ c m).hs y.so).mine y.ge = true := by
      intro hown
      rw [hph]
      obtain ⟨c1, c2, -, -⟩ := (ho.co m.k hlt).cm y a2
      obtain ⟨s, e1, e2, e3, e4, e5⟩ := ho.up m.k hlt (g.ts m.k).fr.sl (g.ts m.k).fr.gn 2 (by unfold Tt.held; rw [a2])
      have h6 := a6 hown
      rw [c1, e1, nowAt_h e2] at h6 ⊢
      simp only [Hd.mine, e3, e4, h6, c2]
      simp
    obtain ⟨d1, d2⟩ := Cm.win_next (z := g.preZ c m) (df := (g.preT c m).df) a1 hk.f hfit.df a4 a5 hm
    exact ⟨y, b1, a1, d1, d2, b3, b4⟩
  refine ⟨fun hs => ?_, ?_, fun h1 h2 => ?_, fun hp => ⟨fun hw => ?_, ?_⟩, fun hp => ?_⟩
  · rcases h.s m.k hlt with e | ⟨y, e1, e2, e3, e4⟩
    · omega
    · obtain ⟨b1, b2, -, -⟩ := hgo y e1 e2
      omega
  · rcases h.s m.k hlt with e | ⟨y, e1, e2, e3, e4⟩ <;> omega
  · have hh' := (hg'.own m.k hlt).2 h1
    have hh : (g.preT c m).dg.holds = false := by
      rw [hhold]
      cases hq : (g.ts m.k).dg.holds with
      | false => rfl
      | true => exact absurd ((hg.own m.k hlt).1 hq) h2
    obtain ⟨y', hy'⟩ : ∃ y', ((g.goes c m).ts m.k).dg = .com y' := by
      cases hq : ((g.goes c m).ts m.k).dg with
      | com y' => exact ⟨y', rfl⟩
      | _ => rw [hq] at hh'; cases hh'
    rw [hy'] at hh'
    have hfit' := (hok'.ts m.k hlt).cm y' hy'
    obtain ⟨c1, c2, c3, -⟩ := (ho'.co m.k hlt).cm y' hy'
    have hown : y'.st = .own ∧ y'.e = 0 := by
      by_cases hy : ∃ y, (g.preT c m).dg = .com y
      · obtain ⟨y, hy⟩ := hy
        obtain ⟨-, e2⟩ := next_com (c := c) (z := g.preZ c m) hy
        rw [← hat, hy'] at e2
        rcases e2 with ⟨-, e3⟩ | ⟨-, e3⟩
        · cases e3
        · simp only [Dg.com.injEq] at e3
          rw [hy] at hh
          cases hst : y.st with
          | take =>
            have he := hbd.tk y hy hst
            unfold Cm.next at e3
            rw [hst] at e3
            simp only at e3
            split at e3
            · rw [e3]; exact ⟨rfl, he⟩
            · rw [e3] at hh'
              simp [Dg.holds, hst, Stg.holds] at hh'
          | free =>
            unfold Cm.next at e3
            rw [hst] at e3
            rw [e3] at hh'
            simp [Dg.holds, Stg.holds] at hh'
          | over =>
            unfold Cm.next at e3
            rw [hst] at e3
            rw [e3] at hh'
            simp [Dg.holds, hst, Stg.holds] at hh'
          | _ => simp [Dg.holds, hst, Stg.holds] at hh
      · obtain ⟨-, e2⟩ := next_plain (c := c) (z := g.preZ c m) (fun y e => hy ⟨y, e⟩)
        rw [← hat] at e2
        exact absurd hy' (e2 y')
    refine ⟨?_, by rw [hy']; rfl, ?_⟩
    · rw [← c3]
      intro e
      have := hfit'.w1
      rw [e] at this
      simp at this
    · apply hoth
      · intro j e; exact upd_ne _ e _
      · intro j e; exact upd_ne _ e _
      · right
        refine ⟨y', hy', by rw [hown.1]; simp, ?_, ?_⟩
        · rw [upd_same]; omega
        · rw [upd_same]
          have hm : y'.mu = 1 + 3 * y'.lk.left.length + (y'.lk.vs.length + y'.lk.left.length) + y'.wr.length + 2 := by simp [Cm.mu, hown.1]
          have a1 := hfit'.w16
          have a2 := hfit'.lk.lv
          have a3 := hfit'.lk.vn
          omega
      · rw [upd_same]
        intro hw
        simp only [Bool.and_eq_true, decide_eq_true_eq, Bool.not_eq_true'] at hw
        exact ⟨hw.1, y', hy', by rw [hown.1]; simp, hown.2, by rw [hown.1]; simp, fun _ => by rw [c1]; exact hw.2⟩
  · obtain ⟨y, a1, a2, a3, a4, a5, a6⟩ := hwin hw
    have hrest := phase_zero hp
    obtain ⟨-, e2⟩ := next_com (c := c) (z := g.preZ c m) a1
    rw [← hat, hrest] at e2
    rcases e2 with ⟨e2, -⟩ | ⟨-, e3⟩
    · rw [hat]
      unfold Tt.next
      rw [a1]
      simp only [Tt.comOn]
      rw [if_pos e2]
      exact ⟨rfl, a3, rfl⟩
    · cases e3
  · apply hoth
    · intro j e; exact upd_ne _ e _
    · intro j e; exact upd_ne _ e _
    · left; exact upd_same _ _ _
    · rw [upd_same]; intro e; cases e
  · apply hoth
    · intro j e; exact upd_ne _ e _
    · intro j e; rfl
    · rcases h.s m.k hlt with e | ⟨y, e1, e2, e3, e4⟩
      · left
        rw [upd_same, if_neg (by omega)]
        exact e
      · right
        obtain ⟨b1, b2, b3, b4⟩ := hgo y e1 e2
        obtain ⟨-, q2⟩ := next_com (c := c) (z := g.preZ c m) b1
        rw [← hat] at q2
        rcases q2 with ⟨-, q3⟩ | ⟨-, q3⟩
        · rw [q3] at hp; exact absurd rfl hp
        · rw [upd_same, if_pos e3]
          exact ⟨_, q3, b3, by omega, by omega⟩
    · intro hw
      obtain ⟨y, a1, a2, a3, a4, a5, a6⟩ := hwin hw
      obtain ⟨-, q2⟩ := next_com (c := c) (z := g.preZ c m) a1
      rw [← hat] at q2
      rcases q2 with ⟨-, q3⟩ | ⟨-, q3⟩
      · rw [q3] at hp; exact absurd rfl hp
      · exact ⟨a2, _, q3, a5, a3, a4, fun e => absurd e a6⟩
end
theorem Bnd_new (c : Cfg) (l : List Int) : Bnd (Gp.new c l) c (fun _ => -1) (fun _ => false) :=
  ⟨fun j _ => ⟨fun y e => by simp [Gp.new, Tt.new] at e, fun y e => by simp [Gp.new, Tt.new] at e⟩, fun j _ => .inl rfl, fun j _ e => by cases e⟩
end Go.Proofs.YtnchfomoaonbkaaGreat
