/- Which slots stayed free: what a begin that is refused has seen. No program is named here. -/
import Derived.Test.YtnchfomoaonbkabGreatTxH
namespace Go.Proofs.YtnchfomoaonbkabGreat
open Go.RowKit
set_option linter.unusedVariables false
set_option linter.unusedSimpArgs false
/-- Slots that a begin has passed were not free all the time; who is about to abort was not about to begin. -/
structure Fre (g : Gp) (F : Nat → Nat → Bool) : Prop where
  fr : ∀ j, j < 4 → ∀ b, (g.ts j).dg = .beg b → b.st = 0 → ∀ n : Nat, (n : Int) < b.sl → F j n = false
  ab : ∀ j, j < 4 → ∀ p e v, (g.ts j).dg = .abo p e v → p ≠ 1
def freeAt (hs : List Hd) (n : Nat) : Bool := (hAt hs n).sa == 0
/-- What is noted ahead of a move of thread k. -/
def noteF (F : Nat → Nat → Bool) (hs : List Hd) (k : Nat) (idle : Bool) : Nat → Nat → Bool := fun t n => if n < hs.length then (if t = k ∧ idle = true then freeAt hs n else F t n && freeAt hs n) else F t n
theorem callT_abo (x : Tt) (c : Cfg) (n : Nat) (m : Mv) (sp : Int) (h : ∀ p e v, x.dg = .abo p e v → p ≠ 1) : ∀ p e v, (callT x c n m sp).dg = .abo p e v → p ≠ 1 := by
  intro p e v he
  unfold callT at he
  split at he
  · unfold Tt.begin_ at he
    split at he
    · simp at he
    · exact h p e v he
  · split at he
    · split at he
      · unfold Tt.read at he
        split at he
        · exact h p e v he
        · split at he
          · exact h p e v he
          · split at he
            · simp at he
            · exact h p e v he
      · split at he
        · unfold Tt.write at he
          split at he
          · exact h p e v he
          · exact h p e v he
        · split at he
          · unfold Tt.commit at he
            split at he
            · exact h p e v he
            · split at he
              · simp at he
              · simp at he
          · unfold Tt.abort at he
            split at he
            · simp only [Dg.abo.injEq] at he
              omega
            · exact h p e v he
    · exact h p e v he
theorem callT_beg (x : Tt) (c : Cfg) (n : Nat) (m : Mv) (sp : Int) (b : Bg) (he : (callT x c n m sp).dg = .beg b) : (x.dg = .beg b) ∨ (x.dg.phase = 0 ∧ b = Bg.new x.th sp) := by
  unfold callT at he
  split at he
  · rename_i h0
    unfold Tt.begin_ at he
    split at he
    · simp only [Dg.beg.injEq] at he
      exact .inr ⟨h0, he.symm⟩
    · exact .inl he
  · split at he
    · split at he
      · unfold Tt.read at he
        split at he
        · exact .inl he
        · split at he
          · exact .inl he
          · split at he
            · simp at he
            · exact .inl he
      · split at he
        · unfold Tt.write at he
          split at he
          · exact .inl he
          · exact .inl he
        · split at he
          · unfold Tt.commit at he
            split at he
            · exact .inl he
            · split at he
              · simp at he
              · simp at he
          · unfold Tt.abort at he
            split at he
            · simp at he
            · exact .inl he
    · exact .inl he
theorem ready_ne (a p : Int) (hs : List Hd) (i : Int) : (readyOp a p).E hs i ≠ 6 := by
  unfold HOp.E
  split
  · split
    · decide
    · split
      · decide
      · simp [readyOp]
  · simp only [readyOp]
    split <;> decide
section
variable {g : Gp} {c : Cfg} {k : Nat} {F : Nat → Nat → Bool}
theorem Fre.goes (h : Fre g F) (hk : g.ok c k) (hg : g.gate c) (ho : g.own) (m : Mv) :
    Fre (g.goes c m) (noteF F g.z.hs m.k (decide ((g.ts m.k).dg.phase = 0))) ∧
    (((g.goes c m).ts m.k).dg.phase = 0 → ((g.goes c m).ts m.k).lo = 1 → ((g.goes c m).ts m.k).le = 6 → ∀ n, n < g.z.hs.length → noteF F g.z.hs m.k (decide ((g.ts m.k).dg.phase = 0)) m.k n = false) ∧
    (∀ n, n < (g.goes c m).z.hs.length → (hAt (g.goes c m).z.hs n).sa = 2 → ∃ j : Nat, j < 4 ∧ (hAt (g.goes c m).z.hs n).th = j + 1 ∧ ((g.goes c m).ts j).fr.sl = n ∧ ((g.goes c m).ts j).fr.gn = (hAt (g.goes c m).z.hs n).gn) := by
  have hlt := m.k_lt
  have hfit := hk.preT m
  have hat : (g.goes c m).ts m.k = (g.preT c m).next c (g.preZ c m) := upd_same _ _ _
  have hph := hk.preHs m
  obtain ⟨ho', -, -, hco⟩ := ho.goes hk hg m
  have hab := callT_abo (g.ts m.k) c g.z.hs.length m (g.again m.k) (h.ab m.k hlt)
  -- a begin that goes on: what it has passed
  have hpast : ∀ b, (g.preT c m).dg = .beg b → b.st = 0 → ∀ n : Nat, (n : Int) < b.sl → noteF F g.z.hs m.k (decide ((g.ts m.k).dg.phase = 0)) m.k n = false := by
    intro b hb hs n hn
    have hsn := (hfit.bg b hb).sn
    rcases callT_beg _ _ _ _ _ b hb with h1 | ⟨h1, rfl⟩
    · have hn' := h.fr m.k hlt b h1 hs n hn
      unfold noteF
      rw [if_pos (by omega), if_neg (by rw [h1]; simp [Dg.phase]), hn', Bool.false_and]
    · simp only [Bg.new] at hn
      omega
  have hhere : ∀ b, (g.preT c m).dg = .beg b → b.st = 0 → (claimOp b.th).E (g.preZ c m).hs b.sl ≠ 0 → ∀ n : Nat, (n : Int) = b.sl → noteF F g.z.hs m.k (decide ((g.ts m.k).dg.phase = 0)) m.k n = false := by
    intro b hb hs he n hn
    have hsn := (hfit.bg b hb).sn
    have hnl : n < g.z.hs.length := by omega
    have hf : freeAt g.z.hs n = false := by
      cases hq : freeAt g.z.hs n with
      | false => rfl
      | true =>
        exfalso
        apply he
        rw [hph]
        have hth := (hco.bg b hb).1
        have t1 := hfit.th1
        have t8 := hfit.th8
        unfold HOp.E
        have hpre : (claimOp b.th).pre = 0 := by
          simp only [claimOp]
          rw [if_pos (by simp [isTh]; omega)]
        rw [if_pos hpre, ← hn, headAt_in hnl]
        have hq' : (g.z.hs[n]).sa = 0 := by
          unfold freeAt hAt at hq
          rw [List.getD_eq_getElem?_getD, List.getElem?_eq_getElem hnl] at hq
          simpa using hq
        simp [claimOp, hq']
    unfold noteF
    rw [if_pos hnl, hf]
    split
    · rfl
    · simp
  refine ⟨⟨fun j hj b hb hs n hn => ?_, fun j hj p e v hb => ?_⟩, fun hp hl he n hn => ?_, fun n hn hs => ?_⟩
  · by_cases e : j = m.k
    · subst e
      rw [hat] at hb
      unfold Tt.next at hb
      cases hd : (g.preT c m).dg with
      | rest => rw [hd] at hb; simp only at hb; rw [hd] at hb; cases hb
      | act => rw [hd] at hb; simp only at hb; rw [hd] at hb; cases hb
      | leav => rw [hd] at hb; cases hb
      | abo p e v => rw [hd] at hb; cases hb
      | com y =>
        rw [hd] at hb
        simp only [Tt.comOn] at hb
        split at hb <;> cases hb
      | rd r =>
        rw [hd] at hb
        simp only [Tt.readOn] at hb
        split at hb
        · cases hb
        · split at hb <;> cases hb
      | beg b0 =>
        rw [hd] at hb
        simp only [Tt.begun] at hb
        split at hb
        · simp only [Dg.beg.injEq] at hb
          subst hb
          by_cases h0 : b0.st = 0
          · unfold Bg.next at hs hn
            rw [if_pos h0] at hs hn
            unfold Bg.claim at hs hn
            split at hs
            · simp at hs
            · rename_i hE
              rw [if_neg hE] at hn
              split at hs
              · simp at hs
              · rename_i hl
                rw [if_neg hl] at hn
                simp only at hn
                by_cases hq : (n : Int) < b0.sl
                · exact hpast b0 hd h0 n hq
                · exact hhere b0 hd h0 hE n (by omega)
          · exfalso
            have hgo := hfit.bg b0 hd
            unfold Bg.next at hs
            rw [if_neg h0] at hs
            split at hs
            · simp only [Bg.clear] at hs
              split at hs <;> omega
            · split at hs
              · simp [Bg.over] at hs
              · omega
        · split at hb <;> cases hb
    · rw [show (g.goes c m).ts j = g.ts j from upd_ne _ e _] at hb
      have hn' := h.fr j hj b hb hs n hn
      have hsn := ((hk.ts j hj).bg b hb).sn
      unfold noteF
      rw [if_pos (by omega), if_neg (by intro q; exact e q.1), hn', Bool.false_and]
  · by_cases e' : j = m.k
    · subst e'
      rw [hat] at hb
      unfold Tt.next at hb
      cases hd : (g.preT c m).dg with
      | rest => rw [hd] at hb; simp only at hb; rw [hd] at hb; cases hb
      | act => rw [hd] at hb; simp only at hb; rw [hd] at hb; cases hb
      | leav => rw [hd] at hb; cases hb
      | abo p e v => rw [hd] at hb; cases hb
      | com y =>
        rw [hd] at hb
        simp only [Tt.comOn] at hb
        split at hb <;> cases hb
      | rd r =>
        rw [hd] at hb
        simp only [Tt.readOn] at hb
        split at hb
        · cases hb
        · split at hb
          · cases hb
          · simp only [Dg.abo.injEq] at hb
            omega
      | beg b0 =>
        rw [hd] at hb
        simp only [Tt.begun] at hb
        split at hb
        · cases hb
        · split at hb <;> cases hb
    · rw [show (g.goes c m).ts j = g.ts j from upd_ne _ e' _] at hb
      exact h.ab j hj p e v hb
  · rw [hat] at hp hl he
    unfold Tt.next at hp hl he
    cases hd : (g.preT c m).dg with
    | rest =>
      exfalso
      have : (callT (g.ts m.k) c g.z.hs.length m (g.again m.k)).dg = .rest := hd
      unfold callT at this
      have ha := again_pos hk hlt
      split at this
      · rename_i h0
        unfold Tt.begin_ at this
        rw [if_pos (by unfold Tt.beginE; rw [if_neg (by omega), if_neg (by omega)])] at this
        simp at this
      · rename_i h0
        split at this
        · rename_i h2
          have hac := phase_two h2
          split at this
          · unfold Tt.read at this
            split at this
            · rw [hac] at this; cases this
            · split at this
              · simp [hac] at this
              · split at this
                · simp at this
                · rw [hac] at this; cases this
          · split at this
            · unfold Tt.write at this
              split at this
              · simp [hac] at this
              · rw [hac] at this; cases this
            · split at this
              · unfold Tt.commit at this
                split at this
                · rw [hac] at this; cases this
                · split at this
                  · simp at this
                  · simp at this
              · unfold Tt.abort at this
                split at this
                · simp at this
                · rw [hac] at this; cases this
        · rw [this] at h0
          exact h0 rfl
    | act => rw [hd] at hp; simp only at hp; rw [hd] at hp; cases hp
    | leav => rw [hd] at hl; simp at hl
    | abo p e v =>
      rw [hd] at hl
      exact absurd hl (hab p e v hd)
    | com y =>
      rw [hd] at hp hl
      simp only [Tt.comOn] at hp hl
      split at hp
      · rename_i hdn
        rw [if_pos hdn] at hl
        simp at hl
      · simp [Dg.phase] at hp
    | rd r =>
      rw [hd] at hp
      simp only [Tt.readOn] at hp
      split at hp
      · simp [Dg.phase] at hp
      · split at hp <;> simp [Dg.phase] at hp
    | beg b0 =>
      rw [hd] at hp hl he
      simp only [Tt.begun] at hp hl he
      split at hp
      · simp [Dg.phase] at hp
      · rename_i h3
        rw [if_neg h3] at he
        split at hp
        · simp [Dg.phase] at hp
        · rename_i h4
          rw [if_neg h4] at he
          simp only at he
          have hgo := hfit.bg b0 hd
          by_cases h0 : b0.st = 0
          · unfold Bg.next at he h3
            rw [if_pos h0] at he h3
            unfold Bg.claim at he h3
            split at he
            · rename_i hE
              simp only at he
              have := hgo.e
              omega
            · rename_i hE
              rw [if_neg hE] at h3
              split at he
              · rename_i hl2
                rw [hph] at hl2
                by_cases hq : (n : Int) < b0.sl
                · exact hpast b0 hd h0 n hq
                · exact hhere b0 hd h0 hE n (by omega)
              · rename_i hl2
                rw [if_neg hl2] at h3
                simp only at h3
                omega
          · exfalso
            unfold Bg.next at he h3
            rw [if_neg h0] at he h3
            split at he
            · rename_i h1
              rw [if_pos h1] at h3
              simp only [Bg.clear] at h3
              split at h3 <;> omega
            · rename_i h1
              rw [if_neg h1] at h3
              split at he
              · rename_i h2
                exact ready_ne _ _ _ _ he
              · rename_i h2
                rcases hgo.st with q | q | q
                · exact h0 q
                · exact h1 q
                · exact h2 q
  · obtain ⟨j, j1, j2, j3⟩ := ho'.dn n hn (by omega)
    refine ⟨j, j1, j2, ?_⟩
    rw [hs] at j3
    unfold Tt.held at j3
    cases hd : ((g.goes c m).ts j).dg with
    | rest => rw [hd] at j3; cases j3
    | beg b =>
      rw [hd] at j3
      simp only at j3
      split at j3
      · have := (fst_eq j3).2.2
        omega
      · cases j3
    | act => rw [hd] at j3; exact ⟨(fst_eq j3).1, (fst_eq j3).2.1⟩
    | rd r => rw [hd] at j3; exact ⟨(fst_eq j3).1, (fst_eq j3).2.1⟩
    | leav => rw [hd] at j3; exact ⟨(fst_eq j3).1, (fst_eq j3).2.1⟩
    | com y => rw [hd] at j3; exact ⟨(fst_eq j3).1, (fst_eq j3).2.1⟩
    | abo p e v => rw [hd] at j3; exact ⟨(fst_eq j3).1, (fst_eq j3).2.1⟩
end
theorem Fre_new (c : Cfg) (l : List Int) (F : Nat → Nat → Bool) : Fre (Gp.new c l) F :=
  ⟨fun j _ b e => by simp [Gp.new, Tt.new] at e, fun j _ p e v he => by simp [Gp.new, Tt.new] at he⟩
end Go.Proofs.YtnchfomoaonbkabGreat
