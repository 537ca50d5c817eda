/- Whose a slot is: every head that is not free belongs to the one thread that has it. No program is named here. -/
import Derived.Test.YtnchfomoaonbkaaGreatTxI
import Derived.Test.YtnchfomoaonbkaaGreatTxR
namespace Go.Proofs.YtnchfomoaonbkaaGreat
open Go.RowKit
set_option linter.unusedVariables false
set_option linter.unusedSimpArgs false

/-- The head of a slot. -/
def hAt (hs : List Hd) (s : Nat) : Hd := hs.getD s Hd.zero
theorem hAt_set (hs : List Hd) (i : Nat) (x : Hd) (s : Nat) : hAt (hs.set i x) s = if i = s ∧ s < hs.length then x else hAt hs s := by
  unfold hAt
  rw [List.getD_eq_getElem?_getD, List.getElem?_set, List.getD_eq_getElem?_getD]
  by_cases e : i = s
  · subst e
    by_cases hl : i < hs.length
    · simp [hl]
    · simp [hl]
  · simp [e]
theorem hAt_op (p : HOp) (hs : List Hd) (i : Int) (s : Nat) : hAt (p.H hs i) s = if p.pre = 0 ∧ i = s ∧ s < hs.length ∧ p.ok (hAt hs s) = true then p.nw (hAt hs s) else hAt hs s := by
  unfold HOp.H
  by_cases hp : p.pre = 0
  · rw [if_pos hp]
    rcases headAt_cases hs i with ⟨k, hk, rfl, e⟩ | ⟨hn, e⟩
    · rw [e]
      simp only
      have hg : hAt hs k = hs[k] := by simp [hAt, hk]
      split
      · rename_i ho
        rw [hAt_set]
        by_cases es : k = s
        · subst es
          have h1 : ((k : Int)).toNat = k := by omega
          rw [h1, if_pos ⟨rfl, hk⟩, if_pos ⟨hp, rfl, hk, by rw [hg]; exact ho⟩, hg]
        · rw [if_neg (by intro h; have := h.1; omega), if_neg (by intro h; have := h.2.1; omega)]
      · rename_i ho
        by_cases es : k = s
        · subst es
          rw [if_neg (fun h => ho (by rw [← hg]; exact h.2.2.2))]
        · rw [if_neg (by intro h; have := h.2.1; omega)]
    · rw [e]
      simp only
      rw [if_neg (fun h => hn ⟨by have := h.2.1; omega, by have := h.2.1; have := h.2.2.1; omega⟩)]
  · rw [if_neg hp, if_neg (fun h => hp h.1)]
theorem nowAt_h {hs : List Hd} {s : Nat} (h : s < hs.length) : nowAt hs s = hAt hs s := by
  rw [nowAt_getD (by omega) (by omega)]
  rfl
/-- What a thread has: slot, generation, state. -/
def Tt.held (x : Tt) : Option (Int × Int × Int) :=
  match x.dg with
  | .rest => none
  | .beg b => if b.st = 1 ∨ b.st = 2 then some (b.sl, b.gn, 1) else none
  | _ => some (x.fr.sl, x.fr.gn, 2)
/-- What is under way is of the thread's own attempt. -/
structure Tt.co (x : Tt) : Prop where
  bg : ∀ b, x.dg = .beg b → b.th = x.th ∧ 1 ≤ b.sp
  rd : ∀ r, x.dg = .rd r → r.sl = x.fr.sl ∧ r.gn = x.fr.gn
  cm : ∀ y, x.dg = .com y → y.so = x.fr.sl ∧ y.ge = x.fr.gn ∧ y.wr = x.wr ∧ y.sp = x.sp
structure Gp.own (g : Gp) : Prop where
  co : ∀ j, j < 4 → (g.ts j).co
  up : ∀ j, j < 4 → ∀ s n a, (g.ts j).held = some (s, n, a) → ∃ k : Nat, s = k ∧ k < g.z.hs.length ∧ (hAt g.z.hs k).gn = n ∧ (hAt g.z.hs k).sa = a ∧ (hAt g.z.hs k).th = j + 1
  dn : ∀ k, k < g.z.hs.length → (hAt g.z.hs k).sa ≠ 0 → ∃ j : Nat, j < 4 ∧ (hAt g.z.hs k).th = j + 1 ∧ (g.ts j).held = some ((k : Int), (hAt g.z.hs k).gn, (hAt g.z.hs k).sa)

theorem callT_own {x : Tt} {c : Cfg} {n : Nat} {m : Mv} {sp : Int} (h : x.co) (hs : 0 ≤ x.fr.sl) (h1 : 1 ≤ sp) : (callT x c n m sp).co ∧ (callT x c n m sp).held = x.held := by
  unfold callT
  split
  · rename_i hp
    have ha := phase_zero hp
    unfold Tt.begin_
    split
    · refine ⟨⟨fun b e => ?_, fun r e => by simp at e, fun y e => by simp at e⟩, ?_⟩
      · simp only [Dg.beg.injEq] at e
        subst e
        exact ⟨rfl, h1⟩
      · simp [Tt.held, ha, Bg.new]
    · exact ⟨h, rfl⟩
  · split
    · rename_i h0 hp
      have ha := phase_two hp
      split
      · unfold Tt.read
        split
        · exact ⟨h, rfl⟩
        · split
          · exact ⟨⟨fun b e => by simp [ha] at e, fun b e => by simp [ha] at e, fun b e => by simp [ha] at e⟩, by simp [Tt.held, ha]⟩
          · split
            · refine ⟨⟨fun b e => by simp at e, fun r e => ?_, fun b e => by simp at e⟩, by simp [Tt.held, ha]⟩
              simp only [Dg.rd.injEq] at e
              subst e
              exact ⟨rfl, rfl⟩
            · exact ⟨h, rfl⟩
      · split
        · unfold Tt.write
          split
          · exact ⟨⟨fun b e => by simp [ha] at e, fun b e => by simp [ha] at e, fun b e => by simp [ha] at e⟩, by simp [Tt.held, ha]⟩
          · exact ⟨h, rfl⟩
        · split
          · unfold Tt.commit
            split
            · exact ⟨h, rfl⟩
            · split
              · exact ⟨⟨fun b e => by simp at e, fun b e => by simp at e, fun b e => by simp at e⟩, by simp [Tt.held, ha]⟩
              · refine ⟨⟨fun b e => by simp at e, fun b e => by simp at e, fun y e => ?_⟩, by simp [Tt.held, ha]⟩
                simp only [Dg.com.injEq] at e
                subst e
                exact ⟨by simp only [Cm.new]; omega, rfl, rfl, rfl⟩
          · unfold Tt.abort
            split
            · exact ⟨⟨fun b e => by simp at e, fun b e => by simp at e, fun b e => by simp at e⟩, by simp [Tt.held, ha]⟩
            · exact ⟨h, rfl⟩
    · exact ⟨h, rfl⟩
theorem rd_next_keeps (r : Rd) (z : SSt) : (r.next z).sl = r.sl ∧ (r.next z).gn = r.gn ∧ (r.next z).ce = r.ce ∧ (r.next z).bi = r.bi := by
  unfold Rd.next
  split
  · exact ⟨rfl, rfl, rfl, rfl⟩
  · split
    · exact ⟨rfl, rfl, rfl, rfl⟩
    · split
      · split
        · split <;> exact ⟨rfl, rfl, rfl, rfl⟩
        · exact ⟨rfl, rfl, rfl, rfl⟩
      · split <;> exact ⟨rfl, rfl, rfl, rfl⟩
theorem lookOn_keeps (x : Cm) (c : Cfg) (df : Int) : (x.lookOn c df).so = x.so ∧ (x.lookOn c df).ge = x.ge ∧ (x.lookOn c df).wr = x.wr ∧ (x.lookOn c df).sp = x.sp := by
  unfold Cm.lookOn
  split
  · unfold Cm.judged
    split
    · exact ⟨rfl, rfl, rfl, rfl⟩
    · split <;> exact ⟨rfl, rfl, rfl, rfl⟩
  · exact ⟨rfl, rfl, rfl, rfl⟩
theorem cm_next_keeps (y : Cm) (c : Cfg) (z : SSt) (df : Int) : (y.next c z df).so = y.so ∧ (y.next c z df).ge = y.ge ∧ (y.next c z df).wr = y.wr ∧ (y.next c z df).sp = y.sp := by
  unfold Cm.next
  cases y.st with
  | take =>
    simp only
    split <;> exact ⟨rfl, rfl, rfl, rfl⟩
  | own =>
    simp only
    split
    · exact lookOn_keeps _ _ _
    · exact ⟨rfl, rfl, rfl, rfl⟩
  | look => exact lookOn_keeps (y.looked z) c df
  | doom d => exact ⟨rfl, rfl, rfl, rfl⟩
  | write k => exact ⟨rfl, rfl, rfl, rfl⟩
  | give => exact ⟨rfl, rfl, rfl, rfl⟩
  | up => exact ⟨rfl, rfl, rfl, rfl⟩
  | free => exact ⟨rfl, rfl, rfl, rfl⟩
  | over => exact ⟨rfl, rfl, rfl, rfl⟩

/-- What a step does to the heads: nothing; a free slot becomes the thread's; its own is readied or freed; others' that live are doomed. -/
inductive HStep (x x' : Tt) (hs hs' : List Hd) : Prop where
  | same (h : ∀ s, s < hs.length → (hAt hs' s).gn = (hAt hs s).gn ∧ (hAt hs' s).sa = (hAt hs s).sa ∧ (hAt hs' s).th = (hAt hs s).th) (e : x'.held = x.held)
  | claim (k : Nat) (hk : k < hs.length) (h0 : (hAt hs k).sa = 0) (n : Int) (h1 : hAt hs' k = ⟨n, 1, 0, x.th, false, 0⟩) (h : ∀ s, s ≠ k → hAt hs' s = hAt hs s) (e0 : x.held = none) (e : x'.held = some ((k : Int), n, 1))
  | ready (k : Nat) (hk : k < hs.length) (n : Int) (e0 : x.held = some ((k : Int), n, 1)) (e : x'.held = some ((k : Int), n, 2)) (h1 : (hAt hs' k).gn = n ∧ (hAt hs' k).sa = 2 ∧ (hAt hs' k).th = (hAt hs k).th ∧ (hAt hs' k).dm = (hAt hs k).dm) (h : ∀ s, s ≠ k → hAt hs' s = hAt hs s)
  | free (k : Nat) (hk : k < hs.length) (n a : Int) (e0 : x.held = some ((k : Int), n, a)) (e : x'.held = none) (h1 : (hAt hs' k).sa = 0) (h : ∀ s, s ≠ k → hAt hs' s = hAt hs s)

theorem fst_eq {a b d a' b' d' : Int} (h : some (a, b, d) = some (a', b', d')) : a = a' ∧ b = b' ∧ d = d' := by
  simp only [Option.some.injEq, Prod.mk.injEq] at h
  exact h
theorem next_st_live {y : Cm} {c : Cfg} {z : SSt} {df : Int} (h1 : y.st ≠ .free) (h2 : y.st ≠ .over) : (y.next c z df).done = false := by
  have hl := fun q : Cm => (lookOn_st q c df).2.2
  have hd : ∀ q : Cm, q.st ≠ .over → q.done = false := by
    intro q h
    unfold Cm.done
    cases hq : q.st <;> first | rfl | exact absurd hq h
  unfold Cm.next
  cases hst : y.st with
  | take =>
    simp only
    split
    · rfl
    · exact hd y (by rw [hst]; simp)
  | own =>
    simp only
    split
    · exact hd _ (hl y)
    · rfl
  | look => exact hd _ (hl (y.looked z))
  | doom d =>
    apply hd
    simp only [Cm.doomOn]
    split <;> simp
  | write k =>
    apply hd
    simp only
    split <;> simp
  | give => rfl
  | up => rfl
  | free => exact absurd hst h1
  | over => exact absurd hst h2
theorem commits_hs {z : SSt} {y : Cm} (h1 : y.st ≠ .free) : ∀ s, s < z.hs.length → (hAt (z.commits y).hs s).gn = (hAt z.hs s).gn ∧ (hAt (z.commits y).hs s).sa = (hAt z.hs s).sa ∧ (hAt (z.commits y).hs s).th = (hAt z.hs s).th := by
  intro s hs
  unfold SSt.commits
  cases hst : y.st with
  | take => exact ⟨rfl, rfl, rfl⟩
  | own => exact ⟨rfl, rfl, rfl⟩
  | look => simp only; rw [SSt.looks_hs]; exact ⟨rfl, rfl, rfl⟩
  | doom d =>
    simp only [SSt.dooms]
    split
    · exact ⟨rfl, rfl, rfl⟩
    · rename_i t l hl
      show (hAt ((doomOp t.ge d.wy).H z.hs t.so) s).gn = _ ∧ (hAt ((doomOp t.ge d.wy).H z.hs t.so) s).sa = _ ∧ (hAt ((doomOp t.ge d.wy).H z.hs t.so) s).th = _
      rw [hAt_op]
      split
      · simp only [doomOp]
        split <;> exact ⟨rfl, rfl, rfl⟩
      · exact ⟨rfl, rfl, rfl⟩
  | write k => exact ⟨rfl, rfl, rfl⟩
  | give => exact ⟨rfl, rfl, rfl⟩
  | up => exact ⟨rfl, rfl, rfl⟩
  | free => exact absurd hst h1
  | over => exact ⟨rfl, rfl, rfl⟩
/-- A slot of one's own is freed. -/
theorem free_heads {hs : List Hd} {k : Nat} (hk : k < hs.length) {n : Int} (hn : (hAt hs k).gn = n) (ha : (hAt hs k).sa ≠ 0) : (hAt ((freeOp n).H hs (k : Int)) k).sa = 0 ∧ ∀ s, s ≠ k → hAt ((freeOp n).H hs (k : Int)) s = hAt hs s := by
  refine ⟨?_, fun s hs' => ?_⟩
  · rw [hAt_op, if_pos ⟨rfl, rfl, hk, by simp [freeOp, hn, ha]⟩]
    rfl
  · rw [hAt_op, if_neg (by intro h; have := h.2.1; omega)]
theorem step_heads {x : Tt} {c : Cfg} {z : SSt} {k : Nat} (hx : x.fit c z.hs.length k) (hm : x.mine c) (hco : x.co)
    (hup : ∀ s n a, x.held = some (s, n, a) → ∃ k : Nat, s = k ∧ k < z.hs.length ∧ (hAt z.hs k).gn = n ∧ (hAt z.hs k).sa = a) :
    HStep x (x.next c z) z.hs (z.steps c x).hs ∧ (x.next c z).co := by
  rw [(steps_bare z c x).2.2.1]
  have t1 := hx.th1
  have t8 := hx.th8
  cases hd : x.dg with
  | rest =>
    have e1 : x.next c z = x := by unfold Tt.next; rw [hd]
    have e2 : z.bare x = z := by unfold SSt.bare; rw [hd]
    rw [e1, e2]
    exact ⟨.same (fun s _ => ⟨rfl, rfl, rfl⟩) rfl, hco⟩
  | act =>
    have e1 : x.next c z = x := by unfold Tt.next; rw [hd]
    have e2 : z.bare x = z := by unfold SSt.bare; rw [hd]
    rw [e1, e2]
    exact ⟨.same (fun s _ => ⟨rfl, rfl, rfl⟩) rfl, hco⟩
  | beg b =>
    have hg := hx.bg b hd
    obtain ⟨hbt, hbs⟩ := hco.bg b hd
    have e1 : x.next c z = x.begun (b.next z) := by unfold Tt.next; rw [hd]
    have e2 : z.bare x = z.goes b := by unfold SSt.bare; rw [hd]
    rw [e1, e2]
    obtain ⟨k', hk'⟩ := Int.eq_ofNat_of_zero_le hg.s0
    have hkl : k' < z.hs.length := by have := hg.sn; omega
    have hk' : b.sl = (k' : Int) := hk'
    rcases hg.st with h0 | h0 | h0
    · have hgo : z.goes b = z.op (claimOp b.th) b.sl := by unfold SSt.goes; rw [if_pos h0]
      have hnx : b.next z = b.claim (claimR z.hs b.sl b.th) ((claimOp b.th).E z.hs b.sl) z.hs.length := by unfold Bg.next; rw [if_pos h0]
      have hist : isTh b.th = true := by rw [hbt]; simp [isTh]; omega
      have hpre : (claimOp b.th).pre = 0 := by simp [claimOp, hist]
      have hheld : x.held = none := by
        unfold Tt.held; rw [hd]; simp only
        rw [if_neg (by omega)]
      rw [hgo, hnx]
      have hha : headAt z.hs b.sl = some (hAt z.hs k') := by
        rw [hk', headAt_in hkl]
        simp [hAt, hkl]
      by_cases hf : (hAt z.hs k').sa = 0
      · have hE : (claimOp b.th).E z.hs b.sl = 0 := by
          unfold HOp.E
          rw [if_pos hpre, hha]
          simp [claimOp, hf]
        have hR : claimR z.hs b.sl b.th = (hAt z.hs k').gn + 1 := by
          unfold claimR
          rw [if_pos hist, hha]
          simp [hf]
        have hc : b.claim (claimR z.hs b.sl b.th) ((claimOp b.th).E z.hs b.sl) z.hs.length = ⟨b.th, b.sp, 1, b.sl, (hAt z.hs k').gn + 1, b.wd, b.e⟩ := by
          unfold Bg.claim
          rw [if_pos hE, hR]
        rw [hc]
        have hb : x.begun ⟨b.th, b.sp, 1, b.sl, (hAt z.hs k').gn + 1, b.wd, b.e⟩ = { x with dg := .beg ⟨b.th, b.sp, 1, b.sl, (hAt z.hs k').gn + 1, b.wd, b.e⟩ } := by
          unfold Tt.begun
          rw [if_pos (by simp)]
        rw [hb]
        refine ⟨.claim k' hkl hf ((hAt z.hs k').gn + 1) ?_ ?_ hheld ?_, ⟨fun q e => ?_, fun q e => by simp at e, fun q e => by simp at e⟩⟩
        · show hAt ((claimOp b.th).H z.hs b.sl) k' = _
          rw [hAt_op, if_pos ⟨hpre, hk', hkl, by simp [claimOp, hf]⟩, hbt]
          rfl
        · intro s hs
          show hAt ((claimOp b.th).H z.hs b.sl) s = _
          rw [hAt_op, if_neg (by intro h; have := h.2.1; omega)]
        · unfold Tt.held
          simp only
          rw [if_pos (by first | exact .inl rfl | exact .inl trivial | simp), hk']
        · simp only [Dg.beg.injEq] at e
          subst e
          exact ⟨hbt, hbs⟩
      · have hE : (claimOp b.th).E z.hs b.sl ≠ 0 := by
          unfold HOp.E
          rw [if_pos hpre, hha]
          simp [claimOp, hf]
        have hH : ∀ s, hAt (z.op (claimOp b.th) b.sl).hs s = hAt z.hs s := by
          intro s
          show hAt ((claimOp b.th).H z.hs b.sl) s = _
          rw [hAt_op, if_neg]
          intro h
          have e : s = k' := by have := h.2.1; omega
          subst e
          have := h.2.2.2
          simp [claimOp, hf] at this
        have hb : (x.begun (b.claim (claimR z.hs b.sl b.th) ((claimOp b.th).E z.hs b.sl) z.hs.length)).held = none ∧ (x.begun (b.claim (claimR z.hs b.sl b.th) ((claimOp b.th).E z.hs b.sl) z.hs.length)).co := by
          unfold Bg.claim
          rw [if_neg hE]
          by_cases hl : b.sl + 1 = (z.hs.length : Int)
          · rw [if_pos hl]
            unfold Tt.begun
            rw [if_neg (by simp), if_neg (by simp)]
            exact ⟨rfl, ⟨fun q e => by simp at e, fun q e => by simp at e, fun q e => by simp at e⟩⟩
          · rw [if_neg hl]
            unfold Tt.begun
            rw [if_pos (by simp only; omega)]
            refine ⟨?_, ⟨fun q e => ?_, fun q e => by simp at e, fun q e => by simp at e⟩⟩
            · unfold Tt.held
              simp only
              rw [if_neg (by omega)]
            · simp only [Dg.beg.injEq] at e
              subst e
              exact ⟨hbt, hbs⟩
        exact ⟨.same (fun s _ => by rw [hH s]; exact ⟨rfl, rfl, rfl⟩) (by rw [hb.1, hheld]), hb.2⟩
    · have hgo : z.goes b = z.put b.sl b.wd 0 := by unfold SSt.goes; rw [if_neg (by omega), if_pos h0]
      have hnx : b.next z = b.clear := by unfold Bg.next; rw [if_neg (by omega), if_pos h0]
      have hst : b.clear.st = 1 ∨ b.clear.st = 2 := by
        unfold Bg.clear
        simp only
        split
        · exact .inr rfl
        · exact .inl h0
      rw [hgo, hnx]
      have hb : x.begun b.clear = { x with dg := .beg b.clear } := by
        unfold Tt.begun
        rw [if_pos (by omega)]
      rw [hb]
      refine ⟨.same (fun s _ => ⟨rfl, rfl, rfl⟩) ?_, ⟨fun q e => ?_, fun q e => by simp at e, fun q e => by simp at e⟩⟩
      · unfold Tt.held
        rw [hd]
        simp only
        rw [if_pos hst, if_pos (.inl h0)]
        rfl
      · simp only [Dg.beg.injEq] at e
        subst e
        exact ⟨hbt, hbs⟩
    · have hheld : x.held = some (b.sl, b.gn, 1) := by
        unfold Tt.held; rw [hd]; simp only
        rw [if_pos (.inr h0)]
      obtain ⟨k2, e2, hk2, hg2, ha2⟩ := hup _ _ _ hheld
      obtain rfl : k2 = k' := by omega
      have hgo : z.goes b = z.op (readyOp b.gn b.sp) b.sl := by unfold SSt.goes; rw [if_neg (by omega), if_neg (by omega), if_pos h0]
      have hnx : b.next z = b.over ((readyOp b.gn b.sp).E z.hs b.sl) := by unfold Bg.next; rw [if_neg (by omega), if_neg (by omega), if_pos h0]
      have hpre : (readyOp b.gn b.sp).pre = 0 := by simp only [readyOp]; rw [if_neg (by omega)]
      have hok : (readyOp b.gn b.sp).ok (hAt z.hs k2) = true := by simp [readyOp, hg2, ha2]
      have hha : headAt z.hs b.sl = some (hAt z.hs k2) := by
        rw [hk', headAt_in hkl]
        simp [hAt, hkl]
      have hE : (readyOp b.gn b.sp).E z.hs b.sl = 0 := by
        unfold HOp.E
        rw [if_pos hpre, hha]
        simp only [hok, if_true]
      rw [hgo, hnx, hE]
      have hb : x.begun (b.over 0) = { x with dg := .act, lo := 1, le := 0, lx := 0, fr := ⟨b.sl, b.gn, 1, Sg.zero⟩ } := by
        unfold Tt.begun Bg.over
        rw [if_neg (by simp), if_pos rfl]
      rw [hb]
      refine ⟨.ready k2 hkl b.gn (by rw [hheld, hk']) (by simp only [Tt.held]; rw [hk']) ?_ ?_, ⟨fun q e => by simp at e, fun q e => by simp at e, fun q e => by simp at e⟩⟩
      · have e : hAt (z.op (readyOp b.gn b.sp) b.sl).hs k2 = (readyOp b.gn b.sp).nw (hAt z.hs k2) := by
          show hAt ((readyOp b.gn b.sp).H z.hs b.sl) k2 = _
          rw [hAt_op, if_pos ⟨hpre, hk', hkl, hok⟩]
        rw [e]
        exact ⟨hg2, rfl, rfl, rfl⟩
      · intro s hs
        show hAt ((readyOp b.gn b.sp).H z.hs b.sl) s = _
        rw [hAt_op, if_neg (by intro h; have := h.2.1; omega)]
  | rd r =>
    obtain ⟨h1, h2⟩ := hco.rd r hd
    obtain ⟨k1, k2, k3, k4⟩ := rd_next_keeps r z
    have e1 : x.next c z = x.readOn (r.next z) := by unfold Tt.next; rw [hd]
    have e2 : (z.bare x).hs = z.hs := by unfold SSt.bare; rw [hd]; exact (reads_rest z r).2.2.2
    rw [e1, e2]
    have hheld : x.held = some (x.fr.sl, x.fr.gn, 2) := by unfold Tt.held; rw [hd]
    unfold Tt.readOn
    split
    · refine ⟨.same (fun s _ => ⟨rfl, rfl, rfl⟩) (by rw [hheld]; rfl), ⟨fun q e => by simp at e, fun q e => ?_, fun q e => by simp at e⟩⟩
      simp only [Dg.rd.injEq] at e
      subst e
      exact ⟨k1.trans h1, k2.trans h2⟩
    · split
      · refine ⟨.same (fun s _ => ⟨rfl, rfl, rfl⟩) ?_, ⟨fun q e => by simp at e, fun q e => by simp at e, fun q e => by simp at e⟩⟩
        rw [hheld]
        simp only [Tt.held]
        rw [k1, k2, h1, h2]
      · exact ⟨.same (fun s _ => ⟨rfl, rfl, rfl⟩) (by rw [hheld]; rfl), ⟨fun q e => by simp at e, fun q e => by simp at e, fun q e => by simp at e⟩⟩
  | leav =>
    have e1 : x.next c z = { x with dg := .rest, lo := 4, le := 0, lx := 0 } := by unfold Tt.next; rw [hd]
    have e2 : (z.bare x).hs = (freeOp x.fr.gn).H z.hs x.fr.sl := by unfold SSt.bare; rw [hd]; rfl
    have hheld : x.held = some (x.fr.sl, x.fr.gn, 2) := by unfold Tt.held; rw [hd]
    obtain ⟨k', hk', hkl, hg, ha⟩ := hup _ _ _ hheld
    rw [e1, e2, hk']
    obtain ⟨f1, f2⟩ := free_heads hkl hg (by rw [ha]; decide)
    exact ⟨.free k' hkl x.fr.gn 2 (by rw [hheld, hk']) rfl f1 f2, ⟨fun q e => by simp at e, fun q e => by simp at e, fun q e => by simp at e⟩⟩
  | com y =>
    obtain ⟨c1, c2, c3, c4⟩ := hco.cm y hd
    obtain ⟨n1, n2, n3, n4⟩ := cm_next_keeps y c z x.df
    have hheld : x.held = some (x.fr.sl, x.fr.gn, 2) := by unfold Tt.held; rw [hd]
    have e1 : x.next c z = { x with df := y.nextDf c z x.df }.comOn (y.next c z x.df) := by unfold Tt.next; rw [hd]
    have e2 : z.bare x = z.commits y := by unfold SSt.bare; rw [hd]
    have hov := hm.ov y hd
    by_cases hfr : y.st = .free
    · have e3 : (z.commits y).hs = (freeOp y.ge).H z.hs y.so := by unfold SSt.commits; rw [hfr]; rfl
      have e4 : (y.next c z x.df).done = true := by unfold Cm.next; rw [hfr]; rfl
      obtain ⟨k', hk', hkl, hg, ha⟩ := hup _ _ _ hheld
      rw [e1, e2, e3, c1, c2, hk']
      obtain ⟨f1, f2⟩ := free_heads hkl hg (by rw [ha]; decide)
      unfold Tt.comOn
      rw [if_pos e4]
      exact ⟨.free k' hkl x.fr.gn 2 (by rw [hheld, hk']) rfl f1 f2, ⟨fun q e => by simp at e, fun q e => by simp at e, fun q e => by simp at e⟩⟩
    · have e4 := next_st_live (c := c) (z := z) (df := x.df) hfr hov
      rw [e1, e2]
      unfold Tt.comOn
      rw [if_neg (by rw [e4]; simp)]
      refine ⟨.same (commits_hs hfr) (by rw [hheld]; rfl), ⟨fun q e => by simp at e, fun q e => by simp at e, fun q e => ?_⟩⟩
      simp only [Dg.com.injEq] at e
      subst e
      exact ⟨n1.trans c1, n2.trans c2, n3.trans c3, n4.trans c4⟩
  | abo op er xv =>
    have e1 : x.next c z = { x with dg := .rest, lo := op, le := er, lx := xv } := by unfold Tt.next; rw [hd]
    have e2 : (z.bare x).hs = (freeOp x.fr.gn).H z.hs x.fr.sl := by unfold SSt.bare; rw [hd]; rfl
    have hheld : x.held = some (x.fr.sl, x.fr.gn, 2) := by unfold Tt.held; rw [hd]
    obtain ⟨k', hk', hkl, hg, ha⟩ := hup _ _ _ hheld
    rw [e1, e2, hk']
    obtain ⟨f1, f2⟩ := free_heads hkl hg (by rw [ha]; decide)
    exact ⟨.free k' hkl x.fr.gn 2 (by rw [hheld, hk']) rfl f1 f2, ⟨fun q e => by simp at e, fun q e => by simp at e, fun q e => by simp at e⟩⟩
section
variable {g : Gp} {c : Cfg} {k : Nat}
theorem again_pos (hk : g.ok c k) {j : Nat} (hj : j < 4) : 1 ≤ g.again j := by
  have h1 := hk.st
  have h2 := hk.sm j hj
  unfold Gp.again
  split
  · omega
  · rename_i h
    have : g.sm j ≠ 0 := fun e => h (.inl e)
    omega
theorem Gp.own.goes (h : g.own) (hk : g.ok c k) (hg : g.gate c) (m : Mv) : (g.goes c m).own ∧ HStep (g.preT c m) ((g.goes c m).ts m.k) g.z.hs (g.goes c m).z.hs ∧ (g.preT c m).held = (g.ts m.k).held ∧ (g.preT c m).co := by
  have hlt := m.k_lt
  obtain ⟨p1, p2⟩ := callT_own (c := c) (n := g.z.hs.length) (m := m) (h.co m.k hlt) (hk.ts m.k hlt).s0 (again_pos hk hlt)
  have hmine := callT_mine (hg.mine m.k hlt) g.z.hs.length m (g.again m.k)
  have hph := hk.preHs m
  have hfit : (g.preT c m).fit c (g.preZ c m).hs.length k := by rw [hph]; exact hk.preT m
  have p2 : (g.preT c m).held = (g.ts m.k).held := p2
  obtain ⟨s1, s2⟩ := step_heads (x := g.preT c m) (z := g.preZ c m) hfit hmine p1 (by
    intro s n a e
    rw [p2] at e
    obtain ⟨k', q1, q2, q3, q4, q5⟩ := h.up m.k hlt s n a e
    rw [hph]
    exact ⟨k', q1, q2, q3, q4⟩)
  rw [hph] at s1
  have hat : (g.goes c m).ts m.k = (g.preT c m).next c (g.preZ c m) := upd_same _ _ _
  have hne : ∀ j, j ≠ m.k → (g.goes c m).ts j = g.ts j := fun j e => upd_ne _ e _
  have hlen : (g.goes c m).z.hs.length = g.z.hs.length := by
    show ((g.preZ c m).steps c (g.preT c m)).hs.length = _
    rw [SSt.steps_len (hk.preZ m), hph]
  have hth : (g.preT c m).th = m.k + 1 := by rw [Gp.preT, callT_th]; exact hk.th _ hlt
  rw [hat]
  refine ⟨?_, s1, p2, p1⟩
  have s1' : HStep (g.preT c m) ((g.goes c m).ts m.k) g.z.hs (g.goes c m).z.hs := by rw [hat]; exact s1
  -- a slot that another thread has is not touched
  have far : ∀ j, j < 4 → j ≠ m.k → ∀ k', k' < g.z.hs.length → (hAt g.z.hs k').th = j + 1 → (hAt g.z.hs k').sa ≠ 0 → (hAt (g.goes c m).z.hs k').gn = (hAt g.z.hs k').gn ∧ (hAt (g.goes c m).z.hs k').sa = (hAt g.z.hs k').sa ∧ (hAt (g.goes c m).z.hs k').th = (hAt g.z.hs k').th := by
    intro j hj hjk k' hk' ht ha
    cases s1' with
    | same q e => exact q k' hk'
    | claim q hq h0 n h1 h2 e0 e =>
      by_cases eq : k' = q
      · subst eq; exact absurd h0 ha
      · rw [h2 k' eq]; exact ⟨rfl, rfl, rfl⟩
    | ready q hq n e0 e h1 h2 =>
      by_cases eq : k' = q
      · subst eq
        rw [p2] at e0
        obtain ⟨q', a1, a2, a3, a4, a5⟩ := h.up m.k hlt _ _ _ e0
        obtain rfl : q' = k' := by omega
        rw [ht] at a5
        omega
      · rw [h2 k' eq]; exact ⟨rfl, rfl, rfl⟩
    | free q hq n a e0 e h1 h2 =>
      by_cases eq : k' = q
      · subst eq
        rw [p2] at e0
        obtain ⟨q', a1, a2, a3, a4, a5⟩ := h.up m.k hlt _ _ _ e0
        obtain rfl : q' = k' := by omega
        rw [ht] at a5
        omega
      · rw [h2 k' eq]; exact ⟨rfl, rfl, rfl⟩
  refine ⟨fun j hj => ?_, fun j hj s n a e => ?_, fun k' hk' ha => ?_⟩
  · by_cases ej : j = m.k
    · subst ej; rw [hat]; exact s2
    · rw [hne j ej]; exact h.co j hj
  · by_cases ej : j = m.k
    · subst ej
      rw [hlen]
      cases s1' with
      | same q e' =>
        rw [e', p2] at e
        obtain ⟨q', a1, a2, a3, a4, a5⟩ := h.up m.k hlt s n a e
        obtain ⟨b1, b2, b3⟩ := q q' a2
        exact ⟨q', a1, a2, b1.trans a3, b2.trans a4, b3.trans a5⟩
      | claim q hq h0 n' h1 h2 e0 e' =>
        rw [e'] at e
        obtain ⟨rfl, rfl, rfl⟩ := fst_eq e
        exact ⟨q, rfl, hq, by rw [h1], by rw [h1], by rw [h1, hth]⟩
      | ready q hq n' e0 e' h1 h2 =>
        rw [e'] at e
        obtain ⟨rfl, rfl, rfl⟩ := fst_eq e
        rw [p2] at e0
        obtain ⟨q', a1, a2, a3, a4, a5⟩ := h.up m.k hlt _ _ _ e0
        obtain rfl : q' = q := by omega
        exact ⟨q', rfl, hq, h1.1, h1.2.1, h1.2.2.1.trans a5⟩
      | free q hq n' a' e0 e' h1 h2 =>
        rw [e'] at e
        cases e
    · rw [hne j ej] at e
      rw [hlen]
      obtain ⟨q', a1, a2, a3, a4, a5⟩ := h.up j hj s n a e
      have ha : (hAt g.z.hs q').sa ≠ 0 := by
        rw [a4]
        intro h0
        unfold Tt.held at e
        split at e
        · cases e
        · split at e
          · obtain ⟨-, -, e3⟩ := fst_eq e; omega
          · cases e
        · obtain ⟨-, -, e3⟩ := fst_eq e; omega
      obtain ⟨b1, b2, b3⟩ := far j hj ej q' a2 a5 ha
      exact ⟨q', a1, a2, b1.trans a3, b2.trans a4, b3.trans a5⟩
  · rw [hlen] at hk'
    cases s1' with
    | same q e' =>
      obtain ⟨b1, b2, b3⟩ := q k' hk'
      rw [b2] at ha
      obtain ⟨j, hj, a1, a2⟩ := h.dn k' hk' ha
      rw [b1, b2, b3]
      refine ⟨j, hj, a1, ?_⟩
      by_cases ej : j = m.k
      · subst ej; rw [e', p2]; exact a2
      · rw [hne j ej]; exact a2
    | claim q hq h0 n' h1 h2 e0 e' =>
      by_cases eq : k' = q
      · subst eq
        rw [h1]
        exact ⟨m.k, hlt, hth, e'⟩
      · rw [h2 k' eq] at ha ⊢
        obtain ⟨j, hj, a1, a2⟩ := h.dn k' hk' ha
        refine ⟨j, hj, a1, ?_⟩
        have ej : j ≠ m.k := by
          intro ej
          subst ej
          rw [← p2, e0] at a2
          cases a2
        rw [hne j ej]; exact a2
    | ready q hq n' e0 e' h1 h2 =>
      by_cases eq : k' = q
      · subst eq
        rw [p2] at e0
        obtain ⟨q', a1, a2, a3, a4, a5⟩ := h.up m.k hlt _ _ _ e0
        obtain rfl : q' = k' := by omega
        exact ⟨m.k, hlt, h1.2.2.1.trans a5, by rw [e', h1.1, h1.2.1]⟩
      · rw [h2 k' eq] at ha ⊢
        obtain ⟨j, hj, a1, a2⟩ := h.dn k' hk' ha
        refine ⟨j, hj, a1, ?_⟩
        have ej : j ≠ m.k := by
          intro ej
          subst ej
          rw [← p2, e0] at a2
          obtain ⟨e3, -, -⟩ := fst_eq a2
          omega
        rw [hne j ej]; exact a2
    | free q hq n' a' e0 e' h1 h2 =>
      by_cases eq : k' = q
      · subst eq
        exact absurd h1 ha
      · rw [h2 k' eq] at ha ⊢
        obtain ⟨j, hj, a1, a2⟩ := h.dn k' hk' ha
        refine ⟨j, hj, a1, ?_⟩
        have ej : j ≠ m.k := by
          intro ej
          subst ej
          rw [← p2, e0] at a2
          obtain ⟨e3, -, -⟩ := fst_eq a2
          omega
        rw [hne j ej]; exact a2
theorem hAt_rep (n s : Nat) : hAt (List.replicate n Hd.zero) s = Hd.zero := by
  unfold hAt
  rw [List.getD_eq_getElem?_getD, List.getElem?_replicate]
  split <;> rfl
theorem Gp.own_new (c : Cfg) (l : List Int) : (Gp.new c l).own := by
  refine ⟨fun j _ => ⟨fun b e => by simp [Gp.new, Tt.new] at e, fun b e => by simp [Gp.new, Tt.new] at e, fun b e => by simp [Gp.new, Tt.new] at e⟩, fun j _ s n a e => by simp [Gp.new, Tt.new, Tt.held] at e, fun k' _ ha => ?_⟩
  exact absurd (by show (hAt (List.replicate _ Hd.zero) k').sa = 0; rw [hAt_rep]; rfl) ha
end
end Go.Proofs.YtnchfomoaonbkaaGreat
