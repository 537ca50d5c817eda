/- Two commits at one time where nobody has published, as plain data: what a step of the one leaves of both. -/
import Derived.Test.YtgjmamgohidbiaaGreatDmdA
namespace Go.Proofs.YtgjmamgohidbiaaGreat
open Go.RowKit
set_option linter.unusedVariables false
set_option linter.unusedSimpArgs false

/-- Whose stores into cells there are. -/
def sts (l : List Acc) : List Int := (l.filter fun a => a.kind == 1 && a.op == 2).map Acc.th
theorem sts_append (l k : List Acc) : sts (l ++ k) = sts l ++ sts k := by simp [sts]
def puts (xs : List Int) (l : List Pr) : List Int := l.foldl (fun a p => storeX a p.ce p.x) xs
theorem puts_one (xs : List Int) (l : List Pr) (p : Pr) : puts xs (l ++ [p]) = storeX (puts xs l) p.ce p.x := by simp [puts]
def repT (t : Int) (l : List Pr) : List Int := List.replicate l.length t
theorem repT_one (t : Int) (l : List Pr) (p : Pr) : repT t (l ++ [p]) = repT t l ++ [t] := by simp [repT, List.replicate_succ']
def Stg.plain : Stg → Bool
  | .doom _ => false
  | .up => false
  | _ => true
def Stg.inn : Stg → Bool
  | .own => true
  | .look => true
  | .write _ => true
  | .give => true
  | _ => false
def Stg.past : Stg → Int
  | .take => 0
  | .free => 2
  | .over => 2
  | _ => 1
def Cm.stored (x : Cm) : List Pr :=
  match x.st with
  | .write k => x.wr.take k
  | .give => x.wr
  | .free => x.wr
  | .over => x.wr
  | _ => []
def Lk.rem (k : Lk) : Nat := 3 * k.left.length - (if k.inW then 1 + k.ld.length else 0)
def Cm.rem (x : Cm) : Nat :=
  match x.st with
  | .take => 4 + x.wr.length + x.lk.rem
  | .own => 3 + x.wr.length + x.lk.rem
  | .look => 2 + x.wr.length + x.lk.rem
  | .write k => 2 + (x.wr.length - k)
  | .give => 2
  | .free => 1
  | _ => 0
theorem Lk.rem_next {k : Lk} (h : k.fit) (h0 : k.left ≠ []) (z : SSt) : (k.next z).rem < k.rem := by
  obtain ⟨wr, left, inW, met, ld, vs⟩ := k
  have hld := h.ld
  have hout := h.out
  simp only at h0 hld hout
  cases left with
  | nil => exact absurd rfl h0
  | cons s l =>
    cases inW with
    | true =>
      simp only [Lk.next, if_true]
      unfold Lk.word
      cases ld with
      | nil => simp [Lk.rem]
               omega
      | cons a r =>
        cases r with
        | nil => simp only [Lk.pass, Lk.rem]; simp; omega
        | cons b r => simp at hld
    | false =>
      have := hout rfl
      subst this
      simp only [Lk.next, Bool.false_eq_true, if_false]
      unfold Lk.head
      split
      · simp [Lk.rem]; omega
      · simp [Lk.rem, Lk.pass]
/-- Nothing is met where nothing is published. -/
theorem Lk.none_next {k : Lk} {z : SSt} (hw : ∀ a, a ∈ z.ws → a = 0) (hv : k.vs = []) (hl : ∀ a, a ∈ k.ld → a = 0) : (k.next z).vs = [] ∧ ∀ a, a ∈ (k.next z).ld → a = 0 := by
  have hz : ∀ n i j, wordR z.ws n i j = 0 := by
    intro n i j
    unfold wordR
    split
    · rfl
    · rename_i q _
      rw [List.getD_eq_getElem?_getD]
      cases e : z.ws[q]? with
      | none => rfl
      | some y => exact hw y (List.mem_of_getElem? e)
  have hm : ∀ wr : Sg, (⟨0, 0⟩ : Sg).meets wr = false := by
    intro wr
    simp [Sg.meets, Sg.meet, Sg.same, Sg.zero]
  unfold Lk.next
  split
  · exact ⟨hv, hl⟩
  · split
    · rw [hz]
      unfold Lk.word
      split
      · exact ⟨hv, fun a ha => by simpa using ha⟩
      · rename_i a r e
        have h0 : a = 0 := hl a (by rw [e]; simp)
        subst h0
        simp only [Int.toNat_zero, hm, Lk.pass]
        exact ⟨hv, fun a ha => absurd ha List.not_mem_nil⟩
    · unfold Lk.head
      split
      · exact ⟨hv, hl⟩
      · exact ⟨hv, fun a ha => absurd ha List.not_mem_nil⟩

/-- One of the two. -/
structure Tw (so th : Int) (ps : List Pr) (x : Cm) : Prop where
  so : x.so = so
  ge : x.ge = 1
  th : x.th = th
  wr : x.wr = ps
  e : x.e = 0
  vs : x.lk.vs = []
  ld : ∀ a, a ∈ x.lk.ld → a = 0
  pl : x.st.plain = true
  lf : x.st = .look → x.lk.left ≠ []
  fit : x.fit 8
  n0 : x.st.past = 0 → x.num = 0
  n1 : x.st.past ≠ 0 → x.num = 1 ∨ x.num = 3

/-- What a step does. -/
inductive Eff (t : Int) (so : Int) (z z' : SSt) (x x' : Cm) : Prop where
  | quiet (p : x'.st.past = x.st.past) (i : x'.st.inn = x.st.inn) (s : x'.stored = x.stored) (n : x'.num = x.num) (gx : z'.x = z.x) (xs : z'.xs = z.xs) (l : sts z'.s.l = sts z.s.l) (hs : z'.hs = z.hs)
  | take (p : x.st.past = 0) (p' : x'.st.past = 1) (i' : x'.st.inn = true) (s : x.stored = []) (s' : x'.stored = []) (o : z.x.o = 0) (n : x'.num = z.x.n + 1) (gx : z'.x = ⟨z.x.n + 1, t⟩) (xs : z'.xs = z.xs) (l : sts z'.s.l = sts z.s.l) (hs : z'.hs = z.hs)
  | write (p : x.st.past = 1) (i : x.st.inn = true) (p' : x'.st.past = 1) (i' : x'.st.inn = true) (q : Pr) (hq : q ∈ x.wr) (s : x'.stored = x.stored ++ [q]) (n : x'.num = x.num) (gx : z'.x = z.x) (xs : z'.xs = storeX z.xs q.ce q.x) (l : cin z.xs q.ce = true → sts z'.s.l = sts z.s.l ++ [z.s.th]) (hs : z'.hs = z.hs)
  | give (p : x.st.past = 1) (i : x.st.inn = true) (p' : x'.st.past = 2) (i' : x'.st.inn = false) (s : x'.stored = x.stored) (n : x'.num = x.num) (gx : z.x.o = t → z'.x = ⟨z.x.n + 1, 0⟩) (xs : z'.xs = z.xs) (l : sts z'.s.l = sts z.s.l) (hs : z'.hs = z.hs)
  | free (p : x.st.past = 2) (i : x.st.inn = false) (p' : x'.st.past = 2) (i' : x'.st.inn = false) (s : x'.stored = x.stored) (n : x'.num = x.num) (gx : z'.x = z.x) (xs : z'.xs = z.xs) (l : sts z'.s.l = sts z.s.l) (hs : z'.hs = (freeOp 1).H z.hs so) (d : x'.done = true)

theorem sts_note (s : Mt) (k i op : Int) (ok : Bool) (h : (k == 1 && op == 2) = false) : sts (s.note k i op ok).l = sts s.l := by
  simp only [Mt.note, sts_append]
  simp only [sts, List.filter, h, List.map_nil, List.append_nil]
theorem sts_op (p : HOp) (s : Mt) (hs : List Hd) (i : Int) : sts (p.S s hs i).l = sts s.l := by
  unfold HOp.S
  split
  · split
    · rfl
    · exact sts_note _ _ _ _ _ rfl
  · rfl
theorem sts_take (s : Mt) (x : Gt) (t : Int) : sts (takeS s x t).l = sts s.l := by
  unfold takeS
  split
  · exact sts_note _ _ _ _ _ rfl
  · rfl
theorem sts_give (s : Mt) (x : Gt) (t : Int) : sts (giveS s x t).l = sts s.l := by
  unfold giveS
  split
  · exact sts_note _ _ _ _ _ rfl
  · rfl
theorem sts_look (s : Mt) (hs : List Hd) (i : Int) : sts (lookS s hs i).l = sts s.l := by
  unfold lookS
  split
  · rfl
  · exact sts_note _ _ _ _ _ rfl
theorem sts_word (s : Mt) (n : Nat) (i j : Int) : sts (wordS s n i j).l = sts s.l := by
  unfold wordS
  split
  · rfl
  · exact sts_note _ _ _ _ _ rfl
theorem sts_store {s : Mt} {xs : List Int} {k : Int} (h : cin xs k = true) : sts (storeS s xs k).l = sts s.l ++ [s.th] := by
  unfold storeS
  rw [if_pos h]
  simp [Mt.note, sts_append, sts]
theorem looks_all (z : SSt) (k : Lk) : (z.looks k).x = z.x ∧ (z.looks k).xs = z.xs ∧ sts (z.looks k).s.l = sts z.s.l ∧ (z.looks k).hs = z.hs := by
  unfold SSt.looks
  split
  · exact ⟨rfl, rfl, rfl, rfl⟩
  · split
    · exact ⟨rfl, rfl, sts_word _ _ _ _, rfl⟩
    · exact ⟨rfl, rfl, sts_look _ _ _, rfl⟩
theorem vdV_wins {c : Cfg} (hf : c.fits = true) (ht : c.ta = 1) (sp : Int) (zs : List Vt) {df : Int} (hd : 0 ≤ df) : vdV c sp df zs = 1 := by
  unfold vdV vdOk
  rw [hf, ht]
  simp [hd]
/-- Behind a look that has found nobody. -/
theorem lookOn_none {x : Cm} {c : Cfg} (hf : c.fits = true) (ht : c.ta = 1) (hv : x.lk.vs = []) {df : Int} (hd : 0 ≤ df) : x.lookOn c df = { x with st := if x.lk.left = [] then .write 0 else .look } ∧ x.lookDf c df = df := by
  unfold Cm.lookOn Cm.lookDf nxt
  rw [vdV_wins hf ht _ _ hd]
  split
  · simp [Cm.judged, Cm.doomOn, hv]
  · simp
theorem Cm.next_over {x : Cm} (h : x.done = true) (c : Cfg) (z : SSt) (df : Int) : x.next c z df = x := by
  unfold Cm.done at h
  unfold Cm.next
  split <;> simp_all [Stg.isOver]

/-- A step of the one. -/
theorem Tw.step {so th : Int} {ps : List Pr} {x : Cm} (h : Tw so th ps x) {c : Cfg} (hf : c.fits = true) (ht : c.ta = 1) {z : SSt} (hth : 1 ≤ th ∧ th ≤ 8) (hw : ∀ a, a ∈ z.ws → a = 0) (hm : x.done = false → (nowAt z.hs so).mine 1 = true) (hg : x.st.past = 0 → z.x.o = 0 → z.x.n = 0 ∨ z.x.n = 2) :
    Tw so th ps (x.next c z 0) ∧ x.nextDf c z 0 = 0 ∧ Eff th so z (z.commits x) x (x.next c z 0) ∧
    ((x.st.past = 0 ∧ z.x.o ≠ 0) → x.next c z 0 = x ∧ x.ans z = 2) ∧ (¬ (x.st.past = 0 ∧ z.x.o ≠ 0) → x.ans z ≠ 2 ∧ (x.done = false → (x.next c z 0).rem < x.rem)) := by
  have hwk : WsOk z.ws := fun a ha => ⟨0, by rw [hw a ha]; rfl, by decide⟩
  have hfit := h.fit.next c hwk 0
  obtain ⟨xso, xge, xth, xsp, xwr, xlk, xst, xe, xwon, xnum⟩ := x
  obtain ⟨h1, h2, h3, h4, h5, h6, h7, h8, h9, h10, h11, h12⟩ := h
  simp only at h1 h2 h3 h4 h5 h6 h7 h8 h9 h11 h12
  subst h1 h2 h3 h4 h5
  have hgt : gTh xth = true := by simp [gTh, hth]
  have htk : takeE z.x xth = if (z.x.o == 0) then 0 else 5 := by simp [takeE, hgt]
  cases xst with
  | take =>
    by_cases ho : z.x.o = 0
    · have e0 : takeE z.x xth = 0 := by rw [htk]; simp [ho]
      have e1 : takeR z.x xth = z.x.n + 1 := by simp [takeR, hgt, ho]
      have e2 : takeX z.x xth = ⟨z.x.n + 1, xth⟩ := by simp [takeX, hgt, ho]
      have en : (⟨xso, 1, xth, xsp, xwr, xlk, .take, 0, xwon, xnum⟩ : Cm).next c z 0 = ⟨xso, 1, xth, xsp, xwr, xlk, .own, 0, xwon, z.x.n + 1⟩ := by simp [Cm.next, e0, e1]
      rw [en] at hfit ⊢
      refine ⟨⟨rfl, rfl, rfl, rfl, rfl, h6, h7, rfl, fun e => (by cases e), hfit, fun e => absurd e (by show ¬ (1 : Int) = 0; decide), fun _ => ?_⟩, rfl, ?_, fun e => absurd ho e.2, fun _ => ⟨?_, fun _ => ?_⟩⟩
      · have := hg rfl ho
        show z.x.n + 1 = 1 ∨ z.x.n + 1 = 3
        omega
      · exact Eff.take rfl rfl rfl rfl rfl ho rfl (by simp [SSt.commits, SSt.take, e2]) rfl (by simp [SSt.commits, SSt.take, sts_take]) rfl
      · simp [Cm.ans, e0]
      · simp [Cm.rem]
    · have e0 : takeE z.x xth = 5 := by rw [htk]; simp [ho]
      have e2 : takeX z.x xth = z.x := by simp [takeX, hgt, ho]
      have en : (⟨xso, 1, xth, xsp, xwr, xlk, .take, 0, xwon, xnum⟩ : Cm).next c z 0 = ⟨xso, 1, xth, xsp, xwr, xlk, .take, 0, xwon, xnum⟩ := by simp [Cm.next, e0]
      rw [en] at hfit ⊢
      refine ⟨⟨rfl, rfl, rfl, rfl, rfl, h6, h7, rfl, h9, hfit, h11, h12⟩, rfl, ?_, fun _ => ⟨rfl, ?_⟩, fun e => absurd ⟨rfl, ho⟩ e⟩
      · exact Eff.quiet rfl rfl rfl rfl (by simp [SSt.commits, SSt.take, e2]) rfl (by simp [SSt.commits, SSt.take, sts_take]) rfl
      · simp [Cm.ans, e0]
  | own =>
    have hmm := hm rfl
    obtain ⟨a1, a2⟩ := lookOn_none (x := (⟨xso, 1, xth, xsp, xwr, xlk, .own, 0, xwon, xnum⟩ : Cm)) hf ht h6 (Int.le_refl 0)
    have en : (⟨xso, 1, xth, xsp, xwr, xlk, .own, 0, xwon, xnum⟩ : Cm).next c z 0 = ⟨xso, 1, xth, xsp, xwr, xlk, if xlk.left = [] then .write 0 else .look, 0, xwon, xnum⟩ := by
      simp only [Cm.next, hmm, if_true, a1]
    have ed : (⟨xso, 1, xth, xsp, xwr, xlk, .own, 0, xwon, xnum⟩ : Cm).nextDf c z 0 = 0 := by
      simp only [Cm.nextDf, hmm, if_true, a2]
    rw [en] at hfit ⊢
    rw [ed]
    have hn := h12 (by decide)
    by_cases hl : xlk.left = []
    · rw [if_pos hl] at hfit ⊢
      refine ⟨⟨rfl, rfl, rfl, rfl, rfl, h6, h7, rfl, fun e => (by cases e), hfit, fun e => absurd e (by show ¬ (1 : Int) = 0; decide), fun _ => hn⟩, rfl, ?_, fun e => absurd e.1 (by show ¬ (1 : Int) = 0; decide), fun _ => ⟨by simp [Cm.ans], fun _ => ?_⟩⟩
      · exact Eff.quiet rfl rfl rfl rfl rfl rfl (by simp [SSt.commits, SSt.look, sts_look]) rfl
      · simp [Cm.rem]; omega
    · rw [if_neg hl] at hfit ⊢
      refine ⟨⟨rfl, rfl, rfl, rfl, rfl, h6, h7, rfl, fun _ => hl, hfit, fun e => absurd e (by show ¬ (1 : Int) = 0; decide), fun _ => hn⟩, rfl, ?_, fun e => absurd e.1 (by show ¬ (1 : Int) = 0; decide), fun _ => ⟨by simp [Cm.ans], fun _ => ?_⟩⟩
      · exact Eff.quiet rfl rfl rfl rfl rfl rfl (by simp [SSt.commits, SSt.look, sts_look]) rfl
      · simp [Cm.rem]
  | look =>
    have hl0 := h9 rfl
    have hlk : xlk.fit := h10.lk
    obtain ⟨b1, b2⟩ := Lk.none_next (z := z) hw h6 h7
    have hr := Lk.rem_next hlk hl0 z
    obtain ⟨a1, a2⟩ := lookOn_none (x := (⟨xso, 1, xth, xsp, xwr, xlk.next z, .look, 0, xwon, xnum⟩ : Cm)) hf ht b1 (Int.le_refl 0)
    have en : (⟨xso, 1, xth, xsp, xwr, xlk, .look, 0, xwon, xnum⟩ : Cm).next c z 0 = ⟨xso, 1, xth, xsp, xwr, xlk.next z, if (xlk.next z).left = [] then .write 0 else .look, 0, xwon, xnum⟩ := by
      simp only [Cm.next, Cm.looked, a1]
    have ed : (⟨xso, 1, xth, xsp, xwr, xlk, .look, 0, xwon, xnum⟩ : Cm).nextDf c z 0 = 0 := by
      simp only [Cm.nextDf, Cm.looked, a2]
    rw [en] at hfit ⊢
    rw [ed]
    have hn := h12 (by decide)
    obtain ⟨l1, l2, l3, l4⟩ := looks_all z xlk
    by_cases hl : (xlk.next z).left = []
    · rw [if_pos hl] at hfit ⊢
      refine ⟨⟨rfl, rfl, rfl, rfl, rfl, b1, b2, rfl, fun e => (by cases e), hfit, fun e => absurd e (by show ¬ (1 : Int) = 0; decide), fun _ => hn⟩, rfl, ?_, fun e => absurd e.1 (by show ¬ (1 : Int) = 0; decide), fun _ => ⟨by simp [Cm.ans], fun _ => ?_⟩⟩
      · exact Eff.quiet rfl rfl rfl rfl l1 l2 l3 l4
      · simp [Cm.rem]; omega
    · rw [if_neg hl] at hfit ⊢
      refine ⟨⟨rfl, rfl, rfl, rfl, rfl, b1, b2, rfl, fun _ => hl, hfit, fun e => absurd e (by show ¬ (1 : Int) = 0; decide), fun _ => hn⟩, rfl, ?_, fun e => absurd e.1 (by show ¬ (1 : Int) = 0; decide), fun _ => ⟨by simp [Cm.ans], fun _ => ?_⟩⟩
      · exact Eff.quiet rfl rfl rfl rfl l1 l2 l3 l4
      · simp [Cm.rem]; omega
  | doom d => cases h8
  | write k =>
    have hk : k < xwr.length := h10.wk k rfl
    have hn := h12 (by show ¬ (1 : Int) = 0; decide)
    have hq : xwr.getD k Pr.zero = xwr[k] := by rw [List.getD_eq_getElem?_getD, List.getElem?_eq_getElem hk]; rfl
    have hst : ∀ st, (if k + 1 = xwr.length then Stg.give else .write (k + 1)) = st → (⟨xso, 1, xth, xsp, xwr, xlk, st, 0, xwon, xnum⟩ : Cm).stored = xwr.take k ++ [xwr[k]] := by
      intro st e
      rw [← List.take_succ_eq_append_getElem hk]
      subst e
      split
      · rename_i hh
        show xwr = xwr.take (k + 1)
        rw [hh, List.take_length]
      · rfl
    have en : (⟨xso, 1, xth, xsp, xwr, xlk, .write k, 0, xwon, xnum⟩ : Cm).next c z 0 = ⟨xso, 1, xth, xsp, xwr, xlk, if k + 1 = xwr.length then Stg.give else .write (k + 1), 0, xwon, xnum⟩ := rfl
    rw [en] at hfit ⊢
    have hs := hst _ rfl
    have hp : (if k + 1 = xwr.length then Stg.give else .write (k + 1)).past = 1 := by split <;> rfl
    have hi : (if k + 1 = xwr.length then Stg.give else .write (k + 1)).inn = true := by split <;> rfl
    have hpl : (if k + 1 = xwr.length then Stg.give else .write (k + 1)).plain = true := by split <;> rfl
    refine ⟨⟨rfl, rfl, rfl, rfl, rfl, h6, h7, hpl, fun e => ?_, hfit, fun e => ?_, fun _ => hn⟩, rfl, ?_, fun e => absurd e.1 (by show ¬ (1 : Int) = 0; decide), fun _ => ⟨by simp [Cm.ans], fun _ => ?_⟩⟩
    · simp only at e
      split at e <;> cases e
    · simp only [hp] at e
      omega
    · refine Eff.write rfl rfl hp hi xwr[k] (List.getElem_mem hk) hs rfl rfl ?_ (fun hc => ?_) rfl
      · simp only [SSt.commits, SSt.store, hq]
      · simp only [SSt.commits, SSt.store, hq]
        exact sts_store hc
    · simp only [Cm.rem]
      split
      · rename_i hh
        split at hh <;> cases hh
      · rename_i hh
        split at hh <;> cases hh
      · rename_i hh
        split at hh <;> cases hh
      · rename_i j hh
        split at hh
        · cases hh
        · cases hh; omega
      · omega
      · omega
      · omega
  | give =>
    have hn := h12 (by decide)
    refine ⟨⟨rfl, rfl, rfl, rfl, rfl, h6, h7, rfl, fun e => (by cases e), hfit, fun e => absurd e (by show ¬ (2 : Int) = 0; decide), fun _ => hn⟩, rfl, ?_, fun e => absurd e.1 (by show ¬ (1 : Int) = 0; decide), fun _ => ⟨by simp [Cm.ans], fun _ => ?_⟩⟩
    · exact Eff.give rfl rfl rfl rfl rfl rfl (fun ho => by simp [SSt.commits, SSt.give, giveX, hgt, ho]) rfl (by simp [SSt.commits, SSt.give, sts_give]) rfl
    · simp [Cm.rem, Cm.next]
  | up => cases h8
  | free =>
    have hn := h12 (by decide)
    refine ⟨⟨rfl, rfl, rfl, rfl, rfl, h6, h7, rfl, fun e => (by cases e), hfit, fun e => absurd e (by show ¬ (2 : Int) = 0; decide), fun _ => hn⟩, rfl, ?_, fun e => absurd e.1 (by show ¬ (2 : Int) = 0; decide), fun _ => ⟨by simp [Cm.ans], fun _ => ?_⟩⟩
    · exact Eff.free rfl rfl rfl rfl rfl rfl rfl rfl (by simp [SSt.commits, SSt.op, sts_op]) rfl rfl
    · simp [Cm.rem, Cm.next]
  | over =>
    have hn := h12 (by decide)
    refine ⟨⟨rfl, rfl, rfl, rfl, rfl, h6, h7, rfl, fun e => (by cases e), hfit, fun e => absurd e (by show ¬ (2 : Int) = 0; decide), fun _ => hn⟩, rfl, ?_, fun e => absurd e.1 (by show ¬ (2 : Int) = 0; decide), fun _ => ⟨by simp [Cm.ans], fun e => by cases e⟩⟩
    exact Eff.quiet rfl rfl rfl rfl rfl rfl rfl rfl

/-- Both. -/
structure Two (s1 t1 s2 t2 : Int) (ps qs : List Pr) (z : SSt) (x y : Cm) : Prop where
  X : Tw s1 t1 ps x
  Y : Tw s2 t2 qs y
  P : WPart ps
  Q : WPart qs
  xl : z.xs.length = 64
  w : ∀ a, a ∈ z.ws → a = 0
  hx : x.done = false → (nowAt z.hs s1).mine 1 = true
  hy : y.done = false → (nowAt z.hs s2).mine 1 = true
  gn : z.x.n = x.st.past + y.st.past
  gx : x.st.inn = true → z.x.o = t1 ∧ y.st.inn = false
  gy : y.st.inn = true → z.x.o = t2 ∧ x.st.inn = false
  g0 : x.st.inn = false → y.st.inn = false → z.x.o = 0
  o1 : x.st.past ≠ 0 → y.st.past = 0 → x.num = 1
  o2 : y.st.past ≠ 0 → x.st.past = 0 → y.num = 1
  o3 : x.st.past ≠ 0 → y.st.past ≠ 0 → (x.num = 1 ∧ y.num = 3 ∧ x.st.past = 2) ∨ (x.num = 3 ∧ y.num = 1 ∧ y.st.past = 2)
  c1 : x.num ≤ y.num → z.xs = puts (puts (List.replicate 64 0) x.stored) y.stored
  c2 : y.num ≤ x.num → z.xs = puts (puts (List.replicate 64 0) y.stored) x.stored
  l1 : x.num ≤ y.num → sts z.s.l = repT t1 x.stored ++ repT t2 y.stored
  l2 : y.num ≤ x.num → sts z.s.l = repT t2 y.stored ++ repT t1 x.stored
theorem Two.swap {s1 t1 s2 t2 : Int} {ps qs : List Pr} {z : SSt} {x y : Cm} (h : Two s1 t1 s2 t2 ps qs z x y) : Two s2 t2 s1 t1 qs ps z y x :=
  ⟨h.Y, h.X, h.Q, h.P, h.xl, h.w, h.hy, h.hx, by rw [h.gn]; omega, h.gy, h.gx, fun a b => h.g0 b a, h.o2, h.o1, fun a b => by
    rcases h.o3 b a with ⟨c, d, e⟩ | ⟨c, d, e⟩
    · exact .inr ⟨d, c, e⟩
    · exact .inl ⟨d, c, e⟩, h.c2, h.c1, h.l2, h.l1⟩
theorem Two.turn {s1 t1 s2 t2 : Int} {ps qs : List Pr} {z : SSt} {x y : Cm} (h : Two s1 t1 s2 t2 ps qs z x y) (t : Int) : Two s1 t1 s2 t2 ps qs (z.turn t) x y :=
  ⟨h.X, h.Y, h.P, h.Q, h.xl, h.w, h.hx, h.hy, h.gn, h.gx, h.gy, h.g0, h.o1, h.o2, h.o3, h.c1, h.c2, h.l1, h.l2⟩
theorem Stg.past_of {st : Stg} (h : st.plain = true) : (st.inn = true ∧ st.past = 1) ∨ (st.inn = false ∧ st.past = 0 ∧ st = .take) ∨ (st.inn = false ∧ st.past = 2) := by
  cases st <;> simp_all [Stg.plain, Stg.inn, Stg.past]
theorem storeX_len (xs : List Int) (k x : Int) : (storeX xs k x).length = xs.length := by
  unfold storeX
  split <;> simp
theorem now_free {hs : List Hd} {s1 s2 g : Int} (h : s1 ≠ s2) (h1 : 0 ≤ s1) (h2 : 0 ≤ s2) : nowAt ((freeOp g).H hs s1) s2 = nowAt hs s2 := by
  unfold HOp.H
  split
  · split
    · rfl
    · split
      · unfold nowAt headAt
        rw [if_pos h2, if_pos h2, List.getElem?_set_ne (by omega)]
      · rfl
  · rfl
theorem commits_ws0 {z : SSt} {x : Cm} (h : ∀ a, a ∈ z.ws → a = 0) : ∀ a, a ∈ (z.commits x).ws → a = 0 := by rw [SSt.commits_ws]; exact h
/-- What a step of the first leaves. -/
theorem Two.step {s1 t1 s2 t2 : Int} {ps qs : List Pr} {z : SSt} {x y : Cm} (h : Two s1 t1 s2 t2 ps qs z x y) {c : Cfg} (hf : c.fits = true) (ht : c.ta = 1) (h1 : 1 ≤ t1 ∧ t1 ≤ 8) (h2 : 1 ≤ t2 ∧ t2 ≤ 8) (hs : s1 ≠ s2) (hs1 : 0 ≤ s1) (hs2 : 0 ≤ s2) (htt : t1 ≠ t2) (hz : z.s.th = t1) :
    Two s1 t1 s2 t2 ps qs (z.commits x) (x.next c z 0) y ∧ x.nextDf c z 0 = 0 ∧ ((x.ans z == 2) = ((z.x.n % 2 == 1) && (z.x.o != t1) && ((x.next c z 0).num == 0))) ∧ (x.next c z 0).rem ≤ x.rem ∧
    ((x.done = true ∨ (x.st.past = 0 ∧ y.st.inn = true)) → x.next c z 0 = x) ∧ (¬ (x.done = true ∨ (x.st.past = 0 ∧ y.st.inn = true)) → (x.next c z 0).rem < x.rem) := by
  have hpx := Stg.past_of h.X.pl
  have hpy := Stg.past_of h.Y.pl
  have hgn := h.gn
  obtain ⟨a1, a2, a3, a4, a5⟩ := h.X.step hf ht (z := z) h1 h.w h.hx (fun e o => by
    rcases hpy with ⟨y1, y2⟩ | ⟨y1, y2, _⟩ | ⟨y1, y2⟩
    · have := (h.gy y1).1; omega
    · omega
    · omega)
  have hdx : (x.next c z 0).done = false → x.done = false := fun e => by
    cases hd : x.done with
    | false => rfl
    | true => rw [Cm.next_over hd] at e; rw [hd] at e; cases e
  have hwait : (x.st.past = 0 ∧ z.x.o ≠ 0) ↔ (x.st.past = 0 ∧ y.st.inn = true) := by
    constructor
    · rintro ⟨e, o⟩
      refine ⟨e, ?_⟩
      cases hy : y.st.inn with
      | true => rfl
      | false =>
        rcases hpx with ⟨y1, y2⟩ | ⟨y1, y2, _⟩ | ⟨y1, y2⟩
        · omega
        · exact absurd (h.g0 y1 hy) o
        · omega
    · rintro ⟨e, o⟩
      exact ⟨e, by have := (h.gy o).1; omega⟩
  refine ⟨?_, a2, ?_, ?_, ?_, ?_⟩
  · have hp' := Stg.past_of a1.pl
    generalize hx' : x.next c z 0 = x' at *
    generalize hz' : z.commits x = z' at *
    have hw' : ∀ a, a ∈ z'.ws → a = 0 := by rw [← hz']; exact commits_ws0 h.w
    have hXn0 := h.X.n0
    have hXn1 := h.X.n1
    have hYn0 := h.Y.n0
    have hYn1 := h.Y.n1
    cases a3 with
    | quiet p i s n gx xs l hs =>
      exact ⟨a1, h.Y, h.P, h.Q, by rw [xs]; exact h.xl, hw', fun e => by rw [hs]; exact h.hx (hdx e), fun e => by rw [hs]; exact h.hy e, by rw [gx, p]; exact h.gn, fun e => by rw [gx]; rw [i] at e; exact h.gx e, fun e => by rw [gx, i]; exact h.gy e, fun e e2 => by rw [gx]; rw [i] at e; exact h.g0 e e2, fun e e2 => by rw [n]; rw [p] at e; exact h.o1 e e2, fun e e2 => by rw [p] at e2; exact h.o2 e e2, fun e e2 => by rw [n, p]; rw [p] at e; exact h.o3 e e2, fun e => by rw [xs, s]; rw [n] at e; exact h.c1 e, fun e => by rw [xs, s]; rw [n] at e; exact h.c2 e, fun e => by rw [l, s]; rw [n] at e; exact h.l1 e, fun e => by rw [l, s]; rw [n] at e; exact h.l2 e⟩
    | take p p' i' s s' o n gx xs l hs =>
      have hyi : y.st.inn = false := by
        cases hy : y.st.inn with
        | false => rfl
        | true => have := (h.gy hy).1; omega
      have hn0 := hXn0 p
      have hyp : y.st.past = 0 ∨ y.st.past = 2 := by
        rcases hpy with ⟨y1, y2⟩ | ⟨y1, y2, _⟩ | ⟨y1, y2⟩
        · rw [hyi] at y1; cases y1
        · exact .inl y2
        · exact .inr y2
      have hcx : z.xs = puts (List.replicate 64 0) y.stored := by
        have := h.c1 (by rcases hyp with e | e; · have := hYn0 e; omega
                         · have := hYn1 (by omega); omega)
        rw [s] at this
        exact this
      have hlx : sts z.s.l = repT t2 y.stored := by
        have := h.l1 (by rcases hyp with e | e; · have := hYn0 e; omega
                         · have := hYn1 (by omega); omega)
        rw [s] at this
        simpa [repT] using this
      have hnum : x'.num = y.st.past + 1 := by rw [n, hgn, p]; omega
      have hyn : y.st.past = 2 → y.num = 1 := fun e => h.o2 (by omega) p
      have hgt : y.num < x'.num := by
        rcases hyp with e | e
        · have := hYn0 e; omega
        · have := hyn e; omega
      refine ⟨a1, h.Y, h.P, h.Q, by rw [xs]; exact h.xl, hw', fun e => by rw [hs]; exact h.hx (hdx e), fun e => by rw [hs]; exact h.hy e, ?_, ?_, ?_, ?_, ?_, ?_, ?_, ?_, ?_, ?_, ?_⟩
      · rw [gx]; show z.x.n + 1 = _; omega
      · intro _; rw [gx]; exact ⟨rfl, hyi⟩
      · intro e; rw [hyi] at e; cases e
      · intro e; rw [i'] at e; cases e
      · intro _ e; omega
      · intro _ e; omega
      · intro _ e
        right
        rcases hyp with e2 | e2
        · omega
        · exact ⟨by omega, hyn e2, e2⟩
      · intro e; omega
      · intro _; rw [xs, s']; exact hcx
      · intro e; omega
      · intro _; rw [l, s', hlx]; simp [repT]
    | write p i p' i' q hq s n gx xs l hs =>
      have hyi := (h.gx i).2
      have hci : cin z.xs q.ce = true := by
        have := h.P.r q (by rw [← h.X.wr]; exact hq)
        simp only [cin, Bool.and_eq_true, decide_eq_true_eq, h.xl]
        omega
      have hgt : y.num < x.num := by
        rcases hpy with ⟨y1, y2⟩ | ⟨y1, y2, _⟩ | ⟨y1, y2⟩
        · rw [hyi] at y1; cases y1
        · have := hYn0 y2
          have := hXn1 (by omega)
          omega
        · rcases h.o3 (by omega) (by omega) with ⟨e1, e2, e3⟩ | ⟨e1, e2, e3⟩
          · omega
          · omega
      have hc := h.c2 (by omega)
      have hl := h.l2 (by omega)
      refine ⟨a1, h.Y, h.P, h.Q, by rw [xs, storeX_len]; exact h.xl, hw', fun e => by rw [hs]; exact h.hx (hdx e), fun e => by rw [hs]; exact h.hy e, ?_, ?_, ?_, ?_, ?_, ?_, ?_, ?_, ?_, ?_, ?_⟩
      · rw [gx, p', ← p]; exact h.gn
      · intro _; rw [gx]; exact h.gx i
      · intro e; rw [hyi] at e; cases e
      · intro e; rw [i'] at e; cases e
      · intro _ e; rw [n]; exact h.o1 (by omega) e
      · intro _ e; omega
      · intro _ e; rw [n, p']; have := h.o3 (by omega) e; rw [p] at this; exact this
      · intro e; omega
      · intro _; rw [xs, s, puts_one, ← hc]
      · intro e; omega
      · intro _; rw [l hci, s, repT_one, ← List.append_assoc, ← hl, hz]
    | give p i p' i' s n gx xs l hs =>
      have hyi := (h.gx i).2
      have ho := (h.gx i).1
      have gx := gx ho
      refine ⟨a1, h.Y, h.P, h.Q, by rw [xs]; exact h.xl, hw', fun e => by rw [hs]; exact h.hx (hdx e), fun e => by rw [hs]; exact h.hy e, ?_, ?_, ?_, ?_, ?_, ?_, ?_, ?_, ?_, ?_, ?_⟩
      · rw [gx]; show z.x.n + 1 = _; omega
      · intro e; rw [i'] at e; cases e
      · intro e; rw [hyi] at e; cases e
      · intro _ _; rw [gx]
      · intro _ e; rw [n]; exact h.o1 (by omega) e
      · intro _ e; omega
      · intro _ e
        rw [n]
        rcases h.o3 (by omega) e with ⟨e1, e2, e3⟩ | ⟨e1, e2, e3⟩
        · exact .inl ⟨e1, e2, p'⟩
        · exact .inr ⟨e1, e2, e3⟩
      · intro e; rw [xs, s]; rw [n] at e; exact h.c1 e
      · intro e; rw [xs, s]; rw [n] at e; exact h.c2 e
      · intro e; rw [l, s]; rw [n] at e; exact h.l1 e
      · intro e; rw [l, s]; rw [n] at e; exact h.l2 e
    | free p i p' i' s n gx xs l hh d =>
      refine ⟨a1, h.Y, h.P, h.Q, by rw [xs]; exact h.xl, hw', fun e => (by rw [d] at e; cases e), fun e => by rw [hh, now_free hs hs1 hs2]; exact h.hy e, ?_, ?_, ?_, ?_, ?_, ?_, ?_, ?_, ?_, ?_, ?_⟩
      · rw [gx, p', ← p]; exact h.gn
      · intro e; rw [i'] at e; cases e
      · intro e; rw [gx]; exact ⟨(h.gy e).1, i'⟩
      · intro _ e; rw [gx]; exact h.g0 i e
      · intro _ e; rw [n]; exact h.o1 (by omega) e
      · intro _ e; omega
      · intro _ e
        rw [n, p']
        have := h.o3 (by omega) e
        rw [p] at this
        exact this
      · intro e; rw [xs, s]; rw [n] at e; exact h.c1 e
      · intro e; rw [xs, s]; rw [n] at e; exact h.c2 e
      · intro e; rw [l, s]; rw [n] at e; exact h.l1 e
      · intro e; rw [l, s]; rw [n] at e; exact h.l2 e
  · by_cases hw : x.st.past = 0 ∧ z.x.o ≠ 0
    · obtain ⟨b1, b2⟩ := a4 hw
      have hyi := (hwait.1 hw).2
      have ho := (h.gy hyi).1
      have hyp : y.st.past = 1 := by
        rcases hpy with ⟨y1, y2⟩ | ⟨y1, y2, _⟩ | ⟨y1, y2⟩
        · exact y2
        · rw [hyi] at y1; cases y1
        · rw [hyi] at y1; cases y1
      have hn := h.X.n0 hw.1
      have e1 : z.x.n % 2 = 1 := by omega
      rw [b1, b2, hn, e1, ho]
      simp
      omega
    · obtain ⟨b1, b2⟩ := a5 hw
      have e1 : (x.ans z == 2) = false := by simpa using b1
      rw [e1]
      by_cases hp : x.st.past = 0
      · have ho : z.x.o = 0 := by
          by_cases ho : z.x.o = 0
          · exact ho
          · exact absurd ⟨hp, ho⟩ hw
        have hyp : y.st.past = 0 ∨ y.st.past = 2 := by
          rcases hpy with ⟨y1, y2⟩ | ⟨y1, y2, _⟩ | ⟨y1, y2⟩
          · have := (h.gy y1).1; omega
          · exact .inl y2
          · exact .inr y2
        have e2 : z.x.n % 2 = 0 := by omega
        simp [e2]
      · have hn : (x.next c z 0).num ≠ 0 := by
          have := h.X.n1 hp
          cases a3 with
          | quiet p i s n => rw [n]; omega
          | take p => exact absurd p hp
          | write p i p' i' q hq s n => rw [n]; omega
          | give p i p' i' s n => rw [n]; omega
          | free p i p' i' s n => rw [n]; omega
        simp [hn]
  · by_cases hw : x.st.past = 0 ∧ z.x.o ≠ 0
    · rw [(a4 hw).1]; exact Nat.le_refl _
    · cases hd : x.done with
      | true => rw [Cm.next_over hd]; exact Nat.le_refl _
      | false => exact Nat.le_of_lt ((a5 hw).2 hd)
  · rintro (e | e)
    · exact Cm.next_over e _ _ _
    · exact (a4 (hwait.2 e)).1
  · intro e
    have hd : x.done = false := by
      cases hd : x.done with
      | false => rfl
      | true => exact absurd (.inl hd) e
    exact (a5 (fun hw => e (.inr (hwait.1 hw)))).2 hd
/-- Who can't go on, the other one can. -/
theorem Two.other {s1 t1 s2 t2 : Int} {ps qs : List Pr} {z : SSt} {x y : Cm} (h : Two s1 t1 s2 t2 ps qs z x y) (hd : x.done = false ∨ y.done = false) (hw : x.done = true ∨ (x.st.past = 0 ∧ y.st.inn = true)) : ¬ (y.done = true ∨ (y.st.past = 0 ∧ x.st.inn = true)) := by
  have over : ∀ q : Cm, q.done = true → q.st.inn = false ∧ q.st.past = 2 := fun q e => by
    unfold Cm.done at e
    cases hq : q.st <;> simp_all [Stg.isOver, Stg.inn, Stg.past]
  have hpy := Stg.past_of h.Y.pl
  rcases hw with e | ⟨e1, e2⟩
  · obtain ⟨b1, b2⟩ := over x e
    rintro (f | ⟨f1, f2⟩)
    · rcases hd with d | d
      · rw [e] at d; cases d
      · rw [f] at d; cases d
    · rw [b1] at f2; cases f2
  · rintro (f | ⟨f1, f2⟩)
    · rw [(over y f).1] at e2; cases e2
    · rcases hpy with ⟨y1, y2⟩ | ⟨y1, y2, _⟩ | ⟨y1, y2⟩
      · omega
      · rw [e2] at y1; cases y1
      · omega
/-- As they begin. -/
theorem Tw.begins {so : Nat} {th sp : Int} {ps : List Pr} {wr : Sg} (hf : (Cm.new so 1 th sp ps wr 8).fit 8) : Tw so th ps (Cm.new so 1 th sp ps wr 8) :=
  ⟨rfl, rfl, rfl, rfl, rfl, rfl, fun a ha => absurd ha List.not_mem_nil, rfl, fun e => (by cases e), hf, fun _ => rfl, fun e => absurd rfl e⟩
theorem Cm.rem_new {so : Nat} {th sp : Int} {ps : List Pr} {wr : Sg} (h : ps.length ≤ 16) : (Cm.new so 1 th sp ps wr 8).rem ≤ 44 := by
  have := othersOf_le 8 so
  simp only [Cm.rem, Cm.new, Lk.new, Lk.rem]
  simp
  omega
theorem WPart.ck2 {ps : List Pr} (h : WPart ps) (h1 : ps ≠ []) (tag bits bias most : Int) : ckE (cfgOf tag bits bias most) (1 : Nat) 2 6 ps = 0 := by
  have ho : outC 64 (cesOf ps) = false := by
    unfold outC
    rw [List.any_eq_false]
    intro c hc
    obtain ⟨p, hp, rfl⟩ := List.mem_map.1 hc
    have := h.r p hp
    simp [inC]
    omega
  have ht := cesOf_nodup_twice h.u
  have hn := h.n
  unfold ckE
  rw [if_neg (by decide), if_neg (by decide), if_neg h1, if_neg (by omega), if_neg (by simp [inC, cfgOf])]
  unfold cellsE
  rw [show (cfgOf tag bits bias most).ce = 64 from rfl, ho, ht]
  rfl
/-- The space ahead of the two. -/
def twoZ (c : Cfg) : SSt := ((liveZ c).op (claimOp 2) 1).op (readyOp 1 6) 1
theorem twoZ_ok {c : Cfg} (h : LiveOk c) : (twoZ c).ok c 4 :=
  let g := h.ok.op (claimOp 2) 1 (claim_keeps h.ok.hd _ _)
  g.op _ _ (ready_keeps g.hd _ _ _)
structure TwF (c : Cfg) : Prop where
  live : LiveOk c
  ta : c.ta = 1
  sl : c.sl = 8
  ok : (twoZ c).ok c 4
  ck : ∀ ps, WPart ps → ps ≠ [] → ckE c (0 : Nat) 1 5 ps = 0 ∧ ckE c (1 : Nat) 2 6 ps = 0
  cl : claimR (liveZ c).hs 1 2 = 1 ∧ (claimOp 2).E (liveZ c).hs 1 = 0
  re : (readyOp 1 6).E ((liveZ c).op (claimOp 2) 1).hs 1 = 0
  hl : (twoZ c).hs.length = 8
  two : ∀ ps qs (x y : Cm), WPart ps → WPart qs → Tw 0 1 ps x → Tw 1 2 qs y → x.st = .take → y.st = .take → Two 0 1 1 2 ps qs (twoZ c) x y
theorem twF (bits : Int) : TwF (cfgOf 0 bits 0 0) := by
  refine ⟨cfgOf_live .., rfl, rfl, twoZ_ok (cfgOf_live ..), fun ps h h0 => ⟨h.ck h0 _ _ _ _, h.ck2 h0 _ _ _ _⟩, ⟨rfl, rfl⟩, rfl, rfl, fun ps qs x y hP hQ hX hY ex ey => ?_⟩
  have nx := hX.n0 (by rw [ex]; rfl)
  have ny := hY.n0 (by rw [ey]; rfl)
  have sx : x.stored = [] := by unfold Cm.stored; rw [ex]
  have sy : y.stored = [] := by unfold Cm.stored; rw [ey]
  refine ⟨hX, hY, hP, hQ, rfl, ?_, fun _ => rfl, fun _ => rfl, by rw [ex, ey]; rfl, fun e => (by rw [ex] at e; cases e), fun e => (by rw [ey] at e; cases e), fun _ _ => rfl, fun e => (by rw [ex] at e; exact absurd rfl e), fun e => (by rw [ey] at e; exact absurd rfl e), fun e => (by rw [ex] at e; exact absurd rfl e), ?_, ?_, ?_, ?_⟩
  · intro a ha
    exact (List.mem_replicate.1 (show a ∈ List.replicate 16 0 from ha)).2
  · intro _; rw [sx, sy]; rfl
  · intro _; rw [sx, sy]; rfl
  · intro _; rw [sx, sy]; rfl
  · intro _; rw [sx, sy]; rfl
end Go.Proofs.YtgjmamgohidbiaaGreat
