/- Two commits at one time where nobody has published, as plain data: what a step of the one leaves of both. A commit while others claim, live, publish and go, as plain data: what stays true of it, and what a step does. What others do between a commit's steps. -/
import Derived.Test.YtgjmamgohidbiaaGreatDmdA
import Derived.Test.YtgjmamgohidbiaaGreatAlF
namespace Go.Proofs.YtgjmamgohidbiaaGreat
open Go.RowKit
set_option linter.unusedVariables false
set_option linter.unusedSimpArgs false

/-- Whose stores into cells there are. -/
def sts (l : List Acc) : List Int := (l.filter fun a => a.kind == 1 && a.op == 2).map Acc.th
theorem sts_append (l k : List Acc) : sts (l ++ k) = sts l ++ sts k := by simp [sts]
def puts (xs : List Int) (l : List Pr) : List Int := l.foldl (fun a p => storeX a p.ce p.x) xs
theorem puts_one (xs : List Int) (l : List Pr) (p : Pr) : puts xs (l ++ [p]) = storeX (puts xs l) p.ce p.x := by simp [puts]
def repT (t : Int) (l : List Pr) : List Int := List.replicate l.length t
theorem repT_one (t : Int) (l : List Pr) (p : Pr) : repT t (l ++ [p]) = repT t l ++ [t] := by simp [repT, List.replicate_succ']
def Stg.plain : Stg → Bool
  | .doom _ => false
  | .up => false
  | _ => true
def Stg.inn : Stg → Bool
  | .own => true
  | .look => true
  | .write _ => true
  | .give => true
  | _ => false
def Stg.past : Stg → Int
  | .take => 0
  | .free => 2
  | .over => 2
  | _ => 1
def Cm.stored (x : Cm) : List Pr :=
  match x.st with
  | .write k => x.wr.take k
  | .give => x.wr
  | .free => x.wr
  | .over => x.wr
  | _ => []
def Lk.rem (k : Lk) : Nat := 3 * k.left.length - (if k.inW then 1 + k.ld.length else 0)
def Cm.rem (x : Cm) : Nat :=
  match x.st with
  | .take => 4 + x.wr.length + x.lk.rem
  | .own => 3 + x.wr.length + x.lk.rem
  | .look => 2 + x.wr.length + x.lk.rem
  | .write k => 2 + (x.wr.length - k)
  | .give => 2
  | .free => 1
  | _ => 0
theorem Lk.rem_next {k : Lk} (h : k.fit) (h0 : k.left ≠ []) (z : SSt) : (k.next z).rem < k.rem := by
  obtain ⟨wr, left, inW, met, ld, vs⟩ := k
  have hld := h.ld
  have hout := h.out
  simp only at h0 hld hout
  cases left with
  | nil => exact absurd rfl h0
  | cons s l =>
    cases inW with
    | true =>
      simp only [Lk.next, if_true]
      unfold Lk.word
      cases ld with
      | nil => simp [Lk.rem]
               omega
      | cons a r =>
        cases r with
        | nil => simp only [Lk.pass, Lk.rem]; simp; omega
        | cons b r => simp at hld
    | false =>
      have := hout rfl
      subst this
      simp only [Lk.next, Bool.false_eq_true, if_false]
      unfold Lk.head
      split
      · simp [Lk.rem]; omega
      · simp [Lk.rem, Lk.pass]
/-- Nothing is met where nothing is published. -/
theorem Lk.none_next {k : Lk} {z : SSt} (hw : ∀ a, a ∈ z.ws → a = 0) (hv : k.vs = []) (hl : ∀ a, a ∈ k.ld → a = 0) : (k.next z).vs = [] ∧ ∀ a, a ∈ (k.next z).ld → a = 0 := by
  have hz : ∀ n i j, wordR z.ws n i j = 0 := by
    intro n i j
    unfold wordR
    split
    · rfl
    · rename_i q _
      rw [List.getD_eq_getElem?_getD]
      cases e : z.ws[q]? with
      | none => rfl
      | some y => exact hw y (List.mem_of_getElem? e)
  have hm : ∀ wr : Sg, (⟨0, 0⟩ : Sg).meets wr = false := by
    intro wr
    simp [Sg.meets, Sg.meet, Sg.same, Sg.zero]
  unfold Lk.next
  split
  · exact ⟨hv, hl⟩
  · split
    · rw [hz]
      unfold Lk.word
      split
      · exact ⟨hv, fun a ha => by simpa using ha⟩
      · rename_i a r e
        have h0 : a = 0 := hl a (by rw [e]; simp)
        subst h0
        simp only [Int.toNat_zero, hm, Lk.pass]
        exact ⟨hv, fun a ha => absurd ha List.not_mem_nil⟩
    · unfold Lk.head
      split
      · exact ⟨hv, hl⟩
      · exact ⟨hv, fun a ha => absurd ha List.not_mem_nil⟩

/-- One of the two. -/
structure Tw (so th : Int) (ps : List Pr) (x : Cm) : Prop where
  so : x.so = so
  ge : x.ge = 1
  th : x.th = th
  wr : x.wr = ps
  e : x.e = 0
  vs : x.lk.vs = []
  ld : ∀ a, a ∈ x.lk.ld → a = 0
  pl : x.st.plain = true
  lf : x.st = .look → x.lk.left ≠ []
  fit : x.fit 8
  n0 : x.st.past = 0 → x.num = 0
  n1 : x.st.past ≠ 0 → x.num = 1 ∨ x.num = 3

/-- What a step does. -/
inductive Eff (t : Int) (so : Int) (z z' : SSt) (x x' : Cm) : Prop where
  | quiet (p : x'.st.past = x.st.past) (i : x'.st.inn = x.st.inn) (s : x'.stored = x.stored) (n : x'.num = x.num) (gx : z'.x = z.x) (xs : z'.xs = z.xs) (l : sts z'.s.l = sts z.s.l) (hs : z'.hs = z.hs)
  | take (p : x.st.past = 0) (p' : x'.st.past = 1) (i' : x'.st.inn = true) (s : x.stored = []) (s' : x'.stored = []) (o : z.x.o = 0) (n : x'.num = z.x.n + 1) (gx : z'.x = ⟨z.x.n + 1, t⟩) (xs : z'.xs = z.xs) (l : sts z'.s.l = sts z.s.l) (hs : z'.hs = z.hs)
  | write (p : x.st.past = 1) (i : x.st.inn = true) (p' : x'.st.past = 1) (i' : x'.st.inn = true) (q : Pr) (hq : q ∈ x.wr) (s : x'.stored = x.stored ++ [q]) (n : x'.num = x.num) (gx : z'.x = z.x) (xs : z'.xs = storeX z.xs q.ce q.x) (l : cin z.xs q.ce = true → sts z'.s.l = sts z.s.l ++ [z.s.th]) (hs : z'.hs = z.hs)
  | give (p : x.st.past = 1) (i : x.st.inn = true) (p' : x'.st.past = 2) (i' : x'.st.inn = false) (s : x'.stored = x.stored) (n : x'.num = x.num) (gx : z.x.o = t → z'.x = ⟨z.x.n + 1, 0⟩) (xs : z'.xs = z.xs) (l : sts z'.s.l = sts z.s.l) (hs : z'.hs = z.hs)
  | free (p : x.st.past = 2) (i : x.st.inn = false) (p' : x'.st.past = 2) (i' : x'.st.inn = false) (s : x'.stored = x.stored) (n : x'.num = x.num) (gx : z'.x = z.x) (xs : z'.xs = z.xs) (l : sts z'.s.l = sts z.s.l) (hs : z'.hs = (freeOp 1).H z.hs so) (d : x'.done = true)

theorem sts_note (s : Mt) (k i op : Int) (ok : Bool) (h : (k == 1 && op == 2) = false) : sts (s.note k i op ok).l = sts s.l := by
  simp only [Mt.note, sts_append]
  simp only [sts, List.filter, h, List.map_nil, List.append_nil]
theorem sts_op (p : HOp) (s : Mt) (hs : List Hd) (i : Int) : sts (p.S s hs i).l = sts s.l := by
  unfold HOp.S
  split
  · split
    · rfl
    · exact sts_note _ _ _ _ _ rfl
  · rfl
theorem sts_take (s : Mt) (x : Gt) (t : Int) : sts (takeS s x t).l = sts s.l := by
  unfold takeS
  split
  · exact sts_note _ _ _ _ _ rfl
  · rfl
theorem sts_give (s : Mt) (x : Gt) (t : Int) : sts (giveS s x t).l = sts s.l := by
  unfold giveS
  split
  · exact sts_note _ _ _ _ _ rfl
  · rfl
theorem sts_look (s : Mt) (hs : List Hd) (i : Int) : sts (lookS s hs i).l = sts s.l := by
  unfold lookS
  split
  · rfl
  · exact sts_note _ _ _ _ _ rfl
theorem sts_word (s : Mt) (n : Nat) (i j : Int) : sts (wordS s n i j).l = sts s.l := by
  unfold wordS
  split
  · rfl
  · exact sts_note _ _ _ _ _ rfl
theorem sts_store {s : Mt} {xs : List Int} {k : Int} (h : cin xs k = true) : sts (storeS s xs k).l = sts s.l ++ [s.th] := by
  unfold storeS
  rw [if_pos h]
  simp [Mt.note, sts_append, sts]
theorem looks_all (z : SSt) (k : Lk) : (z.looks k).x = z.x ∧ (z.looks k).xs = z.xs ∧ sts (z.looks k).s.l = sts z.s.l ∧ (z.looks k).hs = z.hs := by
  unfold SSt.looks
  split
  · exact ⟨rfl, rfl, rfl, rfl⟩
  · split
    · exact ⟨rfl, rfl, sts_word _ _ _ _, rfl⟩
    · exact ⟨rfl, rfl, sts_look _ _ _, rfl⟩
theorem vdV_wins {c : Cfg} (hf : c.fits = true) (ht : c.ta = 1) (sp : Int) (zs : List Vt) {df : Int} (hd : 0 ≤ df) : vdV c sp df zs = 1 := by
  unfold vdV vdOk
  rw [hf, ht]
  simp [hd]
/-- Behind a look that has found nobody. -/
theorem lookOn_none {x : Cm} {c : Cfg} (hf : c.fits = true) (ht : c.ta = 1) (hv : x.lk.vs = []) {df : Int} (hd : 0 ≤ df) : x.lookOn c df = { x with st := if x.lk.left = [] then .write 0 else .look } ∧ x.lookDf c df = df := by
  unfold Cm.lookOn Cm.lookDf nxt
  rw [vdV_wins hf ht _ _ hd]
  split
  · simp [Cm.judged, Cm.doomOn, hv]
  · simp
theorem Cm.next_over {x : Cm} (h : x.done = true) (c : Cfg) (z : SSt) (df : Int) : x.next c z df = x := by
  unfold Cm.done at h
  unfold Cm.next
  split <;> simp_all [Stg.isOver]

/-- A step of the one. -/
theorem Tw.step {so th : Int} {ps : List Pr} {x : Cm} (h : Tw so th ps x) {c : Cfg} (hf : c.fits = true) (ht : c.ta = 1) {z : SSt} (hth : 1 ≤ th ∧ th ≤ 8) (hw : ∀ a, a ∈ z.ws → a = 0) (hm : x.done = false → (nowAt z.hs so).mine 1 = true) (hg : x.st.past = 0 → z.x.o = 0 → z.x.n = 0 ∨ z.x.n = 2) :
    Tw so th ps (x.next c z 0) ∧ x.nextDf c z 0 = 0 ∧ Eff th so z (z.commits x) x (x.next c z 0) ∧
    ((x.st.past = 0 ∧ z.x.o ≠ 0) → x.next c z 0 = x ∧ x.ans z = 2) ∧ (¬ (x.st.past = 0 ∧ z.x.o ≠ 0) → x.ans z ≠ 2 ∧ (x.done = false → (x.next c z 0).rem < x.rem)) := by
  have hwk : WsOk z.ws := fun a ha => ⟨0, by rw [hw a ha]; rfl, by decide⟩
  have hfit := h.fit.next c hwk 0
  obtain ⟨xso, xge, xth, xsp, xwr, xlk, xst, xe, xwon, xnum⟩ := x
  obtain ⟨h1, h2, h3, h4, h5, h6, h7, h8, h9, h10, h11, h12⟩ := h
  simp only at h1 h2 h3 h4 h5 h6 h7 h8 h9 h11 h12
  subst h1 h2 h3 h4 h5
  have hgt : gTh xth = true := by simp [gTh, hth]
  have htk : takeE z.x xth = if (z.x.o == 0) then 0 else 5 := by simp [takeE, hgt]
  cases xst with
  | take =>
    by_cases ho : z.x.o = 0
    · have e0 : takeE z.x xth = 0 := by rw [htk]; simp [ho]
      have e1 : takeR z.x xth = z.x.n + 1 := by simp [takeR, hgt, ho]
      have e2 : takeX z.x xth = ⟨z.x.n + 1, xth⟩ := by simp [takeX, hgt, ho]
      have en : (⟨xso, 1, xth, xsp, xwr, xlk, .take, 0, xwon, xnum⟩ : Cm).next c z 0 = ⟨xso, 1, xth, xsp, xwr, xlk, .own, 0, xwon, z.x.n + 1⟩ := by simp [Cm.next, e0, e1]
      rw [en] at hfit ⊢
      refine ⟨⟨rfl, rfl, rfl, rfl, rfl, h6, h7, rfl, fun e => (by cases e), hfit, fun e => absurd e (by show ¬ (1 : Int) = 0; decide), fun _ => ?_⟩, rfl, ?_, fun e => absurd ho e.2, fun _ => ⟨?_, fun _ => ?_⟩⟩
      · have := hg rfl ho
        show z.x.n + 1 = 1 ∨ z.x.n + 1 = 3
        omega
      · exact Eff.take rfl rfl rfl rfl rfl ho rfl (by simp [SSt.commits, SSt.take, e2]) rfl (by simp [SSt.commits, SSt.take, sts_take]) rfl
      · simp [Cm.ans, e0]
      · simp [Cm.rem]
    · have e0 : takeE z.x xth = 5 := by rw [htk]; simp [ho]
      have e2 : takeX z.x xth = z.x := by simp [takeX, hgt, ho]
      have en : (⟨xso, 1, xth, xsp, xwr, xlk, .take, 0, xwon, xnum⟩ : Cm).next c z 0 = ⟨xso, 1, xth, xsp, xwr, xlk, .take, 0, xwon, xnum⟩ := by simp [Cm.next, e0]
      rw [en] at hfit ⊢
      refine ⟨⟨rfl, rfl, rfl, rfl, rfl, h6, h7, rfl, h9, hfit, h11, h12⟩, rfl, ?_, fun _ => ⟨rfl, ?_⟩, fun e => absurd ⟨rfl, ho⟩ e⟩
      · exact Eff.quiet rfl rfl rfl rfl (by simp [SSt.commits, SSt.take, e2]) rfl (by simp [SSt.commits, SSt.take, sts_take]) rfl
      · simp [Cm.ans, e0]
  | own =>
    have hmm := hm rfl
    obtain ⟨a1, a2⟩ := lookOn_none (x := (⟨xso, 1, xth, xsp, xwr, xlk, .own, 0, xwon, xnum⟩ : Cm)) hf ht h6 (Int.le_refl 0)
    have en : (⟨xso, 1, xth, xsp, xwr, xlk, .own, 0, xwon, xnum⟩ : Cm).next c z 0 = ⟨xso, 1, xth, xsp, xwr, xlk, if xlk.left = [] then .write 0 else .look, 0, xwon, xnum⟩ := by
      simp only [Cm.next, hmm, if_true, a1]
    have ed : (⟨xso, 1, xth, xsp, xwr, xlk, .own, 0, xwon, xnum⟩ : Cm).nextDf c z 0 = 0 := by
      simp only [Cm.nextDf, hmm, if_true, a2]
    rw [en] at hfit ⊢
    rw [ed]
    have hn := h12 (by decide)
    by_cases hl : xlk.left = []
    · rw [if_pos hl] at hfit ⊢
      refine ⟨⟨rfl, rfl, rfl, rfl, rfl, h6, h7, rfl, fun e => (by cases e), hfit, fun e => absurd e (by show ¬ (1 : Int) = 0; decide), fun _ => hn⟩, rfl, ?_, fun e => absurd e.1 (by show ¬ (1 : Int) = 0; decide), fun _ => ⟨by simp [Cm.ans], fun _ => ?_⟩⟩
      · exact Eff.quiet rfl rfl rfl rfl rfl rfl (by simp [SSt.commits, SSt.look, sts_look]) rfl
      · simp [Cm.rem]; omega
    · rw [if_neg hl] at hfit ⊢
      refine ⟨⟨rfl, rfl, rfl, rfl, rfl, h6, h7, rfl, fun _ => hl, hfit, fun e => absurd e (by show ¬ (1 : Int) = 0; decide), fun _ => hn⟩, rfl, ?_, fun e => absurd e.1 (by show ¬ (1 : Int) = 0; decide), fun _ => ⟨by simp [Cm.ans], fun _ => ?_⟩⟩
      · exact Eff.quiet rfl rfl rfl rfl rfl rfl (by simp [SSt.commits, SSt.look, sts_look]) rfl
      · simp [Cm.rem]
  | look =>
    have hl0 := h9 rfl
    have hlk : xlk.fit := h10.lk
    obtain ⟨b1, b2⟩ := Lk.none_next (z := z) hw h6 h7
    have hr := Lk.rem_next hlk hl0 z
    obtain ⟨a1, a2⟩ := lookOn_none (x := (⟨xso, 1, xth, xsp, xwr, xlk.next z, .look, 0, xwon, xnum⟩ : Cm)) hf ht b1 (Int.le_refl 0)
    have en : (⟨xso, 1, xth, xsp, xwr, xlk, .look, 0, xwon, xnum⟩ : Cm).next c z 0 = ⟨xso, 1, xth, xsp, xwr, xlk.next z, if (xlk.next z).left = [] then .write 0 else .look, 0, xwon, xnum⟩ := by
      simp only [Cm.next, Cm.looked, a1]
    have ed : (⟨xso, 1, xth, xsp, xwr, xlk, .look, 0, xwon, xnum⟩ : Cm).nextDf c z 0 = 0 := by
      simp only [Cm.nextDf, Cm.looked, a2]
    rw [en] at hfit ⊢
    rw [ed]
    have hn := h12 (by decide)
    obtain ⟨l1, l2, l3, l4⟩ := looks_all z xlk
    by_cases hl : (xlk.next z).left = []
    · rw [if_pos hl] at hfit ⊢
      refine ⟨⟨rfl, rfl, rfl, rfl, rfl, b1, b2, rfl, fun e => (by cases e), hfit, fun e => absurd e (by show ¬ (1 : Int) = 0; decide), fun _ => hn⟩, rfl, ?_, fun e => absurd e.1 (by show ¬ (1 : Int) = 0; decide), fun _ => ⟨by simp [Cm.ans], fun _ => ?_⟩⟩
      · exact Eff.quiet rfl rfl rfl rfl l1 l2 l3 l4
      · simp [Cm.rem]; omega
    · rw [if_neg hl] at hfit ⊢
      refine ⟨⟨rfl, rfl, rfl, rfl, rfl, b1, b2, rfl, fun _ => hl, hfit, fun e => absurd e (by show ¬ (1 : Int) = 0; decide), fun _ => hn⟩, rfl, ?_, fun e => absurd e.1 (by show ¬ (1 : Int) = 0; decide), fun _ => ⟨by simp [Cm.ans], fun _ => ?_⟩⟩
      · exact Eff.quiet rfl rfl rfl rfl l1 l2 l3 l4
      · simp [Cm.rem]; omega
  | doom d => cases h8
  | write k =>
    have hk : k < xwr.length := h10.wk k rfl
    have hn := h12 (by show ¬ (1 : Int) = 0; decide)
    have hq : xwr.getD k Pr.zero = xwr[k] := by rw [List.getD_eq_getElem?_getD, List.getElem?_eq_getElem hk]; rfl
    have hst : ∀ st, (if k + 1 = xwr.length then Stg.give else .write (k + 1)) = st → (⟨xso, 1, xth, xsp, xwr, xlk, st, 0, xwon, xnum⟩ : Cm).stored = xwr.take k ++ [xwr[k]] := by
      intro st e
      rw [← List.take_succ_eq_append_getElem hk]
      subst e
      split
      · rename_i hh
        show xwr = xwr.take (k + 1)
        rw [hh, List.take_length]
      · rfl
    have en : (⟨xso, 1, xth, xsp, xwr, xlk, .write k, 0, xwon, xnum⟩ : Cm).next c z 0 = ⟨xso, 1, xth, xsp, xwr, xlk, if k + 1 = xwr.length then Stg.give else .write (k + 1), 0, xwon, xnum⟩ := rfl
    rw [en] at hfit ⊢
    have hs := hst _ rfl
    have hp : (if k + 1 = xwr.length then Stg.give else .write (k + 1)).past = 1 := by split <;> rfl
    have hi : (if k + 1 = xwr.length then Stg.give else .write (k + 1)).inn = true := by split <;> rfl
    have hpl : (if k + 1 = xwr.length then Stg.give else .write (k + 1)).plain = true := by split <;> rfl
    refine ⟨⟨rfl, rfl, rfl, rfl, rfl, h6, h7, hpl, fun e => ?_, hfit, fun e => ?_, fun _ => hn⟩, rfl, ?_, fun e => absurd e.1 (by show ¬ (1 : Int) = 0; decide), fun _ => ⟨by simp [Cm.ans], fun _ => ?_⟩⟩
    · simp only at e
      split at e <;> cases e
    · simp only [hp] at e
      omega
    · refine Eff.write rfl rfl hp hi xwr[k] (List.getElem_mem hk) hs rfl rfl ?_ (fun hc => ?_) rfl
      · simp only [SSt.commits, SSt.store, hq]
      · simp only [SSt.commits, SSt.store, hq]
        exact sts_store hc
    · simp only [Cm.rem]
      split
      · rename_i hh
        split at hh <;> cases hh
      · rename_i hh
        split at hh <;> cases hh
      · rename_i hh
        split at hh <;> cases hh
      · rename_i j hh
        split at hh
        · cases hh
        · cases hh; omega
      · omega
      · omega
      · omega
  | give =>
    have hn := h12 (by decide)
    refine ⟨⟨rfl, rfl, rfl, rfl, rfl, h6, h7, rfl, fun e => (by cases e), hfit, fun e => absurd e (by show ¬ (2 : Int) = 0; decide), fun _ => hn⟩, rfl, ?_, fun e => absurd e.1 (by show ¬ (1 : Int) = 0; decide), fun _ => ⟨by simp [Cm.ans], fun _ => ?_⟩⟩
    · exact Eff.give rfl rfl rfl rfl rfl rfl (fun ho => by simp [SSt.commits, SSt.give, giveX, hgt, ho]) rfl (by simp [SSt.commits, SSt.give, sts_give]) rfl
    · simp [Cm.rem, Cm.next]
  | up => cases h8
  | free =>
    have hn := h12 (by decide)
    refine ⟨⟨rfl, rfl, rfl, rfl, rfl, h6, h7, rfl, fun e => (by cases e), hfit, fun e => absurd e (by show ¬ (2 : Int) = 0; decide), fun _ => hn⟩, rfl, ?_, fun e => absurd e.1 (by show ¬ (2 : Int) = 0; decide), fun _ => ⟨by simp [Cm.ans], fun _ => ?_⟩⟩
    · exact Eff.free rfl rfl rfl rfl rfl rfl rfl rfl (by simp [SSt.commits, SSt.op, sts_op]) rfl rfl
    · simp [Cm.rem, Cm.next]
  | over =>
    have hn := h12 (by decide)
    refine ⟨⟨rfl, rfl, rfl, rfl, rfl, h6, h7, rfl, fun e => (by cases e), hfit, fun e => absurd e (by show ¬ (2 : Int) = 0; decide), fun _ => hn⟩, rfl, ?_, fun e => absurd e.1 (by show ¬ (2 : Int) = 0; decide), fun _ => ⟨by simp [Cm.ans], fun e => by cases e⟩⟩
    exact Eff.quiet rfl rfl rfl rfl rfl rfl rfl rfl

/-- Both. -/
structure Two (s1 t1 s2 t2 : Int) (ps qs : List Pr) (z : SSt) (x y : Cm) : Prop where
  X : Tw s1 t1 ps x
  Y : Tw s2 t2 qs y
  P : WPart ps
  Q : WPart qs
  xl : z.xs.length = 64
  w : ∀ a, a ∈ z.ws → a = 0
  hx : x.done = false → (nowAt z.hs s1).mine 1 = true
  hy : y.done = false → (nowAt z.hs s2).mine 1 = true
  gn : z.x.n = x.st.past + y.st.past
  gx : x.st.inn = true → z.x.o = t1 ∧ y.st.inn = false
  gy : y.st.inn = true → z.x.o = t2 ∧ x.st.inn = false
  g0 : x.st.inn = false → y.st.inn = false → z.x.o = 0
  o1 : x.st.past ≠ 0 → y.st.past = 0 → x.num = 1
  o2 : y.st.past ≠ 0 → x.st.past = 0 → y.num = 1
  o3 : x.st.past ≠ 0 → y.st.past ≠ 0 → (x.num = 1 ∧ y.num = 3 ∧ x.st.past = 2) ∨ (x.num = 3 ∧ y.num = 1 ∧ y.st.past = 2)
  c1 : x.num ≤ y.num → z.xs = puts (puts (List.replicate 64 0) x.stored) y.stored
  c2 : y.num ≤ x.num → z.xs = puts (puts (List.replicate 64 0) y.stored) x.stored
  l1 : x.num ≤ y.num → sts z.s.l = repT t1 x.stored ++ repT t2 y.stored
  l2 : y.num ≤ x.num → sts z.s.l = repT t2 y.stored ++ repT t1 x.stored
theorem Two.swap {s1 t1 s2 t2 : Int} {ps qs : List Pr} {z : SSt} {x y : Cm} (h : Two s1 t1 s2 t2 ps qs z x y) : Two s2 t2 s1 t1 qs ps z y x :=
  ⟨h.Y, h.X, h.Q, h.P, h.xl, h.w, h.hy, h.hx, by rw [h.gn]; omega, h.gy, h.gx, fun a b => h.g0 b a, h.o2, h.o1, fun a b => by
    rcases h.o3 b a with ⟨c, d, e⟩ | ⟨c, d, e⟩
    · exact .inr ⟨d, c, e⟩
    · exact .inl ⟨d, c, e⟩, h.c2, h.c1, h.l2, h.l1⟩
theorem Two.turn {s1 t1 s2 t2 : Int} {ps qs : List Pr} {z : SSt} {x y : Cm} (h : Two s1 t1 s2 t2 ps qs z x y) (t : Int) : Two s1 t1 s2 t2 ps qs (z.turn t) x y :=
  ⟨h.X, h.Y, h.P, h.Q, h.xl, h.w, h.hx, h.hy, h.gn, h.gx, h.gy, h.g0, h.o1, h.o2, h.o3, h.c1, h.c2, h.l1, h.l2⟩
theorem Stg.past_of {st : Stg} (h : st.plain = true) : (st.inn = true ∧ st.past = 1) ∨ (st.inn = false ∧ st.past = 0 ∧ st = .take) ∨ (st.inn = false ∧ st.past = 2) := by
  cases st <;> simp_all [Stg.plain, Stg.inn, Stg.past]
theorem storeX_len (xs : List Int) (k x : Int) : (storeX xs k x).length = xs.length := by
  unfold storeX
  split <;> simp
theorem now_free {hs : List Hd} {s1 s2 g : Int} (h : s1 ≠ s2) (h1 : 0 ≤ s1) (h2 : 0 ≤ s2) : nowAt ((freeOp g).H hs s1) s2 = nowAt hs s2 := by
  unfold HOp.H
  split
  · split
    · rfl
    · split
      · unfold nowAt headAt
        rw [if_pos h2, if_pos h2, List.getElem?_set_ne (by omega)]
      · rfl
  · rfl
theorem commits_ws0 {z : SSt} {x : Cm} (h : ∀ a, a ∈ z.ws → a = 0) : ∀ a, a ∈ (z.commits x).ws → a = 0 := by rw [SSt.commits_ws]; exact h
/-- What a step of the first leaves. -/
theorem Two.step {s1 t1 s2 t2 : Int} {ps qs : List Pr} {z : SSt} {x y : Cm} (h : Two s1 t1 s2 t2 ps qs z x y) {c : Cfg} (hf : c.fits = true) (ht : c.ta = 1) (h1 : 1 ≤ t1 ∧ t1 ≤ 8) (h2 : 1 ≤ t2 ∧ t2 ≤ 8) (hs : s1 ≠ s2) (hs1 : 0 ≤ s1) (hs2 : 0 ≤ s2) (htt : t1 ≠ t2) (hz : z.s.th = t1) :
    Two s1 t1 s2 t2 ps qs (z.commits x) (x.next c z 0) y ∧ x.nextDf c z 0 = 0 ∧ ((x.ans z == 2) = ((z.x.n % 2 == 1) && (z.x.o != t1) && ((x.next c z 0).num == 0))) ∧ (x.next c z 0).rem ≤ x.rem ∧
    ((x.done = true ∨ (x.st.past = 0 ∧ y.st.inn = true)) → x.next c z 0 = x) ∧ (¬ (x.done = true ∨ (x.st.past = 0 ∧ y.st.inn = true)) → (x.next c z 0).rem < x.rem) := by
  have hpx := Stg.past_of h.X.pl
  have hpy := Stg.past_of h.Y.pl
  have hgn := h.gn
  obtain ⟨a1, a2, a3, a4, a5⟩ := h.X.step hf ht (z := z) h1 h.w h.hx (fun e o => by
    rcases hpy with ⟨y1, y2⟩ | ⟨y1, y2, _⟩ | ⟨y1, y2⟩
    · have := (h.gy y1).1; omega
    · omega
    · omega)
  have hdx : (x.next c z 0).done = false → x.done = false := fun e => by
    cases hd : x.done with
    | false => rfl
    | true => rw [Cm.next_over hd] at e; rw [hd] at e; cases e
  have hwait : (x.st.past = 0 ∧ z.x.o ≠ 0) ↔ (x.st.past = 0 ∧ y.st.inn = true) := by
    constructor
    · rintro ⟨e, o⟩
      refine ⟨e, ?_⟩
      cases hy : y.st.inn with
      | true => rfl
      | false =>
        rcases hpx with ⟨y1, y2⟩ | ⟨y1, y2, _⟩ | ⟨y1, y2⟩
        · omega
        · exact absurd (h.g0 y1 hy) o
        · omega
    · rintro ⟨e, o⟩
      exact ⟨e, by have := (h.gy o).1; omega⟩
  refine ⟨?_, a2, ?_, ?_, ?_, ?_⟩
  · have hp' := Stg.past_of a1.pl
    generalize hx' : x.next c z 0 = x' at *
    generalize hz' : z.commits x = z' at *
    have hw' : ∀ a, a ∈ z'.ws → a = 0 := by rw [← hz']; exact commits_ws0 h.w
    have hXn0 := h.X.n0
    have hXn1 := h.X.n1
    have hYn0 := h.Y.n0
    have hYn1 := h.Y.n1
    cases a3 with
    | quiet p i s n gx xs l hs =>
      exact ⟨a1, h.Y, h.P, h.Q, by rw [xs]; exact h.xl, hw', fun e => by rw [hs]; exact h.hx (hdx e), fun e => by rw [hs]; exact h.hy e, by rw [gx, p]; exact h.gn, fun e => by rw [gx]; rw [i] at e; exact h.gx e, fun e => by rw [gx, i]; exact h.gy e, fun e e2 => by rw [gx]; rw [i] at e; exact h.g0 e e2, fun e e2 => by rw [n]; rw [p] at e; exact h.o1 e e2, fun e e2 => by rw [p] at e2; exact h.o2 e e2, fun e e2 => by rw [n, p]; rw [p] at e; exact h.o3 e e2, fun e => by rw [xs, s]; rw [n] at e; exact h.c1 e, fun e => by rw [xs, s]; rw [n] at e; exact h.c2 e, fun e => by rw [l, s]; rw [n] at e; exact h.l1 e, fun e => by rw [l, s]; rw [n] at e; exact h.l2 e⟩
    | take p p' i' s s' o n gx xs l hs =>
      have hyi : y.st.inn = false := by
        cases hy : y.st.inn with
        | false => rfl
        | true => have := (h.gy hy).1; omega
      have hn0 := hXn0 p
      have hyp : y.st.past = 0 ∨ y.st.past = 2 := by
        rcases hpy with ⟨y1, y2⟩ | ⟨y1, y2, _⟩ | ⟨y1, y2⟩
        · rw [hyi] at y1; cases y1
        · exact .inl y2
        · exact .inr y2
      have hcx : z.xs = puts (List.replicate 64 0) y.stored := by
        have := h.c1 (by rcases hyp with e | e; · have := hYn0 e; omega
                         · have := hYn1 (by omega); omega)
        rw [s] at this
        exact this
      have hlx : sts z.s.l = repT t2 y.stored := by
        have := h.l1 (by rcases hyp with e | e; · have := hYn0 e; omega
                         · have := hYn1 (by omega); omega)
        rw [s] at this
        simpa [repT] using this
      have hnum : x'.num = y.st.past + 1 := by rw [n, hgn, p]; omega
      have hyn : y.st.past = 2 → y.num = 1 := fun e => h.o2 (by omega) p
      have hgt : y.num < x'.num := by
        rcases hyp with e | e
        · have := hYn0 e; omega
        · have := hyn e; omega
      refine ⟨a1, h.Y, h.P, h.Q, by rw [xs]; exact h.xl, hw', fun e => by rw [hs]; exact h.hx (hdx e), fun e => by rw [hs]; exact h.hy e, ?_, ?_, ?_, ?_, ?_, ?_, ?_, ?_, ?_, ?_, ?_⟩
      · rw [gx]; show z.x.n + 1 = _; omega
      · intro _; rw [gx]; exact ⟨rfl, hyi⟩
      · intro e; rw [hyi] at e; cases e
      · intro e; rw [i'] at e; cases e
      · intro _ e; omega
      · intro _ e; omega
      · intro _ e
        right
        rcases hyp with e2 | e2
        · omega
        · exact ⟨by omega, hyn e2, e2⟩
      · intro e; omega
      · intro _; rw [xs, s']; exact hcx
      · intro e; omega
      · intro _; rw [l, s', hlx]; simp [repT]
    | write p i p' i' q hq s n gx xs l hs =>
      have hyi := (h.gx i).2
      have hci : cin z.xs q.ce = true := by
        have := h.P.r q (by rw [← h.X.wr]; exact hq)
        simp only [cin, Bool.and_eq_true, decide_eq_true_eq, h.xl]
        omega
      have hgt : y.num < x.num := by
        rcases hpy with ⟨y1, y2⟩ | ⟨y1, y2, _⟩ | ⟨y1, y2⟩
        · rw [hyi] at y1; cases y1
        · have := hYn0 y2
          have := hXn1 (by omega)
          omega
        · rcases h.o3 (by omega) (by omega) with ⟨e1, e2, e3⟩ | ⟨e1, e2, e3⟩
          · omega
          · omega
      have hc := h.c2 (by omega)
      have hl := h.l2 (by omega)
      refine ⟨a1, h.Y, h.P, h.Q, by rw [xs, storeX_len]; exact h.xl, hw', fun e => by rw [hs]; exact h.hx (hdx e), fun e => by rw [hs]; exact h.hy e, ?_, ?_, ?_, ?_, ?_, ?_, ?_, ?_, ?_, ?_, ?_⟩
      · rw [gx, p', ← p]; exact h.gn
      · intro _; rw [gx]; exact h.gx i
      · intro e; rw [hyi] at e; cases e
      · intro e; rw [i'] at e; cases e
      · intro _ e; rw [n]; exact h.o1 (by omega) e
      · intro _ e; omega
      · intro _ e; rw [n, p']; have := h.o3 (by omega) e; rw [p] at this; exact this
      · intro e; omega
      · intro _; rw [xs, s, puts_one, ← hc]
      · intro e; omega
      · intro _; rw [l hci, s, repT_one, ← List.append_assoc, ← hl, hz]
    | give p i p' i' s n gx xs l hs =>
      have hyi := (h.gx i).2
      have ho := (h.gx i).1
      have gx := gx ho
      refine ⟨a1, h.Y, h.P, h.Q, by rw [xs]; exact h.xl, hw', fun e => by rw [hs]; exact h.hx (hdx e), fun e => by rw [hs]; exact h.hy e, ?_, ?_, ?_, ?_, ?_, ?_, ?_, ?_, ?_, ?_, ?_⟩
      · rw [gx]; show z.x.n + 1 = _; omega
      · intro e; rw [i'] at e; cases e
      · intro e; rw [hyi] at e; cases e
      · intro _ _; rw [gx]
      · intro _ e; rw [n]; exact h.o1 (by omega) e
      · intro _ e; omega
      · intro _ e
        rw [n]
        rcases h.o3 (by omega) e with ⟨e1, e2, e3⟩ | ⟨e1, e2, e3⟩
        · exact .inl ⟨e1, e2, p'⟩
        · exact .inr ⟨e1, e2, e3⟩
      · intro e; rw [xs, s]; rw [n] at e; exact h.c1 e
      · intro e; rw [xs, s]; rw [n] at e; exact h.c2 e
      · intro e; rw [l, s]; rw [n] at e; exact h.l1 e
      · intro e; rw [l, s]; rw [n] at e; exact h.l2 e
    | free p i p' i' s n gx xs l hh d =>
      refine ⟨a1, h.Y, h.P, h.Q, by rw [xs]; exact h.xl, hw', fun e => (by rw [d] at e; cases e), fun e => by rw [hh, now_free hs hs1 hs2]; exact h.hy e, ?_, ?_, ?_, ?_, ?_, ?_, ?_, ?_, ?_, ?_, ?_⟩
      · rw [gx, p', ← p]; exact h.gn
      · intro e; rw [i'] at e; cases e
      · intro e; rw [gx]; exact ⟨(h.gy e).1, i'⟩
      · intro _ e; rw [gx]; exact h.g0 i e
      · intro _ e; rw [n]; exact h.o1 (by omega) e
      · intro _ e; omega
      · intro _ e
        rw [n, p']
        have := h.o3 (by omega) e
        rw [p] at this
        exact this
      · intro e; rw [xs, s]; rw [n] at e; exact h.c1 e
      · intro e; rw [xs, s]; rw [n] at e; exact h.c2 e
      · intro e; rw [l, s]; rw [n] at e; exact h.l1 e
      · intro e; rw [l, s]; rw [n] at e; exact h.l2 e
  · by_cases hw : x.st.past = 0 ∧ z.x.o ≠ 0
    · obtain ⟨b1, b2⟩ := a4 hw
      have hyi := (hwait.1 hw).2
      have ho := (h.gy hyi).1
      have hyp : y.st.past = 1 := by
        rcases hpy with ⟨y1, y2⟩ | ⟨y1, y2, _⟩ | ⟨y1, y2⟩
        · exact y2
        · rw [hyi] at y1; cases y1
        · rw [hyi] at y1; cases y1
      have hn := h.X.n0 hw.1
      have e1 : z.x.n % 2 = 1 := by omega
      rw [b1, b2, hn, e1, ho]
      simp
      omega
    · obtain ⟨b1, b2⟩ := a5 hw
      have e1 : (x.ans z == 2) = false := by simpa using b1
      rw [e1]
      by_cases hp : x.st.past = 0
      · have ho : z.x.o = 0 := by
          by_cases ho : z.x.o = 0
          · exact ho
          · exact absurd ⟨hp, ho⟩ hw
        have hyp : y.st.past = 0 ∨ y.st.past = 2 := by
          rcases hpy with ⟨y1, y2⟩ | ⟨y1, y2, _⟩ | ⟨y1, y2⟩
          · have := (h.gy y1).1; omega
          · exact .inl y2
          · exact .inr y2
        have e2 : z.x.n % 2 = 0 := by omega
        simp [e2]
      · have hn : (x.next c z 0).num ≠ 0 := by
          have := h.X.n1 hp
          cases a3 with
          | quiet p i s n => rw [n]; omega
          | take p => exact absurd p hp
          | write p i p' i' q hq s n => rw [n]; omega
          | give p i p' i' s n => rw [n]; omega
          | free p i p' i' s n => rw [n]; omega
        simp [hn]
  · by_cases hw : x.st.past = 0 ∧ z.x.o ≠ 0
    · rw [(a4 hw).1]; exact Nat.le_refl _
    · cases hd : x.done with
      | true => rw [Cm.next_over hd]; exact Nat.le_refl _
      | false => exact Nat.le_of_lt ((a5 hw).2 hd)
  · rintro (e | e)
    · exact Cm.next_over e _ _ _
    · exact (a4 (hwait.2 e)).1
  · intro e
    have hd : x.done = false := by
      cases hd : x.done with
      | false => rfl
      | true => exact absurd (.inl hd) e
    exact (a5 (fun hw => e (.inr (hwait.1 hw)))).2 hd
/-- Who can't go on, the other one can. -/
theorem Two.other {s1 t1 s2 t2 : Int} {ps qs : List Pr} {z : SSt} {x y : Cm} (h : Two s1 t1 s2 t2 ps qs z x y) (hd : x.done = false ∨ y.done = false) (hw : x.done = true ∨ (x.st.past = 0 ∧ y.st.inn = true)) : ¬ (y.done = true ∨ (y.st.past = 0 ∧ x.st.inn = true)) := by
  have over : ∀ q : Cm, q.done = true → q.st.inn = false ∧ q.st.past = 2 := fun q e => by
    unfold Cm.done at e
    cases hq : q.st <;> simp_all [Stg.isOver, Stg.inn, Stg.past]
  have hpy := Stg.past_of h.Y.pl
  rcases hw with e | ⟨e1, e2⟩
  · obtain ⟨b1, b2⟩ := over x e
    rintro (f | ⟨f1, f2⟩)
    · rcases hd with d | d
      · rw [e] at d; cases d
      · rw [f] at d; cases d
    · rw [b1] at f2; cases f2
  · rintro (f | ⟨f1, f2⟩)
    · rw [(over y f).1] at e2; cases e2
    · rcases hpy with ⟨y1, y2⟩ | ⟨y1, y2, _⟩ | ⟨y1, y2⟩
      · omega
      · rw [e2] at y1; cases y1
      · omega
/-- As they begin. -/
theorem Tw.begins {so : Nat} {th sp : Int} {ps : List Pr} {wr : Sg} (hf : (Cm.new so 1 th sp ps wr 8).fit 8) : Tw so th ps (Cm.new so 1 th sp ps wr 8) :=
  ⟨rfl, rfl, rfl, rfl, rfl, rfl, fun a ha => absurd ha List.not_mem_nil, rfl, fun e => (by cases e), hf, fun _ => rfl, fun e => absurd rfl e⟩
theorem Cm.rem_new {so : Nat} {th sp : Int} {ps : List Pr} {wr : Sg} (h : ps.length ≤ 16) : (Cm.new so 1 th sp ps wr 8).rem ≤ 44 := by
  have := othersOf_le 8 so
  simp only [Cm.rem, Cm.new, Lk.new, Lk.rem]
  simp
  omega
theorem WPart.ck2 {ps : List Pr} (h : WPart ps) (h1 : ps ≠ []) (tag bits bias most : Int) : ckE (cfgOf tag bits bias most) (1 : Nat) 2 6 ps = 0 := by
  have ho : outC 64 (cesOf ps) = false := by
    unfold outC
    rw [List.any_eq_false]
    intro c hc
    obtain ⟨p, hp, rfl⟩ := List.mem_map.1 hc
    have := h.r p hp
    simp [inC]
    omega
  have ht := cesOf_nodup_twice h.u
  have hn := h.n
  unfold ckE
  rw [if_neg (by decide), if_neg (by decide), if_neg h1, if_neg (by omega), if_neg (by simp [inC, cfgOf])]
  unfold cellsE
  rw [show (cfgOf tag bits bias most).ce = 64 from rfl, ho, ht]
  rfl
/-- The space ahead of the two. -/
def twoZ (c : Cfg) : SSt := ((liveZ c).op (claimOp 2) 1).op (readyOp 1 6) 1
theorem twoZ_ok {c : Cfg} (h : LiveOk c) : (twoZ c).ok c 4 :=
  let g := h.ok.op (claimOp 2) 1 (claim_keeps h.ok.hd _ _)
  g.op _ _ (ready_keeps g.hd _ _ _)
structure TwF (c : Cfg) : Prop where
  live : LiveOk c
  ta : c.ta = 1
  sl : c.sl = 8
  ok : (twoZ c).ok c 4
  ck : ∀ ps, WPart ps → ps ≠ [] → ckE c (0 : Nat) 1 5 ps = 0 ∧ ckE c (1 : Nat) 2 6 ps = 0
  cl : claimR (liveZ c).hs 1 2 = 1 ∧ (claimOp 2).E (liveZ c).hs 1 = 0
  re : (readyOp 1 6).E ((liveZ c).op (claimOp 2) 1).hs 1 = 0
  hl : (twoZ c).hs.length = 8
  two : ∀ ps qs (x y : Cm), WPart ps → WPart qs → Tw 0 1 ps x → Tw 1 2 qs y → x.st = .take → y.st = .take → Two 0 1 1 2 ps qs (twoZ c) x y
theorem twF (bits : Int) : TwF (cfgOf 0 bits 0 0) := by
  refine ⟨cfgOf_live .., rfl, rfl, twoZ_ok (cfgOf_live ..), fun ps h h0 => ⟨h.ck h0 _ _ _ _, h.ck2 h0 _ _ _ _⟩, ⟨rfl, rfl⟩, rfl, rfl, fun ps qs x y hP hQ hX hY ex ey => ?_⟩
  have nx := hX.n0 (by rw [ex]; rfl)
  have ny := hY.n0 (by rw [ey]; rfl)
  have sx : x.stored = [] := by unfold Cm.stored; rw [ex]
  have sy : y.stored = [] := by unfold Cm.stored; rw [ey]
  refine ⟨hX, hY, hP, hQ, rfl, ?_, fun _ => rfl, fun _ => rfl, by rw [ex, ey]; rfl, fun e => (by rw [ex] at e; cases e), fun e => (by rw [ey] at e; cases e), fun _ _ => rfl, fun e => (by rw [ex] at e; exact absurd rfl e), fun e => (by rw [ey] at e; exact absurd rfl e), fun e => (by rw [ex] at e; exact absurd rfl e), ?_, ?_, ?_, ?_⟩
  · intro a ha
    exact (List.mem_replicate.1 (show a ∈ List.replicate 16 0 from ha)).2
  · intro _; rw [sx, sy]; rfl
  · intro _; rw [sx, sy]; rfl
  · intro _; rw [sx, sy]; rfl
  · intro _; rw [sx, sy]; rfl
end Go.Proofs.YtgjmamgohidbiaaGreat

namespace Go.Proofs.YtgjmamgohidbiaaGreat
open Go.RowKit
set_option linter.unusedVariables false
set_option linter.unusedSimpArgs false

/-- How many accesses of cells there are; how many others thread 1 has doomed. -/
def onCells (l : List Acc) : Nat := (l.filter fun a => a.kind == 1).length
theorem onCells_append (l k : List Acc) : onCells (l ++ k) = onCells l + onCells k := by simp [onCells]
def Hd.by1 (h : Hd) : Bool := h.dm && h.wy == 1
def cntD (hs : List Hd) : Nat := (hs.tail.filter Hd.by1).length
def Stg.mid : Stg → Bool
  | .free => false
  | .over => false
  | _ => true
def Stg.good : Stg → Bool
  | .own => true
  | .look => true
  | .doom _ => true
  | .write _ => true
  | .give => true
  | _ => false
def Cm.nst (x : Cm) : Nat :=
  match x.st with
  | .write k => k
  | .give => x.wr.length
  | .free => if x.won then x.wr.length else 0
  | .over => if x.won then x.wr.length else 0
  | _ => 0
def Cm.ndm (x : Cm) : Nat :=
  match x.st with
  | .doom d => x.lk.vs.length - d.left.length
  | .write _ => x.lk.vs.length
  | .give => x.lk.vs.length
  | .free => if x.won then x.lk.vs.length else 0
  | .over => if x.won then x.lk.vs.length else 0
  | _ => 0
def Cm.remB (x : Cm) : Nat :=
  match x.st with
  | .own => 3 + x.wr.length + x.lk.rem + (x.lk.left.length + x.lk.vs.length)
  | .look => 2 + x.wr.length + x.lk.rem + (x.lk.left.length + x.lk.vs.length)
  | .doom d => d.left.length + x.wr.length + 2
  | .write k => (x.wr.length - k) + 2
  | .give => 2
  | .up => 2
  | .free => 1
  | _ => 0
/-- Why it does not win. -/
def Cm.why (c : Cfg) (x : Cm) : Prop := (x.e = 9 ∧ c.ta = 2 ∧ c.ba < (x.lk.vs.length : Int)) ∨ (x.e = 8 ∧ c.ta = 3)
structure BI (c : Cfg) (ps : List Pr) (b0 : Nat) (z : SSt) (x : Cm) (wt : Int) : Prop where
  so : x.so = 0
  ge : x.ge = 1
  th : x.th = 1
  wr : x.wr = ps
  fit : x.fit 8
  hl : z.hs.length = 8
  xl : z.xs.length = 64
  ws : WsOk z.ws
  own : x.st = .own → (nowAt z.hs 0).mine 1 = true
  nt : x.st ≠ .take
  lf : x.st = .look → x.lk.left ≠ []
  dm : ∀ d, x.st = .doom d → d.left ≠ [] ∧ d.left.length ≤ x.lk.vs.length ∧ d.wy = 1 ∧ ∀ t, t ∈ d.left → 0 ≤ t.so ∧ t.so < 8
  inn : x.st.mid = true → z.x = ⟨1, 1⟩ ∧ x.won = false
  out : x.st.mid = false → z.x = ⟨2, 0⟩
  pre : x.st.good = true → x.e = 0 ∧ wt = 0
  up : x.st = .up → wt = 0 ∧ x.why c
  fin : x.st.mid = false → (x.won = true ∧ x.e = 0 ∧ wt = 0) ∨ (x.won = false ∧ x.why c ∧ wt = if x.e = 9 then 1 else 0)
  cnt : onCells z.s.l = b0 + x.nst
  xs : z.xs = putL (List.replicate 64 0) (x.wr.take x.nst)
  cd : cntD z.hs ≤ x.ndm

theorem on_note (s : Mt) (k i op : Int) (ok : Bool) (h : (k == 1) = false) : onCells (s.note k i op ok).l = onCells s.l ∧ (s.note k i op ok).dn = s.dn + 1 := by
  simp only [Mt.note, onCells_append]
  simp only [onCells, List.filter, h]
  exact ⟨rfl, trivial⟩
theorem on_op {p : HOp} (hp : p.pre = 0) (s : Mt) {hs : List Hd} {i : Nat} (h : i < hs.length) : onCells (p.S s hs i).l = onCells s.l ∧ (p.S s hs i).dn = s.dn + 1 := by
  unfold HOp.S
  rw [if_pos hp, headAt_in h]
  exact on_note _ _ _ _ _ rfl
theorem on_give (s : Mt) (x : Gt) {t : Int} (h : gTh t = true) : onCells (giveS s x t).l = onCells s.l ∧ (giveS s x t).dn = s.dn + 1 := by
  unfold giveS
  rw [if_pos h]
  exact on_note _ _ _ _ _ rfl
theorem on_look (s : Mt) {hs : List Hd} {i : Nat} (h : i < hs.length) : onCells (lookS s hs i).l = onCells s.l ∧ (lookS s hs i).dn = s.dn + 1 := by
  unfold lookS
  rw [headAt_in h]
  exact on_note _ _ _ _ _ rfl
theorem on_word (s : Mt) {n : Nat} {i j : Int} (h : 0 ≤ i ∧ i < n) (hj : 0 ≤ j ∧ j < 2) : onCells (wordS s n i j).l = onCells s.l ∧ (wordS s n i j).dn = s.dn + 1 := by
  unfold wordS wordAt
  rw [if_pos ⟨h.1, h.2, hj.1, hj.2⟩]
  exact on_note _ _ _ _ _ rfl
theorem on_store {s : Mt} {xs : List Int} {k : Int} (h : cin xs k = true) : onCells (storeS s xs k).l = onCells s.l + 1 ∧ (storeS s xs k).dn = s.dn + 1 := by
  unfold storeS
  rw [if_pos h]
  simp [Mt.note, onCells_append, onCells]
theorem Lk.next_lv {k : Lk} (z : SSt) (h0 : k.left ≠ []) : (k.next z).left.length + (k.next z).vs.length ≤ k.left.length + k.vs.length := by
  obtain ⟨wr, left, inW, met, ld, vs⟩ := k
  simp only at h0
  cases left with
  | nil => exact absurd rfl h0
  | cons s l =>
    cases inW with
    | true =>
      simp only [Lk.next, if_true]
      unfold Lk.word
      split
      · simp
      · simp only [Lk.pass]
        split <;> simp
        omega
    | false =>
      simp only [Lk.next, Bool.false_eq_true, if_false]
      unfold Lk.head
      split
      · simp
      · simp [Lk.pass]
/-- A step of a look notes one access, of a head or of a word. -/
theorem looks_one {z : SSt} {k : Lk} (hl : z.hs.length = 8) (hk : k.fit) (hi : k.inn 8) (h0 : k.left ≠ []) : onCells (z.looks k).s.l = onCells z.s.l ∧ (z.looks k).s.dn = z.s.dn + 1 := by
  unfold SSt.looks
  split
  · rename_i e; exact absurd e h0
  · rename_i s l e
    split
    · rename_i hw
      have := hi.me hw
      have h2 := hk.ld
      exact on_word _ (by rw [hl]; exact this) (by omega)
    · have := hi.lf s (by rw [e]; simp)
      exact on_look _ (by omega)
theorem cntD_set {hs : List Hd} {k : Nat} {h : Hd} (hb : h.by1 = false ∨ (hs.getD k Hd.zero).by1 = true) : cntD (hs.set k h) ≤ cntD hs := by
  unfold cntD
  cases hs with
  | nil => simp
  | cons a l =>
    cases k with
    | zero => simp
    | succ k =>
      simp only [List.set_cons_succ, List.tail_cons]
      have hb' : h.by1 = false ∨ (l.getD k Hd.zero).by1 = true := by simpa using hb
      clear hb
      induction l generalizing k with
      | nil => simp
      | cons b l ih =>
        cases k with
        | zero =>
          simp only [List.set_cons_zero, List.filter_cons]
          rcases hb' with e | e
          · rw [e]
            simp only [Bool.false_eq_true, if_false]
            split <;> simp
          · have e : b.by1 = true := by simpa using e
            rw [e]
            split <;> simp
        | succ k =>
          have := ih k (by simpa using hb')
          simp only [List.set_cons_succ, List.filter_cons]
          split <;> simp <;> exact this
theorem cntD_one (hs : List Hd) (k : Nat) (h : Hd) : cntD (hs.set k h) ≤ cntD hs + 1 := by
  unfold cntD
  cases hs with
  | nil => simp
  | cons a l =>
    cases k with
    | zero => simp
    | succ k =>
      simp only [List.set_cons_succ, List.tail_cons]
      induction l generalizing k with
      | nil => simp
      | cons b l ih =>
        cases k with
        | zero =>
          simp only [List.set_cons_zero, List.filter_cons]
          split <;> split <;> simp <;> omega
        | succ k =>
          have := ih k
          simp only [List.set_cons_succ, List.filter_cons]
          split <;> simp <;> omega

theorem doom_op {z : SSt} {d : Dm} {t : Vt} {l : List Vt} (hd : d.left = t :: l) (hw : d.wy = 1) (hl : z.hs.length = 8) (h0 : 0 ≤ t.so ∧ t.so < 8) :
    onCells (z.dooms d).s.l = onCells z.s.l ∧ (z.dooms d).s.dn = z.s.dn + 1 ∧ (z.dooms d).x = z.x ∧ (z.dooms d).xs = z.xs ∧ (z.dooms d).ws = z.ws ∧ (z.dooms d).hs.length = 8 ∧ cntD (z.dooms d).hs ≤ cntD z.hs + 1 ∧ (d.next z.hs).left = l ∧ (d.next z.hs).wy = 1 := by
  obtain ⟨k, hk⟩ := Int.eq_ofNat_of_zero_le h0.1
  have e : z.dooms d = z.op (doomOp t.ge d.wy) t.so := by unfold SSt.dooms; rw [hd]
  rw [e, hw, hk]
  have hp : (doomOp t.ge 1).pre = 0 := rfl
  obtain ⟨a, b⟩ := on_op hp z.s (hs := z.hs) (i := k) (by omega)
  refine ⟨a, b, rfl, rfl, rfl, ?_, ?_, ?_, ?_⟩
  · show ((doomOp t.ge 1).H z.hs k).length = 8
    rw [HOp.len]; exact hl
  · show cntD ((doomOp t.ge 1).H z.hs k) ≤ _
    unfold HOp.H
    rw [if_pos hp]
    split
    · omega
    · split
      · exact cntD_one _ _ _
      · omega
  · have := (Dm.next_left d z.hs).1
    rw [hd] at this
    exact this
  · have := (Dm.next_left d z.hs).2.1
    rw [hw] at this
    exact this
theorem vd_why {c : Cfg} {sp df : Int} {zs : List Vt} {v : Int} (h : vdV c sp df zs = v) : (v = 2 → c.ta = 2 ∧ c.ba < (zs.length : Int)) ∧ (v = 3 → c.ta = 3) := by
  unfold vdV at h
  split at h
  · split at h
    · rename_i e; exact ⟨fun _ => ⟨e.1, e.2.1⟩, fun e3 => by omega⟩
    · split at h
      · rename_i e; exact ⟨fun e2 => by omega, fun _ => e.1⟩
      · exact ⟨fun e2 => by omega, fun e3 => by omega⟩
  · exact ⟨fun e2 => by omega, fun e3 => by omega⟩
/-- Behind a look. -/
theorem lookOn_ways {x : Cm} {c : Cfg} {df : Int} : (x.lookOn c df = { x with st := .look } ∧ x.lk.left ≠ []) ∨ (∃ e, x.lookOn c df = { x with st := .up, e := e } ∧ ({ x with st := .up, e := e } : Cm).why c) ∨ (x.lookOn c df = { x with st := .write 0 } ∧ x.lk.vs = []) ∨ (x.lookOn c df = { x with st := .doom ⟨x.th, x.lk.vs, []⟩ } ∧ x.lk.vs ≠ []) := by
  unfold Cm.lookOn
  split
  · have hw := vd_why (c := c) (sp := x.sp) (df := df) (zs := x.lk.vs) rfl
    unfold Cm.judged
    split
    · rename_i e
      exact .inr (.inl ⟨9, rfl, .inl ⟨rfl, hw.1 e⟩⟩)
    · split
      · rename_i e
        exact .inr (.inl ⟨8, rfl, .inr ⟨rfl, hw.2 e⟩⟩)
      · unfold Cm.doomOn
        by_cases h : x.lk.vs = []
        · exact .inr (.inr (.inl ⟨by simp [h], h⟩))
        · exact .inr (.inr (.inr ⟨by simp [h], h⟩))
  · rename_i h
    exact .inl ⟨rfl, h⟩

/-- A step. -/
theorem BI.step {c : Cfg} {ps : List Pr} {b0 : Nat} {z : SSt} {x : Cm} {wt df : Int} (h : BI c ps b0 z x wt) (hP : WPart ps) (hd : x.done = false) :
    BI c ps b0 (z.commits x) (x.next c z df) (wt + if x.ans z = 2 then 1 else 0) ∧ (x.next c z df).remB < x.remB ∧ (z.commits x).s.dn = z.s.dn + 1 := by
  have hfit := h.fit.next c h.ws df
  have hws : WsOk (z.commits x).ws := by rw [SSt.commits_ws]; exact h.ws
  obtain ⟨h1, h2, h3, h4, h5, h6, h7, h8, h9, h10, h11, h12, h13, h14, h15, h16, h17, h18, h19, h20⟩ := h
  have hls : z.hs.length = 8 := h6
  cases hst : x.st with
  | take => exact absurd hst h10
  | own =>
    have hm := h9 hst
    obtain ⟨g1, g2⟩ := h13 (by rw [hst]; rfl)
    obtain ⟨e1, e2⟩ := h15 (by rw [hst]; rfl)
    have en : x.next c z df = x.lookOn c df := by unfold Cm.next; rw [hst]; simp only; rw [h1, h2, hm]; rfl
    have ea : x.ans z = 1 := by unfold Cm.ans; rw [hst]
    have ez : z.commits x = z.look x.so := by unfold SSt.commits; rw [hst]
    have hn0 : x.nst = 0 := by unfold Cm.nst; rw [hst]
    have hd0 : x.ndm = 0 := by unfold Cm.ndm; rw [hst]
    have hrem : x.remB = 3 + x.wr.length + x.lk.rem + (x.lk.left.length + x.lk.vs.length) := by unfold Cm.remB; rw [hst]
    have hon := on_look z.s (hs := z.hs) (i := 0) (by omega)
    rw [hn0] at h18 h19
    rw [hd0] at h20
    rw [ea, en, ez, hrem]
    rw [en] at hfit
    rw [ez] at hws
    rw [h1] at hws ⊢
    have hvn := h5.lk.vn
    rcases lookOn_ways (x := x) (c := c) (df := df) with ⟨w1, w2⟩ | ⟨e, w1, w2⟩ | ⟨w1, w2⟩ | ⟨w1, w2⟩
    all_goals
      rw [w1] at hfit ⊢
      refine ⟨⟨h1, h2, h3, h4, hfit, h6, h7, hws, ?_, ?_, ?_, ?_, ?_, ?_, ?_, ?_, ?_, ?_, ?_, ?_⟩, ?_, hon.2⟩
    all_goals first
      | (intro e; cases e; done)
      | (intro d e; cases e; done)
      | exact fun _ => w2
      | exact fun _ => ⟨g1, g2⟩
      | exact fun _ => ⟨e1, by rw [e2]; rfl⟩
      | exact fun _ => ⟨by rw [e2]; rfl, w2⟩
      | exact hon.1.trans h18
      | exact h19
      | exact h20
      | (simp only [Cm.remB]; omega)
      | (simp only [Cm.remB, w2]; simp; omega)
      | skip
    all_goals first
      | exact Nat.le_trans h20 (Nat.zero_le _)
      | (intro d e; cases e; exact ⟨w2, Nat.le_refl _, h3, fun t ht => h5.inn.vs t ht⟩)
  | look =>
    have hl0 := h11 hst
    obtain ⟨g1, g2⟩ := h13 (by rw [hst]; rfl)
    obtain ⟨e1, e2⟩ := h15 (by rw [hst]; rfl)
    have en : x.next c z df = (x.looked z).lookOn c df := by unfold Cm.next; rw [hst]
    have ea : x.ans z = 1 := by unfold Cm.ans; rw [hst]
    have ez : z.commits x = z.looks x.lk := by unfold SSt.commits; rw [hst]
    have hn0 : x.nst = 0 := by unfold Cm.nst; rw [hst]
    have hd0 : x.ndm = 0 := by unfold Cm.ndm; rw [hst]
    have hrem : x.remB = 2 + x.wr.length + x.lk.rem + (x.lk.left.length + x.lk.vs.length) := by unfold Cm.remB; rw [hst]
    obtain ⟨o1, o2⟩ := looks_one hls h5.lk h5.inn hl0
    obtain ⟨l1, l2, l3, l4⟩ := looks_all z x.lk
    have hr := Lk.rem_next h5.lk hl0 z
    have hv := Lk.next_lv (k := x.lk) z hl0
    have hin := h5.inn.next h5.lk z
    rw [hn0] at h18 h19
    rw [hd0] at h20
    rw [ea, en, ez, hrem]
    rw [en] at hfit
    rw [ez] at hws
    rw [← l1] at g1
    rw [← l2] at h7 h19
    rw [← l4] at h6 h20
    have k1 : (x.looked z).so = 0 := h1
    have k2 : (x.looked z).ge = 1 := h2
    have k3 : (x.looked z).th = 1 := h3
    have k4 : (x.looked z).wr = ps := h4
    have k5 : (x.looked z).e = 0 := e1
    have k6 : (x.looked z).won = false := g2
    have k7 : (x.looked z).lk = x.lk.next z := rfl
    have k8 : (x.looked z).wr = x.wr := rfl
    rcases lookOn_ways (x := x.looked z) (c := c) (df := df) with ⟨w1, w2⟩ | ⟨e, w1, w2⟩ | ⟨w1, w2⟩ | ⟨w1, w2⟩
    all_goals
      rw [w1] at hfit ⊢
      refine ⟨⟨k1, k2, k3, k4, hfit, h6, h7, hws, ?_, ?_, ?_, ?_, ?_, ?_, ?_, ?_, ?_, ?_, ?_, ?_⟩, ?_, o2⟩
    all_goals first
      | (intro e; cases e; done)
      | (intro d e; cases e; done)
      | exact fun _ => w2
      | exact fun _ => ⟨g1, k6⟩
      | exact fun _ => ⟨k5, by rw [e2]; rfl⟩
      | exact fun _ => ⟨by rw [e2]; rfl, w2⟩
      | exact o1.trans h18
      | exact h19
      | exact Nat.le_trans h20 (Nat.zero_le _)
      | (simp only [Cm.remB, k7, k8]; omega)
      | (intro d e; cases e; exact ⟨w2, Nat.le_refl _, k3, fun t ht => hin.vs t ht⟩)
  | doom d =>
    obtain ⟨d1, d2, d3, d4⟩ := h12 d hst
    obtain ⟨g1, g2⟩ := h13 (by rw [hst]; rfl)
    obtain ⟨e1, e2⟩ := h15 (by rw [hst]; rfl)
    have en : x.next c z df = x.doomOn (d.next z.hs) := by unfold Cm.next; rw [hst]
    have ea : x.ans z = 1 := by unfold Cm.ans; rw [hst]
    have ez : z.commits x = z.dooms d := by unfold SSt.commits; rw [hst]
    have hn0 : x.nst = 0 := by unfold Cm.nst; rw [hst]
    have hd0 : x.ndm = x.lk.vs.length - d.left.length := by unfold Cm.ndm; rw [hst]
    have hrem : x.remB = d.left.length + x.wr.length + 2 := by unfold Cm.remB; rw [hst]
    rw [hn0] at h18 h19
    rw [hd0] at h20
    rw [ea, en, ez, hrem]
    rw [en] at hfit
    rw [ez] at hws
    cases hl : d.left with
    | nil => exact absurd hl d1
    | cons t l =>
      obtain ⟨p1, p2, p3, p4, p5, p6, p7, p8, p9⟩ := doom_op hl d3 hls (d4 t (by rw [hl]; simp))
      rw [hl] at d2 h20
      simp only [List.length_cons] at d2 h20 ⊢
      have hdn : ∀ y, d.next z.hs = y → y.left = l ∧ y.wy = 1 := fun y e => by rw [← e]; exact ⟨p8, p9⟩
      unfold Cm.doomOn at hfit ⊢
      rw [p8] at hfit ⊢
      by_cases h0 : l = []
      · subst h0
        simp only [if_true] at hfit ⊢
        refine ⟨⟨h1, h2, h3, h4, hfit, p6, by rw [p4]; exact h7, hws, (fun e => by cases e), (fun e => by cases e), (fun e => by cases e), (fun d e => by cases e), fun _ => ⟨by rw [p3]; exact g1, g2⟩, (fun e => by cases e), fun _ => ⟨e1, by rw [e2]; rfl⟩, (fun e => by cases e), (fun e => by cases e), p1.trans h18, by rw [p4]; exact h19, ?_⟩, ?_, p2⟩
        · show cntD (z.dooms d).hs ≤ x.lk.vs.length
          simp at h20 d2
          omega
        · show x.wr.length - 0 + 2 < _
          simp
      · rw [if_neg h0] at hfit ⊢
        refine ⟨⟨h1, h2, h3, h4, hfit, p6, by rw [p4]; exact h7, hws, (fun e => by cases e), (fun e => by cases e), (fun e => by cases e), (fun d' e => ?_), fun _ => ⟨by rw [p3]; exact g1, g2⟩, (fun e => by cases e), fun _ => ⟨e1, by rw [e2]; rfl⟩, (fun e => by cases e), (fun e => by cases e), p1.trans h18, by rw [p4]; exact h19, ?_⟩, ?_, p2⟩
        · cases e
          exact ⟨by rw [p8]; exact h0, by rw [p8]; show l.length ≤ x.lk.vs.length; omega, p9, fun t' ht => d4 t' (by rw [hl]; rw [p8] at ht; simp [ht])⟩
        · show cntD (z.dooms d).hs ≤ x.lk.vs.length - (d.next z.hs).left.length
          rw [p8]
          omega
        · show (d.next z.hs).left.length + x.wr.length + 2 < _
          rw [p8]
          omega
  | write k =>
    have hk := h5.wk k hst
    obtain ⟨g1, g2⟩ := h13 (by rw [hst]; rfl)
    obtain ⟨e1, e2⟩ := h15 (by rw [hst]; rfl)
    have en : x.next c z df = { x with st := if k + 1 = x.wr.length then .give else .write (k + 1) } := by unfold Cm.next; rw [hst]
    have ea : x.ans z = 1 := by unfold Cm.ans; rw [hst]
    have hq : x.wr.getD k Pr.zero = x.wr[k] := by rw [List.getD_eq_getElem?_getD, List.getElem?_eq_getElem hk]; rfl
    have ez : z.commits x = z.store x.wr[k].ce x.wr[k].x := by unfold SSt.commits; rw [hst]; simp only; rw [hq]
    have hn0 : x.nst = k := by unfold Cm.nst; rw [hst]
    have hd0 : x.ndm = x.lk.vs.length := by unfold Cm.ndm; rw [hst]
    have hrem : x.remB = (x.wr.length - k) + 2 := by unfold Cm.remB; rw [hst]
    have hci : cin z.xs x.wr[k].ce = true := by
      have := hP.r x.wr[k] (by rw [← h4]; exact List.getElem_mem hk)
      simp only [cin, Bool.and_eq_true, decide_eq_true_eq, h7]
      omega
    obtain ⟨o1, o2⟩ := on_store (s := z.s) hci
    rw [hn0] at h18 h19
    rw [hd0] at h20
    rw [ea, en, ez, hrem]
    rw [en] at hfit
    rw [ez] at hws
    have hxs : (z.store x.wr[k].ce x.wr[k].x).xs = putL (List.replicate 64 0) (x.wr.take (k + 1)) := by
      rw [List.take_succ_eq_append_getElem hk]
      show storeX z.xs _ _ = List.foldl _ _ (_ ++ _)
      rw [List.foldl_append, h19]
      rfl
    have hxl : (z.store x.wr[k].ce x.wr[k].x).xs.length = 64 := by
      show (storeX z.xs _ _).length = 64
      rw [storeX_len]; exact h7
    by_cases hkl : k + 1 = x.wr.length
    · rw [if_pos hkl] at hfit ⊢
      refine ⟨⟨h1, h2, h3, h4, hfit, h6, hxl, hws, (fun e => by cases e), (fun e => by cases e), (fun e => by cases e), (fun d e => by cases e), fun _ => ⟨g1, g2⟩, (fun e => by cases e), fun _ => ⟨e1, by rw [e2]; rfl⟩, (fun e => by cases e), (fun e => by cases e), ?_, ?_, h20⟩, ?_, o2⟩
      · show onCells (storeS z.s z.xs _).l = b0 + x.wr.length
        rw [o1, h18]; omega
      · show _ = putL _ (x.wr.take x.wr.length)
        rw [← hkl]; exact hxs
      · show 2 < _
        omega
    · rw [if_neg hkl] at hfit ⊢
      refine ⟨⟨h1, h2, h3, h4, hfit, h6, hxl, hws, (fun e => by cases e), (fun e => by cases e), (fun e => by cases e), (fun d e => by cases e), fun _ => ⟨g1, g2⟩, (fun e => by cases e), fun _ => ⟨e1, by rw [e2]; rfl⟩, (fun e => by cases e), (fun e => by cases e), ?_, hxs, h20⟩, ?_, o2⟩
      · show onCells (storeS z.s z.xs _).l = b0 + (k + 1)
        rw [o1, h18]; omega
      · show x.wr.length - (k + 1) + 2 < _
        omega
  | give =>
    obtain ⟨g1, g2⟩ := h13 (by rw [hst]; rfl)
    obtain ⟨e1, e2⟩ := h15 (by rw [hst]; rfl)
    have en : x.next c z df = { x with won := true, st := .free } := by unfold Cm.next; rw [hst]
    have ea : x.ans z = 1 := by unfold Cm.ans; rw [hst]
    have ez : z.commits x = z.give x.th := by unfold SSt.commits; rw [hst]
    have hn0 : x.nst = x.wr.length := by unfold Cm.nst; rw [hst]
    have hd0 : x.ndm = x.lk.vs.length := by unfold Cm.ndm; rw [hst]
    have hrem : x.remB = 2 := by unfold Cm.remB; rw [hst]
    rw [h3] at ez
    obtain ⟨o1, o2⟩ := on_give z.s z.x (t := 1) rfl
    have hgx : (z.give 1).x = ⟨2, 0⟩ := by show giveX z.x 1 = _; rw [g1]; rfl
    rw [hn0] at h18 h19
    rw [hd0] at h20
    rw [ea, en, ez, hrem]
    rw [en] at hfit
    rw [ez] at hws
    exact ⟨⟨h1, h2, h3, h4, hfit, h6, h7, hws, (fun e => by cases e), (fun e => by cases e), (fun e => by cases e), (fun d e => by cases e), (fun e => by cases e), fun _ => hgx, (fun e => by cases e), (fun e => by cases e), fun _ => .inl ⟨rfl, e1, by rw [e2]; rfl⟩, o1.trans h18, h19, h20⟩, Nat.lt_succ_self _, o2⟩
  | up =>
    obtain ⟨g1, g2⟩ := h13 (by rw [hst]; rfl)
    obtain ⟨e2, e3⟩ := h16 hst
    have en : x.next c z df = { x with st := .free } := by unfold Cm.next; rw [hst]
    have ea : x.ans z = if x.e = 9 then 2 else 1 := by unfold Cm.ans; rw [hst]
    have ez : z.commits x = z.give x.th := by unfold SSt.commits; rw [hst]
    have hn0 : x.nst = 0 := by unfold Cm.nst; rw [hst]
    have hd0 : x.ndm = 0 := by unfold Cm.ndm; rw [hst]
    have hrem : x.remB = 2 := by unfold Cm.remB; rw [hst]
    rw [h3] at ez
    obtain ⟨o1, o2⟩ := on_give z.s z.x (t := 1) rfl
    have hgx : (z.give 1).x = ⟨2, 0⟩ := by show giveX z.x 1 = _; rw [g1]; rfl
    have hwt : wt + (if x.ans z = 2 then 1 else 0) = if x.e = 9 then 1 else 0 := by
      rw [ea, e2]
      split <;> simp
    have hw0 : ({ x with st := .free } : Cm).nst = 0 := by simp [Cm.nst, g2]
    have hw1 : ({ x with st := .free } : Cm).ndm = 0 := by simp [Cm.ndm, g2]
    rw [hn0] at h18 h19
    rw [hd0] at h20
    rw [hwt, en, ez, hrem]
    rw [en] at hfit
    rw [ez] at hws
    exact ⟨⟨h1, h2, h3, h4, hfit, h6, h7, hws, (fun e => by cases e), (fun e => by cases e), (fun e => by cases e), (fun d e => by cases e), (fun e => by cases e), fun _ => hgx, (fun e => by cases e), (fun e => by cases e), fun _ => .inr ⟨g2, e3, rfl⟩, by rw [hw0]; exact o1.trans h18, by rw [hw0]; exact h19, by rw [hw1]; exact h20⟩, Nat.lt_succ_self _, o2⟩
  | free =>
    have hgx := h14 (by rw [hst]; rfl)
    have hfi := h17 (by rw [hst]; rfl)
    have en : x.next c z df = { x with st := .over } := by unfold Cm.next; rw [hst]
    have ea : x.ans z = 1 := by unfold Cm.ans; rw [hst]
    have ez : z.commits x = z.op (freeOp x.ge) x.so := by unfold SSt.commits; rw [hst]
    have hn0 : ({ x with st := .over } : Cm).nst = x.nst := by simp only [Cm.nst]; rw [hst]
    have hd0 : ({ x with st := .over } : Cm).ndm = x.ndm := by simp only [Cm.ndm]; rw [hst]
    have hrem : x.remB = 1 := by unfold Cm.remB; rw [hst]
    rw [h1, h2] at ez
    obtain ⟨o1, o2⟩ := on_op (p := freeOp 1) rfl z.s (hs := z.hs) (i := 0) (by omega)
    have hlen : ((freeOp 1).H z.hs 0).length = 8 := by rw [HOp.len]; exact h6
    have hcd : cntD ((freeOp 1).H z.hs 0) ≤ cntD z.hs := by
      unfold HOp.H
      split
      · split
        · exact Nat.le_refl _
        · split
          · exact cntD_set (.inl rfl)
          · exact Nat.le_refl _
      · exact Nat.le_refl _
    rw [ea, en, ez, hrem]
    rw [en] at hfit
    rw [ez] at hws
    have hwz : wt + (if (1 : Int) = 2 then 1 else 0) = wt := by simp
    rw [hwz]
    exact ⟨⟨h1, h2, h3, h4, hfit, hlen, h7, hws, (fun e => by cases e), (fun e => by cases e), (fun e => by cases e), (fun d e => by cases e), (fun e => by cases e), fun _ => hgx, (fun e => by cases e), (fun e => by cases e), fun _ => hfi, by rw [hn0]; exact o1.trans h18, by rw [hn0]; exact h19, by rw [hd0]; exact Nat.le_trans hcd h20⟩, Nat.zero_lt_one, o2⟩
  | over => unfold Cm.done at hd; rw [hst] at hd; cases hd
end Go.Proofs.YtgjmamgohidbiaaGreat

namespace Go.Proofs.YtgjmamgohidbiaaGreat
open Go.RowKit
set_option linter.unusedVariables false
set_option linter.unusedSimpArgs false
attribute [local go_sem ↓] Go.wp_at_zero Go.wp_at_succ

def mvAt (o : MvD) : Nat := 1 + ((o.so % 8) % 7).toNat
def mvK (o : MvD) : Nat := (o.kd % 8).toNat
def moveZ (z : SSt) (o : MvD) : SSt :=
  if mvK o = 0 then z.op (freeOp (nowAt z.hs (mvAt o)).gn) (mvAt o)
  else if mvK o = 1 ∨ mvK o = 2 then z.op (claimOp 3) (mvAt o)
  else if mvK o = 3 ∨ mvK o = 4 then z.op (readyOp (nowAt z.hs (mvAt o)).gn (1 + ((o.x % 16 : Nat) : Int))) (mvAt o)
  else z.put (mvAt o) ((o.x % 2 : Nat) : Int) (o.x : Int)
theorem mvAt_in (o : MvD) : 1 ≤ mvAt o ∧ mvAt o < 8 := by unfold mvAt; omega
theorem moveZ_ok {z : SSt} {c : Cfg} {n : Nat} (h : z.ok c n) (o : MvD) : (moveZ z o).ok c (n + 1) := by
  unfold moveZ
  split
  · exact h.op _ _ (free_keeps h.hd _ _)
  · split
    · exact h.op _ _ (claim_keeps h.hd _ _)
    · split
      · exact h.op _ _ (ready_keeps h.hd _ _ _)
      · exact h.put _ _ _
/-- A commit's own things stay as they are. -/
theorem BI.move {c : Cfg} {ps : List Pr} {b0 : Nat} {z : SSt} {x : Cm} {wt : Int} (h : BI c ps b0 z x wt) {n : Nat} (ok : z.ok c n) (o : MvD) (hx : o.x < 18446744073709551616) : BI c ps b0 (moveZ z o) x wt := by
  have hat := mvAt_in o
  have opC : ∀ (p : HOp), (∀ g : Hd, HOk g n → p.ok g = true → (p.nw g).by1 = false) → cntD (p.H z.hs (mvAt o : Nat)) ≤ cntD z.hs := by
    intro p hp
    unfold HOp.H
    split
    · split
      · exact Nat.le_refl _
      · rename_i g hg
        split
        · rename_i hok
          exact cntD_set (.inl (hp g (ok.hd g (headAt_mem hg)) hok))
        · exact Nat.le_refl _
    · exact Nat.le_refl _
  have opN : ∀ (p : HOp), nowAt (p.H z.hs (mvAt o : Nat)) 0 = nowAt z.hs 0 := fun p => now_op (by omega) (by omega) (by omega)
  have opS : ∀ (p : HOp), onCells (p.S z.s z.hs (mvAt o : Nat)).l = onCells z.s.l := by
    intro p
    unfold HOp.S
    split
    · split
      · rfl
      · exact (on_note _ _ _ _ _ rfl).1
    · rfl
  have opL : ∀ (p : HOp), (p.H z.hs (mvAt o : Nat)).length = 8 := fun p => by rw [HOp.len]; exact h.hl
  have go : ∀ (p : HOp), (∀ g : Hd, HOk g n → p.ok g = true → (p.nw g).by1 = false) → BI c ps b0 (z.op p (mvAt o : Nat)) x wt := fun p hp =>
    ⟨h.so, h.ge, h.th, h.wr, h.fit, opL p, h.xl, h.ws, fun e => by show (nowAt (p.H z.hs (mvAt o : Nat)) 0).mine 1 = true; rw [opN]; exact h.own e, h.nt, h.lf, h.dm, h.inn, h.out, h.pre, h.up, h.fin, (opS p).trans h.cnt, h.xs, Nat.le_trans (opC p hp) h.cd⟩
  unfold moveZ
  split
  · exact go _ (fun g _ _ => rfl)
  · split
    · exact go _ (fun g _ _ => rfl)
    · split
      · refine go _ (fun g hg hk => ?_)
        simp only [readyOp, Bool.and_eq_true, beq_iff_eq] at hk
        show (g.dm && g.wy == 1) = false
        rcases hg.st with e | e | e
        · omega
        · rw [e.2.2.2.1]; rfl
        · omega
      · refine ⟨h.so, h.ge, h.th, h.wr, h.fit, h.hl, h.xl, h.ws.put _ _ _ hx, h.own, h.nt, h.lf, h.dm, h.inn, h.out, h.pre, h.up, h.fin, ?_, h.xs, h.cd⟩
        refine Eq.trans ?_ h.cnt
        show onCells (putS z.s z.hs.length _ _).l = _
        unfold putS
        split
        · rfl
        · exact (on_note _ _ _ _ _ rfl).1

set_option maxRecDepth 100000 in
set_option maxHeartbeats 4000000 in
theorem moves_st {o w : World} {its : List It} {A : Ad} {c : Cfg} {z : SSt} {v u : Value} (h : St o its w) (i : Nat) (hi : its[i]? = some (spI A c z v u)) {n : Nat} (ok : z.ok c n) (hn : n + 2 ≤ 4611686018427) (h8 : z.hs.length = 8) (m : MvD) (hx : m.x < 18446744073709551616) :
    Calls Tryz.prog 40 #[spp A, .agg #[.bool m.go, .int .i64 m.kd, .int .i64 m.so, .int .u64 (m.x : Nat)]] w fun e w' => e = .returned (.tuple #[]) ∧ ∃ v', St o (its.set i (spI A c (moveZ z m) v' u)) w' := by
  have hat := mvAt_in m
  have e7 : bits .and .i64 m.so 7 = m.so % 8 := and7 m.so
  have em : Int.tmod (m.so % 8) 7 = (m.so % 8) % 7 := Int.tmod_eq_emod_of_nonneg (by omega)
  have ea : 1 + (m.so % 8) % 7 = ((mvAt m : Nat) : Int) := by unfold mvAt; omega
  have ek : bits .and .i64 m.kd 7 = ((mvK m : Nat) : Int) := by rw [and7]; unfold mvK; omega
  have hk8 : mvK m < 8 := by unfold mvK; omega
  have hs0 : (0 : Int) ≤ m.so % 8 ∧ m.so % 8 < 8 := by omega
  have hs1 : (0 : Int) ≤ (m.so % 8) % 7 ∧ (m.so % 8) % 7 < 7 := by omega
  have ex15 : bits .and .u64 ((m.x : Nat) : Int) 15 = ((m.x % 16 : Nat) : Int) := by
    have := bits_and_u64_nat m.x 15 hx (by decide)
    rw [show ((15 : Nat) : Int) = 15 from rfl] at this
    rw [this, show (15 : Nat) = 2 ^ 4 - 1 from rfl, Nat.and_two_pow_sub_one_eq_mod]
  have ex1 : bits .and .u64 ((m.x : Nat) : Int) 1 = ((m.x % 2 : Nat) : Int) := by
    have := bits_and_u64_nat m.x 1 hx (by decide)
    rw [show ((1 : Nat) : Int) = 1 from rfl] at this
    rw [this, show (1 : Nat) = 2 ^ 1 - 1 from rfl, Nat.and_two_pow_sub_one_eq_mod]
  have w15 : IntKind.i64.wrap ((m.x % 16 : Nat) : Int) = ((m.x % 16 : Nat) : Int) := by rw [IntKind.wrap_i64]; omega
  have w1 : IntKind.i64.wrap ((m.x % 2 : Nat) : Int) = ((m.x % 2 : Nat) : Int) := by rw [IntKind.wrap_i64]; omega
  have r15 : ((m.x % 16 : Nat) : Int) < 16 := by omega
  have r150 : (0 : Int) ≤ ((m.x % 16 : Nat) : Int) := by omega
  have r1 : ((m.x % 2 : Nat) : Int) < 2 := by omega
  have r10 : (0 : Int) ≤ ((m.x % 2 : Nat) : Int) := by omega
  have HZ : Hid (moveZ z m = if mvK m = 0 then z.op (freeOp (nowAt z.hs (mvAt m)).gn) (mvAt m) else if mvK m = 1 ∨ mvK m = 2 then z.op (claimOp 3) (mvAt m) else if mvK m = 3 ∨ mvK m = 4 then z.op (readyOp (nowAt z.hs (mvAt m)).gn (1 + ((m.x % 16 : Nat) : Int))) (mvAt m) else z.put (mvAt m) ((m.x % 2 : Nat) : Int) (m.x : Int)) := rfl
  generalize moveZ z m = zm at *
  generalize mvAt m = at_ at *
  generalize mvK m = kk at *
  obtain ⟨mgo, mkd, mso, mx⟩ := m
  simp only at *
  generalize mx % 16 = x16 at *
  generalize mx % 2 = x2 at *
  generalize (mso % 8) % 7 = s7 at *
  generalize mso % 8 = s8 at *
  have h0 := h.box #[.bool mgo, .int .i64 mkd, .int .i64 mso, .int .u64 (mx : Int)] 115
  clear h
  have HI : Hid (∀ X : It, (its.set i X)[i]? = some X) := fun X => set_self hi
  unfold spp
  go_enter Tryz.func40, Tryz.ntmps40
  go_upto_region 1 with fail
  generalize w.alloc (.cells #[.bool mgo, .int .i64 mkd, .int .i64 mso, .int .u64 (mx : Int)] 115) = w0 at *
  generalize w.heap.size = M at *
  have ht := spSlots h0 (i + 1) hi
  unfold spp at ht
  have hq := spTabAll h0 (i + 1) hi ok.wl ok.h1 ok.h8
  have m2 : w0.cell? ⟨M, 2, none⟩ = some (.int .i64 mso) := h0.cell 0 rfl 2
  clear h0
  go_wp2_with (first | (go_at_call 42; refine ht.mono ?_; rintro e wq ⟨rfl, rfl⟩) | simp only [e7] | simp only [em] | simp only [ea])
  refine hq.mono ?_
  rintro e w1' ⟨v1, rfl, s1⟩
  clear hq ht m2
  obtain ⟨g, cap, rfl⟩ := s1.form 0 rfl (by omega)
  obtain ⟨c0, c1, c2, c3, c4, c5, c6, c7⟩ := slot_cells s1 0 rfl ok.wl (k := at_) (by omega)
  have hnow : z.hs.getD at_ Hd.zero = nowAt z.hs (at_ : Nat) := (nowAt_in (by omega)).symm
  rw [hnow] at c0 c1 c2 c3 c4 c5
  obtain ⟨HD, hHD⟩ : ∃ HD, HD = nowAt z.hs (at_ : Nat) := ⟨_, rfl⟩
  rw [← hHD] at c0 c1 c2 c3 c4 c5 HZ
  clear hHD hnow
  obtain ⟨hg, hsa, hp, hth, hdm, hb⟩ := HD
  simp only at c0 c1 c2 c3 c4 c5 HZ
  have s2 := s1.box #[.int .i64 hg, .int .i64 hsa, .int .i64 hp, .int .i64 hth, .bool hdm, .int .i64 hb] 99
  clear s1
  have a0 : (0 : Int) ≤ (at_ : Int) := by omega
  have a8 : (at_ : Int) < (z.hs.length : Int) := by omega
  have HL8 : Hid (z.hs.length = 8) := h8
  clear h8
  generalize hHL : z.hs.length = HLN at *
  clear hHL
  go_upto_region 4 with fail
  generalize w1'.alloc (.cells #[.int .i64 hg, .int .i64 hsa, .int .i64 hp, .int .i64 hth, .bool hdm, .int .i64 hb] 99) = w2 at *
  generalize w1'.heap.size = H at *
  clear c0 c1 c2 c3 c4 c5 c6 c7
  have m1 : w2.cell? ⟨M, 1, none⟩ = some (.int .i64 mkd) := s2.cell 2 rfl 1
  have m3 : w2.cell? ⟨M, 3, none⟩ = some (.int .u64 (mx : Int)) := s2.cell 2 rfl 3
  have p0 : w2.cell? ⟨H, 0, none⟩ = some (.int .i64 hg) := s2.cell 0 rfl 0
  have HFIN : Hid (∀ v' w', St o ((boxI H #[.int .i64 hg, .int .i64 hsa, .int .i64 hp, .int .i64 hth, .bool hdm, .int .i64 hb] 99 :: ownI 101 8 (.slice (some ⟨g, 0, none⟩) HLN cap) HLN (slCells (slots z.hs z.ws)) :: boxI M #[.bool mgo, .int .i64 mkd, .int .i64 mso, .int .u64 (mx : Int)] 115 :: its).set (i + 3) (spI A c zm v' u)) w' → ∃ v', St o (its.set i (spI A c zm v' u)) w') := fun v' w' hS => ⟨v', hS.pop.pop.pop⟩
  rcases (show kk = 0 ∨ kk = 1 ∨ kk = 2 ∨ kk = 3 ∨ kk = 4 ∨ 5 ≤ kk by omega) with rfl | rfl | rfl | rfl | rfl | hk5
  · have t0 : (((0 : Nat) : Int) == 0) = true := by decide
    have t1 : (((0 : Nat) : Int) == 1) = false := by decide
    have t2 : (((0 : Nat) : Int) == 2) = false := by decide
    have t3 : (((0 : Nat) : Int) == 3) = false := by decide
    have t4 : (((0 : Nat) : Int) == 4) = false := by decide
    rw [if_pos rfl] at HZ
    have hq := spFree s2 (i + 3) hi ok (by omega) (at_ : Int) hg
    clear s2
    go_wp2_with (first | simp only [ek] | simp only [ex15] | simp only [ex1] | simp only [w15] | simp only [w1])
    refine hq.mono ?_
    rintro e w3 ⟨rfl, v3, s3⟩
    have HE : Hid _ := HFIN.out _ _ (by rw [HZ.out]; exact s3)
    clear hq s3
    go_wp2
    go_end0
    exact ⟨rfl, HE.out⟩
  · have t0 : (((1 : Nat) : Int) == 0) = false := by decide
    have t1 : (((1 : Nat) : Int) == 1) = true := by decide
    have t2 : (((1 : Nat) : Int) == 2) = false := by decide
    have t3 : (((1 : Nat) : Int) == 3) = false := by decide
    have t4 : (((1 : Nat) : Int) == 4) = false := by decide
    rw [if_neg (by decide), if_pos (by decide)] at HZ
    have hq := spClaim s2 (i + 3) hi ok (by omega) (at_ : Int) 3
    clear s2
    go_wp2_with (first | simp only [ek] | simp only [ex15] | simp only [ex1] | simp only [w15] | simp only [w1])
    refine hq.mono ?_
    rintro e w3 ⟨rfl, v3, s3⟩
    have HE : Hid _ := HFIN.out _ _ (by rw [HZ.out]; exact s3)
    clear hq s3
    go_wp2
    go_end0
    exact ⟨rfl, HE.out⟩
  · have t0 : (((2 : Nat) : Int) == 0) = false := by decide
    have t1 : (((2 : Nat) : Int) == 1) = false := by decide
    have t2 : (((2 : Nat) : Int) == 2) = true := by decide
    have t3 : (((2 : Nat) : Int) == 3) = false := by decide
    have t4 : (((2 : Nat) : Int) == 4) = false := by decide
    rw [if_neg (by decide), if_pos (by decide)] at HZ
    have hq := spClaim s2 (i + 3) hi ok (by omega) (at_ : Int) 3
    clear s2
    go_wp2_with (first | simp only [ek] | simp only [ex15] | simp only [ex1] | simp only [w15] | simp only [w1])
    refine hq.mono ?_
    rintro e w3 ⟨rfl, v3, s3⟩
    have HE : Hid _ := HFIN.out _ _ (by rw [HZ.out]; exact s3)
    clear hq s3
    go_wp2
    go_end0
    exact ⟨rfl, HE.out⟩
  · have t0 : (((3 : Nat) : Int) == 0) = false := by decide
    have t1 : (((3 : Nat) : Int) == 1) = false := by decide
    have t2 : (((3 : Nat) : Int) == 2) = false := by decide
    have t3 : (((3 : Nat) : Int) == 3) = true := by decide
    have t4 : (((3 : Nat) : Int) == 4) = false := by decide
    rw [if_neg (by decide), if_neg (by decide), if_pos (by decide)] at HZ
    have hq := spReady s2 (i + 3) hi ok (by omega) (at_ : Int) hg (1 + (x16 : Int))
    clear s2
    go_wp2_with (first | simp only [ek] | simp only [ex15] | simp only [ex1] | simp only [w15] | simp only [w1])
    refine hq.mono ?_
    rintro e w3 ⟨rfl, v3, s3⟩
    have HE : Hid _ := HFIN.out _ _ (by rw [HZ.out]; exact s3)
    clear hq s3
    go_wp2
    go_end0
    exact ⟨rfl, HE.out⟩
  · have t0 : (((4 : Nat) : Int) == 0) = false := by decide
    have t1 : (((4 : Nat) : Int) == 1) = false := by decide
    have t2 : (((4 : Nat) : Int) == 2) = false := by decide
    have t3 : (((4 : Nat) : Int) == 3) = false := by decide
    have t4 : (((4 : Nat) : Int) == 4) = true := by decide
    rw [if_neg (by decide), if_neg (by decide), if_pos (by decide)] at HZ
    have hq := spReady s2 (i + 3) hi ok (by omega) (at_ : Int) hg (1 + (x16 : Int))
    clear s2
    go_wp2_with (first | simp only [ek] | simp only [ex15] | simp only [ex1] | simp only [w15] | simp only [w1])
    refine hq.mono ?_
    rintro e w3 ⟨rfl, v3, s3⟩
    have HE : Hid _ := HFIN.out _ _ (by rw [HZ.out]; exact s3)
    clear hq s3
    go_wp2
    go_end0
    exact ⟨rfl, HE.out⟩
  · have t0 : ((kk : Int) == 0) = false := by simp; omega
    have t1 : ((kk : Int) == 1) = false := by simp; omega
    have t2 : ((kk : Int) == 2) = false := by simp; omega
    have t3 : ((kk : Int) == 3) = false := by simp; omega
    have t4 : ((kk : Int) == 4) = false := by simp; omega
    rw [if_neg (by omega), if_neg (by omega), if_neg (by omega)] at HZ
    have hq := spPut s2 (i + 3) hi ok (by omega) (at_ : Int) (x2 : Int) (mx : Int)
    clear s2
    go_wp2_with (first | simp only [ek] | simp only [ex15] | simp only [ex1] | simp only [w15] | simp only [w1])
    refine hq.mono ?_
    rintro e w3 ⟨rfl, v3, s3⟩
    have HE : Hid _ := HFIN.out _ _ (by rw [HZ.out]; exact s3)
    clear hq s3
    go_wp2
    go_end0
    exact ⟨rfl, HE.out⟩
end Go.Proofs.YtgjmamgohidbiaaGreat
