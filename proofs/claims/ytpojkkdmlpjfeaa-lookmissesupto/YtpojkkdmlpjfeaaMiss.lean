/- What a look keeps while others move: nobody is missed. No program is named here. -/
import Derived.Test.YtpojkkdmlpjfeaaFndW
namespace Go.Proofs.Ytpojkkdmlpjfeaa
open Go.RowKit
set_option linter.unusedVariables false
set_option linter.unusedSimpArgs false

theorem wordR_in {ws : List Int} {n k : Nat} (hk : k < n) : wordR ws n (k : Int) 0 = ws.getD (k * 2) 0 ∧ wordR ws n (k : Int) 1 = ws.getD (k * 2 + 1) 0 := by
  unfold wordR wordAt
  rw [if_pos ⟨by omega, by omega, by omega, by omega⟩, if_pos ⟨by omega, by omega, by omega, by omega⟩]
  exact ⟨rfl, rfl⟩
theorem or_keeps {x c : Nat} (y : Nat) (h : x &&& c ≠ 0) : (x ||| y) &&& c ≠ 0 := by
  rw [Nat.and_or_distrib_right]
  intro e
  exact h (Nat.or_eq_zero_iff.1 e).1
theorem meets_iff (s r : Sg) : s.meets r = true ↔ (s.lo &&& r.lo ≠ 0 ∨ s.hi &&& r.hi ≠ 0) := by
  obtain ⟨a, b⟩ := s
  obtain ⟨c, d⟩ := r
  rw [meets_eq]
  simp
theorem nowAt_set {hs : List Hd} {a : Nat} (ha : a < hs.length) (x : Hd) (s : Nat) (h : s < hs.length) : nowAt (hs.set a x) (s : Int) = if s = a then x else nowAt hs s := by
  rw [nowAt_in (by simpa using h), nowAt_in h, List.getD_eq_getElem?_getD, List.getD_eq_getElem?_getD, List.getElem?_set]
  by_cases e : s = a
  · subst e; simp [ha]
  · rw [if_neg (by omega), if_neg e]
def yes (l : List Bool) (s : Nat) : Prop := l[s]? = some true
/-- Slots m .. 7. -/
def from_ (m : Nat) : List Nat := List.range' m (8 - m)
theorem from_cons {m : Nat} (h : m < 8) : from_ m = m :: from_ (m + 1) := by
  unfold from_
  rw [show 8 - m = (8 - (m + 1)) + 1 by omega, List.range'_succ]
theorem from_nil : from_ 8 = [] := rfl
theorem others0 : othersOf 8 0 = from_ 1 := by decide

structure MInv (hs0 : List Hd) (wr : Sg) (m : Nat) (z : SSt) (k : Lk) (sy lv : List Bool) : Prop where
  l8 : z.hs.length = 8
  w16 : z.ws.length = 16
  wok : WsOk z.ws
  fit : k.fit
  kwr : k.wr = wr
  syl : sy.length = 8
  lvl : lv.length = 8
  m1 : 1 ≤ m
  m8 : m ≤ 8
  lft : k.left = from_ m
  gen : ∀ s : Nat, s < 8 → (nowAt z.hs s).sa ≠ 0 → 1 ≤ (nowAt z.hs s).gn
  liv : ∀ s : Nat, s < 8 → 1 ≤ s → (nowAt z.hs s).sa = 2 → yes lv s
  sty : ∀ s : Nat, s < 8 → 1 ≤ s → yes sy s → (nowAt z.hs s).lives = true ∧ (nowAt z.hs s).gn = (nowAt hs0 s).gn ∧ (sgAt z.hs z.ws s).meets wr = true
  vic : ∀ v, v ∈ k.vs → ∃ s : Nat, v.so = (s : Int) ∧ 1 ≤ s ∧ s < m ∧ yes lv s ∧ 1 ≤ v.ge ∧ (yes sy s → v.ge = (nowAt hs0 s).gn)
  rise : k.vs.Pairwise (fun a b => a.so < b.so)
  pas : ∀ s : Nat, 1 ≤ s → s < m → yes sy s → ∃ v, v ∈ k.vs ∧ v.so = (s : Int)
  inw : k.inW = true → m < 8 ∧ k.met.so = (m : Int) ∧ yes lv m ∧ 1 ≤ k.met.ge ∧ (yes sy m → k.met.ge = (nowAt hs0 m).gn) ∧ (∀ a, k.ld = [a] → yes sy m → (a &&& wr.lo ≠ 0 ∨ (sgAt z.hs z.ws m).hi &&& wr.hi ≠ 0))
section
variable {hs0 : List Hd} {wr : Sg} {m : Nat} {z : SSt} {k : Lk} {sy lv : List Bool}
theorem MInv.pass_ (h : MInv hs0 wr m z k sy lv) (hm : m < 8) {vs' : List Vt} (hsub : ∀ v, v ∈ vs' → v ∈ k.vs ∨ (v.so = (m : Int) ∧ yes lv m ∧ 1 ≤ v.ge ∧ (yes sy m → v.ge = (nowAt hs0 m).gn))) (hsup : ∀ v, v ∈ k.vs → v ∈ vs') (hr : vs'.Pairwise (fun a b => a.so < b.so)) (hp : yes sy m → ∃ v, v ∈ vs' ∧ v.so = (m : Int)) (hf : ({ k with vs := vs' } : Lk).pass.fit) (z' : SSt) (e1 : z'.hs = z.hs) (e2 : z'.ws = z.ws) :
    MInv hs0 wr (m + 1) z' ({ k with vs := vs' } : Lk).pass sy lv := by
  have hl : k.left = m :: from_ (m + 1) := by rw [h.lft, from_cons hm]
  refine ⟨by rw [e1]; exact h.l8, by rw [e2]; exact h.w16, by rw [e2]; exact h.wok, hf, h.kwr, h.syl, h.lvl, by omega, by omega, ?_, by rw [e1]; exact h.gen, by rw [e1]; exact h.liv, by rw [e1, e2]; exact h.sty, ?_, hr, ?_, fun e => by simp [Lk.pass] at e⟩
  · show k.left.tail = _
    rw [hl]; rfl
  · intro v hv
    rcases hsub v hv with hv | ⟨a, b, c, d⟩
    · obtain ⟨s, a, b, c, d⟩ := h.vic v hv
      exact ⟨s, a, b, by omega, d⟩
    · exact ⟨m, a, h.m1, by omega, b, c, d⟩
  · intro s s1 s2 hs
    by_cases e : s = m
    · subst e; exact hp hs
    · obtain ⟨v, hv, hvs⟩ := h.pas s s1 (by omega) hs
      exact ⟨v, hsup v hv, hvs⟩
/-- A step of the look. -/
theorem MInv.step (h : MInv hs0 wr m z k sy lv) : ∃ m', MInv hs0 wr m' (z.looks k) (k.next z) sy lv := by
  have hfit := h.fit.next h.wok
  have e1 := SSt.looks_hs z k
  have e2 := SSt.looks_ws z k
  by_cases hm : m = 8
  · have hl : k.left = [] := by rw [h.lft, hm]; rfl
    have hn : k.next z = k := by unfold Lk.next; rw [hl]
    rw [hn]
    exact ⟨m, by rw [e1]; exact h.l8, by rw [e2]; exact h.w16, by rw [e2]; exact h.wok, h.fit, h.kwr, h.syl, h.lvl, h.m1, h.m8, h.lft, by rw [e1]; exact h.gen, by rw [e1]; exact h.liv, by rw [e1, e2]; exact h.sty, h.vic, h.rise, h.pas, by rw [e1, e2]; exact h.inw⟩
  have hm8 : m < 8 := by have := h.m8; omega
  have hl : k.left = m :: from_ (m + 1) := by rw [h.lft, from_cons hm8]
  have hr0 : ∀ v, v ∈ k.vs → v.so < (m : Int) := fun v hv => by
    obtain ⟨s, a, _, b, _⟩ := h.vic v hv
    omega
  unfold Lk.next at hfit ⊢
  rw [hl] at hfit ⊢
  simp only at hfit ⊢
  cases hI : k.inW with
  | false =>
    rw [hI] at hfit
    simp only [Bool.false_eq_true, if_false] at hfit ⊢
    unfold Lk.head at hfit ⊢
    cases hli : (nowAt z.hs m).lives with
    | false =>
      rw [hli] at hfit
      simp only [Bool.false_eq_true, if_false] at hfit ⊢
      exact ⟨m + 1, h.pass_ hm8 (vs' := k.vs) (fun v hv => .inl hv) (fun v hv => hv) h.rise (fun hs => by
        have := (h.sty m hm8 h.m1 hs).1
        rw [hli] at this; cases this) hfit _ e1 e2⟩
    | true =>
      rw [hli] at hfit
      simp only [if_true] at hfit ⊢
      have h2 : (nowAt z.hs m).sa = 2 := by simp only [Hd.lives, Bool.and_eq_true, beq_iff_eq] at hli; exact hli.1
      refine ⟨m, by rw [e1]; exact h.l8, by rw [e2]; exact h.w16, by rw [e2]; exact h.wok, hfit, h.kwr, h.syl, h.lvl, h.m1, h.m8, h.lft, by rw [e1]; exact h.gen, by rw [e1]; exact h.liv, by rw [e1, e2]; exact h.sty, h.vic, h.rise, h.pas, fun _ => ⟨hm8, rfl, h.liv m hm8 h.m1 h2, h.gen m hm8 (by omega), fun hs => (h.sty m hm8 h.m1 hs).2.1, fun a ha => ?_⟩⟩
      have := h.fit.out hI
      simp [this] at ha
  | true =>
    rw [hI] at hfit
    simp only [if_true] at hfit ⊢
    obtain ⟨_, i1, i2, i3, i4, i5⟩ := h.inw hI
    have hx0 : (wordR z.ws z.hs.length k.met.so 0).toNat = (sgAt z.hs z.ws m).lo := by rw [i1]; rfl
    have hx1 : (wordR z.ws z.hs.length k.met.so 1).toNat = (sgAt z.hs z.ws m).hi := by rw [i1]; rfl
    cases hld : k.ld with
    | nil =>
      rw [hld] at hfit
      unfold Lk.word at hfit ⊢
      simp only [hld, List.length_nil] at hfit ⊢
      refine ⟨m, by rw [e1]; exact h.l8, by rw [e2]; exact h.w16, by rw [e2]; exact h.wok, hfit, h.kwr, h.syl, h.lvl, h.m1, h.m8, h.lft, by rw [e1]; exact h.gen, by rw [e1]; exact h.liv, by rw [e1, e2]; exact h.sty, h.vic, h.rise, h.pas, fun _ => ⟨hm8, i1, i2, i3, i4, fun a ha hs => ?_⟩⟩
      have ha' : a = (sgAt z.hs z.ws m).lo := by
        simp only [List.cons.injEq, and_true] at ha
        rw [← ha]; exact hx0
      rw [ha', e1, e2]
      exact (meets_iff _ _).1 (h.sty m hm8 h.m1 hs).2.2
    | cons a r =>
      have hr : r = [] := by have := h.fit.ld; rw [hld] at this; simpa using this
      subst hr
      rw [hld] at hfit
      unfold Lk.word at hfit ⊢
      simp only [hld, List.length_cons, List.length_nil, Nat.zero_add] at hfit ⊢
      have hx1' : (wordR z.ws z.hs.length k.met.so ((1 : Nat) : Int)).toNat = (sgAt z.hs z.ws m).hi := hx1
      rw [hx1'] at hfit ⊢
      refine ⟨m + 1, h.pass_ hm8 (fun v hv => ?_) (fun v hv => ?_) ?_ (fun hs => ?_) hfit _ e1 e2⟩
      · split at hv
        · rcases List.mem_append.1 hv with hv | hv
          · exact .inl hv
          · rw [List.mem_singleton.1 hv]; exact .inr ⟨i1, i2, i3, i4⟩
        · exact .inl hv
      · split
        · exact List.mem_append_left _ hv
        · exact hv
      · split
        · rw [List.pairwise_append]
          refine ⟨h.rise, List.pairwise_singleton _ _, fun x hx y hy => ?_⟩
          rw [List.mem_singleton.1 hy, i1]
          exact hr0 x hx
        · exact h.rise
      · have hmt : (⟨a, (sgAt z.hs z.ws m).hi⟩ : Sg).meets k.wr = true := by
          rw [h.kwr, meets_iff]
          exact i5 a hld hs
        rw [if_pos hmt]
        exact ⟨k.met, List.mem_append_right _ (List.mem_singleton.2 rfl), i1⟩
theorem MInv.same (h : MInv hs0 wr m z k sy lv) {z' : SSt} (e1 : z'.hs = z.hs) (e2 : z'.ws = z.ws) : MInv hs0 wr m z' k sy lv :=
  ⟨by rw [e1]; exact h.l8, by rw [e2]; exact h.w16, by rw [e2]; exact h.wok, h.fit, h.kwr, h.syl, h.lvl, h.m1, h.m8, h.lft, by rw [e1]; exact h.gen, by rw [e1]; exact h.liv, by rw [e1, e2]; exact h.sty, h.vic, h.rise, h.pas, by rw [e1, e2]; exact h.inw⟩
/-- Others move: a head turns. -/
theorem MInv.turn (h : MInv hs0 wr m z k sy lv) {a : Nat} (a8 : a < 8) {z' : SSt} (hws : z'.ws = z.ws) (h8 : z'.hs.length = 8) (hoth : ∀ s : Nat, s < 8 → s ≠ a → nowAt z'.hs s = nowAt z.hs s) {sy' lv' : List Bool} (l1 : sy'.length = 8) (l2 : lv'.length = 8) (hsy : ∀ s, yes sy' s → yes sy s) (hlv : ∀ s, yes lv s → yes lv' s)
    (g : (nowAt z'.hs a).sa ≠ 0 → 1 ≤ (nowAt z'.hs a).gn) (li : 1 ≤ a → (nowAt z'.hs a).sa = 2 → yes lv' a) (st : yes sy' a → nowAt z'.hs a = nowAt z.hs a) : MInv hs0 wr m z' k sy' lv' := by
  have esg : ∀ s, sgAt z'.hs z'.ws s = sgAt z.hs z.ws s := fun s => by unfold sgAt; rw [hws, h8, h.l8]
  refine ⟨h8, by rw [hws]; exact h.w16, by rw [hws]; exact h.wok, h.fit, h.kwr, l1, l2, h.m1, h.m8, h.lft, ?_, ?_, ?_, ?_, h.rise, ?_, ?_⟩
  · intro s s8
    by_cases e : s = a
    · subst e; exact g
    · rw [hoth s s8 e]; exact h.gen s s8
  · intro s s8 s1 h2
    by_cases e : s = a
    · subst e; exact li s1 h2
    · rw [hoth s s8 e] at h2; exact hlv s (h.liv s s8 s1 h2)
  · intro s s8 s1 hs
    have := h.sty s s8 s1 (hsy s hs)
    rw [esg]
    by_cases e : s = a
    · subst e; rw [st hs]; exact this
    · rw [hoth s s8 e]; exact this
  · intro v hv
    obtain ⟨s, b1, b2, b3, b4, b5, b6⟩ := h.vic v hv
    exact ⟨s, b1, b2, b3, hlv s b4, b5, fun hs => b6 (hsy s hs)⟩
  · intro s s1 s2 hs
    exact h.pas s s1 s2 (hsy s hs)
  · intro hI
    obtain ⟨b0, b1, b2, b3, b4, b5⟩ := h.inw hI
    exact ⟨b0, b1, hlv m b2, b3, fun hs => b4 (hsy m hs), fun x hx hs => by rw [esg]; exact b5 x hx (hsy m hs)⟩
theorem op_now {z : SSt} (p : HOp) {a : Nat} (h8 : z.hs.length = 8) (a8 : a < 8) (hp : p.pre = 0) : (z.op p a).hs.length = 8 ∧ (∀ s : Nat, s < 8 → s ≠ a → nowAt (z.op p a).hs s = nowAt z.hs s) ∧ nowAt (z.op p a).hs a = (if p.ok (nowAt z.hs a) then p.nw (nowAt z.hs a) else nowAt z.hs a) := by
  have hh : headAt z.hs (a : Int) = some (nowAt z.hs a) := by rw [nowAt_in (by omega)]; exact getHead (by omega)
  have e : (z.op p a).hs = if p.ok (nowAt z.hs a) then z.hs.set a (p.nw (nowAt z.hs a)) else z.hs := by
    show p.H z.hs a = _
    unfold HOp.H
    rw [if_pos hp, hh]
    rfl
  rw [e]
  split
  · refine ⟨by simpa using h8, fun s s8 ne => ?_, ?_⟩
    · rw [nowAt_set (by omega) _ s (by omega), if_neg ne]
    · rw [nowAt_set (by omega) _ a (by omega), if_pos rfl]
  · exact ⟨h8, fun _ _ _ => rfl, rfl⟩
theorem yes_set {l : List Bool} {a s : Nat} {b : Bool} (h : a < l.length) : yes (l.set a b) s ↔ (if s = a then b = true else yes l s) := by
  unfold yes
  rw [List.getElem?_set]
  by_cases e : s = a
  · subst e; simp [h]
  · rw [if_neg (by omega), if_neg e]
theorem MInv.free (h : MInv hs0 wr m z k sy lv) {a : Nat} (a8 : a < 8) (g : Int) : MInv hs0 wr m (z.op (freeOp g) a) k (sy.set a false) lv := by
  obtain ⟨h1, h2, h3⟩ := op_now (freeOp g) h.l8 a8 rfl
  refine h.turn (z' := z.op (freeOp g) a) a8 rfl h1 h2 (by simpa using h.syl) h.lvl (fun s hs => ?_) (fun s hs => hs) ?_ ?_ ?_
  · rw [yes_set (by rw [h.syl]; exact a8)] at hs
    split at hs
    · cases hs
    · exact hs
  · rw [h3]; split
    · intro e; exact absurd rfl e
    · exact h.gen a a8
  · rw [h3]; split
    · intro _ e; simp [freeOp] at e
    · exact fun a1 => h.liv a a8 a1
  · intro hs
    rw [yes_set (by rw [h.syl]; exact a8), if_pos rfl] at hs
    cases hs
theorem MInv.claim (h : MInv hs0 wr m z k sy lv) {a : Nat} (a8 : a < 8) (a1 : 1 ≤ a) {n : Nat} (hok : HsOk z.hs n) : MInv hs0 wr m (z.op (claimOp 3) a) k sy lv := by
  obtain ⟨h1, h2, h3⟩ := op_now (claimOp 3) h.l8 a8 rfl
  have hg : 0 ≤ (nowAt z.hs a).gn := by
    rw [nowAt_in (by rw [h.l8]; exact a8), List.getD_eq_getElem?_getD, List.getElem?_eq_getElem (by rw [h.l8]; exact a8)]
    exact (hok _ (List.getElem_mem _)).g0
  refine h.turn (z' := z.op (claimOp 3) a) a8 rfl h1 h2 h.syl h.lvl (fun s hs => hs) (fun s hs => hs) ?_ ?_ ?_
  · rw [h3]; split
    · intro _; simp only [claimOp]; omega
    · exact h.gen a a8
  · rw [h3]; split
    · intro _ e; simp [claimOp] at e
    · exact fun a1 => h.liv a a8 a1
  · intro hs
    have hl := (h.sty a a8 a1 hs).1
    simp only [Hd.lives, Bool.and_eq_true, beq_iff_eq] at hl
    rw [h3, if_neg (by simp [claimOp, hl.1])]
theorem MInv.ready (h : MInv hs0 wr m z k sy lv) {a : Nat} (a8 : a < 8) (a1 : 1 ≤ a) (g : Int) : MInv hs0 wr m (z.op (readyOp g 5) a) k sy (lv.set a true) := by
  obtain ⟨h1, h2, h3⟩ := op_now (readyOp g 5) h.l8 a8 rfl
  refine h.turn (z' := z.op (readyOp g 5) a) a8 rfl h1 h2 h.syl (by simpa using h.lvl) (fun s hs => hs) (fun s hs => ?_) ?_ ?_ ?_
  · rw [yes_set (by rw [h.lvl]; exact a8)]
    split
    · rfl
    · exact hs
  · rw [h3]; split
    · rename_i ho
      simp only [readyOp, Bool.and_eq_true, beq_iff_eq] at ho
      intro _
      exact h.gen a a8 (by omega)
    · exact h.gen a a8
  · intro _ _
    rw [yes_set (by rw [h.lvl]; exact a8), if_pos rfl]
  · intro hs
    have hl := (h.sty a a8 a1 hs).1
    simp only [Hd.lives, Bool.and_eq_true, beq_iff_eq] at hl
    rw [h3, if_neg (by simp [readyOp, hl.1])]
/-- A word grows. -/
theorem MInv.put (h : MInv hs0 wr m z k sy lv) {a b x y : Nat} (a8 : a < 8) (b2 : b < 2) (hx : wordR z.ws z.hs.length a b = (x : Int)) (hxy : (x ||| y) < 18446744073709551616) : MInv hs0 wr m (z.put a b ((x ||| y : Nat) : Int)) k sy lv := by
  have hws : (z.put (a : Int) (b : Int) ((x ||| y : Nat) : Int)).ws = z.ws.set (a * 2 + b) ((x ||| y : Nat) : Int) := by
    show putW z.ws z.hs.length a b _ = _
    unfold putW wordAt
    rw [if_pos ⟨by omega, by rw [h.l8]; omega, by omega, by omega⟩]
    rfl
  have hwx : z.ws.getD (a * 2 + b) 0 = (x : Int) := by
    rw [← hx]
    unfold wordR wordAt
    rw [if_pos ⟨by omega, by rw [h.l8]; omega, by omega, by omega⟩]
    rfl
  have hlen : a * 2 + b < z.ws.length := by rw [h.w16]; omega
  have grow : ∀ s : Nat, s < 8 → ∀ c : Nat, ((sgAt z.hs z.ws s).lo &&& c ≠ 0 → (sgAt z.hs (z.put (a : Int) (b : Int) ((x ||| y : Nat) : Int)).ws s).lo &&& c ≠ 0) ∧ ((sgAt z.hs z.ws s).hi &&& c ≠ 0 → (sgAt z.hs (z.put (a : Int) (b : Int) ((x ||| y : Nat) : Int)).ws s).hi &&& c ≠ 0) := by
    intro s s8 c
    obtain ⟨p0, p1⟩ := wordR_in (ws := z.ws) (n := z.hs.length) (k := s) (by rw [h.l8]; exact s8)
    obtain ⟨q0, q1⟩ := wordR_in (ws := (z.put (a : Int) (b : Int) ((x ||| y : Nat) : Int)).ws) (n := z.hs.length) (k := s) (by rw [h.l8]; exact s8)
    unfold sgAt
    simp only
    rw [p0, p1, q0, q1, hws, getD_set _ _ _ _ hlen, getD_set _ _ _ _ hlen]
    refine ⟨fun hc => ?_, fun hc => ?_⟩
    · split
      · rename_i e; rw [← e, hwx] at hc
        simp only [Int.toNat_natCast] at hc ⊢
        exact or_keeps y hc
      · exact hc
    · split
      · rename_i e; rw [← e, hwx] at hc
        simp only [Int.toNat_natCast] at hc ⊢
        exact or_keeps y hc
      · exact hc
  refine ⟨h.l8, by rw [hws]; simpa using h.w16, by rw [hws]; exact h.wok.set _ hxy, h.fit, h.kwr, h.syl, h.lvl, h.m1, h.m8, h.lft, h.gen, h.liv, ?_, h.vic, h.rise, h.pas, ?_⟩
  · intro s s8 s1 hs
    obtain ⟨b1, b3, b4⟩ := h.sty s s8 s1 hs
    refine ⟨b1, b3, ?_⟩
    rw [meets_iff] at b4 ⊢
    rcases b4 with b4 | b4
    · exact .inl ((grow s s8 _).1 b4)
    · exact .inr ((grow s s8 _).2 b4)
  · intro hI
    obtain ⟨b0, b1, b2', b3, b4, b5⟩ := h.inw hI
    refine ⟨b0, b1, b2', b3, b4, fun c hc hs => ?_⟩
    rcases b5 c hc hs with b5 | b5
    · exact .inl b5
    · exact .inr ((grow m b0 _).2 b5)
end
/-- How many steps are left at most. -/
def Lk.todo (k : Lk) : Nat := 3 * k.left.length - (if k.inW then 1 + k.ld.length else 0)
theorem todo_next {k : Lk} (h : k.fit) (hl : k.left ≠ []) (z : SSt) : (k.next z).todo < k.todo := by
  unfold Lk.next
  match hk : k.left with
  | [] => exact absurd hk hl
  | s :: l =>
    have hout := h.out
    have hld := h.ld
    simp only
    cases hI : k.inW with
    | false =>
      simp only [Bool.false_eq_true, if_false]
      unfold Lk.head
      split
      · simp [Lk.todo, hk, hI, hout hI]; omega
      · simp [Lk.todo, Lk.pass, hk, hI]
    | true =>
      simp only [if_true]
      unfold Lk.word
      split
      · rename_i e; simp [Lk.todo, hk, hI, e]; omega
      · rename_i a r e
        rw [e] at hld
        simp at hld
        subst hld
        simp [Lk.todo, Lk.pass, hk, hI, e]; omega
def upTo (g : Nat → Bool) (j : Nat) : List Bool := (List.range 8).map (fun s => decide (1 ≤ s ∧ s < j) && g s)
theorem upTo_len (g : Nat → Bool) (j : Nat) : (upTo g j).length = 8 := by simp [upTo]
theorem upTo_at (g : Nat → Bool) (j s : Nat) (h : s < 8) : (upTo g j)[s]? = some (decide (1 ≤ s ∧ s < j) && g s) := by
  simp [upTo, h]
theorem upTo_set (g : Nat → Bool) (j : Nat) (h1 : 1 ≤ j) (h8 : j < 8) : (upTo g j).set j (g j) = upTo g (j + 1) := by
  apply List.ext_getElem?
  intro s
  by_cases hs : s < 8
  · rw [upTo_at g (j + 1) s hs, List.getElem?_set]
    by_cases e : j = s
    · subst e
      rw [if_pos rfl, if_pos (by rw [upTo_len]; exact hs)]
      simp [h1]
    · rw [if_neg e, upTo_at g j s hs]
      congr 2
      simp only [decide_eq_decide]
      omega
  · rw [List.getElem?_eq_none (by simp [upTo_len]; omega), List.getElem?_eq_none (by simp [upTo_len]; omega)]
theorem upTo_yes (g : Nat → Bool) (s : Nat) : yes (upTo g 8) s ↔ (1 ≤ s ∧ s < 8 ∧ g s = true) := by
  unfold yes
  by_cases hs : s < 8
  · rw [upTo_at g 8 s hs]; simp [hs, and_assoc]
  · rw [List.getElem?_eq_none (by simp [upTo_len]; omega)]
    simp; omega
theorem upTo_one (g : Nat → Bool) : upTo g 1 = List.replicate 8 false := by
  apply List.ext_getElem?
  intro s
  by_cases hs : s < 8
  · rw [upTo_at g 1 s hs, List.getElem?_replicate, if_pos hs]
    congr 1
    simp; omega
  · rw [List.getElem?_eq_none (by simp [upTo_len]; omega), List.getElem?_eq_none (by simp; omega)]
/-- Who has claimed has a generation. -/
def GenOk (hs : List Hd) : Prop := ∀ h, h ∈ hs → h.sa ≠ 0 → 1 ≤ h.gn
theorem GenOk.op {hs : List Hd} (h : GenOk hs) {p : HOp} (hp : ∀ x, x ∈ hs → p.ok x = true → (p.nw x).sa ≠ 0 → 1 ≤ (p.nw x).gn) (i : Int) : GenOk (p.H hs i) := by
  unfold HOp.H
  split
  · split
    · exact h
    · rename_i x hx
      split
      · rename_i ho
        intro y hy
        rcases List.mem_or_eq_of_mem_set hy with hy | rfl
        · exact h y hy
        · exact hp x (headAt_mem hx) ho
      · exact h
  · exact h
theorem GenOk.seat {z : SSt} {c : Cfg} {n : Nat} (h : GenOk z.hs) (ok : z.ok c n) (j : Int) (s : SeD) : GenOk (seatA z j s).hs := by
  have w1 : GenOk (seatW z j s).hs := h
  have c1 : GenOk (seat1 z j s).hs := w1.op (fun x hx ho _ => by
    have := (ok.hd x hx).g0
    show 1 ≤ x.gn + 1
    omega) j
  have r1 : GenOk (seat2 z j s).hs := c1.op (fun x hx ho _ => by
    simp only [readyOp, Bool.and_eq_true, beq_iff_eq] at ho
    exact c1 x hx (by omega)) j
  have d1 : GenOk (seat3 z j s).hs := r1.op (p := doomOp 1 8) (fun x hx ho _ => by
    simp only [doomOp, Bool.and_eq_true, beq_iff_eq] at ho
    show 1 ≤ (if x.dm then x else (⟨x.gn, x.sa, x.sp, x.th, true, 8⟩ : Hd)).gn
    split
    · exact r1 x hx (by omega)
    · exact r1 x hx (by omega)) j
  unfold seatA
  split
  · exact w1
  · split
    · exact c1
    · split
      · exact r1
      · exact d1
theorem seatsZ_gen {z : SSt} {c : Cfg} {n : Nat} (h : GenOk z.hs) (ok : z.ok c n) (f : Nat → SeD) (j : Nat) : GenOk (seatsZ z f j).hs := by
  induction j with
  | zero => exact h
  | succ j ih => exact ih.seat (seatsZ_ok ok f j) _ _
theorem GenOk.at_ {hs : List Hd} (h : GenOk hs) {s : Nat} (hs' : s < hs.length) : (nowAt hs s).sa ≠ 0 → 1 ≤ (nowAt hs s).gn := by
  rw [nowAt_in hs', List.getD_eq_getElem?_getD, List.getElem?_eq_getElem hs']
  exact h _ (List.getElem_mem _)
theorem MInv.first {z : SSt} {c : Cfg} {n : Nat} {wr : Sg} (ok : z.ok c n) (h8 : z.hs.length = 8) (hw : WsOk z.ws) (hwr : wr.ok) (hg : GenOk z.hs) :
    MInv z.hs wr 1 z (Lk.new wr 8 0) (upTo (fun s => isVic z.hs z.ws wr s) 8) (upTo (fun s => (nowAt z.hs s).sa == 2) 8) := by
  refine ⟨h8, by rw [ok.wl, h8], hw, Lk.fit_new hwr (by omega) 0, rfl, upTo_len _ _, upTo_len _ _, Nat.le_refl _, by omega, others0, fun s s8 => hg.at_ (by rw [h8]; exact s8), ?_, ?_, by simp [Lk.new], by simp [Lk.new], fun s s1 s2 => by omega, fun e => by simp [Lk.new] at e⟩
  · intro s s8 s1 h2
    rw [upTo_yes]
    exact ⟨s1, s8, by simpa using h2⟩
  · intro s s8 s1 hs
    rw [upTo_yes] at hs
    have := hs.2.2
    simp only [isVic, Bool.and_eq_true] at this
    exact ⟨this.1, rfl, this.2⟩
end Go.Proofs.Ytpojkkdmlpjfeaa
