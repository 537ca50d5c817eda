/- A thread's transactions as plain data: what a call and a step make of one, and of the space. No program is named here. What a thread may be; that it stays so. No program is named here. Four threads in one space, as plain data: what a move makes of them. No program is named here. -/
import Derived.Test.YthbcbjkgjgmegaaGreatCmP
import Derived.Test.YthbcbjkgjgmegaaGreatRdF
import Derived.Test.YthbcbjkgjgmegaaGreatBg
import Derived.Test.YthbcbjkgjgmegaaGreatSpE
namespace Go.Proofs.YthbcbjkgjgmegaaGreat
open Go.RowKit
set_option linter.unusedVariables false
set_option linter.unusedSimpArgs false

/-- What the next read goes out from. -/
structure Frm where
  sl : Int
  gn : Int
  sn : Int
  sg : Sg
def Frm.zero : Frm := ⟨0, 0, 0, Sg.zero⟩
/-- What is under way. -/
inductive Dg where
  | rest
  | act
  | beg (b : Bg)
  | rd (r : Rd)
  | leav
  | com (x : Cm)
  | abo (op e x : Int)
structure Tt where
  th : Int
  dg : Dg
  lo : Int
  le : Int
  lx : Int
  sp : Int
  fr : Frm
  rds : List Pr
  wr : List Pr
  df : Int
def Tt.new (th : Int) : Tt := ⟨th, .rest, 0, 0, 0, 0, Frm.zero, [], [], 0⟩
def Dg.phase : Dg → Int
  | .rest => 0
  | .act => 2
  | .beg _ => 1
  | .rd _ => 3
  | .leav => 4
  | .com _ => 4
  | .abo _ _ _ => 5
/-- An event of the thread. -/
def Tt.evn (x : Tt) (kd ce xv : Int) (ow : Bool) (ga er by_ : Int) : Ev := ⟨kd, 0, x.th, x.sp, ce, xv, ow, ga, er, by_⟩
/-- What was written under a cell, if something was. -/
def wrGet (l : List Pr) (ce : Int) : Option Int := (l.find? (fun p => p.ce == ce)).map Pr.x
def wrPut (l : List Pr) (ce x : Int) : List Pr := if (wrGet l ce).isSome then l.map (fun p => if p.ce == ce then ⟨ce, x⟩ else p) else l ++ [⟨ce, x⟩]
/-- There is no room for it. -/
def wrFull (l : List Pr) (ce : Int) : Bool := (wrGet l ce).isNone && (l.length == 16)

/-- Begin. -/
def Tt.beginE (x : Tt) (sp : Int) : Int := if x.dg.phase ≠ 0 then 4 else if sp < 1 then 1 else 0
def Tt.begin_ (x : Tt) (sp : Int) : Tt := if x.beginE sp = 0 then { x with dg := .beg (Bg.new x.th sp), sp := sp, rds := [], wr := [], df := if sp = x.sp then x.df else 0 } else x
/-- Read. -/
def Tt.readE (x : Tt) (c : Cfg) (ce : Int) : Int := if x.dg.phase ≠ 2 then 4 else if (wrGet x.wr ce).isSome then 0 else if inN c.ce ce then 0 else 2
def Tt.read (x : Tt) (c : Cfg) (ce : Int) : Tt :=
  if x.dg.phase ≠ 2 then x else match wrGet x.wr ce with
  | some v => { x with lo := 2, le := 0, lx := v }
  | none => if inN c.ce ce then { x with dg := .rd (Rd.new x.fr.sl x.fr.gn x.fr.sn x.fr.sg ce (bitsOf c.bi ce)) } else x
def Tt.readZ (x : Tt) (ce : Int) (z : SSt) : SSt :=
  if x.dg.phase ≠ 2 then z else match wrGet x.wr ce with
  | some v => z.noted (x.evn 2 ce v true 0 0 0)
  | none => z
/-- Write. -/
def Tt.writeE (x : Tt) (c : Cfg) (ce : Int) : Int := if x.dg.phase ≠ 2 then 4 else if inN c.ce ce = false then 2 else if wrFull x.wr ce then 10 else 0
def Tt.write (x : Tt) (c : Cfg) (ce v : Int) : Tt := if x.writeE c ce = 0 then { x with lo := 3, le := 0, lx := v, wr := wrPut x.wr ce v } else x
def Tt.writeZ (x : Tt) (c : Cfg) (ce v : Int) (z : SSt) : SSt := if x.writeE c ce = 0 then z.noted (x.evn 3 ce v false 0 0 0) else z
/-- Commit. -/
def Tt.commit (x : Tt) (c : Cfg) (n : Nat) : Tt := if x.dg.phase ≠ 2 then x else if x.wr = [] then { x with dg := .leav } else { x with dg := .com (Cm.new x.fr.sl.toNat x.fr.gn x.th x.sp x.wr (ofR (cesOf x.wr) c.bi).1 n) }
def Tt.commitE (x : Tt) : Int := if x.dg.phase ≠ 2 then 4 else 0
/-- Abort. -/
def Tt.abortE (x : Tt) (why : Int) : Int := if x.dg.phase ≠ 2 then 4 else if why = 0 then 1 else 0
def Tt.abort (x : Tt) (why : Int) : Tt := if x.abortE why = 0 then { x with dg := .abo 5 why 0 } else x

/-- Who doomed it, as the head of its slot says. -/
def Tt.doomer (x : Tt) (z : SSt) : Int := (nowAt z.hs x.fr.sl).wy
def Tt.abEv (x : Tt) (e by_ : Int) : Ev := x.evn 5 0 0 false 0 e (if e = 7 then by_ else 0)
def Tt.begun (x : Tt) (b : Bg) : Tt :=
  if b.st ≠ 3 then { x with dg := .beg b } else if b.e = 0 then { x with dg := .act, lo := 1, le := 0, lx := 0, fr := ⟨b.sl, b.gn, 1, Sg.zero⟩ } else { x with dg := .rest, lo := 1, le := b.e, lx := 0 }
def Tt.begunZ (x : Tt) (b : Bg) (z : SSt) : SSt :=
  if b.st ≠ 3 then z else if b.e = 0 then z.noted (x.evn 1 0 0 false z.x.n 0 0) else if b.e = 6 then z.noted (x.evn 6 0 0 false z.x.n 6 0) else z
def Tt.readOn (x : Tt) (r : Rd) : Tt :=
  if r.st ≠ 4 then { x with dg := .rd r } else if r.e = 0 then { x with dg := .act, lo := 2, le := 0, lx := r.va, fr := ⟨r.sl, r.gn, r.sn, r.sg⟩, rds := x.rds ++ [⟨r.ce, r.va⟩] } else { x with dg := .abo 2 r.e 0 }
def Tt.readOnZ (x : Tt) (r : Rd) (z : SSt) : SSt := if r.st = 4 ∧ r.e = 0 then z.noted (x.evn 2 r.ce r.va false r.sn 0 0) else z
def Tt.comOn (x : Tt) (y : Cm) : Tt := if y.done then { x with dg := .rest, lo := 4, le := y.e, lx := 0 } else { x with dg := .com y }
/-- What a commit's step tells: y ahead of it, y' behind. -/
def Tt.wonZ (x : Tt) (y y' : Cm) (z : SSt) : SSt := if y'.won && !y.won then z.noted (x.evn 4 0 0 false y'.num 0 0) else z
def Tt.comZ (x : Tt) (y' : Cm) (by_ : Int) (z : SSt) : SSt := if y'.done && !(y'.e == 0) then z.noted (x.abEv y'.e by_) else z
/-- A step: what comes of the thread, of the space, the answer. -/
def Tt.next (x : Tt) (c : Cfg) (z : SSt) : Tt :=
  match x.dg with
  | .rest => x
  | .act => x
  | .beg b => x.begun (b.next z)
  | .rd r => x.readOn (r.next z)
  | .leav => { x with dg := .rest, lo := 4, le := 0, lx := 0 }
  | .com y => { x with df := y.nextDf c z x.df }.comOn (y.next c z x.df)
  | .abo op e v => { x with dg := .rest, lo := op, le := e, lx := v }
def SSt.steps (z : SSt) (c : Cfg) (x : Tt) : SSt :=
  match x.dg with
  | .rest => z
  | .act => z
  | .beg b => x.begunZ (b.next z) (z.goes b)
  | .rd r => x.readOnZ (r.next z) (z.reads r)
  | .leav => (z.op (freeOp x.fr.gn) x.fr.sl).noted (x.evn 4 0 0 false x.fr.sn 0 0)
  | .com y => x.comZ (y.next c z x.df) (x.doomer z) (x.wonZ y (y.next c z x.df) (z.commits y))
  | .abo _ e _ => (z.op (freeOp x.fr.gn) x.fr.sl).noted (x.abEv e (x.doomer z))
def Tt.ans (x : Tt) (z : SSt) : Int :=
  match x.dg with
  | .rest => 3
  | .act => 3
  | .beg b => b.ans
  | .rd r => r.ans z
  | .leav => 1
  | .com y => y.ans z
  | .abo _ _ _ => 1
end Go.Proofs.YthbcbjkgjgmegaaGreat

namespace Go.Proofs.YthbcbjkgjgmegaaGreat
open Go.RowKit
set_option linter.unusedVariables false
set_option linter.unusedSimpArgs false

/-- What a begin that goes on may be, among n slots. -/
structure Bg.go (b : Bg) (n : Nat) : Prop where
  s0 : 0 ≤ b.sl
  sn : b.sl < n
  st : b.st = 0 ∨ b.st = 1 ∨ b.st = 2
  w0 : 0 ≤ b.wd
  w1 : b.wd ≤ 2
  w : b.st = 1 → b.wd < 2
  wz : b.st = 0 → b.wd = 0
  e : b.e = 0
theorem Bg.go.fine {b : Bg} {n : Nat} (h : b.go n) (h8 : n ≤ 8) : b.fine := ⟨h.s0, by have := h.sn; omega, h.w0, h.w1⟩
theorem Bg.go_new (th sp : Int) {n : Nat} (hn : 1 ≤ n) : (Bg.new th sp).go n := ⟨by simp [Bg.new], by simp only [Bg.new]; omega, .inl rfl, by simp [Bg.new], by simp [Bg.new], by simp [Bg.new], fun _ => rfl, rfl⟩
theorem Bg.go.next {b : Bg} {n : Nat} (h : b.go n) {z : SSt} (hz : z.hs.length = n) : (b.next z).go n ∨ (b.next z).st = 3 := by
  obtain ⟨a1, a2, a3, a4, a5, a6, a7, a8⟩ := h
  unfold Bg.next
  split
  · rename_i e
    have a7 := a7 e
    unfold Bg.claim
    split
    · exact .inl ⟨a1, a2, .inr (.inl rfl), a4, a5, fun _ => by simp only; omega, fun h => by simp at h, a8⟩
    · split
      · exact .inr rfl
      · rename_i hE hl
        rw [hz] at hl
        exact .inl ⟨by simp only; omega, by simp only; omega, a3, a4, a5, fun h => by simp only at h ⊢; omega, fun _ => a7, a8⟩
  · split
    · rename_i e0 e
      have a6 := a6 e
      unfold Bg.clear
      simp only
      by_cases h2 : b.wd + 1 = 2
      · rw [if_pos h2]
        exact .inl ⟨a1, a2, .inr (.inr rfl), by simp only; omega, by simp only; omega, fun h => by simp at h, fun h => by simp at h, a8⟩
      · rw [if_neg h2]
        exact .inl ⟨a1, a2, a3, by simp only; omega, by simp only; omega, fun _ => by simp only; omega, fun h => by simp only at h; omega, a8⟩
    · split
      · exact .inr rfl
      · rename_i e0 e1 e2
        rcases a3 with h | h | h <;> contradiction
/-- One that has come to live has a slot of the table. -/
theorem Bg.go.lives {b : Bg} {n : Nat} (h : b.go n) (z : SSt) (h3 : (b.next z).st = 3) (he : (b.next z).e = 0) : (b.next z).sl = b.sl ∧ b.st = 2 ∧ (b.next z).gn = b.gn ∧ (readyOp b.gn b.sp).E z.hs b.sl = 0 := by
  obtain ⟨a1, a2, a3, a4, a5, a6, a7, a8⟩ := h
  unfold Bg.next at h3 he ⊢
  split at h3
  · rename_i e
    rw [if_pos e] at he ⊢
    unfold Bg.claim at h3 he ⊢
    split at h3
    · simp at h3
    · split at h3
      · rename_i e1 e2
        rw [if_neg e1, if_pos e2] at he
        simp at he
      · simp only at h3
        omega
  · rename_i e0
    rw [if_neg e0] at he ⊢
    split at h3
    · rename_i e
      simp only [Bg.clear] at h3
      split at h3 <;> omega
    · rename_i e1
      rw [if_neg e1] at he ⊢
      split at h3
      · rename_i e2
        rw [if_pos e2] at he ⊢
        exact ⟨rfl, e2, rfl, he⟩
      · omega
structure Tt.fit (x : Tt) (c : Cfg) (n k : Nat) : Prop where
  th1 : 1 ≤ x.th
  th8 : x.th ≤ 8
  sp0 : 0 ≤ x.sp
  lv : x.dg.phase ≠ 0 → 1 ≤ x.sp
  s0 : 0 ≤ x.fr.sl
  sn : x.fr.sl < n
  sg : x.fr.sg.ok
  rl : x.rds.length ≤ k
  wl : x.wr.length ≤ 16
  wc : ∀ p, p ∈ x.wr → inN c.ce p.ce = true
  wd : (cesOf x.wr).Nodup
  df : 0 ≤ x.df
  bg : ∀ b, x.dg = .beg b → b.go n
  rd : ∀ r, x.dg = .rd r → r.fit ∧ 0 ≤ r.sl ∧ r.sl < n
  cm : ∀ y, x.dg = .com y → y.fit n
theorem Tt.fit.more {x : Tt} {c : Cfg} {n k k' : Nat} (h : x.fit c n k) (hk : k ≤ k') : x.fit c n k' :=
  ⟨h.th1, h.th8, h.sp0, h.lv, h.s0, h.sn, h.sg, Nat.le_trans h.rl hk, h.wl, h.wc, h.wd, h.df, h.bg, h.rd, h.cm⟩
theorem Tt.fit_new {th : Int} (h1 : 1 ≤ th) (h8 : th ≤ 8) (c : Cfg) {n : Nat} (hn : 1 ≤ n) (k : Nat) : (Tt.new th).fit c n k :=
  ⟨h1, h8, Int.le_refl _, fun h => absurd rfl h, Int.le_refl _, by simp only [Tt.new, Frm.zero]; omega, Sg.ok_zero, Nat.zero_le _, Nat.zero_le _, fun p hp => by simp [Tt.new] at hp, List.nodup_nil, Int.le_refl _, fun b e => by simp [Tt.new] at e, fun b e => by simp [Tt.new] at e, fun b e => by simp [Tt.new] at e⟩

theorem wrGet_some {l : List Pr} {ce v : Int} (h : wrGet l ce = some v) : ∃ p, p ∈ l ∧ p.ce = ce ∧ p.x = v := by
  unfold wrGet at h
  rw [Option.map_eq_some_iff] at h
  obtain ⟨p, hp, rfl⟩ := h
  exact ⟨p, List.mem_of_find?_eq_some hp, by simpa using List.find?_some hp, rfl⟩
theorem wrGet_none {l : List Pr} {ce : Int} (h : wrGet l ce = none) : ∀ p, p ∈ l → p.ce ≠ ce := by
  intro p hp e
  unfold wrGet at h
  rw [Option.map_eq_none_iff, List.find?_eq_none] at h
  have := h p hp
  simp [e] at this
theorem wrPut_ces (l : List Pr) (ce x : Int) : cesOf (wrPut l ce x) = if (wrGet l ce).isSome then cesOf l else cesOf l ++ [ce] := by
  unfold wrPut
  split
  · unfold cesOf
    rw [List.map_map]
    apply List.map_congr_left
    intro p hp
    simp only [Function.comp]
    split
    · rename_i h; simpa using (beq_iff_eq.1 h).symm
    · rfl
  · simp [cesOf]
theorem wrPut_length (l : List Pr) (ce x : Int) : (wrPut l ce x).length = if (wrGet l ce).isSome then l.length else l.length + 1 := by
  have := congrArg List.length (wrPut_ces l ce x)
  simp only [cesOf, List.length_map] at this
  rw [this]
  split <;> simp
theorem mem_wrPut {l : List Pr} {ce x : Int} {p : Pr} (h : p ∈ wrPut l ce x) : p.ce = ce ∨ p ∈ l := by
  unfold wrPut at h
  split at h
  · obtain ⟨q, hq, rfl⟩ := List.mem_map.1 h
    split
    · exact .inl rfl
    · exact .inr hq
  · rcases List.mem_append.1 h with h | h
    · exact .inr h
    · simp at h
      exact .inl (by rw [h])
theorem ces_nodup_put {l : List Pr} (h : (cesOf l).Nodup) (ce x : Int) : (cesOf (wrPut l ce x)).Nodup := by
  rw [wrPut_ces]
  split
  · exact h
  · rename_i hn
    have hn : wrGet l ce = none := by simpa using hn
    rw [List.nodup_append]
    refine ⟨h, by simp, fun a ha b hb e => ?_⟩
    subst e
    simp at hb
    obtain ⟨p, hp, e⟩ := List.mem_map.1 ha
    exact wrGet_none hn p hp (e.trans hb)
theorem twiceB_nodup {l : List Int} (h : l.Nodup) : twiceB l = false := by
  unfold twiceB
  rw [List.any_eq_false]
  intro i hi
  simp only [List.mem_range] at hi
  simp only [Bool.not_eq_true]
  rw [List.contains_eq_mem, decide_eq_false_iff_not]
  intro hm
  rw [List.mem_take_iff_getElem] at hm
  obtain ⟨j, hj, e⟩ := hm
  have hj2 : j < i := by omega
  have hg : l.getD i 0 = l[i] := by rw [List.getD_eq_getElem?_getD, List.getElem?_eq_getElem hi]; rfl
  rw [hg] at e
  have := (List.pairwise_iff_getElem.1 h) j i (by omega) hi hj2
  exact this e
theorem inN_iff {n i : Int} : inN n i = true ↔ 0 ≤ i ∧ i < n := by simp [inN]
section
variable {x : Tt} {c : Cfg} {n k : Nat}
theorem Tt.fit.ck (h : x.fit c n k) (hl : (n : Int) = c.sl) (h0 : x.wr ≠ []) (h1 : 1 ≤ x.sp) : ckE c (x.fr.sl.toNat : Nat) x.th x.sp x.wr = 0 := by
  have a := h.th1
  have b := h.th8
  have hs := h.s0
  have hs' := h.sn
  unfold ckE
  rw [if_neg (by simp; omega), if_neg (by omega), if_neg h0, if_neg (by have := h.wl; omega)]
  rw [if_neg (by simp [inC]; omega)]
  unfold cellsE
  rw [if_neg, if_neg]
  · rw [twiceB_nodup h.wd]; simp
  · unfold outC
    rw [Bool.not_eq_true, List.any_eq_false]
    intro i hi
    obtain ⟨p, hp, rfl⟩ := List.mem_map.1 hi
    have := inN_iff.1 (h.wc p hp)
    simp [inC]
    omega
theorem Tt.fit.begin_ (h : x.fit c n k) (hn : 1 ≤ n) (sp : Int) : (x.begin_ sp).fit c n k := by
  unfold Tt.begin_
  split
  · rename_i he
    unfold Tt.beginE at he
    split at he
    · omega
    · split at he
      · omega
      · refine ⟨h.th1, h.th8, by simp only; omega, fun _ => by simp only; omega, h.s0, h.sn, h.sg, Nat.zero_le _, Nat.zero_le _, fun p hp => by simp at hp, List.nodup_nil, ?_, ?_, fun r e => by simp at e, fun r e => by simp at e⟩
        · simp only
          split
          · exact h.df
          · omega
        · intro b e
          simp only [Dg.beg.injEq] at e
          subst e
          exact Bg.go_new _ _ hn
  · exact h
theorem Tt.fit.read (h : x.fit c n k) (ce : Int) : (x.read c ce).fit c n k := by
  unfold Tt.read
  split
  · exact h
  · rename_i hp
    have hp : x.dg.phase = 2 := by simpa using hp
    have h1 := h.lv (by omega)
    split
    · exact ⟨h.th1, h.th8, h.sp0, h.lv, h.s0, h.sn, h.sg, h.rl, h.wl, h.wc, h.wd, h.df, h.bg, h.rd, h.cm⟩
    · split
      · refine ⟨h.th1, h.th8, h.sp0, fun _ => h1, h.s0, h.sn, h.sg, h.rl, h.wl, h.wc, h.wd, h.df, fun b e => by simp at e, ?_, fun r e => by simp at e⟩
        intro r e
        simp only [Dg.rd.injEq] at e
        subst e
        exact ⟨Rd.fit_on h.sg (bitsOf_ok _ _), h.s0, h.sn⟩
      · exact h
theorem Tt.fit.write (h : x.fit c n k) (ce v : Int) : (x.write c ce v).fit c n k := by
  unfold Tt.write
  split
  · rename_i he
    unfold Tt.writeE at he
    split at he
    · omega
    · split at he
      · omega
      · split at he
        · omega
        · rename_i hp hc hf
          refine ⟨h.th1, h.th8, h.sp0, h.lv, h.s0, h.sn, h.sg, h.rl, ?_, ?_, ces_nodup_put h.wd _ _, h.df, h.bg, h.rd, h.cm⟩
          · simp only
            rw [wrPut_length]
            have := h.wl
            split
            · exact this
            · rename_i hn
              have hn : wrGet x.wr ce = none := by simpa using hn
              simp [wrFull, hn] at hf
              omega
          · intro p hp
            rcases mem_wrPut hp with e | e
            · rw [e]; simpa using hc
            · exact h.wc p e
  · exact h
theorem Tt.fit.commit (h : x.fit c n k) (hl : (n : Int) = c.sl) (hn : n ≤ 8) : (x.commit c n).fit c n k := by
  unfold Tt.commit
  split
  · exact h
  · rename_i hp
    have hp : x.dg.phase = 2 := by simpa using hp
    have h1 := h.lv (by omega)
    split
    · exact ⟨h.th1, h.th8, h.sp0, fun _ => h1, h.s0, h.sn, h.sg, h.rl, h.wl, h.wc, h.wd, h.df, fun b e => by simp at e, fun b e => by simp at e, fun b e => by simp at e⟩
    · rename_i h0
      refine ⟨h.th1, h.th8, h.sp0, fun _ => h1, h.s0, h.sn, h.sg, h.rl, h.wl, h.wc, h.wd, h.df, fun b e => by simp at e, fun b e => by simp at e, ?_⟩
      intro y e
      simp only [Dg.com.injEq] at e
      subst e
      exact Cm.fit_new (h.ck hl h0 h1) (ofR_ok _ _) hn hl
theorem Tt.fit.abort (h : x.fit c n k) (why : Int) : (x.abort why).fit c n k := by
  unfold Tt.abort
  split
  · rename_i he
    unfold Tt.abortE at he
    split at he
    · omega
    · rename_i hp
      have hp : x.dg.phase = 2 := by simpa using hp
      have h1 := h.lv (by omega)
      exact ⟨h.th1, h.th8, h.sp0, fun _ => h1, h.s0, h.sn, h.sg, h.rl, h.wl, h.wc, h.wd, h.df, fun b e => by simp at e, fun b e => by simp at e, fun b e => by simp at e⟩
  · exact h
theorem Tt.fit.next (h : x.fit c n k) {z : SSt} (hz : z.hs.length = n) (hw : WsOk z.ws) : (x.next c z).fit c n (k + 1) := by
  have hm := h.more (Nat.le_succ k)
  unfold Tt.next
  split
  · exact hm
  · exact hm
  · rename_i b e
    have h1 := h.lv (by rw [e]; simp [Dg.phase])
    have hb := h.bg b e
    unfold Tt.begun
    split
    · rename_i h3
      rcases hb.next hz with hg | hg
      · refine ⟨h.th1, h.th8, h.sp0, fun _ => h1, h.s0, h.sn, h.sg, hm.rl, h.wl, h.wc, h.wd, h.df, ?_, fun b e => by simp at e, fun b e => by simp at e⟩
        intro b' e'
        simp only [Dg.beg.injEq] at e'
        exact e' ▸ hg
      · exact absurd hg h3
    · rename_i h3
      have h3 : (b.next z).st = 3 := by simpa using h3
      split
      · rename_i he
        obtain ⟨q1, q2, q3, q4⟩ := hb.lives z h3 he
        exact ⟨h.th1, h.th8, h.sp0, fun _ => h1, by simp only [q1]; exact hb.s0, by simp only [q1]; exact hb.sn, Sg.ok_zero, hm.rl, h.wl, h.wc, h.wd, h.df, fun b e => by simp at e, fun b e => by simp at e, fun b e => by simp at e⟩
      · exact ⟨h.th1, h.th8, h.sp0, fun _ => h1, h.s0, h.sn, h.sg, hm.rl, h.wl, h.wc, h.wd, h.df, fun b e => by simp at e, fun b e => by simp at e, fun b e => by simp at e⟩
  · rename_i r e
    have h1 := h.lv (by rw [e]; simp [Dg.phase])
    obtain ⟨q1, q2, q3⟩ := h.rd r e
    have hsl : (r.next z).sl = r.sl := by
      unfold Rd.next
      split
      · rfl
      · split
        · rfl
        · split
          · split
            · split <;> rfl
            · rfl
          · split <;> rfl
    unfold Tt.readOn
    split
    · refine ⟨h.th1, h.th8, h.sp0, fun _ => h1, h.s0, h.sn, h.sg, hm.rl, h.wl, h.wc, h.wd, h.df, fun b e => by simp at e, ?_, fun b e => by simp at e⟩
      intro r' e'
      simp only [Dg.rd.injEq] at e'
      subst e'
      exact ⟨q1.next z, by rw [hsl]; exact q2, by rw [hsl]; exact q3⟩
    · split
      · refine ⟨h.th1, h.th8, h.sp0, fun _ => h1, by simp only [hsl]; exact q2, by simp only [hsl]; exact q3, (q1.next z).sg, ?_, h.wl, h.wc, h.wd, h.df, fun b e => by simp at e, fun b e => by simp at e, fun b e => by simp at e⟩
        have := h.rl
        simp only [List.length_append, List.length_singleton]
        omega
      · exact ⟨h.th1, h.th8, h.sp0, fun _ => h1, h.s0, h.sn, h.sg, hm.rl, h.wl, h.wc, h.wd, h.df, fun b e => by simp at e, fun b e => by simp at e, fun b e => by simp at e⟩
  · rename_i e
    have h1 := h.lv (by rw [e]; simp [Dg.phase])
    exact ⟨h.th1, h.th8, h.sp0, fun _ => h1, h.s0, h.sn, h.sg, hm.rl, h.wl, h.wc, h.wd, h.df, fun b e => by simp at e, fun b e => by simp at e, fun b e => by simp at e⟩
  · rename_i y e
    have h1 := h.lv (by rw [e]; simp [Dg.phase])
    have hd := Cm.nextDf_nn y c z h.df
    unfold Tt.comOn
    split
    · exact ⟨h.th1, h.th8, h.sp0, fun _ => h1, h.s0, h.sn, h.sg, hm.rl, h.wl, h.wc, h.wd, hd, fun b e => by simp at e, fun b e => by simp at e, fun b e => by simp at e⟩
    · refine ⟨h.th1, h.th8, h.sp0, fun _ => h1, h.s0, h.sn, h.sg, hm.rl, h.wl, h.wc, h.wd, hd, fun b e => by simp at e, fun b e => by simp at e, ?_⟩
      intro y' e'
      simp only [Dg.com.injEq] at e'
      subst e'
      exact (h.cm y e).next c hw x.df
  · rename_i e
    have h1 := h.lv (by rw [e]; simp [Dg.phase])
    exact ⟨h.th1, h.th8, h.sp0, fun _ => h1, h.s0, h.sn, h.sg, hm.rl, h.wl, h.wc, h.wd, h.df, fun b e => by simp at e, fun b e => by simp at e, fun b e => by simp at e⟩
end

/-- What a step leaves of a space. -/
theorem SSt.ok.goes {z : SSt} {c : Cfg} {k : Nat} (h : z.ok c k) (b : Bg) : (z.goes b).ok c (k + 1) := by
  unfold SSt.goes
  split
  · exact h.op _ _ (claim_keeps h.hd _ _)
  · split
    · exact h.put _ _ _
    · split
      · exact h.op _ _ (ready_keeps h.hd _ _ _)
      · exact h.more (Nat.le_succ _)
theorem SSt.ok.steps {z : SSt} {c : Cfg} {k : Nat} (h : z.ok c k) (x : Tt) : (z.steps c x).ok c (k + 3) := by
  unfold SSt.steps
  split
  · exact h.more (by omega)
  · exact h.more (by omega)
  · rename_i b _
    have h1 := h.goes b
    unfold Tt.begunZ
    split
    · exact h1.more (by omega)
    · split
      · exact (h1.noted _).more (by omega)
      · split
        · exact (h1.noted _).more (by omega)
        · exact h1.more (by omega)
  · rename_i r _
    have h1 := h.reads r
    unfold Tt.readOnZ
    split
    · exact (h1.noted _).more (by omega)
    · exact h1.more (by omega)
  · exact ((h.op _ _ (free_keeps h.hd _ _)).noted _).more (by omega)
  · rename_i y _
    have h1 := h.commits y
    have h2 : ∀ q, (x.wonZ y q (z.commits y)).ok c (k + 2) := by
      intro q
      unfold Tt.wonZ
      split
      · exact h1.noted _
      · exact h1.more (by omega)
    unfold Tt.comZ
    split
    · exact ((h2 _).noted _)
    · exact (h2 _).more (by omega)
  · exact ((h.op _ _ (free_keeps h.hd _ _)).noted _).more (by omega)
theorem WsOk.steps {z : SSt} (h : WsOk z.ws) (c : Cfg) (x : Tt) (hf : ∀ r, x.dg = .rd r → r.fit) : WsOk (z.steps c x).ws := by
  unfold SSt.steps
  split
  · exact h
  · exact h
  · rename_i b _
    have h1 : WsOk (z.goes b).ws := by
      unfold SSt.goes
      split
      · exact h
      · split
        · exact h.put _ _ _ (x := 0) (by decide)
        · split <;> exact h
    unfold Tt.begunZ
    split
    · exact h1
    · split
      · exact h1
      · split <;> exact h1
  · rename_i r e
    have hr := hf r e
    have h1 : WsOk (z.reads r).ws := by
      unfold SSt.reads
      split
      · exact h.put _ _ _ (word_lt (Sg.ok_join hr.sg hr.bi) _)
      · split
        · exact h
        · split
          · exact h
          · split <;> exact h
    unfold Tt.readOnZ
    split <;> exact h1
  · exact h
  · rename_i y _
    have h1 : WsOk (z.commits y).ws := by rw [SSt.commits_ws]; exact h
    have h2 : ∀ q, WsOk (x.wonZ y q (z.commits y)).ws := by
      intro q
      unfold Tt.wonZ
      split <;> exact h1
    unfold Tt.comZ
    split <;> exact h2 _
  · exact h
theorem SSt.steps_len {z : SSt} {c : Cfg} {k : Nat} (h : z.ok c k) (x : Tt) : (z.steps c x).hs.length = z.hs.length := by
  have a := (h.steps x).hl
  have b := h.hl
  omega
end Go.Proofs.YthbcbjkgjgmegaaGreat

namespace Go.Proofs.YthbcbjkgjgmegaaGreat
open Go.RowKit
set_option linter.unusedVariables false
set_option linter.unusedSimpArgs false

/-- One move, as it comes in. -/
structure Mv where
  th : Int
  kd : Int
  n : Int
  ce : Int
  x : Int
def Mv.k (m : Mv) : Nat := (m.th % 4).toNat
theorem Mv.k_lt (m : Mv) : m.k < 4 := by unfold Mv.k; omega
/-- Threads, the stamps of their transactions, how many moves there were. -/
structure Gp where
  z : SSt
  ts : Nat → Tt
  sm : Nat → Int
  st : Int
def upd {α : Type} (f : Nat → α) (k : Nat) (a : α) : Nat → α := fun j => if j = k then a else f j
theorem upd_same {α : Type} (f : Nat → α) (k : Nat) (a : α) : upd f k a k = a := by simp [upd]
theorem upd_ne {α : Type} (f : Nat → α) {j k : Nat} (h : j ≠ k) (a : α) : upd f k a j = f j := by simp [upd, h]
theorem upd_self {α : Type} (f : Nat → α) (k : Nat) : upd f k (f k) = f := by funext j; unfold upd; split <;> simp_all
theorem upd_upd {α : Type} (f : Nat → α) (k : Nat) (a b : α) : upd (upd f k a) k b = upd f k b := by funext j; unfold upd; split <;> rfl
/-- A transaction of its own, or the one that was aborted by others again. -/
def Gp.again (g : Gp) (k : Nat) : Int :=
  if g.sm k = 0 ∨ ((g.ts k).le ≠ 7 ∧ (g.ts k).le ≠ 9 ∧ (g.ts k).le ≠ 8 ∧ (g.ts k).le ≠ 6) then g.st + 1 else g.sm k
def cellOf (c : Cfg) (m : Mv) : Int := (m.ce % 256) % c.ce
/-- What is called ahead of the step. -/
def callT (x : Tt) (c : Cfg) (n : Nat) (m : Mv) (sp : Int) : Tt :=
  if x.dg.phase = 0 then x.begin_ sp else if x.dg.phase = 2 then
    (if m.n % 8 < 3 then x.read c (cellOf c m) else if m.n % 8 < 6 then x.write c (cellOf c m) m.x else if m.n % 8 = 6 then x.commit c n else x.abort 3) else x
def callZ (x : Tt) (c : Cfg) (m : Mv) (z : SSt) : SSt :=
  if x.dg.phase = 2 then (if m.n % 8 < 3 then x.readZ (cellOf c m) z else if m.n % 8 < 6 then x.writeZ c (cellOf c m) m.x z else z) else z
def Gp.smOf (g : Gp) (k : Nat) : Int := if (g.ts k).dg.phase = 0 then g.again k else g.sm k
/-- The thread and the space ahead of its step. -/
def Gp.preT (g : Gp) (c : Cfg) (m : Mv) : Tt := callT (g.ts m.k) c g.z.hs.length m (g.again m.k)
def Gp.preZ (g : Gp) (c : Cfg) (m : Mv) : SSt := callZ (g.ts m.k) c m (g.z.turn (m.k + 1))
def Gp.goes (g : Gp) (c : Cfg) (m : Mv) : Gp :=
  ⟨(g.preZ c m).steps c (g.preT c m), upd g.ts m.k ((g.preT c m).next c (g.preZ c m)), upd g.sm m.k (g.smOf m.k), g.st + 1⟩
def Gp.ans (g : Gp) (c : Cfg) (m : Mv) : Int := (g.preT c m).ans (g.preZ c m)
def Gp.new (c : Cfg) (l : List Int) : Gp := ⟨(SSt.zero c).fill l, fun k => Tt.new (k + 1), fun _ => 0, 0⟩

/-- What four threads may be behind so many calls. -/
structure Gp.ok (g : Gp) (c : Cfg) (k : Nat) : Prop where
  f : c.fits = true
  z : g.z.ok c k
  ws : WsOk g.z.ws
  ts : ∀ j, j < 4 → (g.ts j).fit c g.z.hs.length k
  th : ∀ j, j < 4 → (g.ts j).th = j + 1
  st : 0 ≤ g.st
  sk : g.st ≤ k
  sm : ∀ j, j < 4 → 0 ≤ g.sm j
theorem SSt.ok.turn_hs {z : SSt} (t : Int) : (z.turn t).hs = z.hs := rfl
section
variable {x : Tt} {c : Cfg} {z : SSt} {k : Nat}
theorem SSt.ok.callZ (h : z.ok c k) (x : Tt) (m : Mv) : (callZ x c m z).ok c (k + 1) := by
  have h1 := h.more (Nat.le_succ k)
  unfold Go.Proofs.YthbcbjkgjgmegaaGreat.callZ
  split
  · split
    · unfold Tt.readZ
      split
      · exact h1
      · split
        · exact h.noted _
        · exact h1
    · split
      · unfold Tt.writeZ
        split
        · exact h.noted _
        · exact h1
      · exact h1
  · exact h1
theorem callZ_ws (x : Tt) (m : Mv) (z : SSt) : (callZ x c m z).ws = z.ws ∧ (callZ x c m z).hs = z.hs ∧ (callZ x c m z).xs = z.xs ∧ (callZ x c m z).x = z.x ∧ (callZ x c m z).s = z.s := by
  unfold callZ
  split
  · split
    · unfold Tt.readZ
      split
      · exact ⟨rfl, rfl, rfl, rfl, rfl⟩
      · split <;> exact ⟨rfl, rfl, rfl, rfl, rfl⟩
    · split
      · unfold Tt.writeZ
        split <;> exact ⟨rfl, rfl, rfl, rfl, rfl⟩
      · exact ⟨rfl, rfl, rfl, rfl, rfl⟩
  · exact ⟨rfl, rfl, rfl, rfl, rfl⟩
theorem Tt.fit.callT {n : Nat} (h : x.fit c n k) (hl : (n : Int) = c.sl) (h1 : 1 ≤ n) (h8 : n ≤ 8) (m : Mv) (sp : Int) : (callT x c n m sp).fit c n k := by
  unfold Go.Proofs.YthbcbjkgjgmegaaGreat.callT
  split
  · exact h.begin_ h1 sp
  · split
    · split
      · exact h.read _
      · split
        · exact h.write _ _
        · split
          · exact h.commit hl h8
          · exact h.abort _
    · exact h
theorem begin_th (x : Tt) (sp : Int) : (x.begin_ sp).th = x.th := by unfold Tt.begin_; split <;> rfl
theorem read_th (x : Tt) (c : Cfg) (ce : Int) : (x.read c ce).th = x.th := by
  unfold Tt.read
  split
  · rfl
  · split
    · rfl
    · split <;> rfl
theorem callT_th (x : Tt) (c : Cfg) (n : Nat) (m : Mv) (sp : Int) : (callT x c n m sp).th = x.th := by
  unfold callT
  split
  · exact begin_th _ _
  · split
    · split
      · exact read_th _ _ _
      · split
        · unfold Tt.write; split <;> rfl
        · split
          · unfold Tt.commit; split
            · rfl
            · split <;> rfl
          · unfold Tt.abort; split <;> rfl
    · rfl
theorem next_th (x : Tt) (c : Cfg) (z : SSt) : (x.next c z).th = x.th := by
  unfold Tt.next
  split
  · rfl
  · rfl
  · unfold Tt.begun
    split
    · rfl
    · split <;> rfl
  · unfold Tt.readOn
    split
    · rfl
    · split <;> rfl
  · rfl
  · unfold Tt.comOn; split <;> rfl
  · rfl
end
section
variable {g : Gp} {c : Cfg} {k : Nat}
theorem Gp.ok.preZ (h : g.ok c k) (m : Mv) : (g.preZ c m).ok c (k + 2) := (h.z.turn _).callZ _ _
theorem Gp.ok.preHs (h : g.ok c k) (m : Mv) : (g.preZ c m).hs = g.z.hs := (callZ_ws _ _ _).2.1
theorem Gp.ok.preT (h : g.ok c k) (m : Mv) : (g.preT c m).fit c g.z.hs.length k := (h.ts m.k m.k_lt).callT h.z.hl h.z.h1 h.z.h8 m _
theorem Gp.ok.preW (h : g.ok c k) (m : Mv) : WsOk (g.preZ c m).ws := by
  have := (callZ_ws (c := c) (g.ts m.k) m (g.z.turn (m.k + 1))).1
  unfold Gp.preZ
  rw [this]
  exact h.ws
theorem Gp.ok.goes (h : g.ok c k) (m : Mv) : (g.goes c m).ok c (k + 5) := by
  have hz := (h.preZ m).steps (g.preT c m)
  have hl : ((g.preZ c m).steps c (g.preT c m)).hs.length = g.z.hs.length := by rw [SSt.steps_len (h.preZ m), h.preHs m]
  refine ⟨h.f, hz, (h.preW m).steps c _ (fun r e => ((h.preT m).rd r e).1), ?_, ?_, ?_, ?_, ?_⟩
  · intro j hj
    simp only [Gp.goes]
    rw [hl]
    by_cases e : j = m.k
    · subst e
      rw [upd_same]
      exact ((h.preT m).next (by rw [h.preHs m]) (h.preW m)).more (by omega)
    · rw [upd_ne _ e]
      exact (h.ts j hj).more (by omega)
  · intro j hj
    simp only [Gp.goes]
    by_cases e : j = m.k
    · subst e
      rw [upd_same, next_th, Gp.preT, callT_th]
      exact h.th _ hj
    · rw [upd_ne _ e]
      exact h.th j hj
  · have := h.st
    simp only [Gp.goes]
    omega
  · have := h.sk
    simp only [Gp.goes]
    push_cast
    omega
  · intro j hj
    have := h.st
    have h2 := h.sm j hj
    simp only [Gp.goes]
    by_cases e : j = m.k
    · subst e
      rw [upd_same]
      unfold Gp.smOf Gp.again
      split
      · split
        · omega
        · exact h2
      · exact h2
    · rw [upd_ne _ e]
      exact h2
end
theorem Gp.ok_new {c : Cfg} (h : c.fits = true) (l : List Int) : (Gp.new c l).ok c 1 := by
  have h0 := (SSt.ok_zero c h 0).fill l
  refine ⟨h, h0, WsOk.rep _, ?_, fun j _ => rfl, Int.le_refl _, by simp [Gp.new], fun _ _ => Int.le_refl _⟩
  intro j hj
  exact Tt.fit_new (by omega) (by omega) c h0.h1 _
end Go.Proofs.YthbcbjkgjgmegaaGreat
