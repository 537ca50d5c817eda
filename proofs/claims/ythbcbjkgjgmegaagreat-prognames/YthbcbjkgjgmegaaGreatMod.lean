/- What the calls of a table do to its heads and words, as plain data. -/
import Derived.Test.YthbcbjkgjgmegaaGreatHdAll
namespace Go.Proofs.YthbcbjkgjgmegaaGreat
open Go.RowKit
set_option linter.unusedVariables false
set_option linter.unusedSimpArgs false

/-- Is it a thread's number? -/
def isTh (t : Int) : Bool := decide (1 ≤ t) && decide (t ≤ 8)

/-- The head of a slot, if there is one of that number. -/
def headAt (hs : List Hd) (i : Int) : Option Hd := if 0 ≤ i then hs[i.toNat]? else none
theorem headAt_in {hs : List Hd} {k : Nat} (hk : k < hs.length) : headAt hs (k : Int) = some hs[k] := by
  simp [headAt, hk]
theorem headAt_out {hs : List Hd} {i : Int} (h : ¬ (0 ≤ i ∧ i < hs.length)) : headAt hs i = none := by
  unfold headAt
  split
  · rw [List.getElem?_eq_none]; omega
  · rfl
theorem headAt_cases (hs : List Hd) (i : Int) : (∃ k, ∃ hk : k < hs.length, i = (k : Int) ∧ headAt hs i = some hs[k]) ∨ (¬ (0 ≤ i ∧ i < hs.length) ∧ headAt hs i = none) := by
  by_cases h : 0 ≤ i ∧ i < hs.length
  · left
    obtain ⟨k, rfl⟩ := Int.eq_ofNat_of_zero_le h.1
    have hk : k < hs.length := by have := h.2; omega
    exact ⟨k, hk, rfl, headAt_in hk⟩
  · exact .inr ⟨h, headAt_out h⟩
theorem headAt_mem {hs : List Hd} {i : Int} {h : Hd} (e : headAt hs i = some h) : h ∈ hs := by
  unfold headAt at e
  split at e
  · exact List.mem_of_getElem? e
  · cases e

/-- A call on a head: an error ahead of all, when it is done, what comes of it, the error if it is not. -/
structure HOp where
  pre : Int
  ok : Hd → Bool
  nw : Hd → Hd
  ref : Int
def HOp.E (p : HOp) (hs : List Hd) (i : Int) : Int :=
  if p.pre = 0 then (match headAt hs i with | none => 2 | some h => if p.ok h then 0 else p.ref) else p.pre
def HOp.H (p : HOp) (hs : List Hd) (i : Int) : List Hd :=
  if p.pre = 0 then (match headAt hs i with | none => hs | some h => if p.ok h then hs.set i.toNat (p.nw h) else hs) else hs
def HOp.S (p : HOp) (s : Mt) (hs : List Hd) (i : Int) : Mt :=
  if p.pre = 0 then (match headAt hs i with | none => s | some h => s.note 3 i 3 (p.ok h)) else s
theorem HOp.len (p : HOp) (hs : List Hd) (i : Int) : (p.H hs i).length = hs.length := by
  unfold HOp.H
  split
  · split
    · rfl
    · split
      · simp
      · rfl
  · rfl
theorem HOp.within (p : HOp) {s : Mt} {n : Nat} (h : s.within n) (hs : List Hd) (i : Int) : (p.S s hs i).within (n + 1) := by
  unfold HOp.S
  split
  · split
    · exact h.more (Nat.le_succ _)
    · exact h.note _ _ _ _
  · exact h.more (Nat.le_succ _)
/-- Two calls that do the same to the head that is there. -/
theorem HOp.agree {p q : HOp} {hs : List Hd} {i : Int} (hp : p.pre = 0) (hq : q.pre = 0) (hr : p.ref = q.ref) (h : ∀ x, headAt hs i = some x → p.ok x = q.ok x ∧ (q.ok x = true → p.nw x = q.nw x)) (s : Mt) :
    p.E hs i = q.E hs i ∧ p.H hs i = q.H hs i ∧ p.S s hs i = q.S s hs i := by
  unfold HOp.E HOp.H HOp.S
  rw [hp, hq]
  simp only [if_true]
  cases e : headAt hs i with
  | none => exact ⟨rfl, rfl, rfl⟩
  | some x =>
    obtain ⟨h1, h2⟩ := h x e
    simp only [h1, hr]
    refine ⟨trivial, ?_, trivial⟩
    cases h3 : q.ok x
    · rfl
    · simp only [if_true]; rw [h2 h3]

/-- A plain trade. -/
def trOp (a b : Hd) (ref : Int) : HOp := ⟨0, fun h => h.eq a, fun _ => b, ref⟩
def claimOp (t : Int) : HOp := ⟨if isTh t then 0 else 1, fun h => h.sa == 0, fun h => ⟨h.gn + 1, 1, 0, t, false, 0⟩, 5⟩
def readyOp (g p : Int) : HOp := ⟨if p < 1 then 1 else 0, fun h => h.sa == 1 && h.gn == g, fun h => ⟨h.gn, 2, p, h.th, h.dm, h.wy⟩, 4⟩
def doomOp (g t : Int) : HOp := ⟨if isTh t then 0 else 1, fun h => h.sa == 2 && h.gn == g, fun h => if h.dm then h else ⟨h.gn, h.sa, h.sp, h.th, true, t⟩, 4⟩
def freeOp (g : Int) : HOp := ⟨0, fun h => !(h.sa == 0) && h.gn == g, fun _ => ⟨g, 0, 0, 0, false, 0⟩, 4⟩
/-- What Claim answers beside its error. -/
def claimR (hs : List Hd) (i t : Int) : Int := if isTh t then (match headAt hs i with | none => 0 | some h => if h.sa == 0 then h.gn + 1 else 0) else 0

/-- What a head may be. -/
structure HOk (h : Hd) (n : Nat) : Prop where
  g0 : 0 ≤ h.gn
  g1 : h.gn ≤ n
  st : (h.sa = 0 ∧ h.sp = 0 ∧ h.th = 0 ∧ h.dm = false ∧ h.wy = 0) ∨ (h.sa = 1 ∧ h.sp = 0 ∧ 1 ≤ h.th ∧ h.dm = false ∧ h.wy = 0) ∨ (h.sa = 2 ∧ 1 ≤ h.sp ∧ 1 ≤ h.th ∧ ((h.dm = false ∧ h.wy = 0) ∨ (h.dm = true ∧ 1 ≤ h.wy)))
def HsOk (hs : List Hd) (n : Nat) : Prop := ∀ h, h ∈ hs → HOk h n
theorem HOk.zero (n : Nat) : HOk Hd.zero n := ⟨Int.le_refl _, Int.natCast_nonneg _, .inl ⟨rfl, rfl, rfl, rfl, rfl⟩⟩
theorem HOk.more {h : Hd} {n k : Nat} (e : HOk h n) (hk : n ≤ k) : HOk h k := ⟨e.g0, by have := e.g1; omega, e.st⟩
theorem HsOk.more {hs : List Hd} {n k : Nat} (e : HsOk hs n) (hk : n ≤ k) : HsOk hs k := fun h hm => (e h hm).more hk
theorem HsOk.rep (n k : Nat) : HsOk (List.replicate n Hd.zero) k := fun h hm => by rw [(List.mem_replicate.1 hm).2]; exact HOk.zero k
theorem HsOk.set {hs : List Hd} {n : Nat} (e : HsOk hs n) {x : Hd} (hx : HOk x n) (k : Nat) : HsOk (hs.set k x) n := fun h hm => by
  rcases List.mem_or_eq_of_mem_set hm with hm | rfl
  · exact e h hm
  · exact hx
theorem HOp.keeps {p : HOp} {hs : List Hd} {n : Nat} (e : HsOk hs n) (h : p.pre = 0 → ∀ x, HOk x n → p.ok x = true → HOk (p.nw x) (n + 1)) (i : Int) : HsOk (p.H hs i) (n + 1) := by
  unfold HOp.H
  split
  · rename_i hp
    split
    · exact e.more (Nat.le_succ _)
    · rename_i x hx
      split
      · rename_i ho
        exact (e.more (Nat.le_succ _)).set (h hp x (e x (headAt_mem hx)) ho) _
      · exact e.more (Nat.le_succ _)
  · exact e.more (Nat.le_succ _)
theorem claim_keeps {hs : List Hd} {n : Nat} (e : HsOk hs n) (t i : Int) : HsOk ((claimOp t).H hs i) (n + 1) := by
  refine HOp.keeps e (fun hp x hx ho => ?_) i
  obtain ⟨a, b, c⟩ := hx
  simp only [claimOp] at hp ho ⊢
  have ht : isTh t = true := by
    cases h : isTh t
    · simp [h] at hp
    · rfl
  simp only [isTh, Bool.and_eq_true, decide_eq_true_eq] at ht
  exact ⟨by show 0 ≤ x.gn + 1; omega, by show x.gn + 1 ≤ ((n + 1 : Nat) : Int); omega, .inr (.inl ⟨rfl, rfl, ht.1, rfl, rfl⟩)⟩
theorem ready_keeps {hs : List Hd} {n : Nat} (e : HsOk hs n) (g p i : Int) : HsOk ((readyOp g p).H hs i) (n + 1) := by
  refine HOp.keeps e (fun hp x hx ho => ?_) i
  obtain ⟨a, b, c⟩ := hx
  simp only [readyOp, Bool.and_eq_true, beq_iff_eq] at hp ho ⊢
  have ht : ¬ p < 1 := by
    intro h
    simp [h] at hp
  refine ⟨a, by show x.gn ≤ ((n + 1 : Nat) : Int); omega, .inr (.inr ⟨rfl, by show 1 ≤ p; omega, ?_, ?_⟩)⟩
  · show 1 ≤ x.th
    rcases c with c | c | c <;> omega
  · show (x.dm = false ∧ x.wy = 0) ∨ (x.dm = true ∧ 1 ≤ x.wy)
    rcases c with c | c | c
    · omega
    · exact .inl ⟨c.2.2.2.1, c.2.2.2.2⟩
    · omega
theorem doom_keeps {hs : List Hd} {n : Nat} (e : HsOk hs n) (g t i : Int) : HsOk ((doomOp g t).H hs i) (n + 1) := by
  refine HOp.keeps e (fun hp x hx ho => ?_) i
  have hx' := hx
  obtain ⟨a, b, c⟩ := hx
  simp only [doomOp, Bool.and_eq_true, beq_iff_eq] at hp ho ⊢
  have ht : isTh t = true := by
    cases h : isTh t
    · simp [h] at hp
    · rfl
  simp only [isTh, Bool.and_eq_true, decide_eq_true_eq] at ht
  cases hd : x.dm
  · simp only [Bool.false_eq_true, if_false]
    refine ⟨a, by show x.gn ≤ ((n + 1 : Nat) : Int); omega, .inr (.inr ⟨ho.1, ?_, ?_, .inr ⟨rfl, ht.1⟩⟩)⟩
    · show 1 ≤ x.sp
      rcases c with c | c | c <;> omega
    · show 1 ≤ x.th
      rcases c with c | c | c <;> omega
  · simp only [if_true]
    exact hx'.more (Nat.le_succ _)
theorem free_keeps {hs : List Hd} {n : Nat} (e : HsOk hs n) (g i : Int) : HsOk ((freeOp g).H hs i) (n + 1) := by
  refine HOp.keeps e (fun hp x hx ho => ?_) i
  obtain ⟨a, b, c⟩ := hx
  simp only [freeOp, Bool.and_eq_true, beq_iff_eq] at ho ⊢
  exact ⟨by show 0 ≤ g; omega, by show g ≤ ((n + 1 : Nat) : Int); omega, .inl ⟨rfl, rfl, rfl, rfl, rfl⟩⟩

/-- What the code trades, and what the document says: the same. -/
theorem claim_trade {h : Hd} {n : Nat} (e : HOk h n) : h.eq ⟨h.gn, 0, 0, 0, false, 0⟩ = (h.sa == 0) := by
  obtain ⟨gn, sa, sp, th, dm, wy⟩ := h
  obtain ⟨_, _, c⟩ := e
  simp only [Hd.eq, beq_self_eq_true, Bool.true_and] at c ⊢
  rcases c with ⟨rfl, rfl, rfl, rfl, rfl⟩ | ⟨rfl, c⟩ | ⟨rfl, c⟩ <;> simp
theorem ready_trade {h : Hd} (g : Int) : h.eq ⟨g, 1, h.sp, h.th, h.dm, h.wy⟩ = (h.sa == 1 && h.gn == g) := by
  obtain ⟨gn, sa, sp, th, dm, wy⟩ := h
  simp only [Hd.eq, beq_self_eq_true, Bool.and_true]
  exact Bool.and_comm _ _
theorem doom_trade {h : Hd} (g : Int) : h.eq ⟨g, 2, h.sp, h.th, h.dm, h.wy⟩ = (h.sa == 2 && h.gn == g) := by
  obtain ⟨gn, sa, sp, th, dm, wy⟩ := h
  simp only [Hd.eq, beq_self_eq_true, Bool.and_true]
  exact Bool.and_comm _ _
theorem free_trade {h : Hd} {n : Nat} (e : HOk h n) (g : Int) : h.eq ⟨g, max h.sa 1, h.sp, h.th, h.dm, h.wy⟩ = (!(h.sa == 0) && h.gn == g) := by
  obtain ⟨gn, sa, sp, th, dm, wy⟩ := h
  obtain ⟨_, _, c⟩ := e
  simp only [Hd.eq, beq_self_eq_true, Bool.and_true] at c ⊢
  rw [Bool.and_comm]
  congr 1
  rcases c with ⟨rfl, c⟩ | ⟨rfl, c⟩ | ⟨rfl, c⟩ <;> rfl

/-- The place of a word, if there is one. -/
def wordAt (n : Nat) (i j : Int) : Option Nat := if 0 ≤ i ∧ i < n ∧ 0 ≤ j ∧ j < 2 then some (i.toNat * 2 + j.toNat) else none
theorem wordAt_lt {n : Nat} {i j : Int} {k : Nat} (h : wordAt n i j = some k) : k < n * 2 := by
  unfold wordAt at h
  split at h
  · rename_i c
    obtain ⟨a, b, c, d⟩ := c
    simp only [Option.some.injEq] at h
    omega
  · cases h
end Go.Proofs.YthbcbjkgjgmegaaGreat
