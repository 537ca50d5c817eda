/- Steps that are left to four threads of which none begins anew. No program is named here. -/
import Derived.Test.YtnchfomoaonbkaaGreatTxN
namespace Go.Proofs.YtnchfomoaonbkaaGreat
open Go.RowKit
set_option linter.unusedVariables false
set_option linter.unusedSimpArgs false

theorem less_self (x y : Nat) : less x (y ||| x) = 0 := by
  refine Nat.eq_of_testBit_eq fun i => ?_
  rw [testBit_less, Nat.testBit_or, Nat.zero_testBit]
  cases x.testBit i <;> cases y.testBit i <;> rfl
theorem or_of_less {x y : Nat} (h : less x y = 0) : y ||| x = y := by
  refine Nat.eq_of_testBit_eq fun i => ?_
  have := congrArg (fun n => n.testBit i) h
  simp only [testBit_less, Nat.zero_testBit] at this
  rw [Nat.testBit_or]
  cases hx : x.testBit i <;> cases hy : y.testBit i <;> simp_all
theorem words_eq (d : Sg) : d.words = (if d.lo ≠ 0 then [0] else []) ++ (if d.hi ≠ 0 then [1] else []) := by
  unfold Sg.words
  rw [wordsBelow_succ, wordsBelow_succ]
  have h0 : wordsBelow d 0 = [] := rfl
  rw [h0]
  by_cases h1 : d.lo = 0 <;> by_cases h2 : d.hi = 0 <;> simp [word, h1, h2]
/-- Nothing is missing. -/
theorem Rd.miss_nil {r : Rd} : r.miss = [] ↔ r.sg.join r.bi = r.sg := by
  have e : r.miss = (if less r.bi.lo r.sg.lo ≠ 0 then [0] else []) ++ (if less r.bi.hi r.sg.hi ≠ 0 then [1] else []) := words_eq _
  rw [e]
  constructor
  · intro h
    have h1 : less r.bi.lo r.sg.lo = 0 := by
      by_cases h1 : less r.bi.lo r.sg.lo = 0
      · exact h1
      · rw [if_pos h1] at h; simp at h
    have h2 : less r.bi.hi r.sg.hi = 0 := by
      by_cases h2 : less r.bi.hi r.sg.hi = 0
      · exact h2
      · rw [if_pos h2] at h; simp at h
    unfold Sg.join
    rw [or_of_less h1, or_of_less h2]
  · intro h
    unfold Sg.join at h
    have a : r.sg.lo ||| r.bi.lo = r.sg.lo := congrArg Sg.lo h
    have b : r.sg.hi ||| r.bi.hi = r.sg.hi := congrArg Sg.hi h
    have h1 : less r.bi.lo r.sg.lo = 0 := by rw [← a]; exact less_self _ _
    have h2 : less r.bi.hi r.sg.hi = 0 := by rw [← b]; exact less_self _ _
    rw [h1, h2]
    rfl
/-- What a step that publishes makes of the signature, and of what is missing. -/
theorem Rd.pub_ways {r : Rd} (h : r.miss ≠ []) :
    (r.miss.headD 0 = 0 ∧ r.pub.sg = ⟨r.sg.lo ||| r.bi.lo, r.sg.hi⟩ ∨ r.miss.headD 0 = 1 ∧ r.pub.sg = ⟨r.sg.lo, r.sg.hi ||| r.bi.hi⟩) ∧ r.pub.sg.join r.bi = r.sg.join r.bi ∧ r.pub.miss.length + 1 = r.miss.length := by
  have e : r.miss = (if less r.bi.lo r.sg.lo ≠ 0 then [0] else []) ++ (if less r.bi.hi r.sg.hi ≠ 0 then [1] else []) := words_eq _
  have e2 : r.pub.miss = (if less r.bi.lo r.pub.sg.lo ≠ 0 then [0] else []) ++ (if less r.bi.hi r.pub.sg.hi ≠ 0 then [1] else []) := words_eq _
  have es : r.pub.sg = r.sg.setW (r.miss.headD 0) (r.both (r.miss.headD 0)) := rfl
  have oo : ∀ x y : Nat, x ||| y ||| y = x ||| y := fun x y => by rw [Nat.or_assoc, Nat.or_self]
  by_cases h1 : less r.bi.lo r.sg.lo = 0
  · have h2 : less r.bi.hi r.sg.hi ≠ 0 := by
      intro h2
      rw [h1, h2] at e
      exact h e
    have em : r.miss = [1] := by rw [e, h1, if_pos h2]; rfl
    have es2 : r.pub.sg = ⟨r.sg.lo, r.sg.hi ||| r.bi.hi⟩ := by rw [es, em]; rfl
    refine ⟨.inr ⟨by rw [em]; rfl, es2⟩, ?_, ?_⟩
    · rw [es2]; unfold Sg.join; simp only [oo]
    · rw [e2, es2, em]
      simp only [h1, less_self]
      rfl
  · have em : r.miss = 0 :: (if less r.bi.hi r.sg.hi ≠ 0 then [1] else []) := by rw [e, if_pos h1]; rfl
    have es2 : r.pub.sg = ⟨r.sg.lo ||| r.bi.lo, r.sg.hi⟩ := by rw [es, em]; rfl
    refine ⟨.inl ⟨by rw [em]; rfl, es2⟩, ?_, ?_⟩
    · rw [es2]; unfold Sg.join; simp only [oo]
    · rw [e2, es2, em]
      simp only [less_self]
      simp


theorem miss_le (r : Rd) : r.miss.length ≤ 2 := by
  have e : r.miss = (if less r.bi.lo r.sg.lo ≠ 0 then [0] else []) ++ (if less r.bi.hi r.sg.hi ≠ 0 then [1] else []) := words_eq _
  rw [e, List.length_append]
  have h1 : (if less r.bi.lo r.sg.lo ≠ 0 then [0] else []).length ≤ 1 := by split <;> simp
  have h2 : (if less r.bi.hi r.sg.hi ≠ 0 then [1] else []).length ≤ 1 := by split <;> simp
  omega
/-- Steps left to a read; n is the gate's number. -/
def Rd.pt (r : Rd) (n : Int) : Nat :=
  if r.st = 0 then r.miss.length + 3 + (if r.sn = n then 0 else 2) else if r.st = 1 then 3 + (if r.sn = n then 0 else 2) else if r.st = 2 then 2 + (if r.sn = n then 0 else 2) else if r.st = 3 then 1 else 0
def Cm.pt (y : Cm) : Nat :=
  match y.st with
  | .take => 64
  | .free => 1
  | .over => 0
  | _ => y.mu + 6
def Bg.pt (b : Bg) : Nat := if b.st = 0 then 68 + (8 - b.sl.toNat) else if b.st = 1 then 66 + (2 - b.wd.toNat) else 66
def Tt.pt (x : Tt) (n : Int) : Nat :=
  match x.dg with
  | .rest => 0
  | .act => 65
  | .beg b => b.pt
  | .rd r => 65 + r.pt n
  | .leav => 1
  | .com y => y.pt
  | .abo _ _ _ => 1
theorem Tt.pt_other (x : Tt) (n n' : Int) : x.pt n' ≤ x.pt n + 2 := by
  unfold Tt.pt
  cases x.dg with
  | rd r =>
    simp only [Rd.pt]
    repeat' split
    all_goals omega
  | _ => simp only; omega
theorem Cm.mu_le {y : Cm} {n : Nat} (hf : y.fit n) (h : y.st.holds = true) : 2 ≤ y.mu := by
  unfold Cm.mu
  cases hst : y.st <;> rw [hst] at h <;> first | (simp only; omega) | (simp [Stg.holds] at h)
theorem Tt.pt_le {x : Tt} {c : Cfg} {n k : Nat} (hx : x.fit c n k) (h8 : n ≤ 8) (a : Int) : x.pt a ≤ 76 := by
  unfold Tt.pt
  cases hd : x.dg with
  | beg b =>
    simp only [Bg.pt]
    repeat' split
    all_goals omega
  | rd r =>
    have := miss_le r
    simp only [Rd.pt]
    repeat' split
    all_goals omega
  | com y =>
    have hf := hx.cm y hd
    have a1 := hf.w16
    have a2 := hf.lk.lv
    have a3 := hf.lk.vn
    have a4 : y.lk.mu ≤ 3 * y.lk.left.length := by unfold Lk.mu; omega
    simp only [Cm.pt]
    cases hst : y.st with
    | doom d =>
      have := (hf.dm d hst).2
      simp only [Cm.mu, hst]
      omega
    | _ =>
      simp only [Cm.mu, hst]
      omega
  | _ => simp only; omega
theorem Rd.pt_next {r : Rd} (hf : r.fit) (z : SSt) (h4 : r.st ≠ 4) : (r.st = 2 ∧ z.x.n % 2 ≠ 0 ∧ r.next z = r) ∨ ((r.next z).pt z.x.n + 1 ≤ r.pt z.x.n) := by
  have hs := hf.st
  by_cases h0 : r.st = 0
  · right
    have hne := hf.pub h0
    have hw := (Rd.pub_ways hne).2.2
    have e : r.next z = r.pub := by unfold Rd.next; rw [if_pos h0]
    have esn : r.pub.sn = r.sn := rfl
    have est : r.pub.st = 0 ∨ r.pub.st = 1 := by
      unfold Rd.pub Rd.on
      simp only
      split
      · exact .inr rfl
      · exact .inl rfl
    rw [e]
    have eh : r.pt z.x.n = r.miss.length + 3 + (if r.sn = z.x.n then 0 else 2) := by unfold Rd.pt; rw [if_pos h0]
    rw [eh]
    rcases est with q | q
    · have : r.pub.pt z.x.n = r.pub.miss.length + 3 + (if r.pub.sn = z.x.n then 0 else 2) := by unfold Rd.pt; rw [if_pos q]
      rw [this, esn]
      omega
    · have : r.pub.pt z.x.n = 3 + (if r.pub.sn = z.x.n then 0 else 2) := by unfold Rd.pt; rw [if_neg (by omega), if_pos q]
      rw [this, esn]
      have := List.length_pos_iff.2 hne
      omega
  · by_cases h1 : r.st = 1
    · right
      have e : r.next z = { r with va := loadR z.xs r.ce, st := 2 } := by unfold Rd.next; rw [if_neg h0, if_pos h1]
      rw [e]
      simp only [Rd.pt, h1]
      simp
      omega
    · by_cases h2 : r.st = 2
      · by_cases hn : z.x.n % 2 = 0
        · right
          by_cases he : z.x.n = r.sn
          · have e : r.next z = { r with st := 3 } := by unfold Rd.next; rw [if_neg h0, if_neg h1, if_pos h2, if_pos hn, if_pos he]
            rw [e]
            simp only [Rd.pt, h2]
            simp
            try omega
          · have e : r.next z = { r with sn := z.x.n, st := 1 } := by unfold Rd.next; rw [if_neg h0, if_neg h1, if_pos h2, if_pos hn, if_neg he]
            rw [e]
            have he' : ¬ r.sn = z.x.n := fun q => he q.symm
            simp only [Rd.pt, h2]
            simp [he']
        · left
          refine ⟨h2, hn, ?_⟩
          unfold Rd.next
          rw [if_neg h0, if_neg h1, if_pos h2, if_neg hn]
      · right
        have h3 : r.st = 3 := by omega
        have e : r.next z = { r with st := 4, e := if r.fair (nowAt z.hs r.sl) then 0 else 7 } := by unfold Rd.next; rw [if_neg h0, if_neg h1, if_neg h2, if_pos h3]
        rw [e]
        simp [Rd.pt, h3]
theorem Bg.pt_next {b : Bg} {n : Nat} (hb : b.go n) (h8 : n ≤ 8) {z : SSt} (hz : z.hs.length = n) : ((b.next z).st ≠ 3 ∧ (b.next z).pt + 1 ≤ b.pt) ∨ ((b.next z).st = 3 ∧ 66 ≤ b.pt) := by
  have s0 := hb.s0
  have sn := hb.sn
  have w0 := hb.w0
  unfold Bg.next
  rcases hb.st with h | h | h
  · rw [if_pos h]
    have hw := hb.wz h
    unfold Bg.claim
    split
    · left
      simp [Bg.pt, h, hw]
      omega
    · split
      · right
        simp [Bg.pt, h]
        try omega
      · left
        simp [Bg.pt, h]
        omega
  · rw [if_neg (by omega), if_pos h]
    have hw := hb.w h
    left
    by_cases e : b.wd + 1 = 2
    · simp [Bg.clear, Bg.pt, h, e]
      omega
    · simp [Bg.clear, Bg.pt, h, e]
      omega
  · rw [if_neg (by omega), if_neg (by omega), if_pos h]
    right
    simp [Bg.over, Bg.pt, h]
theorem Cm.pt_hold {y : Cm} (h : y.st.holds = true) : y.pt = y.mu + 6 := by
  unfold Cm.pt
  cases hst : y.st <;> rw [hst] at h <;> first | rfl | (simp [Stg.holds] at h)
/-- A commit's step: it waits, or it goes on, the gate's number as it was or not. -/
theorem Cm.pt_next {y : Cm} {c : Cfg} {z : SSt} {df : Int} {n : Nat} (hf : y.fit n) (hth : gTh y.th = true) (hov : y.st ≠ .over) (hl : y.st = .look → y.lk.left ≠ []) (hh : y.st.holds = true ↔ z.x.o = y.th) :
    (z.x.o ≠ 0 ∧ z.x.o ≠ y.th ∧ y.next c z df = y ∧ (z.commits y).x = z.x) ∨ ((z.commits y).x = z.x ∧ (y.next c z df).pt + 1 ≤ y.pt) ∨ ((y.next c z df).pt + 7 ≤ y.pt) := by
  have t1 : 1 ≤ y.th := by simp [gTh] at hth; omega
  have a1 := hf.w16
  have a2 := hf.lk.lv
  have a3 := hf.lk.vn
  by_cases htk : y.st = .take
  · have hne : z.x.o ≠ y.th := fun e => by have := hh.2 e; rw [htk] at this; simp [Stg.holds] at this
    by_cases h0 : z.x.o = 0
    · right; right
      have e1 : takeE z.x y.th = 0 := by simp [takeE, hth, h0]
      have e2 : y.next c z df = { y with num := takeR z.x y.th, st := .own } := by unfold Cm.next; rw [htk]; simp only; rw [if_pos e1]
      rw [e2]
      simp only [Cm.pt, htk, Cm.mu]
      omega
    · left
      have e1 : takeE z.x y.th ≠ 0 := by simp [takeE, hth, h0]
      refine ⟨h0, hne, ?_, ?_⟩
      · unfold Cm.next; rw [htk]; simp only; rw [if_neg e1]
      · unfold SSt.commits; rw [htk]; simp [SSt.take, takeX, h0]
  · obtain ⟨m1, m2, m3, m4⟩ := Cm.mu_next (c := c) (z := z) (df := df) hf htk hov hl
    cases hst : y.st with
    | take => exact absurd hst htk
    | over => exact absurd hst hov
    | free =>
      right; left
      refine ⟨by unfold SSt.commits; rw [hst]; rfl, ?_⟩
      unfold Cm.next
      rw [hst]
      simp [Cm.pt, hst]
    | give =>
      right; right
      unfold Cm.next
      rw [hst]
      simp [Cm.pt, hst, Cm.mu]
    | up =>
      right; right
      unfold Cm.next
      rw [hst]
      simp [Cm.pt, hst, Cm.mu]
    | own =>
      right; left
      refine ⟨by unfold SSt.commits; rw [hst]; rfl, ?_⟩
      have hn : (y.next c z df).st.holds = true := by
        unfold Cm.next
        rw [hst]
        simp only
        split
        · exact (lookOn_st y c df).1
        · rfl
      rw [Cm.pt_hold hn, Cm.pt_hold (y := y) (by rw [hst]; rfl)]
      omega
    | look =>
      right; left
      refine ⟨?_, ?_⟩
      · unfold SSt.commits
        rw [hst]
        simp only [SSt.looks]
        split
        · rfl
        · split <;> rfl
      have hn : (y.next c z df).st.holds = true := by
        unfold Cm.next
        rw [hst]
        exact (lookOn_st (y.looked z) c df).1
      rw [Cm.pt_hold hn, Cm.pt_hold (y := y) (by rw [hst]; rfl)]
      omega
    | doom d =>
      right; left
      refine ⟨?_, ?_⟩
      · unfold SSt.commits
        rw [hst]
        simp only [SSt.dooms]
        split <;> rfl
      have hn : (y.next c z df).st.holds = true := by
        unfold Cm.next
        rw [hst]
        simp only [Cm.doomOn]
        split <;> rfl
      rw [Cm.pt_hold hn, Cm.pt_hold (y := y) (by rw [hst]; rfl)]
      omega
    | write k =>
      right; left
      refine ⟨by unfold SSt.commits; rw [hst]; rfl, ?_⟩
      have hn : (y.next c z df).st.holds = true := by
        unfold Cm.next
        rw [hst]
        simp only
        split <;> rfl
      rw [Cm.pt_hold hn, Cm.pt_hold (y := y) (by rw [hst]; rfl)]
      omega
/-- A thread's step ahead of which something is under way. -/
theorem Tt.pt_next {x : Tt} {c : Cfg} {z : SSt} {k : Nat} (hx : x.fit c z.hs.length k) (h8 : z.hs.length ≤ 8) (hm : x.mine c) (hb : x.bd) (hg : GOk z.x.n z.x.o) (hh : x.dg.holds = true ↔ z.x.o = x.th) (hr : ∀ r, x.dg = .rd r → r.st ≠ 4) (h0 : x.dg ≠ .rest) (h2 : x.dg ≠ .act) :
    (z.x.o ≠ 0 ∧ z.x.o ≠ x.th ∧ (x.next c z).pt z.x.n = x.pt z.x.n ∧ (z.steps c x).x = z.x) ∨ ((z.steps c x).x = z.x ∧ (x.next c z).pt z.x.n + 1 ≤ x.pt z.x.n) ∨ (∀ n', (x.next c z).pt n' + 7 ≤ x.pt z.x.n) := by
  rw [(steps_bare z c x).2.1]
  cases hd : x.dg with
  | rest => exact absurd hd h0
  | act => exact absurd hd h2
  | leav =>
    right; left
    refine ⟨by unfold SSt.bare; rw [hd]; rfl, ?_⟩
    have he : x.pt z.x.n = 1 := by unfold Tt.pt; rw [hd]
    rw [he]
    unfold Tt.next
    rw [hd]
    show 0 + 1 ≤ 1
    omega
  | abo p e v =>
    right; left
    refine ⟨by unfold SSt.bare; rw [hd]; rfl, ?_⟩
    have he : x.pt z.x.n = 1 := by unfold Tt.pt; rw [hd]
    rw [he]
    unfold Tt.next
    rw [hd]
    show 0 + 1 ≤ 1
    omega
  | beg b =>
    right; left
    refine ⟨by unfold SSt.bare; rw [hd]; exact (goes_rest z b).1, ?_⟩
    have he : x.pt z.x.n = b.pt := by unfold Tt.pt; rw [hd]
    have hn : x.next c z = x.begun (b.next z) := by unfold Tt.next; rw [hd]
    rw [he, hn]
    unfold Tt.begun
    rcases Bg.pt_next (hx.bg b hd) h8 (z := z) rfl with ⟨q1, q2⟩ | ⟨q1, q2⟩
    · rw [if_pos q1]
      exact q2
    · rw [if_neg (by simpa using q1)]
      split
      · show 65 + 1 ≤ _
        omega
      · show 0 + 1 ≤ _
        omega
  | rd r =>
    have he : x.pt z.x.n = 65 + r.pt z.x.n := by unfold Tt.pt; rw [hd]
    have hn : x.next c z = x.readOn (r.next z) := by unfold Tt.next; rw [hd]
    have hbr : (z.bare x).x = z.x := by unfold SSt.bare; rw [hd]; exact (reads_rest z r).1
    rw [he, hn, hbr]
    rcases Rd.pt_next (hx.rd r hd).1 z (hr r hd) with ⟨q1, q2, q3⟩ | q
    · left
      have ho : z.x.o ≠ 0 := by
        rcases hg with ⟨a, b⟩ | ⟨a, b, d⟩
        · omega
        · omega
      refine ⟨ho, fun e => ?_, ?_, rfl⟩
      · have := hh.2 e
        rw [hd] at this
        cases this
      · rw [q3]
        unfold Tt.readOn
        rw [if_pos (by omega)]
        rfl
    · right; left
      refine ⟨rfl, ?_⟩
      unfold Tt.readOn
      split
      · show 65 + (r.next z).pt z.x.n + 1 ≤ _
        omega
      · split
        · show 65 + 1 ≤ _
          omega
        · show 1 + 1 ≤ _
          omega
  | com y =>
    have hth := hm.th y hd
    have t1 := hx.th1
    have t8 := hx.th8
    have hgt : gTh y.th = true := by rw [hth]; simp [gTh]; omega
    have hhy : y.st.holds = true ↔ z.x.o = y.th := by rw [hth]; rw [hd] at hh; exact hh
    have he : x.pt z.x.n = y.pt := by unfold Tt.pt; rw [hd]
    have hbr : (z.bare x).x = (z.commits y).x := by unfold SSt.bare; rw [hd]
    obtain ⟨-, e2⟩ := next_com (c := c) (z := z) hd
    have hpt : ∀ n', (x.next c z).pt n' ≤ (y.next c z x.df).pt := by
      intro n'
      rcases e2 with ⟨e2, e3⟩ | ⟨e2, e3⟩
      · unfold Tt.pt; rw [e3]; exact Nat.zero_le _
      · unfold Tt.pt; rw [e3]; exact Nat.le_refl _
    rw [he, hbr]
    rcases Cm.pt_next (c := c) (df := x.df) (hx.cm y hd) hgt (hm.ov y hd) (hb.lk y hd) hhy with ⟨q1, q2, q3, q4⟩ | ⟨q1, q2⟩ | q
    · left
      refine ⟨q1, by rw [← hth]; exact q2, ?_, q4⟩
      rcases e2 with ⟨e2, e3⟩ | ⟨e2, e3⟩
      · rw [q3] at e2
        unfold Cm.done at e2
        have := hm.ov y hd
        cases hst : y.st <;> rw [hst] at e2 <;> first | (simp [Stg.isOver] at e2; done) | exact absurd hst this
      · unfold Tt.pt; rw [e3, q3]
    · right; left
      exact ⟨q1, by have := hpt z.x.n; omega⟩
    · right; right
      intro n'
      have := hpt n'
      omega
/-- What is called for a thread that is busy, where it is to commit. -/
theorem callT_busy {x : Tt} {c : Cfg} {n : Nat} {m : Mv} {sp : Int} (h6 : m.n % 8 = 6) (hp : x.dg.phase ≠ 0) (a : Int) : (callT x c n m sp).dg ≠ .rest ∧ (callT x c n m sp).dg ≠ .act ∧ (callT x c n m sp).pt a ≤ x.pt a ∧ (x.dg = .act → (callT x c n m sp).pt a + 1 ≤ x.pt a) ∧ (∀ r, (callT x c n m sp).dg = .rd r → x.dg = .rd r) := by
  unfold callT
  rw [if_neg hp]
  by_cases h2 : x.dg.phase = 2
  · have ha := phase_two h2
    rw [if_pos h2, if_neg (by omega), if_neg (by omega), if_pos h6]
    unfold Tt.commit
    rw [if_neg (by omega)]
    have hpt : x.pt a = 65 := by unfold Tt.pt; rw [ha]
    split
    · refine ⟨by simp, by simp, ?_, fun _ => ?_, fun r e => by simp at e⟩
      · rw [hpt]; show 1 ≤ 65; omega
      · rw [hpt]; show 1 + 1 ≤ 65; omega
    · refine ⟨by simp, by simp, ?_, fun _ => ?_, fun r e => by simp at e⟩
      · rw [hpt]; show 64 ≤ 65; omega
      · rw [hpt]; show 64 + 1 ≤ 65; omega
  · rw [if_neg h2]
    refine ⟨fun e => hp (by rw [e]; rfl), fun e => h2 (by rw [e]; rfl), Nat.le_refl _, fun e => absurd (by rw [e]; rfl) h2, fun r e => e⟩
/-- Reads that are under way are not over; what is under way keeps to Tt.bd. -/
structure Gp.liv (g : Gp) : Prop where
  bd : ∀ j, j < 4 → (g.ts j).bd
  rd : ∀ j, j < 4 → ∀ r, (g.ts j).dg = .rd r → r.st ≠ 4
def Gp.pot (g : Gp) : Nat := (g.ts 0).pt g.z.x.n + (g.ts 1).pt g.z.x.n + (g.ts 2).pt g.z.x.n + (g.ts 3).pt g.z.x.n
theorem next_rd {x : Tt} {c : Cfg} {z : SSt} : ∀ r, (x.next c z).dg = .rd r → (∃ r0, x.dg = .rd r0 ∧ r.st ≠ 4) ∨ (x.dg = .rd r ∧ False) ∨ False := by
  intro r e
  left
  unfold Tt.next at e
  cases hd : x.dg with
  | rest => rw [hd] at e; simp only at e; rw [hd] at e; cases e
  | act => rw [hd] at e; simp only at e; rw [hd] at e; cases e
  | leav => rw [hd] at e; cases e
  | abo p q v => rw [hd] at e; cases e
  | com y =>
    rw [hd] at e
    simp only [Tt.comOn] at e
    split at e <;> cases e
  | beg b =>
    rw [hd] at e
    simp only [Tt.begun] at e
    split at e
    · cases e
    · split at e <;> cases e
  | rd r0 =>
    rw [hd] at e
    simp only [Tt.readOn] at e
    split at e
    · rename_i h4
      simp only [Dg.rd.injEq] at e
      subst e
      exact ⟨r0, rfl, h4⟩
    · split at e <;> cases e
theorem new_rd (sl gn sn : Int) (sg : Sg) (ce : Int) (bi : Sg) : (Rd.new sl gn sn sg ce bi).st ≠ 4 := by
  unfold Rd.new Rd.on
  simp only
  split <;> decide
theorem callT_rd (x : Tt) (c : Cfg) (n : Nat) (m : Mv) (sp : Int) (h : ∀ r, x.dg = .rd r → r.st ≠ 4) : ∀ r, (callT x c n m sp).dg = .rd r → r.st ≠ 4 := by
  intro r he
  unfold callT at he
  split at he
  · unfold Tt.begin_ at he
    split at he
    · simp at he
    · exact h r he
  · split at he
    · split at he
      · unfold Tt.read at he
        split at he
        · exact h r he
        · split at he
          · exact h r he
          · split at he
            · simp only [Dg.rd.injEq] at he
              subst he
              exact new_rd _ _ _ _ _ _
            · exact h r he
      · split at he
        · unfold Tt.write at he
          split at he
          · exact h r he
          · exact h r he
        · split at he
          · unfold Tt.commit at he
            split at he
            · exact h r he
            · split at he
              · simp at he
              · simp at he
          · unfold Tt.abort at he
            split at he
            · simp at he
            · exact h r he
    · exact h r he
section
variable {g : Gp} {c : Cfg} {k : Nat}
theorem Gp.liv.goes (h : g.liv) (hk : g.ok c k) (hg : g.gate c) (m : Mv) : (g.goes c m).liv := by
  have hlt := m.k_lt
  have hat : (g.goes c m).ts m.k = (g.preT c m).next c (g.preZ c m) := upd_same _ _ _
  refine ⟨fun j hj => ?_, fun j hj r e => ?_⟩
  · by_cases e : j = m.k
    · subst e
      rw [hat]
      exact next_bd (hk.preT m) (callT_mine (hg.mine m.k hlt) g.z.hs.length m (g.again m.k)) (callT_bd (h.bd m.k hlt) c g.z.hs.length m (g.again m.k))
    · rw [show (g.goes c m).ts j = g.ts j from upd_ne _ e _]; exact h.bd j hj
  · by_cases e' : j = m.k
    · subst e'
      rw [hat] at e
      rcases next_rd r e with ⟨r0, -, q⟩ | ⟨-, q⟩ | q
      · exact q
      · exact q.elim
      · exact q.elim
    · rw [show (g.goes c m).ts j = g.ts j from upd_ne _ e' _] at e; exact h.rd j hj r e
theorem Gp.liv_new (c : Cfg) (l : List Int) : (Gp.new c l).liv :=
  ⟨fun j _ => ⟨fun y e => by simp [Gp.new, Tt.new] at e, fun y e => by simp [Gp.new, Tt.new] at e⟩, fun j _ r e => by simp [Gp.new, Tt.new] at e⟩
theorem Gp.pot_le (hk : g.ok c k) : g.pot ≤ 304 := by
  have h := fun j hj => Tt.pt_le (hk.ts j hj) hk.z.h8 g.z.x.n
  have a0 := h 0 (by decide)
  have a1 := h 1 (by decide)
  have a2 := h 2 (by decide)
  have a3 := h 3 (by decide)
  unfold Gp.pot
  omega
/-- A thread that is busy goes on, and commits where it can: what is left grows not; it gets less, unless another one holds the gate. -/
theorem Gp.pot_goes (h : g.liv) (hk : g.ok c k) (hg : g.gate c) (m : Mv) (h6 : m.n % 8 = 6) (hp : (g.ts m.k).dg.phase ≠ 0) : (g.goes c m).pot ≤ g.pot ∧ (g.z.x.o = 0 ∨ g.z.x.o = m.k + 1 → (g.goes c m).pot < g.pot) := by
  have hlt := m.k_lt
  have hat : (g.goes c m).ts m.k = (g.preT c m).next c (g.preZ c m) := upd_same _ _ _
  obtain ⟨px, -⟩ := pre_x g c m
  have hph := hk.preHs m
  have hfit : (g.preT c m).fit c (g.preZ c m).hs.length k := by rw [hph]; exact hk.preT m
  have hmine := callT_mine (hg.mine m.k hlt) g.z.hs.length m (g.again m.k)
  have hbd := callT_bd (h.bd m.k hlt) c g.z.hs.length m (g.again m.k)
  have hth : (g.preT c m).th = m.k + 1 := by rw [Gp.preT, callT_th]; exact hk.th _ hlt
  have hh : (g.preT c m).dg.holds = true ↔ (g.preZ c m).x.o = (g.preT c m).th := by
    rw [hth, px, Gp.preT, callT_holds]
    exact hg.own _ hlt
  obtain ⟨b1, b2, b3, b4, b5⟩ := callT_busy (c := c) (n := g.z.hs.length) (sp := g.again m.k) h6 hp g.z.x.n
  have hst := Tt.pt_next (z := g.preZ c m) hfit (by rw [hph]; exact hk.z.h8) hmine hbd (by rw [px]; exact hk.z.gk) hh (fun r e => h.rd m.k hlt r (b5 r e)) b1 b2
  rw [px, hth] at hst
  have hx' : (g.goes c m).z.x = ((g.preZ c m).steps c (g.preT c m)).x := rfl
  have b3' : (g.preT c m).pt g.z.x.n ≤ (g.ts m.k).pt g.z.x.n := b3
  -- what becomes of the thread that moves, and of the others
  have key : ((g.goes c m).z.x.n = g.z.x.n ∧ ((g.goes c m).ts m.k).pt (g.goes c m).z.x.n ≤ (g.ts m.k).pt g.z.x.n ∧ (g.z.x.o = 0 ∨ g.z.x.o = m.k + 1 → ((g.goes c m).ts m.k).pt (g.goes c m).z.x.n + 1 ≤ (g.ts m.k).pt g.z.x.n)) ∨ (((g.goes c m).ts m.k).pt (g.goes c m).z.x.n + 7 ≤ (g.ts m.k).pt g.z.x.n) := by
    rw [hat]
    rcases hst with ⟨q1, q2, q3, q4⟩ | ⟨q1, q2⟩ | q
    · left
      have hn : (g.goes c m).z.x.n = g.z.x.n := by rw [hx', q4]
      rw [hn]
      exact ⟨rfl, by omega, fun e => by rcases e with e | e <;> omega⟩
    · left
      have hn : (g.goes c m).z.x.n = g.z.x.n := by rw [hx', q1]
      rw [hn]
      exact ⟨rfl, by omega, fun _ => by omega⟩
    · right
      have := q (g.goes c m).z.x.n
      omega
  have hoth : ∀ j, j ≠ m.k → ((g.goes c m).ts j).pt (g.goes c m).z.x.n ≤ (g.ts j).pt g.z.x.n + 2 ∧ ((g.goes c m).z.x.n = g.z.x.n → ((g.goes c m).ts j).pt (g.goes c m).z.x.n = (g.ts j).pt g.z.x.n) := by
    intro j e
    rw [show (g.goes c m).ts j = g.ts j from upd_ne _ e _]
    exact ⟨Tt.pt_other _ _ _, fun q => by rw [q]⟩
  unfold Gp.pot
  have hc : m.k = 0 ∨ m.k = 1 ∨ m.k = 2 ∨ m.k = 3 := by omega
  generalize (g.goes c m).z.x.n = n' at *
  rcases hc with e | e | e | e
  · rw [e] at key hoth
    have o1 := hoth 1 (by decide)
    have o2 := hoth 2 (by decide)
    have o3 := hoth 3 (by decide)
    rw [e]
    rcases key with ⟨q1, q2, q3⟩ | q
    · have p1 := o1.2 q1
      have p2 := o2.2 q1
      have p3 := o3.2 q1
      exact ⟨by omega, fun r => by have := q3 r; omega⟩
    · exact ⟨by omega, fun r => by omega⟩
  · rw [e] at key hoth
    have o1 := hoth 0 (by decide)
    have o2 := hoth 2 (by decide)
    have o3 := hoth 3 (by decide)
    rw [e]
    rcases key with ⟨q1, q2, q3⟩ | q
    · have p1 := o1.2 q1
      have p2 := o2.2 q1
      have p3 := o3.2 q1
      exact ⟨by omega, fun r => by have := q3 r; omega⟩
    · exact ⟨by omega, fun r => by omega⟩
  · rw [e] at key hoth
    have o1 := hoth 0 (by decide)
    have o2 := hoth 1 (by decide)
    have o3 := hoth 3 (by decide)
    rw [e]
    rcases key with ⟨q1, q2, q3⟩ | q
    · have p1 := o1.2 q1
      have p2 := o2.2 q1
      have p3 := o3.2 q1
      exact ⟨by omega, fun r => by have := q3 r; omega⟩
    · exact ⟨by omega, fun r => by omega⟩
  · rw [e] at key hoth
    have o1 := hoth 0 (by decide)
    have o2 := hoth 1 (by decide)
    have o3 := hoth 2 (by decide)
    rw [e]
    rcases key with ⟨q1, q2, q3⟩ | q
    · have p1 := o1.2 q1
      have p2 := o2.2 q1
      have p3 := o3.2 q1
      exact ⟨by omega, fun r => by have := q3 r; omega⟩
    · exact ⟨by omega, fun r => by omega⟩
end
end Go.Proofs.YtnchfomoaonbkaaGreat
