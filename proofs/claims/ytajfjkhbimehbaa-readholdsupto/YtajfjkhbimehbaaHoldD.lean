/- What a step leaves as it is, and what it notes. No program is named here. What stays true of a read in a space of one slot: its words are what it has published; it loads only when nothing is missing. No program is named here. Which bits are published. No program is named here. What one reader keeps against committers that doom and store between two of its steps. No program is named here. The contract of holds: what has been read is what the cells hold, where nobody holds the gate and the reader is not doomed. What lies in memory while ReadHolds goes on, whether a read is under way or none; what a committer's calls make of it. What a read's calls make of what lies in memory while ReadHolds goes on. What lies in memory while ReadHolds goes on: one thing more, one turned, one fewer; what is told of it. -/
import Derived.Test.YtajfjkhbimehbaaRdF
import Derived.Test.YtajfjkhbimehbaaUp
import Derived.Test.YtajfjkhbimehbaaRest
import Derived.Test.YtajfjkhbimehbaaSpE
import Derived.Deep.QuietTactic
import Derived.Test.YtajfjkhbimehbaaRdE
namespace Go.Proofs.Ytajfjkhbimehbaa
open Go.RowKit
set_option linter.unusedVariables false
set_option linter.unusedSimpArgs false

theorem Rd.fit_new {sl gn sn : Int} {sg : Sg} {ce : Int} {bi : Sg} (h1 : sg.ok) (h2 : bi.ok) : (Rd.new sl gn sn sg ce bi).fit := Rd.fit_on (r := ⟨sl, gn, sn, sg, ce, bi, 0, 0, 4⟩) h1 h2
theorem Rd.next_frame (r : Rd) (z : SSt) : (r.next z).sl = r.sl ∧ (r.next z).gn = r.gn ∧ (r.next z).ce = r.ce ∧ (r.next z).bi = r.bi := by
  unfold Rd.next
  split
  · exact ⟨rfl, rfl, rfl, rfl⟩
  · split
    · exact ⟨rfl, rfl, rfl, rfl⟩
    · split
      · split
        · split <;> exact ⟨rfl, rfl, rfl, rfl⟩
        · exact ⟨rfl, rfl, rfl, rfl⟩
      · split <;> exact ⟨rfl, rfl, rfl, rfl⟩
theorem SSt.reads_frame (z : SSt) (r : Rd) : (z.reads r).xs = z.xs ∧ (z.reads r).x = z.x ∧ (z.reads r).hs = z.hs ∧ (z.reads r).ev = z.ev := by
  unfold SSt.reads
  split
  · exact ⟨rfl, rfl, rfl, rfl⟩
  · split
    · exact ⟨rfl, rfl, rfl, rfl⟩
    · split
      · exact ⟨rfl, rfl, rfl, rfl⟩
      · split <;> exact ⟨rfl, rfl, rfl, rfl⟩
theorem inN_iff (n i : Int) : inN n i = true ↔ 0 ≤ i ∧ i < n := by simp [inN]
theorem wordAt_in {n : Nat} {s : Int} {j : Nat} (h0 : 0 ≤ s) (h1 : s < n) (hj : j < 2) : wordAt n s (j : Int) = some (s.toNat * 2 + j) := by
  unfold wordAt
  rw [if_pos ⟨h0, h1, by omega, by omega⟩]
  simp
/-- One access a step, and of which kind. -/
theorem SSt.reads_note {z : SSt} {r : Rd} (hf : r.fit) (h4 : r.st ≠ 4) (hs : 0 ≤ r.sl ∧ r.sl < z.hs.length) (hc : cin z.xs r.ce = true) : ∃ a b d, (z.reads r).s = z.s.note a b d true ∧ (a == 2) = (r.st == 2) ∧ (a == 1) = (r.st == 1) := by
  have h5 := hf.st
  unfold SSt.reads
  by_cases h0 : r.st = 0
  · rw [if_pos h0]
    obtain ⟨i, l, hm, hi, hd⟩ := miss_head (hf.pub h0)
    rw [hd]
    refine ⟨4, (r.sl.toNat * 2 + i : Nat), 2, ?_, by rw [h0]; rfl, by rw [h0]; rfl⟩
    show putS z.s z.hs.length r.sl (i : Nat) = _
    unfold putS
    rw [wordAt_in hs.1 hs.2 hi]
  · rw [if_neg h0]
    by_cases h1 : r.st = 1
    · rw [if_pos h1]
      refine ⟨1, r.ce, 1, ?_, by rw [h1]; rfl, by rw [h1]; rfl⟩
      show loadS z.s z.xs r.ce = _
      unfold loadS
      rw [hc]
      rfl
    · rw [if_neg h1]
      by_cases h2 : r.st = 2
      · rw [if_pos h2]
        exact ⟨2, 0, 1, rfl, by rw [h2]; rfl, by rw [h2]; rfl⟩
      · have h3 : r.st = 3 := by omega
        rw [if_neg h2, if_pos h3]
        refine ⟨3, r.sl, 1, ?_, by rw [h3]; rfl, by rw [h3]; rfl⟩
        show lookS z.s z.hs r.sl = _
        unfold lookS
        obtain ⟨k, hk⟩ := Int.eq_ofNat_of_zero_le hs.1
        rw [hk, headAt_in (k := k) (by have := hs.2; omega)]
/-- The last access of a log. -/
theorem logCells_last (l : List Acc) (a : Acc) : (logCells (l ++ [a]))[l.length * 6 + 2]? = some (.int .i64 a.kind) := by
  rw [logCells_append, List.getElem?_append_right (by rw [logCells_length]; omega), logCells_length]
  rw [show l.length * 6 + 2 - l.length * 6 = 2 by omega]
  rfl
end Go.Proofs.Ytajfjkhbimehbaa

namespace Go.Proofs.Ytajfjkhbimehbaa
open Go.RowKit
set_option linter.unusedVariables false
set_option linter.unusedSimpArgs false

theorem less_self (x y : Nat) : less x (y ||| x) = 0 := by
  refine Nat.eq_of_testBit_eq fun i => ?_
  rw [testBit_less, Nat.testBit_or, Nat.zero_testBit]
  cases x.testBit i <;> cases y.testBit i <;> rfl
theorem or_of_less {x y : Nat} (h : less x y = 0) : y ||| x = y := by
  refine Nat.eq_of_testBit_eq fun i => ?_
  have := congrArg (fun n => n.testBit i) h
  simp only [testBit_less, Nat.zero_testBit] at this
  rw [Nat.testBit_or]
  cases hx : x.testBit i <;> cases hy : y.testBit i <;> simp_all
theorem words_eq (d : Sg) : d.words = (if d.lo ≠ 0 then [0] else []) ++ (if d.hi ≠ 0 then [1] else []) := by
  unfold Sg.words
  rw [wordsBelow_succ, wordsBelow_succ]
  have h0 : wordsBelow d 0 = [] := rfl
  rw [h0]
  by_cases h1 : d.lo = 0 <;> by_cases h2 : d.hi = 0 <;> simp [word, h1, h2]
/-- Nothing is missing. -/
theorem Rd.miss_nil {r : Rd} : r.miss = [] ↔ r.sg.join r.bi = r.sg := by
  have e : r.miss = (if less r.bi.lo r.sg.lo ≠ 0 then [0] else []) ++ (if less r.bi.hi r.sg.hi ≠ 0 then [1] else []) := words_eq _
  rw [e]
  constructor
  · intro h
    have h1 : less r.bi.lo r.sg.lo = 0 := by
      by_cases h1 : less r.bi.lo r.sg.lo = 0
      · exact h1
      · rw [if_pos h1] at h; simp at h
    have h2 : less r.bi.hi r.sg.hi = 0 := by
      by_cases h2 : less r.bi.hi r.sg.hi = 0
      · exact h2
      · rw [if_pos h2] at h; simp at h
    unfold Sg.join
    rw [or_of_less h1, or_of_less h2]
  · intro h
    unfold Sg.join at h
    have a : r.sg.lo ||| r.bi.lo = r.sg.lo := congrArg Sg.lo h
    have b : r.sg.hi ||| r.bi.hi = r.sg.hi := congrArg Sg.hi h
    have h1 : less r.bi.lo r.sg.lo = 0 := by rw [← a]; exact less_self _ _
    have h2 : less r.bi.hi r.sg.hi = 0 := by rw [← b]; exact less_self _ _
    rw [h1, h2]
    rfl
/-- What a step that publishes makes of the signature, and of what is missing. -/
theorem Rd.pub_ways {r : Rd} (h : r.miss ≠ []) :
    (r.miss.headD 0 = 0 ∧ r.pub.sg = ⟨r.sg.lo ||| r.bi.lo, r.sg.hi⟩ ∨ r.miss.headD 0 = 1 ∧ r.pub.sg = ⟨r.sg.lo, r.sg.hi ||| r.bi.hi⟩) ∧ r.pub.sg.join r.bi = r.sg.join r.bi ∧ r.pub.miss.length + 1 = r.miss.length := by
  have e : r.miss = (if less r.bi.lo r.sg.lo ≠ 0 then [0] else []) ++ (if less r.bi.hi r.sg.hi ≠ 0 then [1] else []) := words_eq _
  have e2 : r.pub.miss = (if less r.bi.lo r.pub.sg.lo ≠ 0 then [0] else []) ++ (if less r.bi.hi r.pub.sg.hi ≠ 0 then [1] else []) := words_eq _
  have es : r.pub.sg = r.sg.setW (r.miss.headD 0) (r.both (r.miss.headD 0)) := rfl
  have oo : ∀ x y : Nat, x ||| y ||| y = x ||| y := fun x y => by rw [Nat.or_assoc, Nat.or_self]
  by_cases h1 : less r.bi.lo r.sg.lo = 0
  · have h2 : less r.bi.hi r.sg.hi ≠ 0 := by
      intro h2
      rw [h1, h2] at e
      exact h e
    have em : r.miss = [1] := by rw [e, h1, if_pos h2]; rfl
    have es2 : r.pub.sg = ⟨r.sg.lo, r.sg.hi ||| r.bi.hi⟩ := by rw [es, em]; rfl
    refine ⟨.inr ⟨by rw [em]; rfl, es2⟩, ?_, ?_⟩
    · rw [es2]; unfold Sg.join; simp only [oo]
    · rw [e2, es2, em]
      simp only [h1, less_self]
      rfl
  · have em : r.miss = 0 :: (if less r.bi.hi r.sg.hi ≠ 0 then [1] else []) := by rw [e, if_pos h1]; rfl
    have es2 : r.pub.sg = ⟨r.sg.lo ||| r.bi.lo, r.sg.hi⟩ := by rw [es, em]; rfl
    refine ⟨.inl ⟨by rw [em]; rfl, es2⟩, ?_, ?_⟩
    · rw [es2]; unfold Sg.join; simp only [oo]
    · rw [e2, es2, em]
      simp only [less_self]
      simp

/-- A read, and the space of one slot in which it goes on. -/
structure RInv (b : Int) (z : SSt) (r : Rd) : Prop where
  fit : r.fit
  sl : r.sl = 0
  gn : r.gn = 1
  bi : r.bi = bitsOf b r.ce
  ce : 0 ≤ r.ce ∧ r.ce < z.xs.length
  hl : z.hs.length = 1
  ws : z.ws = [(r.sg.lo : Int), (r.sg.hi : Int)]
  full : r.st ≠ 0 → r.miss = []
theorem putW_one (a b x : Int) (i : Nat) (h : i = 0 ∨ i = 1) : putW [a, b] 1 0 (i : Int) x = if i = 0 then [x, b] else [a, x] := by
  rcases h with rfl | rfl <;> rfl
theorem RInv.next {b : Int} {z : SSt} {r : Rd} (h : RInv b z r) : RInv b (z.reads r) (r.next z) := by
  obtain ⟨n1, n2, n3, n4⟩ := r.next_frame z
  obtain ⟨f1, f2, f3, f4⟩ := z.reads_frame r
  refine ⟨h.fit.next z, n1.trans h.sl, n2.trans h.gn, by rw [n4, n3]; exact h.bi, by rw [n3, f1]; exact h.ce, by rw [f3]; exact h.hl, ?_, ?_⟩
  · by_cases h0 : r.st = 0
    · have en : r.next z = r.pub := by unfold Rd.next; rw [if_pos h0]
      have er : (z.reads r).ws = putW z.ws z.hs.length r.sl (r.miss.headD 0 : Nat) (r.both (r.miss.headD 0) : Nat) := by unfold SSt.reads; rw [if_pos h0]; rfl
      rw [en, er, h.ws, h.hl, h.sl]
      rcases (Rd.pub_ways (h.fit.pub h0)).1 with ⟨e1, e2⟩ | ⟨e1, e2⟩
      · rw [e1, e2]; rfl
      · rw [e1, e2]; rfl
    · have e1 : (z.reads r).ws = z.ws := by
        unfold SSt.reads
        rw [if_neg h0]
        split
        · rfl
        · split
          · rfl
          · split <;> rfl
      have e2 : (r.next z).sg = r.sg := by
        unfold Rd.next
        rw [if_neg h0]
        split
        · rfl
        · split
          · split
            · split <;> rfl
            · rfl
          · split <;> rfl
      rw [e1, e2]
      exact h.ws
  · intro hn
    by_cases h0 : r.st = 0
    · have en : r.next z = r.pub := by unfold Rd.next; rw [if_pos h0]
      rw [en] at hn ⊢
      have : r.pub.st = if r.pub.miss = [] then 1 else 0 := rfl
      rw [this] at hn
      by_cases hm : r.pub.miss = []
      · exact hm
      · rw [if_neg hm] at hn; exact absurd rfl hn
    · have e2 : (r.next z).miss = r.miss := by
        unfold Rd.next
        rw [if_neg h0]
        split
        · rfl
        · split
          · split
            · split <;> rfl
            · rfl
          · split <;> rfl
      rw [e2]
      exact h.full h0
theorem RInv.new {b : Int} {z : SSt} {sg : Sg} {sn ce : Int} (hs : sg.ok) (hc : 0 ≤ ce ∧ ce < z.xs.length) (hl : z.hs.length = 1) (hw : z.ws = [(sg.lo : Int), (sg.hi : Int)]) : RInv b z (Rd.new 0 1 sn sg ce (bitsOf b ce)) := by
  refine ⟨Rd.fit_new hs (bitsOf_ok _ _), rfl, rfl, rfl, hc, hl, hw, fun h => ?_⟩
  have e : (Rd.new 0 1 sn sg ce (bitsOf b ce)).st = if (Rd.new 0 1 sn sg ce (bitsOf b ce)).miss = [] then 1 else 0 := rfl
  rw [e] at h
  by_cases hm : (Rd.new 0 1 sn sg ce (bitsOf b ce)).miss = []
  · exact hm
  · rw [if_neg hm] at h; exact absurd rfl h
end Go.Proofs.Ytajfjkhbimehbaa

namespace Go.Proofs.Ytajfjkhbimehbaa
open Go.RowKit
set_option linter.unusedVariables false
set_option linter.unusedSimpArgs false

/-- All bits of one are bits of the other. -/
def Sub (s t : Sg) : Prop := s.join t = t
theorem Sub.parts {s t : Sg} : Sub s t ↔ s.lo ||| t.lo = t.lo ∧ s.hi ||| t.hi = t.hi := by
  obtain ⟨a, b⟩ := s
  obtain ⟨c, d⟩ := t
  simp [Sub, Sg.join]
theorem Sub.zero (t : Sg) : Sub Sg.zero t := Sub.parts.2 ⟨by simp [Sg.zero], by simp [Sg.zero]⟩
theorem or_sub {x y z : Nat} (h : x ||| z = z) (k : y ||| z = z) : (x ||| y) ||| z = z := by rw [Nat.or_assoc, k, h]
theorem Sub.join {s t u : Sg} (h : Sub s u) (k : Sub t u) : Sub (s.join t) u := by
  have h := Sub.parts.1 h
  have k := Sub.parts.1 k
  exact Sub.parts.2 ⟨or_sub h.1 k.1, or_sub h.2 k.2⟩
theorem Sub.more {s t : Sg} (h : Sub s t) (u : Sg) : Sub s (t.join u) := by
  have h := Sub.parts.1 h
  exact Sub.parts.2 ⟨by show s.lo ||| (t.lo ||| u.lo) = _; rw [← Nat.or_assoc, h.1]; rfl, by show s.hi ||| (t.hi ||| u.hi) = _; rw [← Nat.or_assoc, h.2]; rfl⟩
theorem Sub.right (t u : Sg) : Sub u (t.join u) := by
  refine Sub.parts.2 ⟨?_, ?_⟩
  · show u.lo ||| (t.lo ||| u.lo) = t.lo ||| u.lo
    rw [Nat.or_comm u.lo, Nat.or_assoc, Nat.or_self]
  · show u.hi ||| (t.hi ||| u.hi) = t.hi ||| u.hi
    rw [Nat.or_comm u.hi, Nat.or_assoc, Nat.or_self]
theorem Sub.same {s t : Sg} (h : Sub s t) : (s.join t).same t = true := by
  rw [show s.join t = t from h]
  simp [Sg.same]
theorem put_join (s : Sg) (k : Nat) : s.put k = s.join (Sg.zero.put k) := by
  unfold Sg.put Sg.join Sg.zero
  split <;> simp
theorem join_assoc (s t u : Sg) : (s.join t).join u = s.join (t.join u) := by
  unfold Sg.join
  simp only [Nat.or_assoc]
/-- Cells that a space may have. -/
def Fine (b : Int) (l : List Int) : Prop := ∀ x ∈ l, hashE x b = 0
theorem ofGo_append (b : Int) : ∀ (l : List Int) (c : Int) (s : Sg), Fine b l → ofGo b (l ++ [c]) s = ofGo b [c] (ofGo b l s).1
  | [], c, s, _ => rfl
  | x :: l, c, s, h => by
    have hx : hashE x b = 0 := h x (by simp)
    show ofGo b (x :: (l ++ [c])) s = _
    rw [ofGo, if_pos hx]
    rw [show ofGo b (x :: l) s = ofGo b l ((s.put (hash1 x b).toNat).put (hash2 x b).toNat) by rw [ofGo, if_pos hx]]
    exact ofGo_append b l c _ (fun y hy => h y (by simp [hy]))
theorem ofGo_fine (b : Int) : ∀ (l : List Int) (s : Sg), Fine b l → (ofGo b l s).2 = 0
  | [], s, _ => rfl
  | x :: l, s, h => by
    rw [ofGo, if_pos (h x (by simp))]
    exact ofGo_fine b l _ (fun y hy => h y (by simp [hy]))
theorem ofR_fine {b : Int} {l : List Int} (h : Fine b l) (hb : 1 ≤ b ∧ b ≤ 128) : (ofR l b).2 = 0 := by
  unfold ofR
  rw [if_pos hb]
  exact ofGo_fine b l _ h
theorem ofR_append {b : Int} {l : List Int} {c : Int} (h : Fine b l) (hc : hashE c b = 0) (hb : 1 ≤ b ∧ b ≤ 128) : (ofR (l ++ [c]) b).1 = (ofR l b).1.join (bitsOf b c) := by
  unfold bitsOf ofR
  rw [if_pos hb, if_pos hb, if_pos hb, ofGo_append b l c _ h]
  generalize (ofGo b l Sg.zero).1 = s
  rw [ofGo, if_pos hc, ofGo, ofGo, if_pos hc, ofGo]
  show (s.put _).put _ = s.join ((Sg.zero.put _).put _)
  rw [put_join (s.put _), put_join s, join_assoc, ← put_join (Sg.zero.put _)]
theorem hashE_in {b c : Int} (hb : 1 ≤ b ∧ b ≤ 128) (hc : 0 ≤ c ∧ c < 16) : hashE c b = 0 := by
  unfold hashE
  rw [if_pos hb, if_pos ⟨hc.1, by omega⟩]
/-- What is published keeps within the bits of the cells. -/
theorem RInv.sub_next {b : Int} {z : SSt} {r : Rd} {t : Sg} (h : RInv b z r) (hs : Sub r.sg t) (hb : Sub r.bi t) : Sub (r.next z).sg t := by
  by_cases h0 : r.st = 0
  · have en : r.next z = r.pub := by unfold Rd.next; rw [if_pos h0]
    rw [en]
    have hs := Sub.parts.1 hs
    have hb := Sub.parts.1 hb
    rcases (Rd.pub_ways (h.fit.pub h0)).1 with ⟨_, e2⟩ | ⟨_, e2⟩
    · rw [e2]; exact Sub.parts.2 ⟨or_sub hs.1 hb.1, hs.2⟩
    · rw [e2]; exact Sub.parts.2 ⟨hs.1, or_sub hs.2 hb.2⟩
  · have e2 : (r.next z).sg = r.sg := by
      unfold Rd.next
      rw [if_neg h0]
      split
      · rfl
      · split
        · split
          · split <;> rfl
          · rfl
        · split <;> rfl
    rw [e2]
    exact hs
/-- Ahead of a load all bits of the cell are there. -/
theorem RInv.sub_load {b : Int} {z : SSt} {r : Rd} (h : RInv b z r) (h1 : r.st = 1) : Sub r.bi (r.next z).sg := by
  have hm := Rd.miss_nil.1 (h.full (by omega))
  have e2 : (r.next z).sg = r.sg := by
    unfold Rd.next
    rw [if_neg (by omega), if_pos h1]
  rw [e2]
  have := Sub.right r.sg r.bi
  rw [hm] at this
  exact this
end Go.Proofs.Ytajfjkhbimehbaa

namespace Go.Proofs.Ytajfjkhbimehbaa
open Go.RowKit
set_option linter.unusedVariables false
set_option linter.unusedSimpArgs false

theorem and_of_or {x y : Nat} (h : x ||| y = y) : x &&& y = x := by
  refine Nat.eq_of_testBit_eq fun i => ?_
  have := congrArg (fun n => n.testBit i) h
  simp only [Nat.testBit_or] at this
  rw [Nat.testBit_and]
  cases hx : x.testBit i <;> cases hy : y.testBit i <;> simp_all
theorem and_some {x y z : Nat} (h : x ||| y = y) (k : x ||| z = z) (n : x ≠ 0) : y &&& z ≠ 0 := by
  intro e
  refine n ?_
  rw [← and_of_or k, ← and_of_or h, Nat.and_assoc, e, Nat.and_zero]
/-- Bits that are in both: they meet. -/
theorem Sub.meets {s t u : Sg} (h : Sub s t) (k : Sub s u) (n : s.lo ≠ 0 ∨ s.hi ≠ 0) : (!((t.meet u).same Sg.zero)) = true := by
  have h := Sub.parts.1 h
  have k := Sub.parts.1 k
  cases hc : (t.meet u).same Sg.zero with
  | false => rfl
  | true =>
    exfalso
    unfold Sg.same Sg.meet Sg.zero at hc
    simp only [Bool.and_eq_true, beq_iff_eq] at hc
    rcases n with n | n
    · exact and_some h.1 k.1 n (by exact_mod_cast hc.1)
    · exact and_some h.2 k.2 n (by exact_mod_cast hc.2)
theorem or_some (x n : Nat) : x ||| 2 ^ n ≠ 0 := by
  intro e
  have := congrArg (fun y => y.testBit n) e
  simp only [Nat.testBit_or, Nat.testBit_two_pow_self, Nat.zero_testBit, Bool.or_true] at this
  exact absurd this (by decide)
theorem put_some (s : Sg) (k : Nat) : (s.put k).lo ≠ 0 ∨ (s.put k).hi ≠ 0 := by
  unfold Sg.put
  split
  · exact .inl (or_some _ _)
  · exact .inr (or_some _ _)
/-- The bits of a cell are never none. -/
theorem bitsOf_some {b c : Int} (hb : 1 ≤ b ∧ b ≤ 128) (hc : hashE c b = 0) : (bitsOf b c).lo ≠ 0 ∨ (bitsOf b c).hi ≠ 0 := by
  unfold bitsOf ofR
  rw [if_pos hb, ofGo, if_pos hc, ofGo]
  exact put_some _ _
theorem Sub.refl (s : Sg) : Sub s s := Sub.parts.2 ⟨Nat.or_self _, Nat.or_self _⟩
theorem Sub.trans {s t u : Sg} (h : Sub s t) (k : Sub t u) : Sub s u := by
  have h := Sub.parts.1 h
  have k := Sub.parts.1 k
  refine Sub.parts.2 ⟨?_, ?_⟩
  · rw [← k.1, ← Nat.or_assoc, h.1]
  · rw [← k.2, ← Nat.or_assoc, h.2]
theorem ofGo_sub {b : Int} (hb : 1 ≤ b ∧ b ≤ 128) : ∀ (l : List Int) (s : Sg), Fine b l → Sub s (ofGo b l s).1 ∧ ∀ c ∈ l, Sub (bitsOf b c) (ofGo b l s).1
  | [], s, _ => ⟨Sub.refl s, fun c hc => by simp at hc⟩
  | x :: l, s, h => by
    have hx : hashE x b = 0 := h x (by simp)
    have ih := ofGo_sub hb l ((s.put (hash1 x b).toNat).put (hash2 x b).toNat) (fun y hy => h y (by simp [hy]))
    have eb : bitsOf b x = (Sg.zero.put (hash1 x b).toNat).put (hash2 x b).toNat := by
      unfold bitsOf ofR
      rw [if_pos hb, ofGo, if_pos hx, ofGo]
    have ep : (s.put (hash1 x b).toNat).put (hash2 x b).toNat = s.join (bitsOf b x) := by
      rw [eb, put_join (s.put _), put_join s, join_assoc, ← put_join (Sg.zero.put _)]
    rw [ofGo, if_pos hx]
    rw [ep] at ih ⊢
    refine ⟨((Sub.refl s).more _).trans ih.1, fun c hc => ?_⟩
    rcases List.mem_cons.1 hc with rfl | hc
    · exact (Sub.right _ _).trans ih.1
    · exact ih.2 c hc
/-- The bits of a cell of a list are bits of the list. -/
theorem ofR_sub {b : Int} (hb : 1 ≤ b ∧ b ≤ 128) {l : List Int} (h : Fine b l) {c : Int} (hc : c ∈ l) : Sub (bitsOf b c) (ofR l b).1 := by
  unfold ofR
  rw [if_pos hb]
  exact (ofGo_sub hb l Sg.zero h).2 c hc

/-- Is the reader doomed? -/
def SSt.dmd (z : SSt) : Bool := (nowAt z.hs 0).dm
/-- The space of one slot that lives, its words, and what has been read from it. -/
structure HInv (b : Int) (z : SSt) (sg : Sg) (p : List (Int × Int)) : Prop where
  one : ∃ h, z.hs = [h] ∧ h.sa = 2 ∧ h.gn = 1
  xl : z.xs.length = 16
  ws : z.ws = [(sg.lo : Int), (sg.hi : Int)]
  sub : ∀ x ∈ p, (0 ≤ x.1 ∧ x.1 < 16) ∧ Sub (bitsOf b x.1) sg
  val : z.dmd = false → ∀ x ∈ p, loadR z.xs x.1 = x.2
/-- What a read that is under way has loaded. -/
def RVal (z : SSt) (r : Rd) : Prop := z.dmd = false → (r.st = 2 ∨ r.st = 3 ∨ (r.st = 4 ∧ r.e = 0)) → r.va = loadR z.xs r.ce
theorem HInv.same {b : Int} {z y : SSt} {sg : Sg} {p : List (Int × Int)} (h : HInv b z sg p) (e1 : y.xs = z.xs) (e2 : y.hs = z.hs) (e3 : y.ws = z.ws) : HInv b y sg p := by
  obtain ⟨h1, h2, h3, h4, h5⟩ := h
  refine ⟨by rw [e2]; exact h1, by rw [e1]; exact h2, by rw [e3]; exact h3, h4, ?_⟩
  unfold SSt.dmd
  rw [e1, e2]
  exact h5
theorem RVal.same {z y : SSt} {r : Rd} (h : RVal z r) (e1 : y.xs = z.xs) (e2 : y.hs = z.hs) : RVal y r := by
  unfold RVal SSt.dmd
  rw [e1, e2]
  exact h
theorem storeX_len (xs : List Int) (k x : Int) : (storeX xs k x).length = xs.length := by
  unfold storeX
  split <;> simp
theorem loadR_other {xs : List Int} {k c x : Int} (h : c ≠ k) (hc : 0 ≤ c) : loadR (storeX xs k x) c = loadR xs c := by
  unfold loadR cin
  rw [storeX_len]
  unfold storeX cin
  split
  · split
    · rename_i h1 h2
      simp only [Bool.and_eq_true, decide_eq_true_eq] at h1 h2
      simp only [List.getD_eq_getElem?_getD]
      rw [List.getElem?_set_ne (by omega)]
    · rfl
  · rfl
/-- A store at a cell: the reader is doomed, or the bits of the list in which the cell is do not meet what it has published. -/
theorem HInv.store {b : Int} {z : SSt} {sg : Sg} {p : List (Int × Int)} (h : HInv b z sg p) (hb : 1 ≤ b ∧ b ≤ 128) {l : List Int} (hl : Fine b l) {c : Int} (hc : c ∈ l) (hm : z.dmd = true ∨ (!(((ofR l b).1.meet sg).same Sg.zero)) = false) (x : Int) : HInv b (z.store c x) sg p := by
  refine ⟨h.one, (storeX_len _ _ _).trans h.xl, h.ws, h.sub, fun hd y hy => ?_⟩
  have hd' : z.dmd = false := hd
  rcases hm with hm | hm
  · rw [hm] at hd'; cases hd'
  · refine (loadR_other ?_ (h.sub y hy).1.1).trans (h.val hd' y hy)
    intro e
    have := Sub.meets (ofR_sub hb hl hc) (e ▸ (h.sub y hy).2) (bitsOf_some hb (hl c hc))
    rw [this] at hm
    cases hm
theorem RVal.store {b : Int} {z : SSt} {r : Rd} (h : RVal z r) (inv : RInv b z r) (hb : 1 ≤ b ∧ b ≤ 128) {l : List Int} (hl : Fine b l) {c : Int} (hc : c ∈ l) (hm : z.dmd = true ∨ (!(((ofR l b).1.meet r.sg).same Sg.zero)) = false) (x : Int) : RVal (z.store c x) r := by
  intro hd hst
  have hd' : z.dmd = false := hd
  rcases hm with hm | hm
  · rw [hm] at hd'; cases hd'
  · refine (h hd' hst).trans (loadR_other ?_ inv.ce.1).symm
    intro e
    have hs : Sub r.bi r.sg := by
      have hm := Rd.miss_nil.1 (inv.full (by omega))
      have := Sub.right r.sg r.bi
      rw [hm] at this
      exact this
    rw [inv.bi, e] at hs
    have := Sub.meets (ofR_sub hb hl hc) hs (bitsOf_some hb (hl c hc))
    rw [this] at hm
    cases hm
theorem RInv.store {b : Int} {z : SSt} {r : Rd} (inv : RInv b z r) (c x : Int) : RInv b (z.store c x) r :=
  ⟨inv.fit, inv.sl, inv.gn, inv.bi, by show _ ∧ r.ce < ((storeX z.xs c x).length : Int); rw [storeX_len]; exact inv.ce, inv.hl, inv.ws, inv.full⟩
theorem dmd_of {z : SSt} {h : Hd} (e : z.hs = [h]) : z.dmd = h.dm := by
  unfold SSt.dmd nowAt headAt
  rw [e]
  rfl
/-- Doomed by thread 2: so it is. -/
theorem HInv.doom {b : Int} {z : SSt} {sg : Sg} {p : List (Int × Int)} (h : HInv b z sg p) : HInv b (z.op (doomOp 1 2) 0) sg p ∧ (z.op (doomOp 1 2) 0).dmd = true := by
  obtain ⟨hd, e, e1, e2⟩ := h.one
  have eh : (z.op (doomOp 1 2) 0).hs = [if hd.dm then hd else ⟨hd.gn, hd.sa, hd.sp, hd.th, true, 2⟩] := by
    show (doomOp 1 2).H z.hs 0 = _
    rw [e]
    simp [HOp.H, doomOp, headAt, isTh, e1, e2]
  have ed : (z.op (doomOp 1 2) 0).dmd = true := by
    rw [dmd_of eh]
    split
    · assumption
    · rfl
  refine ⟨⟨⟨_, eh, ?_, ?_⟩, h.xl, h.ws, h.sub, fun hf => ?_⟩, ed⟩
  · split
    · exact e1
    · exact e1
  · split
    · exact e2
    · exact e2
  · rw [ed] at hf; cases hf
theorem RInv.doom {b : Int} {z : SSt} {r : Rd} (inv : RInv b z r) (g t : Int) : RInv b (z.op (doomOp g t) 0) r :=
  ⟨inv.fit, inv.sl, inv.gn, inv.bi, inv.ce, by show ((doomOp g t).H z.hs 0).length = 1; rw [HOp.len]; exact inv.hl, inv.ws, inv.full⟩
/-- What a step of the read keeps. -/
theorem HInv.reads {b : Int} {z : SSt} {r : Rd} {p : List (Int × Int)} (h : HInv b z r.sg p) (inv : RInv b z r) : HInv b (z.reads r) (r.next z).sg p := by
  obtain ⟨f1, f2, f3, f4⟩ := z.reads_frame r
  have hg : Sub r.sg (r.next z).sg := by
    by_cases h0 : r.st = 0
    · have en : r.next z = r.pub := by unfold Rd.next; rw [if_pos h0]
      rw [en]
      rcases (Rd.pub_ways (inv.fit.pub h0)).1 with ⟨_, e2⟩ | ⟨_, e2⟩
      · rw [e2]; exact Sub.parts.2 ⟨by show r.sg.lo ||| (r.sg.lo ||| r.bi.lo) = r.sg.lo ||| r.bi.lo; rw [← Nat.or_assoc, Nat.or_self], Nat.or_self _⟩
      · rw [e2]; exact Sub.parts.2 ⟨Nat.or_self _, by show r.sg.hi ||| (r.sg.hi ||| r.bi.hi) = r.sg.hi ||| r.bi.hi; rw [← Nat.or_assoc, Nat.or_self]⟩
    · have e2 : (r.next z).sg = r.sg := by
        unfold Rd.next
        rw [if_neg h0]
        split
        · rfl
        · split
          · split
            · split <;> rfl
            · rfl
          · split <;> rfl
      rw [e2]
      exact Sub.refl _
  refine ⟨by rw [f3]; exact h.one, by rw [f1]; exact h.xl, inv.next.ws, fun x hx => ⟨(h.sub x hx).1, (h.sub x hx).2.trans hg⟩, ?_⟩
  unfold SSt.dmd
  rw [f1, f3]
  exact h.val
theorem RVal.reads {b : Int} {z : SSt} {r : Rd} (h : RVal z r) (inv : RInv b z r) (h4 : r.st ≠ 4) : RVal (z.reads r) (r.next z) := by
  obtain ⟨f1, f2, f3, f4⟩ := z.reads_frame r
  unfold RVal SSt.dmd
  rw [f1, f3, (r.next_frame z).2.2.1]
  intro hd hst
  have hs := inv.fit.st
  by_cases h0 : r.st = 0
  · have en : (r.next z).st = if r.pub.miss = [] then 1 else 0 := by unfold Rd.next; rw [if_pos h0]; rfl
    rw [en] at hst
    split at hst <;> omega
  · by_cases h1 : r.st = 1
    · unfold Rd.next
      rw [if_neg h0, if_pos h1]
    · have hv : (r.next z).va = r.va := by
        unfold Rd.next
        rw [if_neg h0, if_neg h1]
        split
        · split
          · split <;> rfl
          · rfl
        · split <;> rfl
      rw [hv]
      exact h hd (by omega)
/-- A read that is done: it may have what it loaded, or it is doomed. -/
theorem HInv.done {b : Int} {z : SSt} {r : Rd} {p : List (Int × Int)} (h : HInv b z r.sg p) (inv : RInv b z r) (h3 : r.st = 3) :
    ((r.next z).e = 0 ∧ z.dmd = false) ∨ ((r.next z).e = 7 ∧ z.dmd = true) := by
  obtain ⟨hd, e, e1, e2⟩ := h.one
  have en : (r.next z).e = if r.fair (nowAt z.hs r.sl) then 0 else 7 := by
    unfold Rd.next
    rw [if_neg (by omega), if_neg (by omega), if_neg (by omega), if_pos h3]
  have ef : r.fair (nowAt z.hs r.sl) = !hd.dm := by
    rw [inv.sl, e]
    show ((hd.sa == 2) && (hd.gn == r.gn) && !hd.dm) = _
    rw [e1, e2, inv.gn]
    rfl
  rw [en, ef, dmd_of e]
  cases hd.dm
  · exact .inl ⟨rfl, rfl⟩
  · exact .inr ⟨rfl, rfl⟩
/-- The pair that is put behind the others. -/
theorem HInv.more {b : Int} {z : SSt} {sg : Sg} {p : List (Int × Int)} (h : HInv b z sg p) {c v : Int} (hc : 0 ≤ c ∧ c < 16) (hs : Sub (bitsOf b c) sg) (hv : z.dmd = false → loadR z.xs c = v) : HInv b z sg (p ++ [(c, v)]) := by
  refine ⟨h.one, h.xl, h.ws, fun x hx => ?_, fun hd x hx => ?_⟩
  · rcases List.mem_append.1 hx with hx | hx
    · exact h.sub x hx
    · rw [List.mem_singleton.1 hx]; exact ⟨hc, hs⟩
  · rcases List.mem_append.1 hx with hx | hx
    · exact h.val hd x hx
    · rw [List.mem_singleton.1 hx]; exact hv hd
end Go.Proofs.Ytajfjkhbimehbaa

namespace Go.Proofs.Ytajfjkhbimehbaa
open Go.RowKit
set_option linter.unusedVariables false
set_option linter.unusedSimpArgs false
attribute [local go_sem ↓] Go.wp_at_zero Go.wp_at_succ

theorem dm_cell {hs : List Hd} {ws : List Int} {h : Hd} {x y : Int} (e : hs = [h]) (e2 : ws = [x, y]) : (slCells (slots hs ws))[4]? = some (.bool h.dm) := by
  subst e e2
  rfl
theorem loadR_in {xs : List Int} {q : Nat} (h : q < xs.length) : loadR xs (q : Int) = xs[q] := by
  unfold loadR cin
  rw [if_pos (by simp; omega)]
  simp [h]
theorem St.drewN_ {o w : World} {its : List It} (h : St o its w) (n : Nat) : St o its (w.drewN n) := h.calm (Kept.refl _ w |>.drewN n)
set_option maxRecDepth 100000 in
set_option maxHeartbeats 2000000 in
theorem holds_any {o w : World} {its : List It} {A : Ad} {c : Cfg} {z : SSt} {v u vc vv : Value} {n : Nat} {cs xs : List Int} {b : Int} {sg : Sg} {p : List (Int × Int)} (h : St o its w) (i j k : Nat) (hi : its[i]? = some (spI A c z v u)) (hj : its[j]? = some (ownI 3 1 vc n (clCells cs))) (hk : its[k]? = some (ownI 2 1 vv n (clCells xs))) (hn : (n : Int) ≤ 4611686018427) (hw : z.ws.length = z.hs.length * 2) (inv : HInv b z sg p) (hp : p.length = n) (hcs : cs = p.map (·.1)) (hxs : xs = p.map (·.2)) (hx0 : 0 ≤ z.x.n) :
    Calls Try.prog 31 #[spp A, .agg #[vc, vv]] w fun e w' => e = .returned (.bool true) ∧ St o its w' := by
  obtain ⟨hd, eh, -, -⟩ := inv.one
  obtain ⟨ac, cc, rfl⟩ := own_form (h.get j hj)
  obtain ⟨av, cv, rfl⟩ := own_form (h.get k hk)
  have h0 := h.box #[.slice ac n cc, .slice av n cv] 82
  have hvw := spView h0 (i + 1) (by simpa using hi) hw (by rw [eh]; simp) (by rw [eh]; simp)
  rw [inv.xl, show z.hs.length = 1 by rw [eh]; rfl] at hvw
  have HDM : Hid (z.dmd = hd.dm) := dmd_of eh
  have HSC : Hid ((slCells (slots z.hs z.ws))[4]? = some (.bool hd.dm)) := dm_cell eh inv.ws
  have HINV : Hid (HInv b z sg p) := inv
  have HP : Hid (p.length = n ∧ cs = p.map (·.1) ∧ xs = p.map (·.2)) := ⟨hp, hcs, hxs⟩
  have HJ : Hid (its[j]? = some (ownI 3 1 (.slice ac n cc) n (clCells cs))) := hj
  have HK : Hid (its[k]? = some (ownI 2 1 (.slice av n cv) n (clCells xs))) := hk
  clear h h0 inv hp hcs hxs hi hj hk eh hw
  unfold spp at *
  go_enter Try.func31, Try.ntmps31
  go_upto_region 1 with fail
  generalize w.alloc (.cells #[.slice ac n cc, .slice av n cv] 82) = w1 at *
  generalize w.heap.size = PB at *
  go_wp2_with fail
  refine hvw.mono ?_
  rintro e w2 ⟨va, vs, rfl, h2⟩
  clear hvw
  obtain ⟨ga, ca, rfl⟩ := h2.form 0 rfl (by omega)
  obtain ⟨gs, cs_, rfl⟩ := h2.form 1 rfl (by omega)
  have l4 : w2.cell? ⟨gs, 4, none⟩ = some (.bool hd.dm) := (h2.ownCell 1 rfl 4 (by omega)).trans HSC.out
  generalize hnn : z.x.n = N at *
  generalize z.x.o = O at *
  have h3 := h2.box #[.slice (some ⟨ga, 0, none⟩) 16 ca, .int .i64 N, .int .i64 O, .slice (some ⟨gs, 0, none⟩) 1 cs_] 54
  have l4' := (h3.ownCell 2 rfl 4 (by omega)).trans HSC.out
  have b0 := h3.cell 0 rfl 0
  have b1 := h3.cell 0 rfl 1
  have b3 := h3.cell 0 rfl 3
  clear h2 l4 HSC hnn
  go_upto_region 2 with fail
  generalize w2.alloc (.cells #[.slice (some ⟨ga, 0, none⟩) 16 ca, .int .i64 N, .int .i64 O, .slice (some ⟨gs, 0, none⟩) 1 cs_] 54) = w3 at *
  generalize w2.heap.size = VB at *
  have H3 : Hid (St o _ w3) := h3
  clear h3
  cases h2n : (N % 2 == 1) with
  | true =>
    go_wp2
    go_ret
    exact ⟨rfl, H3.out.pop.pop.pop.pop⟩
  | false =>
    cases hdm : hd.dm with
    | true =>
      rw [hdm] at l4'
      go_wp2
      go_ret
      exact ⟨rfl, H3.out.pop.pop.pop.pop⟩
    | false =>
      rw [hdm] at l4'
      have HV : Hid (∀ i, (hi : i < n) → ∃ q : Nat, q < 16 ∧ (clCells cs)[i]? = some (.int .i64 (q : Int)) ∧ ∃ x : Int, (clCells xs)[i]? = some (.int .i64 x) ∧ (clCells z.xs)[q]? = some (.int .i64 x)) := by
        intro i hi
        obtain ⟨hp, hcs, hxs⟩ := HP.out
        have hi' : i < p.length := by omega
        have hm : p[i] ∈ p := List.getElem_mem hi'
        obtain ⟨⟨s0, s1⟩, -⟩ := HINV.out.sub _ hm
        have hv := HINV.out.val (HDM.out.trans hdm) _ hm
        obtain ⟨q, hq⟩ := Int.eq_ofNat_of_zero_le s0
        have hq16 : q < z.xs.length := by rw [HINV.out.xl]; omega
        refine ⟨q, by omega, ?_, p[i].2, ?_, ?_⟩
        · rw [hcs]; simp [clCells, hi', hq]
        · rw [hxs]; simp [clCells, hi']
        · rw [clCells_at _ _ hq16, ← hv, hq]
          exact congrArg (fun t => some (Value.int .i64 t)) (loadR_in hq16).symm
      have HC : Hid (∀ W, St o (boxI VB #[.slice (some ⟨ga, 0, none⟩) 16 ca, .int .i64 N, .int .i64 O, .slice (some ⟨gs, 0, none⟩) 1 cs_] 54 :: ownI 2 1 (.slice (some ⟨ga, 0, none⟩) 16 ca) 16 (clCells z.xs) :: ownI 49 8 (.slice (some ⟨gs, 0, none⟩) 1 cs_) 1 (slCells (slots z.hs z.ws)) :: boxI PB #[.slice ac n cc, .slice av n cv] 82 :: its) W → W.cell? ⟨VB, 0, none⟩ = some (.slice (some ⟨ga, 0, none⟩) 16 ca) ∧ W.cell? ⟨PB, 0, none⟩ = some (.slice ac n cc) ∧ W.cell? ⟨PB, 1, none⟩ = some (.slice av n cv)) := fun W hh => ⟨hh.cell 0 rfl 0, hh.cell 3 rfl 0, hh.cell 3 rfl 1⟩
      have HG : Hid (∀ W, St o (boxI VB #[.slice (some ⟨ga, 0, none⟩) 16 ca, .int .i64 N, .int .i64 O, .slice (some ⟨gs, 0, none⟩) 1 cs_] 54 :: ownI 2 1 (.slice (some ⟨ga, 0, none⟩) 16 ca) 16 (clCells z.xs) :: ownI 49 8 (.slice (some ⟨gs, 0, none⟩) 1 cs_) 1 (slCells (slots z.hs z.ws)) :: boxI PB #[.slice ac n cc, .slice av n cv] 82 :: its) W → ∀ i, i < n → ∃ gc gv q x, ac = some ⟨gc, 0, none⟩ ∧ av = some ⟨gv, 0, none⟩ ∧ q < 16 ∧ W.cell? ⟨gc, i, none⟩ = some (.int .i64 (q : Nat)) ∧ W.cell? ⟨gv, i, none⟩ = some (.int .i64 x) ∧ W.cell? ⟨ga, q, none⟩ = some (.int .i64 x)) := by
        intro W hh i hi
        obtain ⟨q, hq, e1, x, e2, e3⟩ := HV.out i hi
        have hj : (boxI VB #[.slice (some ⟨ga, 0, none⟩) 16 ca, .int .i64 N, .int .i64 O, .slice (some ⟨gs, 0, none⟩) 1 cs_] 54 :: ownI 2 1 (.slice (some ⟨ga, 0, none⟩) 16 ca) 16 (clCells z.xs) :: ownI 49 8 (.slice (some ⟨gs, 0, none⟩) 1 cs_) 1 (slCells (slots z.hs z.ws)) :: boxI PB #[.slice ac n cc, .slice av n cv] 82 :: its)[j + 4]? = some (ownI 3 1 (.slice ac n cc) n (clCells cs)) := by simpa using HJ.out
        have hk : (boxI VB #[.slice (some ⟨ga, 0, none⟩) 16 ca, .int .i64 N, .int .i64 O, .slice (some ⟨gs, 0, none⟩) 1 cs_] 54 :: ownI 2 1 (.slice (some ⟨ga, 0, none⟩) 16 ca) 16 (clCells z.xs) :: ownI 49 8 (.slice (some ⟨gs, 0, none⟩) 1 cs_) 1 (slCells (slots z.hs z.ws)) :: boxI PB #[.slice ac n cc, .slice av n cv] 82 :: its)[k + 4]? = some (ownI 2 1 (.slice av n cv) n (clCells xs)) := by simpa using HK.out
        obtain ⟨gc, c1, ec⟩ := hh.form (j + 4) hj (by omega)
        obtain ⟨gv, c2, ev⟩ := hh.form (k + 4) hk (by omega)
        simp only [Value.slice.injEq, true_and] at ec ev
        obtain ⟨rfl, rfl⟩ := ec
        obtain ⟨rfl, rfl⟩ := ev
        exact ⟨gc, gv, q, x, rfl, rfl, hq, (hh.ownCell (j + 4) hj i (by omega)).trans e1, (hh.ownCell (k + 4) hk i (by omega)).trans e2, (hh.ownCell 1 rfl q (by omega)).trans e3⟩
      clear HV
      go_wp2_with fail
      go_loopw [6] (fun a wr => ∃ i : Nat, a = .int .i64 i ∧ i ≤ n ∧ Hid (St o (boxI VB #[.slice (some ⟨ga, 0, none⟩) 16 ca, .int .i64 N, .int .i64 O, .slice (some ⟨gs, 0, none⟩) 1 cs_] 54 :: ownI 2 1 (.slice (some ⟨ga, 0, none⟩) 16 ca) 16 (clCells z.xs) :: ownI 49 8 (.slice (some ⟨gs, 0, none⟩) 1 cs_) 1 (slCells (slots z.hs z.ws)) :: boxI PB #[.slice ac n cc, .slice av n cv] 82 :: its) wr)) (fun a _ => n - (intOf a).toNat)
      case atStart => exact ⟨0, rfl, Nat.zero_le _, H3⟩
      case round =>
        clear H3 b0 b1 b3 l4'
        obtain ⟨i, rfl, hi, HS⟩ := hrel
        have hi0 : (0 : Int) ≤ (i : Int) := by omega
        obtain ⟨d0, d1, d2⟩ := HC.out _ HS.out
        by_cases hlt : i < n
        · have hi1 : (i : Int) < (n : Int) := by omega
          obtain ⟨gc, gv, q, x, rfl, rfl, hq, f1, f2, f3⟩ := HG.out _ HS.out i hlt
          have q0 : (0 : Int) ≤ (q : Int) := by omega
          have q1 : (q : Int) < 16 := by omega
          have xx : (x != x) = false := by simp
          go_upto_region 7 with fail
          go_quiet (fail)
          have HS2 : Hid (St o _ (wr.drewN nq)) := HS.out.drewN_ nq
          clear HS d0 d1 d2 f1 f2 f3
          go_wp2
          go_roundw
          case rel => exact ⟨i + 1, by go_num, by omega, HS2⟩
          case measure => simp [intOf]; omega
        · have hi1 : ¬ (i : Int) < (n : Int) := by omega
          go_wp2
          go_ret
          exact ⟨rfl, HS.out.pop.pop.pop.pop⟩
end Go.Proofs.Ytajfjkhbimehbaa

namespace Go.Proofs.Ytajfjkhbimehbaa
open Go.RowKit
set_option linter.unusedVariables false
set_option linter.unusedSimpArgs false

/-- The read, if one is under way (XS: what lies in memory of it; xp: the pointer; fs: the law's own From). -/
def RX (b ce : Int) (A : Ad) (z : SSt) (sg : Sg) (fs : Array Value) (XS : List It) (xp : Value) : Prop :=
  (XS = [] ∧ xp = .pointer none ∧ ∃ sn : Int, fs = #[.int .i64 0, .int .i64 1, .int .i64 sn, .int .u64 sg.lo, .int .u64 sg.hi]) ∨
  ∃ K r, XS = [rdI K A.sp r] ∧ xp = .pointer (some ⟨K, 0, none⟩) ∧ RInv b z r ∧ RVal z r ∧ r.st ≠ 4 ∧ r.sg = sg ∧ r.ce = ce ∧ ∃ a c d x y, fs = #[.int .i64 a, .int .i64 c, .int .i64 d, .int .u64 x, .int .u64 y]
/-- All that the law keeps; k: at least as many as there were accesses; DS: what else lies there (the deed's own copy, a list). -/
def HQ (w : World) (b ce : Int) (A : Ad) (PB F k : Nat) (z : SSt) (sg : Sg) (p : List (Int × Int)) (fs : Array Value) (XS DS : List It) (vc vv xp : Value) (wr : World) : Prop :=
  ∃ v, z.ok (rdC 16 b) k ∧ sg.ok ∧ HInv b z sg p ∧ p.length ≤ k ∧ RX b ce A z sg fs XS xp ∧
    St w (ownI 3 1 vc p.length (clCells (p.map (·.1))) :: ownI 2 1 vv p.length (clCells (p.map (·.2))) :: boxI PB #[vc, vv] 82 :: boxI F fs 34 :: spI A (rdC 16 b) z v (.slice none 0 0) :: (XS ++ DS)) wr
section
variable {w wr : World} {b ce : Int} {A : Ad} {PB F k : Nat} {z : SSt} {sg : Sg} {p : List (Int × Int)} {fs : Array Value} {XS DS : List It} {vc vv xp : Value}
theorem HQ.same (h : HQ w b ce A PB F k z sg p fs XS DS vc vv xp wr) : Kept (fun _ => False) w wr := by
  obtain ⟨v, _, _, _, _, _, h⟩ := h
  exact h.same
theorem RX.same {y : SSt} (h : RX b ce A z sg fs XS xp) (e1 : y.xs = z.xs) (e2 : y.hs = z.hs) (e3 : y.ws = z.ws) : RX b ce A y sg fs XS xp := by
  rcases h with h | ⟨K, r, h1, h2, inv, hv, h3, h4, h5⟩
  · exact .inl h
  · exact .inr ⟨K, r, h1, h2, ⟨inv.fit, inv.sl, inv.gn, inv.bi, by rw [e1]; exact inv.ce, by rw [e2]; exact inv.hl, by rw [e3]; exact inv.ws, inv.full⟩, hv.same e1 e2, h3, h4, h5⟩
theorem HQ.take (h : HQ w b ce A PB F k z sg p fs XS DS vc vv xp wr) (hk : k ≤ 4611686018427) (t : Int) :
    Calls Try.prog 21 #[.pointer (some ⟨A.g, 0, none⟩), .int .i64 t] wr fun e w' => e = .returned (.tuple #[.int .i64 (takeR z.x t), .int .i64 (takeE z.x t)]) ∧ HQ w b ce A PB F (k + 1) (z.take t) sg p fs XS DS vc vv xp w' := by
  obtain ⟨v, ok, hs, hi, hl, hx, h⟩ := h
  refine (spTake h 4 rfl ok hk t).mono ?_
  rintro e w' ⟨he, v', h'⟩
  exact ⟨he, v', ok.take t, hs, hi.same rfl rfl rfl, by omega, hx.same rfl rfl rfl, h'⟩
theorem HQ.give (h : HQ w b ce A PB F k z sg p fs XS DS vc vv xp wr) (hk : k ≤ 4611686018427) (t : Int) :
    Calls Try.prog 22 #[.pointer (some ⟨A.g, 0, none⟩), .int .i64 t] wr fun e w' => e = .returned (.int .i64 (giveE z.x t)) ∧ HQ w b ce A PB F (k + 1) (z.give t) sg p fs XS DS vc vv xp w' := by
  obtain ⟨v, ok, hs, hi, hl, hx, h⟩ := h
  refine (spGive h 4 rfl ok hk t).mono ?_
  rintro e w' ⟨he, v', h'⟩
  exact ⟨he, v', ok.give t, hs, hi.same rfl rfl rfl, by omega, hx.same rfl rfl rfl, h'⟩
theorem HQ.gate (h : HQ w b ce A PB F k z sg p fs XS DS vc vv xp wr) : Calls Try.prog 20 #[spp A] wr fun e w' => e = .returned (.pointer (some ⟨A.g, 0, none⟩)) ∧ w' = wr := by
  obtain ⟨v, ok, hs, hi, hl, hx, h⟩ := h
  exact spGate h 4 rfl
theorem HQ.now (h : HQ w b ce A PB F k z sg p fs XS DS vc vv xp wr) : Calls Try.prog 24 #[.pointer (some ⟨A.g, 0, none⟩)] wr fun e w' => e = .returned z.x.val ∧ HQ w b ce A PB F k z sg p fs XS DS vc vv xp w' := by
  obtain ⟨v, ok, hs, hi, hl, hx, h⟩ := h
  refine (spNow h 4 rfl).mono ?_
  rintro e w' ⟨he, h'⟩
  exact ⟨he, v, ok, hs, hi, hl, hx, h'⟩
theorem HQ.doom (h : HQ w b ce A PB F k z sg p fs XS DS vc vv xp wr) (hk : k ≤ 4611686018427) :
    Calls Try.prog 29 #[.pointer (some ⟨A.t, 0, none⟩), .int .i64 0, .int .i64 1, .int .i64 2] wr fun e w' => e = .returned (.int .i64 ((doomOp 1 2).E z.hs 0)) ∧ HQ w b ce A PB F (k + 1) (z.op (doomOp 1 2) 0) sg p fs XS DS vc vv xp w' ∧ (z.op (doomOp 1 2) 0).dmd = true := by
  obtain ⟨v, ok, hs, hi, hl, hx, h⟩ := h
  refine (spDoom h 4 rfl ok hk 0 1 2).mono ?_
  rintro e w' ⟨he, v', h'⟩
  refine ⟨he, ⟨v', ok.op _ _ (doom_keeps ok.hd 1 2 0), hs, hi.doom.1, by omega, ?_, h'⟩, hi.doom.2⟩
  rcases hx with hx | ⟨K, r, h1, h2, inv, hv, h3, h4, h5⟩
  · exact .inl hx
  · exact .inr ⟨K, r, h1, h2, inv.doom 1 2, (fun hf _ => absurd hf (by rw [hi.doom.2]; decide)), h3, h4, h5⟩
theorem HQ.store (h : HQ w b ce A PB F k z sg p fs XS DS vc vv xp wr) (hk : k ≤ 4611686018427) (hb : 1 ≤ b ∧ b ≤ 128) {l : List Int} (hl : Fine b l) {c : Int} (hc : c ∈ l) (hm : z.dmd = true ∨ (!(((ofR l b).1.meet sg).same Sg.zero)) = false) (x : Int) :
    Calls Try.prog 30 #[spp A, .int .i64 c, .int .i64 x] wr fun e w' => (∃ y, e = .returned y) ∧ HQ w b ce A PB F (k + 1) (z.store c x) sg p fs XS DS vc vv xp w' := by
  obtain ⟨v, ok, hs, hi, hl', hx, h⟩ := h
  refine (spStore h 4 rfl ok hk c x).mono ?_
  rintro e w' ⟨he, v', h'⟩
  refine ⟨⟨_, he⟩, v', ok.store c x, hs, hi.store hb hl hc hm x, by omega, ?_, h'⟩
  rcases hx with hx | ⟨K, r, h1, h2, inv, hv, h3, h4, h5⟩
  · exact .inl hx
  · exact .inr ⟨K, r, h1, h2, inv.store c x, hv.store inv hb hl hc (by rw [h4]; exact hm) x, h3, h4, h5⟩
theorem HQ.holds (h : HQ w b ce A PB F k z sg p fs XS DS vc vv xp wr) (hk : k ≤ 4611686018427) : Calls Try.prog 31 #[spp A, .agg #[vc, vv]] wr fun e w' => e = .returned (.bool true) ∧ HQ w b ce A PB F k z sg p fs XS DS vc vv xp w' := by
  obtain ⟨v, ok, hs, hi, hl, hx, h⟩ := h
  refine (holds_any h 4 0 1 rfl rfl rfl (by omega) ok.wl hi rfl rfl rfl ok.g0).mono ?_
  rintro e w' ⟨he, h'⟩
  exact ⟨he, v, ok, hs, hi, hl, hx, h'⟩
end
end Go.Proofs.Ytajfjkhbimehbaa

namespace Go.Proofs.Ytajfjkhbimehbaa
open Go.RowKit
set_option linter.unusedVariables false
set_option linter.unusedSimpArgs false

/-- A read behind its step: it may be done. -/
def HX (w : World) (b ce : Int) (A : Ad) (PB F k : Nat) (z : SSt) (r : Rd) (p : List (Int × Int)) (fs : Array Value) (K : Nat) (DS : List It) (vc vv : Value) (wr : World) : Prop :=
  ∃ v, z.ok (rdC 16 b) k ∧ HInv b z r.sg p ∧ p.length + 1 ≤ k ∧ RInv b z r ∧ RVal z r ∧ (r.st = 4 → (r.e = 0 ∧ z.dmd = false) ∨ (r.e = 7 ∧ z.dmd = true)) ∧ (r.ce = ce ∧ ∃ a c d x y, fs = #[.int .i64 a, .int .i64 c, .int .i64 d, .int .u64 x, .int .u64 y]) ∧
    St w (ownI 3 1 vc p.length (clCells (p.map (·.1))) :: ownI 2 1 vv p.length (clCells (p.map (·.2))) :: boxI PB #[vc, vv] 82 :: boxI F fs 34 :: spI A (rdC 16 b) z v (.slice none 0 0) :: rdI K A.sp r :: DS) wr
theorem next_four {r : Rd} {z : SSt} (h4 : r.st ≠ 4) (hs : r.st ≤ 4) (h : (r.next z).st = 4) : r.st = 3 := by
  by_cases h3 : r.st = 3
  · exact h3
  · exfalso
    by_cases h0 : r.st = 0
    · have en : (r.next z).st = if r.pub.miss = [] then 1 else 0 := by unfold Rd.next; rw [if_pos h0]; rfl
      rw [en] at h
      split at h <;> omega
    · unfold Rd.next at h
      rw [if_neg h0] at h
      split at h
      · simp at h
      · split at h
        · split at h
          · split at h
            · simp at h
            · simp at h
          · omega
        · exact h4 h
section
variable {w wr : World} {b ce : Int} {A : Ad} {PB F k K : Nat} {z : SSt} {sg : Sg} {p : List (Int × Int)} {fs : Array Value} {DS : List It} {r : Rd} {vc vv : Value}
theorem HX.same (h : HX w b ce A PB F k z r p fs K DS vc vv wr) : Kept (fun _ => False) w wr := by
  obtain ⟨v, _, _, _, _, _, _, _, h⟩ := h
  exact h.same
theorem HQ.step {XS : List It} (h : HQ w b ce A PB F k z sg p fs XS DS vc vv (.pointer (some ⟨K, 0, none⟩)) wr) (hk : k ≤ 4611686018427) :
    ∃ r, Calls Try.prog 15 #[.pointer (some ⟨K, 0, none⟩)] wr fun e w' => (∃ a, e = .returned (.int .i64 a)) ∧ HX w b ce A PB F (k + 1) (z.reads r) (r.next z) p fs K DS vc vv w' := by
  obtain ⟨v, ok, hs, hi, hl, hx, h⟩ := h
  rcases hx with ⟨_, hx, _⟩ | ⟨K', r, h1, h2, inv, hv, h3, h4, h5⟩
  · cases hx
  · simp only [Value.pointer.injEq, Option.some.injEq, Addr.mk.injEq, and_true] at h2
    subst h2 h1 h4
    refine ⟨r, (rdStep h 4 5 (by omega) rfl rfl ok hk inv.fit).mono ?_⟩
    rintro e w' ⟨he, v', h'⟩
    refine ⟨⟨_, he⟩, v', ok.reads r, hi.reads inv, by omega, inv.next, hv.reads inv h3, fun hf => ?_, ⟨by rw [(r.next_frame z).2.2.1]; exact h5.1, h5.2⟩, h'⟩
    have hd : (z.reads r).dmd = z.dmd := by unfold SSt.dmd; rw [(z.reads_frame r).2.2.1]
    rw [hd]
    exact hi.done inv (next_four h3 inv.fit.st hf)
theorem HX.goes (h : HX w b ce A PB F k z r p fs K DS vc vv wr) (h4 : r.st ≠ 4) : HQ w b ce A PB F k z r.sg p fs [rdI K A.sp r] DS vc vv (.pointer (some ⟨K, 0, none⟩)) wr := by
  obtain ⟨v, ok, hi, hl, inv, hv, _, hf, h⟩ := h
  exact ⟨v, ok, inv.fit.sg, hi, by omega, .inr ⟨K, r, rfl, rfl, inv, hv, h4, rfl, hf⟩, h⟩
theorem HX.ends (h : HX w b ce A PB F k z r p fs K DS vc vv wr) (h4 : r.st = 4) : (r.e = 0 ∧ z.dmd = false) ∨ (r.e = 7 ∧ z.dmd = true) := by
  obtain ⟨v, ok, hi, hl, inv, hv, he, hf, h⟩ := h
  exact he h4
theorem HX.isDone (h : HX w b ce A PB F k z r p fs K DS vc vv wr) : Calls Try.prog 14 #[.pointer (some ⟨K, 0, none⟩)] wr fun e w' => e = .returned (.bool (r.st == 4)) ∧ w' = wr := by
  obtain ⟨v, ok, hi, hl, inv, hv, _, hf, h⟩ := h
  exact rdDone h 5 rfl inv.fit.st
theorem HX.value (h : HX w b ce A PB F k z r p fs K DS vc vv wr) : Calls Try.prog 16 #[.pointer (some ⟨K, 0, none⟩)] wr fun e w' => e = .returned (.tuple #[.int .i64 r.valX, .int .i64 r.e]) ∧ HX w b ce A PB F k z r p fs K DS vc vv w' := by
  obtain ⟨v, ok, hi, hl, inv, hv, hd, hf, h⟩ := h
  refine (rdValue h 5 rfl).mono ?_
  rintro e w' ⟨he, q, rfl⟩
  exact ⟨he, v, ok, hi, hl, inv, hv, hd, hf, h.drewN_ q⟩
theorem HX.from_ (h : HX w b ce A PB F k z r p fs K DS vc vv wr) : Calls Try.prog 17 #[.pointer (some ⟨K, 0, none⟩)] wr fun e w' => e = .returned (.agg #[.int .i64 0, .int .i64 1, .int .i64 r.sn, .int .u64 r.sg.lo, .int .u64 r.sg.hi]) ∧ HX w b ce A PB F k z r p fs K DS vc vv w' := by
  obtain ⟨v, ok, hi, hl, inv, hv, hd, hf, h⟩ := h
  refine (rdFrom h 5 rfl).mono ?_
  rintro e w' ⟨he, h'⟩
  refine ⟨?_, v, ok, hi, hl, inv, hv, hd, hf, h'⟩
  rw [he]
  unfold Rd.fromV
  rw [inv.sl, inv.gn]
/-- A read is begun where none is under way. -/
theorem HQ.begin {XS : List It} (h : HQ w b ce A PB F k z sg p fs XS DS vc vv (.pointer none) wr) (q : Nat) (hq : q < 16) (hb : 1 ≤ b ∧ b ≤ 128) :
    ∃ sn : Int, fs = #[.int .i64 0, .int .i64 1, .int .i64 sn, .int .u64 sg.lo, .int .u64 sg.hi] ∧ Calls Try.prog 13 #[spp A, .agg fs, .int .i64 (q : Int)] wr fun e w' => ∃ K, e = .returned (.tuple #[.pointer (some ⟨K, 0, none⟩), .int .i64 0]) ∧
      HQ w b (q : Int) A PB F k z sg p fs [rdI K A.sp (Rd.new 0 1 sn sg q (bitsOf b q))] DS vc vv (.pointer (some ⟨K, 0, none⟩)) w' := by
  obtain ⟨v, ok, hs, hi, hl, hx, h⟩ := h
  rcases hx with ⟨h1, _, sn, hf⟩ | ⟨K', r, h1, h2, _⟩
  · subst h1 hf
    refine ⟨sn, rfl, (rdNew_st h 4 rfl 0 1 sn sg (q : Int) hs (show inN 16 (q : Int) = true from by unfold inN; rw [decide_eq_true (by omega : (0 : Int) ≤ q), decide_eq_true (by omega : (q : Int) < 16)]; rfl) rfl).mono ?_⟩
    rintro e w' ⟨K, he, h'⟩
    have hne : (Rd.new 0 1 sn sg q (bitsOf b q)).st ≠ 4 ∧ (Rd.new 0 1 sn sg q (bitsOf b q)).st ≤ 1 := by
      show (if (Rd.new 0 1 sn sg q (bitsOf b q)).miss = [] then 1 else 0) ≠ 4 ∧ (if (Rd.new 0 1 sn sg q (bitsOf b q)).miss = [] then 1 else 0) ≤ 1
      split <;> omega
    refine ⟨K, he, v, ok, hs, hi, hl, .inr ⟨K, _, rfl, rfl, RInv.new hs ⟨by omega, by rw [hi.xl]; omega⟩ (by obtain ⟨_, e, _⟩ := hi.one; rw [e]; rfl) hi.ws, fun _ h' => by omega, hne.1, rfl, rfl, ⟨_, _, _, _, _, rfl⟩⟩, ?_⟩
    exact h'.perm (List.perm_append_comm (l₁ := [rdI K A.sp (Rd.new 0 1 sn sg q (bitsOf b q))]) (l₂ := _ :: _ :: _ :: _ :: [_]) |>.append_right DS)
  · cases h2
end
end Go.Proofs.Ytajfjkhbimehbaa

namespace Go.Proofs.Ytajfjkhbimehbaa
open Go.RowKit
set_option linter.unusedVariables false
set_option linter.unusedSimpArgs false

theorem clCells_append (l : List Int) (c : Int) : clCells (l ++ [c]) = clCells l ++ [.int .i64 c] := by simp [clCells]
theorem two_cells {hs : List Hd} {h : Hd} (e : hs = [h]) (x y : Int) : (slCells (slots hs [x, y]))[4]? = some (.bool h.dm) ∧ (slCells (slots hs [x, y]))[6]? = some (.int .u64 x) ∧ (slCells (slots hs [x, y]))[7]? = some (.int .u64 y) := by
  subst e
  exact ⟨rfl, rfl, rfl⟩
theorem own_clInts {w : World} {v : Value} {l : List Int} (h : w.ownsRow 0 3 1 v l.length (clCells l)) : ∃ a cap, v = .slice a l.length cap ∧ IntsIn w a l.length l := by
  obtain ⟨a, cap, rfl⟩ := own_form (w := w) (t := 3) (z := 1) (v := v) (n := l.length) (xs := clCells l) h
  refine ⟨a, cap, rfl, rfl, fun h0 => ?_⟩
  obtain ⟨g, cap', e, _, _⟩ := h.form h0
  simp only [Value.slice.injEq] at e
  obtain ⟨rfl, _, rfl⟩ := e
  refine ⟨g, 0, rfl, fun j hj => ?_⟩
  rw [Nat.zero_add, h.cellAt j (by omega), clCells_at l j hj]
  simp [hj]
section
variable {w wr wr' : World} {b ce : Int} {A : Ad} {PB F k : Nat} {z : SSt} {sg : Sg} {p : List (Int × Int)} {fs : Array Value} {XS DS : List It} {vc vv xp : Value} {X X' : It}
theorem HQ.push1 (h : HQ w b ce A PB F k z sg p fs XS DS vc vv xp wr) (f : ∀ its, St w its wr → St w (X :: its) wr') : HQ w b ce A PB F k z sg p fs XS (X :: DS) vc vv xp wr' := by
  obtain ⟨v, ok, hs, hi, hl, hx, h⟩ := h
  exact ⟨v, ok, hs, hi, hl, hx, (f _ h).perm (List.perm_middle (l₁ := _ :: _ :: _ :: _ :: _ :: XS)).symm⟩
theorem HQ.turn1 (h : HQ w b ce A PB F k z sg p fs XS (X :: DS) vc vv xp wr) (f : ∀ its, St w (X :: its) wr → St w (X' :: its) wr') : HQ w b ce A PB F k z sg p fs XS (X' :: DS) vc vv xp wr' := by
  obtain ⟨v, ok, hs, hi, hl, hx, h⟩ := h
  exact ⟨v, ok, hs, hi, hl, hx, (f _ (h.perm (List.perm_middle (l₁ := _ :: _ :: _ :: _ :: _ :: XS)))).perm (List.perm_middle (l₁ := _ :: _ :: _ :: _ :: _ :: XS)).symm⟩
theorem HQ.pop1 (h : HQ w b ce A PB F k z sg p fs XS (X :: DS) vc vv xp wr) : HQ w b ce A PB F k z sg p fs XS DS vc vv xp wr := by
  obtain ⟨v, ok, hs, hi, hl, hx, h⟩ := h
  exact ⟨v, ok, hs, hi, hl, hx, (h.perm (List.perm_middle (l₁ := _ :: _ :: _ :: _ :: _ :: XS))).pop⟩
theorem HQ.get1 (h : HQ w b ce A PB F k z sg p fs XS (X :: DS) vc vv xp wr) : ∃ its, St w (X :: its) wr := by
  obtain ⟨v, ok, hs, hi, hl, hx, h⟩ := h
  exact ⟨_, h.perm (List.perm_middle (l₁ := _ :: _ :: _ :: _ :: _ :: XS))⟩
theorem HQ.calm (h : HQ w b ce A PB F k z sg p fs XS DS vc vv xp wr) (kk : Kept (fun _ => False) wr wr') : HQ w b ce A PB F k z sg p fs XS DS vc vv xp wr' := by
  obtain ⟨v, ok, hs, hi, hl, hx, h⟩ := h
  exact ⟨v, ok, hs, hi, hl, hx, h.calm kk⟩
theorem HQ.drew (h : HQ w b ce A PB F k z sg p fs XS DS vc vv xp wr) : HQ w b ce A PB F k z sg p fs XS DS vc vv xp wr.drew := h.calm (kept_drew wr)
theorem HQ.more {k' : Nat} (h : HQ w b ce A PB F k z sg p fs XS DS vc vv xp wr) (hk : k ≤ k') : HQ w b ce A PB F k' z sg p fs XS DS vc vv xp wr := by
  obtain ⟨v, ok, hs, hi, hl, hx, h⟩ := h
  exact ⟨v, ok.more hk, hs, hi, by omega, hx, h⟩
theorem HQ.sgok (h : HQ w b ce A PB F k z sg p fs XS DS vc vv xp wr) : sg.ok := by
  obtain ⟨v, ok, hs, hi, hl, hx, h⟩ := h
  exact hs
theorem HQ.anyCe {ce' : Int} (h : HQ w b ce A PB F k z sg p fs XS DS vc vv (.pointer none) wr) : HQ w b ce' A PB F k z sg p fs XS DS vc vv (.pointer none) wr := by
  obtain ⟨v, ok, hs, hi, hl, hx, h⟩ := h
  refine ⟨v, ok, hs, hi, hl, ?_, h⟩
  rcases hx with hx | ⟨K, r, h1, h2, _⟩
  · exact .inl hx
  · cases h2
theorem HQ.box (h : HQ w b ce A PB F k z sg p fs XS DS vc vv xp wr) (cs : Array Value) (t : TypeId) : HQ w b ce A PB F k z sg p fs XS (boxI wr.heap.size cs t :: DS) vc vv xp (wr.alloc (.cells cs t)) := h.push1 (fun _ h => h.box cs t)
theorem HQ.pairCells (h : HQ w b ce A PB F k z sg p fs XS DS vc vv xp wr) : wr.cell? ⟨PB, 0, none⟩ = some vc ∧ wr.cell? ⟨PB, 1, none⟩ = some vv := by
  obtain ⟨v, ok, hs, hi, hl, hx, h⟩ := h
  exact ⟨h.cell 2 rfl 0, h.cell 2 rfl 1⟩
theorem HQ.slots (h : HQ w b ce A PB F k z sg p fs XS DS vc vv xp wr) : Calls Try.prog 28 #[spp A] wr fun e w' => e = .returned (.pointer (some ⟨A.t, 0, none⟩)) ∧ w' = wr := by
  obtain ⟨v, ok, hs, hi, hl, hx, h⟩ := h
  exact spSlots h 4 rfl
theorem HQ.view (h : HQ w b ce A PB F k z sg p fs XS DS vc vv xp wr) : Calls Try.prog 19 #[spp A] wr fun e w' => ∃ pa ca N O ps cs, e = .returned (.agg #[.slice pa 16 ca, .int .i64 N, .int .i64 O, .slice (some ⟨ps, 0, none⟩) 1 cs]) ∧ w'.cell? ⟨ps, 6, none⟩ = some (.int .u64 sg.lo) ∧ w'.cell? ⟨ps, 7, none⟩ = some (.int .u64 sg.hi) ∧ HQ w b ce A PB F k z sg p fs XS DS vc vv xp w' := by
  obtain ⟨v, ok, hs, hi, hl, hx, h⟩ := h
  obtain ⟨hd, eh, -, -⟩ := hi.one
  refine (spView h 4 rfl ok.wl ok.h1 ok.h8).mono ?_
  rintro e w' ⟨va, vs, rfl, h'⟩
  have e1 : z.hs.length = 1 := by rw [eh]; rfl
  rw [hi.ws, e1, hi.xl] at h'
  obtain ⟨pa, ca, rfl⟩ := own_form (h'.get 0 rfl)
  obtain ⟨ps, cs, rfl⟩ := h'.form 1 rfl (by omega)
  have t := two_cells eh sg.lo sg.hi
  exact ⟨pa, ca, _, _, ps, cs, rfl, (h'.ownCell 1 rfl 6 (by omega)).trans t.2.1, (h'.ownCell 1 rfl 7 (by omega)).trans t.2.2, v, ok, hs, hi, hl, hx, h'.pop.pop⟩
end
section
variable {w wr : World} {b ce : Int} {A : Ad} {PB F k K : Nat} {z : SSt} {p : List (Int × Int)} {fs : Array Value} {DS : List It} {r : Rd} {vc vv : Value}
theorem HX.view (h : HX w b ce A PB F k z r p fs K DS vc vv wr) : Calls Try.prog 19 #[spp A] wr fun e w' => ∃ pa ca N O ps cs, e = .returned (.agg #[.slice pa 16 ca, .int .i64 N, .int .i64 O, .slice (some ⟨ps, 0, none⟩) 1 cs]) ∧ w'.cell? ⟨ps, 4, none⟩ = some (.bool z.dmd) ∧ Kept (fun _ => False) w w' := by
  obtain ⟨v, ok, hi, hl, inv, hv, hd, hf, h⟩ := h
  obtain ⟨hh, eh, -, -⟩ := hi.one
  refine (spView h 4 rfl ok.wl ok.h1 ok.h8).mono ?_
  rintro e w' ⟨va, vs, rfl, h'⟩
  have e1 : z.hs.length = 1 := by rw [eh]; rfl
  rw [hi.ws, e1, hi.xl] at h'
  obtain ⟨pa, ca, rfl⟩ := own_form (h'.get 0 rfl)
  obtain ⟨ps, cs, rfl⟩ := h'.form 1 rfl (by omega)
  have t := two_cells eh r.sg.lo r.sg.hi
  exact ⟨pa, ca, _, _, ps, cs, rfl, by rw [dmd_of eh]; exact (h'.ownCell 1 rfl 4 (by omega)).trans t.1, h'.same⟩
/-- A read that may have its value. -/
theorem HX.parts (h : HX w b ce A PB F k z r p fs K DS vc vv wr) (h4 : r.st = 4) (he : r.e = 0) (hb : 1 ≤ b ∧ b ≤ 128) :
    ∃ v, z.ok (rdC 16 b) k ∧ r.sg.ok ∧ HInv b z r.sg (p ++ [(ce, r.valX)]) ∧ p.length + 1 ≤ k ∧ (∃ a c d x y, fs = #[.int .i64 a, .int .i64 c, .int .i64 d, .int .u64 x, .int .u64 y]) ∧
    St w (ownI 3 1 vc p.length (clCells (p.map (·.1))) :: ownI 2 1 vv p.length (clCells (p.map (·.2))) :: boxI PB #[vc, vv] 82 :: boxI F fs 34 :: spI A (rdC 16 b) z v (.slice none 0 0) :: rdI K A.sp r :: DS) wr ∧ r.sl = 0 ∧ r.gn = 1 := by
  obtain ⟨v, ok, hi, hl, inv, hv, hd, ⟨hce, hf⟩, h⟩ := h
  subst hce
  have hs : Sub r.bi r.sg := by
    have hm := Rd.miss_nil.1 (inv.full (by omega))
    have := Sub.right r.sg r.bi
    rw [hm] at this
    exact this
  rw [inv.bi] at hs
  have hva : r.valX = r.va := by
    unfold Rd.valX
    rw [if_pos he]
  have hdm : z.dmd = false := by
    rcases hd h4 with h | h
    · exact h.2
    · omega
  refine ⟨v, ok, inv.fit.sg, hi.more ⟨inv.ce.1, by have := inv.ce.2; rw [hi.xl] at this; exact this⟩ hs (fun hf => ?_), hl, hf, h, inv.sl, inv.gn⟩
  rw [hva]
  exact (hv hf (.inr (.inr ⟨h4, he⟩))).symm
/-- And where no read is under way any more. -/
theorem HQ.of {sn : Int} {v : Value} (ok : z.ok (rdC 16 b) k) (hs : r.sg.ok) (hi : HInv b z r.sg p) (hl : p.length ≤ k) (h : St w (ownI 3 1 vc p.length (clCells (p.map (·.1))) :: ownI 2 1 vv p.length (clCells (p.map (·.2))) :: boxI PB #[vc, vv] 82 :: boxI F #[.int .i64 0, .int .i64 1, .int .i64 sn, .int .u64 r.sg.lo, .int .u64 r.sg.hi] 34 :: spI A (rdC 16 b) z v (.slice none 0 0) :: rdI K A.sp r :: DS) wr) :
    HQ w b ce A PB F k z r.sg p #[.int .i64 0, .int .i64 1, .int .i64 sn, .int .u64 r.sg.lo, .int .u64 r.sg.hi] [] DS vc vv (.pointer none) wr :=
  ⟨v, ok, hs, hi, hl, .inl ⟨rfl, rfl, sn, rfl⟩, (h.perm (List.perm_middle (l₁ := [_, _, _, _, _]))).pop⟩
theorem HQ.of_more {ce' x sn : Int} {v : Value} (ok : z.ok (rdC 16 b) k) (hs : r.sg.ok) (hi : HInv b z r.sg (p ++ [(ce', x)])) (hl : p.length + 1 ≤ k) (h : St w (ownI 3 1 vc (p.length + 1) (clCells (p.map (·.1)) ++ [.int .i64 ce']) :: ownI 2 1 vv (p.length + 1) (clCells (p.map (·.2)) ++ [.int .i64 x]) :: boxI PB #[vc, vv] 82 :: boxI F #[.int .i64 0, .int .i64 1, .int .i64 sn, .int .u64 r.sg.lo, .int .u64 r.sg.hi] 34 :: spI A (rdC 16 b) z v (.slice none 0 0) :: rdI K A.sp r :: DS) wr) :
    HQ w b ce A PB F k z r.sg (p ++ [(ce', x)]) #[.int .i64 0, .int .i64 1, .int .i64 sn, .int .u64 r.sg.lo, .int .u64 r.sg.hi] [] DS vc vv (.pointer none) wr := by
  refine HQ.of (v := v) (K := K) ok hs hi (by simpa using hl) ?_
  rw [List.map_append, List.map_append, List.length_append]
  simp only [List.map_cons, List.map_nil, List.length_cons, List.length_nil]
  rw [clCells_append, clCells_append]
  exact h
theorem rdFrom_one {o : World} {its : List It} {s : Nat} (h : St o its w) (j : Nat) (hj : its[j]? = some (rdI k s r)) (hsl : r.sl = 0) (hgn : r.gn = 1) :
    Calls Try.prog 17 #[.pointer (some ⟨k, 0, none⟩)] w fun e w' => e = .returned (.agg #[.int .i64 0, .int .i64 1, .int .i64 r.sn, .int .u64 r.sg.lo, .int .u64 r.sg.hi]) ∧ St o its w' := by
  refine (rdFrom h j hj).mono ?_
  rintro e w' ⟨he, h'⟩
  refine ⟨?_, h'⟩
  rw [he]
  unfold Rd.fromV
  rw [hsl, hgn]
end
end Go.Proofs.Ytajfjkhbimehbaa
