/- What stays true of a read in a space of one slot: its words are what it has published; it loads only when nothing is missing. No program is named here. -/
import Derived.Test.YtajfjkhbimehbaaRdN
namespace Go.Proofs.Ytajfjkhbimehbaa
open Go.RowKit
set_option linter.unusedVariables false
set_option linter.unusedSimpArgs false

theorem less_self (x y : Nat) : less x (y ||| x) = 0 := by
  refine Nat.eq_of_testBit_eq fun i => ?_
  rw [testBit_less, Nat.testBit_or, Nat.zero_testBit]
  cases x.testBit i <;> cases y.testBit i <;> rfl
theorem or_of_less {x y : Nat} (h : less x y = 0) : y ||| x = y := by
  refine Nat.eq_of_testBit_eq fun i => ?_
  have := congrArg (fun n => n.testBit i) h
  simp only [testBit_less, Nat.zero_testBit] at this
  rw [Nat.testBit_or]
  cases hx : x.testBit i <;> cases hy : y.testBit i <;> simp_all
theorem words_eq (d : Sg) : d.words = (if d.lo ≠ 0 then [0] else []) ++ (if d.hi ≠ 0 then [1] else []) := by
  unfold Sg.words
  rw [wordsBelow_succ, wordsBelow_succ]
  have h0 : wordsBelow d 0 = [] := rfl
  rw [h0]
  by_cases h1 : d.lo = 0 <;> by_cases h2 : d.hi = 0 <;> simp [word, h1, h2]
/-- Nothing is missing. -/
theorem Rd.miss_nil {r : Rd} : r.miss = [] ↔ r.sg.join r.bi = r.sg := by
  have e : r.miss = (if less r.bi.lo r.sg.lo ≠ 0 then [0] else []) ++ (if less r.bi.hi r.sg.hi ≠ 0 then [1] else []) := words_eq _
  rw [e]
  constructor
  · intro h
    have h1 : less r.bi.lo r.sg.lo = 0 := by
      by_cases h1 : less r.bi.lo r.sg.lo = 0
      · exact h1
      · rw [if_pos h1] at h; simp at h
    have h2 : less r.bi.hi r.sg.hi = 0 := by
      by_cases h2 : less r.bi.hi r.sg.hi = 0
      · exact h2
      · rw [if_pos h2] at h; simp at h
    unfold Sg.join
    rw [or_of_less h1, or_of_less h2]
  · intro h
    unfold Sg.join at h
    have a : r.sg.lo ||| r.bi.lo = r.sg.lo := congrArg Sg.lo h
    have b : r.sg.hi ||| r.bi.hi = r.sg.hi := congrArg Sg.hi h
    have h1 : less r.bi.lo r.sg.lo = 0 := by rw [← a]; exact less_self _ _
    have h2 : less r.bi.hi r.sg.hi = 0 := by rw [← b]; exact less_self _ _
    rw [h1, h2]
    rfl
/-- What a step that publishes makes of the signature, and of what is missing. -/
theorem Rd.pub_ways {r : Rd} (h : r.miss ≠ []) :
    (r.miss.headD 0 = 0 ∧ r.pub.sg = ⟨r.sg.lo ||| r.bi.lo, r.sg.hi⟩ ∨ r.miss.headD 0 = 1 ∧ r.pub.sg = ⟨r.sg.lo, r.sg.hi ||| r.bi.hi⟩) ∧ r.pub.sg.join r.bi = r.sg.join r.bi ∧ r.pub.miss.length + 1 = r.miss.length := by
  have e : r.miss = (if less r.bi.lo r.sg.lo ≠ 0 then [0] else []) ++ (if less r.bi.hi r.sg.hi ≠ 0 then [1] else []) := words_eq _
  have e2 : r.pub.miss = (if less r.bi.lo r.pub.sg.lo ≠ 0 then [0] else []) ++ (if less r.bi.hi r.pub.sg.hi ≠ 0 then [1] else []) := words_eq _
  have es : r.pub.sg = r.sg.setW (r.miss.headD 0) (r.both (r.miss.headD 0)) := rfl
  have oo : ∀ x y : Nat, x ||| y ||| y = x ||| y := fun x y => by rw [Nat.or_assoc, Nat.or_self]
  by_cases h1 : less r.bi.lo r.sg.lo = 0
  · have h2 : less r.bi.hi r.sg.hi ≠ 0 := by
      intro h2
      rw [h1, h2] at e
      exact h e
    have em : r.miss = [1] := by rw [e, h1, if_pos h2]; rfl
    have es2 : r.pub.sg = ⟨r.sg.lo, r.sg.hi ||| r.bi.hi⟩ := by rw [es, em]; rfl
    refine ⟨.inr ⟨by rw [em]; rfl, es2⟩, ?_, ?_⟩
    · rw [es2]; unfold Sg.join; simp only [oo]
    · rw [e2, es2, em]
      simp only [h1, less_self]
      rfl
  · have em : r.miss = 0 :: (if less r.bi.hi r.sg.hi ≠ 0 then [1] else []) := by rw [e, if_pos h1]; rfl
    have es2 : r.pub.sg = ⟨r.sg.lo ||| r.bi.lo, r.sg.hi⟩ := by rw [es, em]; rfl
    refine ⟨.inl ⟨by rw [em]; rfl, es2⟩, ?_, ?_⟩
    · rw [es2]; unfold Sg.join; simp only [oo]
    · rw [e2, es2, em]
      simp only [less_self]
      simp

/-- A read, and the space of one slot in which it goes on. -/
structure RInv (b : Int) (z : SSt) (r : Rd) : Prop where
  fit : r.fit
  sl : r.sl = 0
  gn : r.gn = 1
  bi : r.bi = bitsOf b r.ce
  ce : 0 ≤ r.ce ∧ r.ce < z.xs.length
  hl : z.hs.length = 1
  ws : z.ws = [(r.sg.lo : Int), (r.sg.hi : Int)]
  full : r.st ≠ 0 → r.miss = []
theorem putW_one (a b x : Int) (i : Nat) (h : i = 0 ∨ i = 1) : putW [a, b] 1 0 (i : Int) x = if i = 0 then [x, b] else [a, x] := by
  rcases h with rfl | rfl <;> rfl
theorem RInv.next {b : Int} {z : SSt} {r : Rd} (h : RInv b z r) : RInv b (z.reads r) (r.next z) := by
  obtain ⟨n1, n2, n3, n4⟩ := r.next_frame z
  obtain ⟨f1, f2, f3, f4⟩ := z.reads_frame r
  refine ⟨h.fit.next z, n1.trans h.sl, n2.trans h.gn, by rw [n4, n3]; exact h.bi, by rw [n3, f1]; exact h.ce, by rw [f3]; exact h.hl, ?_, ?_⟩
  · by_cases h0 : r.st = 0
    · have en : r.next z = r.pub := by unfold Rd.next; rw [if_pos h0]
      have er : (z.reads r).ws = putW z.ws z.hs.length r.sl (r.miss.headD 0 : Nat) (r.both (r.miss.headD 0) : Nat) := by unfold SSt.reads; rw [if_pos h0]; rfl
      rw [en, er, h.ws, h.hl, h.sl]
      rcases (Rd.pub_ways (h.fit.pub h0)).1 with ⟨e1, e2⟩ | ⟨e1, e2⟩
      · rw [e1, e2]; rfl
      · rw [e1, e2]; rfl
    · have e1 : (z.reads r).ws = z.ws := by
        unfold SSt.reads
        rw [if_neg h0]
        split
        · rfl
        · split
          · rfl
          · split <;> rfl
      have e2 : (r.next z).sg = r.sg := by
        unfold Rd.next
        rw [if_neg h0]
        split
        · rfl
        · split
          · split
            · split <;> rfl
            · rfl
          · split <;> rfl
      rw [e1, e2]
      exact h.ws
  · intro hn
    by_cases h0 : r.st = 0
    · have en : r.next z = r.pub := by unfold Rd.next; rw [if_pos h0]
      rw [en] at hn ⊢
      have : r.pub.st = if r.pub.miss = [] then 1 else 0 := rfl
      rw [this] at hn
      by_cases hm : r.pub.miss = []
      · exact hm
      · rw [if_neg hm] at hn; exact absurd rfl hn
    · have e2 : (r.next z).miss = r.miss := by
        unfold Rd.next
        rw [if_neg h0]
        split
        · rfl
        · split
          · split
            · split <;> rfl
            · rfl
          · split <;> rfl
      rw [e2]
      exact h.full h0
theorem RInv.new {b : Int} {z : SSt} {sg : Sg} {sn ce : Int} (hs : sg.ok) (hc : 0 ≤ ce ∧ ce < z.xs.length) (hl : z.hs.length = 1) (hw : z.ws = [(sg.lo : Int), (sg.hi : Int)]) : RInv b z (Rd.new 0 1 sn sg ce (bitsOf b ce)) := by
  refine ⟨Rd.fit_new hs (bitsOf_ok _ _), rfl, rfl, rfl, hc, hl, hw, fun h => ?_⟩
  have e : (Rd.new 0 1 sn sg ce (bitsOf b ce)).st = if (Rd.new 0 1 sn sg ce (bitsOf b ce)).miss = [] then 1 else 0 := rfl
  rw [e] at h
  by_cases hm : (Rd.new 0 1 sn sg ce (bitsOf b ce)).miss = []
  · exact hm
  · rw [if_neg hm] at h; exact absurd rfl h
end Go.Proofs.Ytajfjkhbimehbaa
