/- One begin by thread 1, while others claim and free slots: what stays true (plain data; no program is named here). -/
import Derived.Test.YtpjhljfcoejndaaAll
namespace Go.Proofs.Ytpjhljfcoejndaa
open Go.RowKit
set_option linter.unusedVariables false
set_option linter.unusedSimpArgs false

/-- What the law keeps: n slots, stamp k; how many steps, which slot is tried, whose it is, which were free all the while. -/
structure FInv (n : Nat) (k : Int) (steps tried : Nat) (own : Int) (al : List Bool) (b : Bg) (z : SSt) : Prop where
  n8 : n ≤ 8
  hn : z.hs.length = n
  wl : z.ws.length = n * 2
  la : al.length = 8
  th : b.th = 1
  sp : b.sp = k
  k1 : 1 ≤ k
  ways : (b.st = 0 ∧ b.wd = 0 ∧ b.e = 0 ∧ own = -1 ∧ b.sl = tried ∧ tried < n ∧ steps = tried ∧ ∀ j : Nat, j < tried → al[j]? = some false) ∨
    (b.st = 3 ∧ b.wd = 0 ∧ b.e = 6 ∧ own = -1 ∧ b.sl = tried ∧ tried = n ∧ steps = n ∧ ∀ j : Nat, j < n → al[j]? = some false) ∨
    (b.st = 1 ∧ b.e = 0 ∧ own = tried ∧ b.sl = tried ∧ tried < n ∧ z.hs[tried]? = some ⟨b.gn, 1, 0, 1, false, 0⟩ ∧ ((b.wd = 0 ∧ steps = tried + 1) ∨ (b.wd = 1 ∧ steps = tried + 2 ∧ z.ws[tried * 2]? = some 0))) ∨
    (b.st = 2 ∧ b.wd = 2 ∧ b.e = 0 ∧ own = tried ∧ b.sl = tried ∧ tried < n ∧ steps = tried + 3 ∧ z.hs[tried]? = some ⟨b.gn, 1, 0, 1, false, 0⟩ ∧ z.ws[tried * 2]? = some 0 ∧ z.ws[tried * 2 + 1]? = some 0) ∨
    (b.st = 3 ∧ b.wd = 2 ∧ b.e = 0 ∧ own = tried ∧ b.sl = tried ∧ tried < n ∧ steps = tried + 4 ∧ z.hs[tried]? = some ⟨b.gn, 2, k, 1, false, 0⟩ ∧ z.ws[tried * 2]? = some 0 ∧ z.ws[tried * 2 + 1]? = some 0)
theorem FInv.fine {n : Nat} {k : Int} {steps tried : Nat} {own : Int} {al : List Bool} {b : Bg} {z : SSt} (h : FInv n k steps tried own al b z) : b.fine := by
  have h8 := h.n8
  rcases h.ways with h | h | h | h | h <;> exact ⟨by omega, by omega, by omega, by omega⟩
theorem FInv.left_le {n : Nat} {k : Int} {steps tried : Nat} {own : Int} {al : List Bool} {b : Bg} {z : SSt} (h : FInv n k steps tried own al b z) : left n b ≤ 11 := by
  have h8 := h.n8
  unfold left
  split
  · omega
  · split
    · omega
    · split <;> omega
/-- Slots that are not free now were not free all the while. -/
def alNow (al : List Bool) (hs : List Hd) : List Bool := al.zipIdx.map (fun (x, j) => x && (match hs[j]? with | some h => h.sa == 0 | none => true))
theorem alNow_length (al : List Bool) (hs : List Hd) : (alNow al hs).length = al.length := by simp [alNow]
theorem alNow_at (al : List Bool) (hs : List Hd) (j : Nat) : (alNow al hs)[j]? = al[j]?.map (fun x => x && (match hs[j]? with | some h => h.sa == 0 | none => true)) := by
  simp only [alNow, List.getElem?_map, List.getElem?_zipIdx, Option.map_map, Nat.zero_add]
  rfl
theorem FInv.now {n : Nat} {k : Int} {steps tried : Nat} {own : Int} {al : List Bool} {b : Bg} {z : SSt} (h : FInv n k steps tried own al b z) : FInv n k steps tried own (alNow al z.hs) b z := by
  refine ⟨h.n8, h.hn, h.wl, by rw [alNow_length]; exact h.la, h.th, h.sp, h.k1, ?_⟩
  have keep : ∀ j : Nat, al[j]? = some false → (alNow al z.hs)[j]? = some false := by
    intro j hj
    rw [alNow_at, hj]
    simp
  rcases h.ways with ⟨a, b1, c, d, e, f, g, i⟩ | ⟨a, b1, c, d, e, f, g, i⟩ | x | x | x
  · exact .inl ⟨a, b1, c, d, e, f, g, fun j hj => keep j (i j hj)⟩
  · exact .inr (.inl ⟨a, b1, c, d, e, f, g, fun j hj => keep j (i j hj)⟩)
  · exact .inr (.inr (.inl x))
  · exact .inr (.inr (.inr (.inl x)))
  · exact .inr (.inr (.inr (.inr x)))
/-- Another head is written. -/
theorem FInv.far {n : Nat} {k : Int} {steps tried : Nat} {own : Int} {al : List Bool} {b : Bg} {z z' : SSt} (h : FInv n k steps tried own al b z) (hw : z'.ws = z.ws) (hl : z'.hs.length = z.hs.length) (hh : ∀ (j : Nat) (x : Hd), z.hs[j]? = some x → x.th = 1 → z'.hs[j]? = some x) : FInv n k steps tried own al b z' := by
  refine ⟨h.n8, by rw [hl]; exact h.hn, by rw [hw]; exact h.wl, h.la, h.th, h.sp, h.k1, ?_⟩
  rw [hw]
  rcases h.ways with x | x | ⟨a, b1, c, d, e, f, g⟩ | ⟨a, b1, c, d, e, f, g, i, j⟩ | ⟨a, b1, c, d, e, f, g, i, j⟩
  · exact .inl x
  · exact .inr (.inl x)
  · exact .inr (.inr (.inl ⟨a, b1, c, d, e, hh _ _ f rfl, g⟩))
  · exact .inr (.inr (.inr (.inl ⟨a, b1, c, d, e, f, g, hh _ _ i rfl, j⟩)))
  · exact .inr (.inr (.inr (.inr ⟨a, b1, c, d, e, f, g, hh _ _ i rfl, j⟩)))
theorem FInv.claim {n : Nat} {k : Int} {steps tried : Nat} {own : Int} {al : List Bool} {b : Bg} {z : SSt} (h : FInv n k steps tried own al b z) {kk : Nat} (ok : HsOk z.hs kk) (t : Int) (at_ : Nat) : FInv n k steps tried own al b (z.op (claimOp t) at_) := by
  refine h.far rfl (HOp.len (claimOp t) z.hs at_) (fun j x hj hx => ?_)
  show ((claimOp t).H z.hs at_)[j]? = some x
  unfold HOp.H
  split
  · split
    · exact hj
    · rename_i y hy
      split
      · rename_i hok
        by_cases hja : at_ = j
        · subst hja
          exfalso
          rw [headAt_nat hj] at hy
          obtain rfl : x = y := by simpa using hy
          have hsa : x.sa = 0 := by simpa [claimOp] using hok
          have := (ok x (List.mem_of_getElem? hj)).st
          omega
        · rw [Int.toNat_natCast, List.getElem?_set_ne hja]; exact hj
      · exact hj
  · exact hj
theorem FInv.free {n : Nat} {k : Int} {steps tried : Nat} {own : Int} {al : List Bool} {b : Bg} {z : SSt} (h : FInv n k steps tried own al b z) (g : Int) (at_ : Nat) {y : Hd} (hy : z.hs[at_]? = some y) (hne : y.th ≠ 1) : FInv n k steps tried own al b (z.op (freeOp g) at_) := by
  refine h.far rfl (HOp.len (freeOp g) z.hs at_) (fun j x hj hx => ?_)
  show ((freeOp g).H z.hs at_)[j]? = some x
  unfold HOp.H
  split
  · split
    · exact hj
    · split
      · by_cases hja : at_ = j
        · subst hja
          rw [hj] at hy
          obtain rfl : x = y := by simpa using hy
          exact absurd hx hne
        · rw [Int.toNat_natCast, List.getElem?_set_ne hja]; exact hj
      · exact hj
  · exact hj
/-- Its own step. -/
theorem FInv.step {n : Nat} {k : Int} {steps tried : Nat} {own : Int} {al : List Bool} {b : Bg} {z : SSt} (h : FInv n k steps tried own al b z) (hst : b.st ≠ 3) (hal : ∀ (x : Hd), z.hs[tried]? = some x → x.sa ≠ 0 → al[tried]? = some false) :
    b.ans = 1 ∧ left n (b.next z) < left n b ∧
    ((0 ≤ own ∧ FInv n k (steps + 1) tried own al (b.next z) (z.goes b)) ∨
     (own = -1 ∧ tried < n ∧ ∃ x, z.hs[tried]? = some x ∧ ((x.sa = 0 ∧ FInv n k (steps + 1) tried tried al (b.next z) (z.goes b)) ∨ (x.sa ≠ 0 ∧ FInv n k (steps + 1) (tried + 1) (-1) al (b.next z) (z.goes b))))) := by
  have n8 := h.n8
  have hn := h.hn
  have hth : isTh b.th = true := by rw [h.th]; rfl
  rcases h.ways with ⟨a, w0, e0, ow, hs, hsn, st, hf⟩ | ⟨a, _⟩ | ⟨a, e0, ow, hs, hsn, hf, hw⟩ | ⟨a, w0, e0, ow, hs, hsn, st, hf, hw1, hw2⟩ | ⟨a, _⟩
  · refine ⟨by simp [Bg.ans, a], ?_⟩
    have e1 : (claimOp b.th).pre = 0 := by simp [claimOp, hth]
    have eg : z.goes b = z.op (claimOp b.th) tried := by simp only [SSt.goes, if_pos a, hs]
    have en : b.next z = b.claim (claimR z.hs tried b.th) ((claimOp b.th).E z.hs tried) n := by simp only [Bg.next, if_pos a, hs, hn]
    have hl : tried < z.hs.length := by omega
    have hy : z.hs[tried]? = some z.hs[tried] := List.getElem?_eq_getElem hl
    have hh := headAt_nat hy
    by_cases hz : (z.hs[tried].sa == 0) = true
    · have e2 : (claimOp b.th).ok z.hs[tried] = true := hz
      have eE : (claimOp b.th).E z.hs tried = 0 := by simp only [HOp.E, e1, if_true, hh, e2]
      have eR : claimR z.hs tried b.th = z.hs[tried].gn + 1 := by simp only [claimR, hth, if_true, hh, hz]
      have eH : (z.op (claimOp b.th) tried).hs = z.hs.set tried ⟨z.hs[tried].gn + 1, 1, 0, 1, false, 0⟩ := by simp only [SSt.op, HOp.H, e1, if_true, hh, e2]; rw [h.th]; rfl
      have eb : b.next z = ⟨b.th, b.sp, 1, b.sl, z.hs[tried].gn + 1, b.wd, b.e⟩ := by rw [en, eE, eR]; simp [Bg.claim]
      refine ⟨?_, .inr ⟨ow, hsn, _, hy, .inl ⟨by simpa using hz, ?_⟩⟩⟩
      · have : left n b = n - b.sl.toNat + 3 := by simp [left, a]
        have h5 : left n (b.next z) = 3 := by rw [eb]; simp [left, w0]
        rw [this, h5, hs]
        omega
      · rw [eg, eb]
        refine ⟨n8, by rw [eH, List.length_set]; exact hn, h.wl, h.la, h.th, h.sp, h.k1, .inr (.inr (.inl ⟨rfl, e0, rfl, hs, hsn, ?_, .inl ⟨w0, by omega⟩⟩))⟩
        rw [eH, List.getElem?_set_self hl]
    · have hz0 : z.hs[tried].sa ≠ 0 := by simpa using hz
      have e2 : (claimOp b.th).ok z.hs[tried] = false := by show (z.hs[tried].sa == 0) = false; simpa using hz
      have eE : (claimOp b.th).E z.hs tried = 5 := by simp only [HOp.E, e1, if_true, hh, e2]; rfl
      have eH : (z.op (claimOp b.th) tried).hs = z.hs := by simp only [SSt.op, HOp.H, e1, if_true, hh, e2]; rfl
      have hall : ∀ j : Nat, j < tried + 1 → al[j]? = some false := by
        intro j hj
        by_cases hjt : j = tried
        · subst hjt; exact hal _ hy hz0
        · exact hf j (by omega)
      by_cases hlast : tried + 1 = n
      · have eb : b.next z = ⟨b.th, b.sp, 3, b.sl + 1, b.gn, b.wd, 6⟩ := by
          rw [en, eE]; simp only [Bg.claim]; rw [if_neg (by decide), if_pos (by omega)]
        refine ⟨by rw [eb]; simp [left, a], .inr ⟨ow, hsn, _, hy, .inr ⟨hz0, ?_⟩⟩⟩
        rw [eg, eb]
        exact ⟨n8, by rw [eH]; exact hn, h.wl, h.la, h.th, h.sp, h.k1, .inr (.inl ⟨rfl, w0, rfl, rfl, by show b.sl + 1 = ((tried + 1 : Nat) : Int); omega, by omega, by omega, fun j hj => hall j (by omega)⟩)⟩
      · have eb : b.next z = ⟨b.th, b.sp, b.st, b.sl + 1, b.gn, b.wd, b.e⟩ := by
          rw [en, eE]; simp only [Bg.claim]; rw [if_neg (by decide), if_neg (by omega)]
        refine ⟨?_, .inr ⟨ow, hsn, _, hy, .inr ⟨hz0, ?_⟩⟩⟩
        · rw [eb]
          simp only [left, a, if_true, hs]
          omega
        · rw [eg, eb]
          exact ⟨n8, by rw [eH]; exact hn, h.wl, h.la, h.th, h.sp, h.k1, .inl ⟨a, w0, e0, rfl, by show b.sl + 1 = ((tried + 1 : Nat) : Int); omega, by omega, by omega, hall⟩⟩
  · exact absurd a hst
  · refine ⟨by simp [Bg.ans, a], ?_⟩
    have n0 : ¬ b.st = 0 := by omega
    have en : b.next z = b.clear := by simp only [Bg.next, if_neg n0, if_pos a]
    have eg : z.goes b = z.put b.sl b.wd 0 := by simp only [SSt.goes, if_neg n0, if_pos a]
    have hwl := h.wl
    rcases hw with ⟨w0, st⟩ | ⟨w0, st, hw1⟩
    · have eb : b.clear = ⟨b.th, b.sp, b.st, b.sl, b.gn, b.wd + 1, b.e⟩ := by simp only [Bg.clear]; rw [if_neg (by omega)]
      have eW : (z.put b.sl b.wd 0).ws = z.ws.set (tried * 2) 0 := by
        show putW z.ws z.hs.length b.sl b.wd 0 = _
        unfold putW
        rw [hs, w0, hn, show wordAt n (tried : Int) 0 = some (tried * 2 + 0) from wordAt_nat (j := 0) hsn (by omega)]
        rfl
      refine ⟨by rw [en, eb]; simp [left, a, w0], .inl ⟨by omega, ?_⟩⟩
      rw [en, eb, eg]
      exact ⟨n8, hn, by rw [eW, List.length_set]; exact hwl, h.la, h.th, h.sp, h.k1, .inr (.inr (.inl ⟨a, e0, ow, hs, hsn, hf, .inr ⟨by show b.wd + 1 = 1; omega, by omega, by rw [eW, List.getElem?_set_self (by omega)]⟩⟩))⟩
    · have eb : b.clear = ⟨b.th, b.sp, 2, b.sl, b.gn, b.wd + 1, b.e⟩ := by simp only [Bg.clear]; rw [if_pos (by omega)]
      have eW : (z.put b.sl b.wd 0).ws = z.ws.set (tried * 2 + 1) 0 := by
        show putW z.ws z.hs.length b.sl b.wd 0 = _
        unfold putW
        rw [hs, w0, hn, show wordAt n (tried : Int) 1 = some (tried * 2 + 1) from wordAt_nat (j := 1) hsn (by omega)]
      refine ⟨by rw [en, eb]; simp [left, a, w0], .inl ⟨by omega, ?_⟩⟩
      rw [en, eb, eg]
      exact ⟨n8, hn, by rw [eW, List.length_set]; exact hwl, h.la, h.th, h.sp, h.k1, .inr (.inr (.inr (.inl ⟨rfl, by show b.wd + 1 = 2; omega, e0, ow, hs, hsn, by omega, hf, by rw [eW, List.getElem?_set_ne (by omega)]; exact hw1, by rw [eW, List.getElem?_set_self (by omega)]⟩)))⟩
  · refine ⟨by simp [Bg.ans, a], ?_⟩
    have n0 : ¬ b.st = 0 := by omega
    have n1 : ¬ b.st = 1 := by omega
    have eg : z.goes b = z.op (readyOp b.gn b.sp) tried := by simp only [SSt.goes, if_neg n0, if_neg n1, if_pos a, hs]
    have en : b.next z = b.over ((readyOp b.gn b.sp).E z.hs tried) := by simp only [Bg.next, if_neg n0, if_neg n1, if_pos a, hs]
    have e1 : (readyOp b.gn b.sp).pre = 0 := by
      simp only [readyOp]; rw [if_neg (by have := h.sp; have := h.k1; omega)]
    have hh := headAt_nat hf
    have e2 : (readyOp b.gn b.sp).ok ⟨b.gn, 1, 0, 1, false, 0⟩ = true := by simp [readyOp]
    have eE : (readyOp b.gn b.sp).E z.hs tried = 0 := by simp only [HOp.E, e1, if_true, hh, e2]
    have eH : (z.op (readyOp b.gn b.sp) tried).hs = z.hs.set tried ⟨b.gn, 2, k, 1, false, 0⟩ := by simp only [SSt.op, HOp.H, e1, if_true, hh, e2]; rw [h.sp]; rfl
    refine ⟨by rw [en, eE]; simp [left, a, Bg.over], .inl ⟨by omega, ?_⟩⟩
    rw [en, eE, eg]
    exact ⟨n8, by rw [eH, List.length_set]; exact hn, h.wl, h.la, h.th, h.sp, h.k1, .inr (.inr (.inr (.inr ⟨rfl, w0, rfl, ow, hs, hsn, by omega, by rw [eH, List.getElem?_set_self (by omega)]; rfl, hw1, hw2⟩)))⟩
  · exact absurd a hst
end Go.Proofs.Ytpjhljfcoejndaa
