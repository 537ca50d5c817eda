/- Begins over one space, eight at most, in whatever order they go on: what stays true of them (plain data; no program is named here). -/
import Derived.Test.YtpjhljfcoejndaaUp
namespace Go.Proofs.Ytpjhljfcoejndaa
open Go.RowKit
set_option linter.unusedVariables false
set_option linter.unusedSimpArgs false

def NotFree (hs : List Hd) (q : Nat) : Prop := ∃ h, hs[q]? = some h ∧ h.sa ≠ 0
/-- The begin of thread i + 1, among n slots. -/
structure BgOk (n : Nat) (hs : List Hd) (i : Nat) (b : Bg) : Prop where
  th : b.th = i + 1
  sp : b.sp = 10 + i
  ways : (b.st = 0 ∧ b.wd = 0 ∧ b.e = 0 ∧ ∃ s : Nat, b.sl = s ∧ s < n ∧ ∀ q, q < s → NotFree hs q) ∨
    (b.st = 1 ∧ (b.wd = 0 ∨ b.wd = 1) ∧ b.gn = 1 ∧ b.e = 0 ∧ ∃ s : Nat, b.sl = s ∧ s < n ∧ hs[s]? = some ⟨1, 1, 0, i + 1, false, 0⟩) ∨
    (b.st = 2 ∧ b.wd = 2 ∧ b.gn = 1 ∧ b.e = 0 ∧ ∃ s : Nat, b.sl = s ∧ s < n ∧ hs[s]? = some ⟨1, 1, 0, i + 1, false, 0⟩) ∨
    (b.st = 3 ∧ b.wd = 2 ∧ b.gn = 1 ∧ b.e = 0 ∧ ∃ s : Nat, b.sl = s ∧ s < n ∧ hs[s]? = some ⟨1, 2, 10 + i, i + 1, false, 0⟩) ∨
    (b.st = 3 ∧ b.wd = 0 ∧ b.e = 6 ∧ b.sl = n ∧ ∀ q, q < n → NotFree hs q)
/-- It has slot q. -/
def Owns (b : Bg) (q : Nat) : Prop := b.sl = q ∧ (b.st = 1 ∨ b.st = 2 ∨ (b.st = 3 ∧ b.e = 0))
structure AllInv (n : Nat) (bs : List Bg) (z : SSt) : Prop where
  n1 : 1 ≤ n
  n8 : n ≤ 8
  hn : z.hs.length = n
  ws : z.ws = List.replicate (n * 2) 0
  each : ∀ (i : Nat) (b : Bg), bs[i]? = some b → BgOk n z.hs i b
  slot : ∀ q : Nat, q < n → z.hs[q]? = some Hd.zero ∨ ∃ (i : Nat) (b : Bg), bs[i]? = some b ∧ Owns b q
/-- How many steps a begin has left, at most. -/
def left (n : Nat) (b : Bg) : Nat := if b.st = 0 then (n - b.sl.toNat) + 3 else if b.st = 1 then 3 - b.wd.toNat else if b.st = 2 then 1 else 0

theorem BgOk.fine {n : Nat} {hs : List Hd} {i : Nat} {b : Bg} (h : BgOk n hs i b) (n8 : n ≤ 8) : b.fine := by
  obtain ⟨h1, h2, h3⟩ := h
  rcases h3 with ⟨a, b, c, s, d, e, f⟩ | ⟨a, b, c, d, s, e, f, g⟩ | ⟨a, b, c, d, s, e, f, g⟩ | ⟨a, b, c, d, s, e, f, g⟩ | ⟨a, b, c, d, e⟩
  all_goals exact ⟨by omega, by omega, by omega, by omega⟩
theorem BgOk.left_le {n : Nat} {hs : List Hd} {i : Nat} {b : Bg} (h : BgOk n hs i b) (n8 : n ≤ 8) : left n b ≤ 11 := by
  unfold left
  split
  · omega
  · split
    · omega
    · split <;> omega
theorem NotFree.set {hs : List Hd} {q : Nat} (h : NotFree hs q) (s : Nat) {x : Hd} (hx : x.sa ≠ 0) : NotFree (hs.set s x) q := by
  obtain ⟨y, hy, hs'⟩ := h
  by_cases hq : s = q
  · subst hq
    refine ⟨x, ?_, hx⟩
    rw [List.getElem?_set_self (List.getElem?_eq_some_iff.1 hy).1]
  · exact ⟨y, by rw [List.getElem?_set_ne hq]; exact hy, hs'⟩
/-- Another one's slot is written. -/
theorem BgOk.set {n : Nat} {hs : List Hd} {i : Nat} {b : Bg} (h : BgOk n hs i b) (s : Nat) {x : Hd} (hx : x.sa ≠ 0) (ho : ∀ y, hs[s]? = some y → y.th ≠ i + 1) : BgOk n (hs.set s x) i b := by
  obtain ⟨h1, h2, h3⟩ := h
  have far : ∀ (q : Nat) (y : Hd), hs[q]? = some y → y.th = i + 1 → (hs.set s x)[q]? = some y := by
    intro q y hy ht
    by_cases hq : s = q
    · subst hq
      exact absurd ht (ho y hy)
    · rw [List.getElem?_set_ne hq]; exact hy
  refine ⟨h1, h2, ?_⟩
  rcases h3 with ⟨a, b, c, s', d, e, f⟩ | ⟨a, b, c, d, s', e, f, g⟩ | ⟨a, b, c, d, s', e, f, g⟩ | ⟨a, b, c, d, s', e, f, g⟩ | ⟨a, b, c, d, e⟩
  · exact .inl ⟨a, b, c, s', d, e, fun q hq => (f q hq).set s hx⟩
  · exact .inr (.inl ⟨a, b, c, d, s', e, f, far _ _ g rfl⟩)
  · exact .inr (.inr (.inl ⟨a, b, c, d, s', e, f, far _ _ g rfl⟩))
  · exact .inr (.inr (.inr (.inl ⟨a, b, c, d, s', e, f, far _ _ g rfl⟩)))
  · exact .inr (.inr (.inr (.inr ⟨a, b, c, d, fun q hq => (e q hq).set s hx⟩)))

theorem set_cases {bs : List Bg} {i j : Nat} {b b' : Bg} (h : (bs.set i b')[j]? = some b) : (j = i ∧ b = b') ∨ (j ≠ i ∧ bs[j]? = some b) := by
  by_cases hij : i = j
  · subst hij
    left
    have hl : i < (bs.set i b').length := (List.getElem?_eq_some_iff.1 h).1
    rw [List.length_set] at hl
    rw [List.getElem?_set_self hl] at h
    exact ⟨rfl, by simpa using h.symm⟩
  · right
    rw [List.getElem?_set_ne hij] at h
    exact ⟨fun e => hij e.symm, h⟩
theorem set_at_self {bs : List Bg} {i : Nat} {b b' : Bg} (h : bs[i]? = some b) : (bs.set i b')[i]? = some b' := List.getElem?_set_self (List.getElem?_eq_some_iff.1 h).1

/-- Heads stay, begin i turns. -/
theorem AllInv.turn {n : Nat} {bs : List Bg} {z z' : SSt} (h : AllInv n bs z) {i : Nat} {b b' : Bg} (hi : bs[i]? = some b) (hh : z'.hs = z.hs) (hw : z'.ws = z.ws) (hb : BgOk n z.hs i b') (ho : ∀ q, Owns b q → Owns b' q) : AllInv n (bs.set i b') z' := by
  refine ⟨h.n1, h.n8, by rw [hh]; exact h.hn, by rw [hw]; exact h.ws, ?_, ?_⟩
  · intro j c hj
    rw [hh]
    rcases set_cases hj with ⟨rfl, rfl⟩ | ⟨_, hj⟩
    · exact hb
    · exact h.each j c hj
  · intro q hq
    rw [hh]
    rcases h.slot q hq with h0 | ⟨j, c, hj, hc⟩
    · exact .inl h0
    · right
      by_cases hij : i = j
      · subst hij
        rw [hi] at hj
        obtain rfl : b = c := by simpa using hj
        exact ⟨i, b', set_at_self hi, ho q hc⟩
      · exact ⟨j, c, by rw [List.getElem?_set_ne hij]; exact hj, hc⟩
/-- One head is written, by begin i. -/
theorem AllInv.write {n : Nat} {bs : List Bg} {z z' : SSt} (h : AllInv n bs z) {i s : Nat} {b b' : Bg} {x : Hd} (hi : bs[i]? = some b) (hh : z'.hs = z.hs.set s x) (hw : z'.ws = z.ws) (hx : x.sa ≠ 0) (hs : s < n) (ht : ∀ y, z.hs[s]? = some y → y.th = 0 ∨ y.th = i + 1) (hb : BgOk n (z.hs.set s x) i b') (ho : ∀ q, Owns b q → Owns b' q) (hos : Owns b' s) : AllInv n (bs.set i b') z' := by
  refine ⟨h.n1, h.n8, by rw [hh, List.length_set]; exact h.hn, by rw [hw]; exact h.ws, ?_, ?_⟩
  · intro j c hj
    rw [hh]
    rcases set_cases hj with ⟨rfl, rfl⟩ | ⟨hne, hj⟩
    · exact hb
    · refine (h.each j c hj).set s hx (fun y hy => ?_)
      rcases ht y hy with h0 | h0 <;> omega
  · intro q hq
    rw [hh]
    by_cases hsq : s = q
    · subst hsq
      exact .inr ⟨i, b', set_at_self hi, hos⟩
    · rw [List.getElem?_set_ne hsq]
      rcases h.slot q hq with h0 | ⟨j, c, hj, hc⟩
      · exact .inl h0
      · right
        by_cases hij : i = j
        · subst hij
          rw [hi] at hj
          obtain rfl : b = c := by simpa using hj
          exact ⟨i, b', set_at_self hi, ho q hc⟩
        · exact ⟨j, c, by rw [List.getElem?_set_ne hij]; exact hj, hc⟩

theorem headAt_nat {hs : List Hd} {s : Nat} {x : Hd} (h : hs[s]? = some x) : headAt hs (s : Int) = some x := by simpa [headAt] using h
theorem wordAt_nat {n s j : Nat} (hs : s < n) (hj : j < 2) : wordAt n (s : Int) (j : Int) = some (s * 2 + j) := by
  unfold wordAt
  rw [if_pos (by omega)]
  simp
theorem rep_set (m k : Nat) : (List.replicate m (0 : Int)).set k 0 = List.replicate m 0 := by
  apply List.ext_getElem?
  intro j
  rw [List.getElem?_set]
  split
  · rename_i h
    subst h
    simp only [List.length_replicate, List.getElem?_replicate]
  · rfl

theorem AllInv.step {n : Nat} {bs : List Bg} {z : SSt} (h : AllInv n bs z) {i : Nat} {b : Bg} (hi : bs[i]? = some b) (i8 : i < 8) :
    AllInv n (bs.set i (b.next z)) (z.goes b) ∧ (b.st ≠ 3 → left n (b.next z) < left n b) ∧ (b.st = 3 → b.next z = b ∧ z.goes b = z) := by
  have hb := h.each i b hi
  have h' := hb
  obtain ⟨h1, h2, h3⟩ := h'
  have hn := h.hn
  rcases h3 with ⟨a, w0, e0, s, hs, hsn, hf⟩ | ⟨a, w0, g0, e0, s, hs, hsn, hf⟩ | ⟨a, w0, g0, e0, s, hs, hsn, hf⟩ | ⟨a, w0, g0, e0, s, hs, hsn, hf⟩ | ⟨a, w0, e0, hs, hf⟩
  · -- it tries a slot
    have hth : isTh b.th = true := by simp [isTh]; omega
    have e1 : (claimOp b.th).pre = 0 := by simp [claimOp, hth]
    have eg : z.goes b = z.op (claimOp b.th) s := by simp only [SSt.goes, if_pos a, hs]
    have en : b.next z = b.claim (claimR z.hs s b.th) ((claimOp b.th).E z.hs s) n := by simp only [Bg.next, if_pos a, hs, hn]
    have hl : s < z.hs.length := by omega
    have hy : z.hs[s]? = some z.hs[s] := List.getElem?_eq_getElem hl
    have hh := headAt_nat hy
    by_cases hz : (z.hs[s].sa == 0) = true
    · have e2 : (claimOp b.th).ok z.hs[s] = true := hz
      have eE : (claimOp b.th).E z.hs s = 0 := by simp only [HOp.E, e1, if_true, hh, e2]
      have hzero : z.hs[s]? = some Hd.zero := by
        rcases h.slot s hsn with h0 | ⟨j, c, hj, hc⟩
        · exact h0
        · exfalso
          have hz0 : z.hs[s].sa = 0 := by simpa using hz
          obtain ⟨c1, c2, c3⟩ := h.each j c hj
          obtain ⟨o1, o2⟩ := hc
          rcases c3 with ⟨a', b', c', s', d, e, f⟩ | ⟨a', b', c', d, s', e, f, g⟩ | ⟨a', b', c', d, s', e, f, g⟩ | ⟨a', b', c', d, s', e, f, g⟩ | ⟨a', b', c', d, e⟩
          · omega
          all_goals first
            | (obtain rfl : s' = s := by omega
               rw [hy] at g
               simp only [Option.some.injEq] at g
               rw [g] at hz0
               simp at hz0)
            | omega
      have hz2 : z.hs[s] = Hd.zero := by rw [hy] at hzero; simpa using hzero
      have eR : claimR z.hs s b.th = 1 := by simp only [claimR, hth, if_true, hh, hz2]; rfl
      have eH : (z.op (claimOp b.th) s).hs = z.hs.set s ⟨1, 1, 0, b.th, false, 0⟩ := by simp only [SSt.op, HOp.H, e1, if_true, hh, hz2]; rfl
      have eb : b.next z = ⟨b.th, b.sp, 1, b.sl, 1, b.wd, b.e⟩ := by rw [en, eE, eR]; simp [Bg.claim]
      rw [eg, eb]
      refine ⟨h.write hi eH rfl (by simp) hsn (fun y hy' => ?_) ⟨h1, h2, .inr (.inl ⟨rfl, .inl w0, rfl, e0, s, hs, hsn, ?_⟩)⟩ (fun q hq => ?_) ⟨hs, .inl rfl⟩, fun _ => ?_, fun h3 => by omega⟩
      · rw [hzero] at hy'
        left
        have : y = Hd.zero := by simpa using hy'.symm
        rw [this]; rfl
      · rw [List.getElem?_set_self hl, h1]
      · obtain ⟨_, o2⟩ := hq
        omega
      · have : left n b = n - b.sl.toNat + 3 := by simp [left, a]
        have h5 : left n (⟨b.th, b.sp, 1, b.sl, 1, b.wd, b.e⟩ : Bg) = 3 := by simp [left, w0]
        rw [this, h5, hs]
        omega
    · have e2 : (claimOp b.th).ok z.hs[s] = false := by show (z.hs[s].sa == 0) = false; simpa using hz
      have eE : (claimOp b.th).E z.hs s = 5 := by simp only [HOp.E, e1, if_true, hh, e2]; rfl
      have eH : (z.op (claimOp b.th) s).hs = z.hs := by simp only [SSt.op, HOp.H, e1, if_true, hh, e2]; rfl
      have hnf : NotFree z.hs s := ⟨z.hs[s], hy, by simpa using hz⟩
      have hall : ∀ q, q < s + 1 → NotFree z.hs q := by
        intro q hq
        by_cases hqs : q = s
        · subst hqs; exact hnf
        · exact hf q (by omega)
      rw [eg]
      by_cases hlast : s + 1 = n
      · have eb : b.next z = ⟨b.th, b.sp, 3, b.sl + 1, b.gn, b.wd, 6⟩ := by
          rw [en, eE]; simp only [Bg.claim]; rw [if_neg (by decide), if_pos (by omega)]
        rw [eb]
        refine ⟨h.turn hi eH rfl ⟨h1, h2, .inr (.inr (.inr (.inr ⟨rfl, w0, rfl, by show b.sl + 1 = n; omega, fun q hq => hall q (by omega)⟩)))⟩ (fun q hq => ?_), fun _ => ?_, fun h3 => by omega⟩
        · obtain ⟨_, o2⟩ := hq
          omega
        · simp [left, a]
      · have eb : b.next z = ⟨b.th, b.sp, b.st, b.sl + 1, b.gn, b.wd, b.e⟩ := by
          rw [en, eE]; simp only [Bg.claim]; rw [if_neg (by decide), if_neg (by omega)]
        rw [eb]
        refine ⟨h.turn hi eH rfl ⟨h1, h2, .inl ⟨a, w0, e0, s + 1, by show b.sl + 1 = ((s + 1 : Nat) : Int); omega, by omega, hall⟩⟩ (fun q hq => ?_), fun _ => ?_, fun h3 => by omega⟩
        · obtain ⟨_, o2⟩ := hq
          omega
        · simp only [left, a, if_true, hs]
          omega
  · -- it clears a word
    have n0 : ¬ b.st = 0 := by omega
    obtain ⟨d, hd, hd2⟩ : ∃ d : Nat, b.wd = d ∧ d < 2 := by
      rcases w0 with w0 | w0
      · exact ⟨0, w0, by omega⟩
      · exact ⟨1, w0, by omega⟩
    have eg : z.goes b = z.put b.sl b.wd 0 := by simp only [SSt.goes, if_neg n0, if_pos a]
    have en : b.next z = b.clear := by simp only [Bg.next, if_neg n0, if_pos a]
    have eW : (z.put b.sl b.wd 0).ws = z.ws := by
      show putW z.ws z.hs.length b.sl b.wd 0 = z.ws
      unfold putW
      rw [hs, hd, hn, wordAt_nat hsn hd2, h.ws]
      exact rep_set _ _
    rw [eg, en]
    rcases w0 with w0 | w0
    · have eb : b.clear = ⟨b.th, b.sp, b.st, b.sl, b.gn, b.wd + 1, b.e⟩ := by simp only [Bg.clear]; rw [if_neg (by omega)]
      rw [eb]
      refine ⟨h.turn hi rfl eW ⟨h1, h2, .inr (.inl ⟨a, .inr (by show b.wd + 1 = 1; omega), g0, e0, s, hs, hsn, hf⟩)⟩ (fun q hq => hq), fun _ => ?_, fun h3 => by omega⟩
      simp [left, a, w0]
    · have eb : b.clear = ⟨b.th, b.sp, 2, b.sl, b.gn, b.wd + 1, b.e⟩ := by simp only [Bg.clear]; rw [if_pos (by omega)]
      rw [eb]
      refine ⟨h.turn hi rfl eW ⟨h1, h2, .inr (.inr (.inl ⟨rfl, by show b.wd + 1 = 2; omega, g0, e0, s, hs, hsn, hf⟩))⟩ (fun q hq => ⟨hq.1, .inr (.inl rfl)⟩), fun _ => ?_, fun h3 => by omega⟩
      simp [left, a, w0]
  · -- it makes the slot live
    have n0 : ¬ b.st = 0 := by omega
    have n1 : ¬ b.st = 1 := by omega
    have eg : z.goes b = z.op (readyOp b.gn b.sp) s := by simp only [SSt.goes, if_neg n0, if_neg n1, if_pos a, hs]
    have en : b.next z = b.over ((readyOp b.gn b.sp).E z.hs s) := by simp only [Bg.next, if_neg n0, if_neg n1, if_pos a, hs]
    have e1 : (readyOp b.gn b.sp).pre = 0 := by
      simp only [readyOp]; rw [if_neg (by omega)]
    have hh := headAt_nat hf
    have e2 : (readyOp b.gn b.sp).ok ⟨1, 1, 0, i + 1, false, 0⟩ = true := by rw [g0]; rfl
    have eE : (readyOp b.gn b.sp).E z.hs s = 0 := by simp only [HOp.E, e1, if_true, hh, e2]
    have eH : (z.op (readyOp b.gn b.sp) s).hs = z.hs.set s ⟨1, 2, b.sp, i + 1, false, 0⟩ := by simp only [SSt.op, HOp.H, e1, if_true, hh, e2]; rfl
    rw [eg, en, eE]
    refine ⟨h.write hi eH rfl (by simp) hsn (fun y hy' => ?_) ⟨h1, h2, .inr (.inr (.inr (.inl ⟨rfl, w0, g0, rfl, s, hs, hsn, ?_⟩)))⟩ (fun q hq => ⟨hq.1, .inr (.inr ⟨rfl, rfl⟩)⟩) ⟨hs, .inr (.inr ⟨rfl, rfl⟩)⟩, fun _ => ?_, fun h3 => by omega⟩
    · rw [hf] at hy'
      right
      have := hy'.symm
      simp only [Option.some.injEq] at this
      rw [this]
    · rw [List.getElem?_set_self (by omega), h2]
    · simp [left, a, Bg.over]
  · have n0 : ¬ b.st = 0 := by omega
    have n1 : ¬ b.st = 1 := by omega
    have n2 : ¬ b.st = 2 := by omega
    have eg : z.goes b = z := by simp only [SSt.goes, if_neg n0, if_neg n1, if_neg n2]
    have en : b.next z = b := by simp only [Bg.next, if_neg n0, if_neg n1, if_neg n2]
    rw [eg, en]
    refine ⟨?_, fun h => absurd a h, fun _ => ⟨rfl, rfl⟩⟩
    exact h.turn hi rfl rfl hb (fun q hq => hq)
  · have n0 : ¬ b.st = 0 := by omega
    have n1 : ¬ b.st = 1 := by omega
    have n2 : ¬ b.st = 2 := by omega
    have eg : z.goes b = z := by simp only [SSt.goes, if_neg n0, if_neg n1, if_neg n2]
    have en : b.next z = b := by simp only [Bg.next, if_neg n0, if_neg n1, if_neg n2]
    rw [eg, en]
    refine ⟨?_, fun h => absurd a h, fun _ => ⟨rfl, rfl⟩⟩
    exact h.turn hi rfl rfl hb (fun q hq => hq)

/-- All steps that are left. -/
def tot (n : Nat) : List Bg → Nat
  | [] => 0
  | b :: l => left n b + tot n l
theorem tot_set (n : Nat) (b' : Bg) : ∀ (bs : List Bg) (i : Nat) (b : Bg), bs[i]? = some b → tot n (bs.set i b') + left n b = tot n bs + left n b'
  | [], i, b, h => by simp at h
  | c :: bs, 0, b, h => by
    obtain rfl : c = b := by simpa using h
    simp only [List.set_cons_zero, tot]; omega
  | c :: bs, i + 1, b, h => by
    have := tot_set n b' bs i b (by simpa using h)
    simp only [List.set_cons_succ, tot]; omega
theorem tot_append (n : Nat) (b : Bg) : ∀ bs : List Bg, tot n (bs ++ [b]) = tot n bs + left n b
  | [] => by simp [tot]
  | c :: bs => by simp [tot, tot_append n b bs]; omega

theorem AllInv.zero {n : Nat} (h1 : 1 ≤ n) (h8 : n ≤ 8) : AllInv n [] (SSt.zero (smallC n)) :=
  ⟨h1, h8, by simp [SSt.zero, smallC], by simp [SSt.zero, smallC], fun i b h => by simp at h, fun q hq => .inl (by simp [SSt.zero, smallC, hq])⟩
theorem AllInv.push {n : Nat} {bs : List Bg} {z : SSt} (h : AllInv n bs z) : AllInv n (bs ++ [Bg.new (bs.length + 1) (10 + bs.length)]) z := by
  have n1 := h.n1
  refine ⟨h.n1, h.n8, h.hn, h.ws, ?_, ?_⟩
  · intro i b hb
    by_cases hi : i < bs.length
    · rw [List.getElem?_append_left hi] at hb
      exact h.each i b hb
    · have hl := (List.getElem?_eq_some_iff.1 hb).1
      simp only [List.length_append, List.length_singleton] at hl
      obtain rfl : i = bs.length := by omega
      rw [List.getElem?_append_right (Nat.le_refl _), Nat.sub_self] at hb
      obtain rfl : Bg.new (bs.length + 1) (10 + bs.length) = b := by simpa using hb
      exact ⟨rfl, rfl, .inl ⟨rfl, rfl, rfl, 0, rfl, by omega, fun q hq => by omega⟩⟩
  · intro q hq
    rcases h.slot q hq with h0 | ⟨i, b, hb, ho⟩
    · exact .inl h0
    · exact .inr ⟨i, b, by rw [List.getElem?_append_left (List.getElem?_eq_some_iff.1 hb).1]; exact hb, ho⟩
end Go.Proofs.Ytpjhljfcoejndaa
