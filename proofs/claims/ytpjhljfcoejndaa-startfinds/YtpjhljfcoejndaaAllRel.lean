/- Eight begins in memory, and what was told of them. -/
import Derived.Test.YtpjhljfcoejndaaAll
import Derived.Test.YtpjhljfcoejndaaLists
import Derived.Test.YtpjhljfcoejndaaSpE
import Derived.Test.YtpjhljfcoejndaaEq
import Derived.Test.YtpjhljfcoejndaaRest
namespace Go.Proofs.Ytpjhljfcoejndaa
open Go.RowKit
set_option linter.unusedVariables false
set_option linter.unusedSimpArgs false
attribute [local go_sem ↓] Go.wp_at_zero Go.wp_at_succ

theorem small_fits (n : Nat) (h1 : 1 ≤ n) (h8 : n ≤ 8) : (smallC n).fits = true := by
  have : n = 1 ∨ n = 2 ∨ n = 3 ∨ n = 4 ∨ n = 5 ∨ n = 6 ∨ n = 7 ∨ n = 8 := by omega
  rcases this with rfl | rfl | rfl | rfl | rfl | rfl | rfl | rfl <;> rfl

/-- Pointers to begins, and nil behind them. -/
def arr8 (ks : List Nat) : Array Value := (ks.map (fun k => Value.pointer (some ⟨k, 0, none⟩)) ++ List.replicate (8 - ks.length) (Value.pointer none)).toArray
theorem arr8_at (ks : List Nat) (i : Nat) (hi : i < ks.length) : (arr8 ks)[i]? = some (.pointer (some ⟨ks.getD i 0, 0, none⟩)) := by
  unfold arr8
  rw [List.getElem?_toArray, List.getElem?_append_left (by simpa using hi)]
  simp [hi]
theorem arr8_end (ks : List Nat) (h : ks.length < 8) : (arr8 ks)[ks.length]? = some (.pointer none) := by
  unfold arr8
  rw [List.getElem?_toArray, List.getElem?_append_right (by simp)]
  simp only [List.length_map, Nat.sub_self]
  rw [List.getElem?_replicate, if_pos (by omega)]
theorem arr8_push (ks : List Nat) (k : Nat) (h : ks.length < 8) : (arr8 ks).setIfInBounds ks.length (.pointer (some ⟨k, 0, none⟩)) = arr8 (ks ++ [k]) := by
  unfold arr8
  rw [List.setIfInBounds_toArray]
  congr 1
  obtain ⟨d, hd⟩ : ∃ d, 8 - ks.length = d + 1 := ⟨8 - ks.length - 1, by omega⟩
  have hd' : 8 - (ks ++ [k]).length = d := by simp; omega
  rw [hd, hd', List.replicate_succ]
  have hs : ∀ (l r : List Value) (m : Nat) (x y : Value), l.length = m → (l ++ x :: r).set m y = l ++ y :: r := by
    intro l r m x y hm
    subst hm
    simp
  rw [hs _ _ _ _ _ (by simp)]
  simp
def bgsL (t : Nat) (ks : List Nat) (bs : List Bg) : List It := List.zipWith (fun k b => bgI k t b) ks bs
theorem bgsL_at (t : Nat) (ks : List Nat) (bs : List Bg) (i : Nat) (hi : i < ks.length) {b : Bg} (hb : bs[i]? = some b) : (bgsL t ks bs)[i]? = some (bgI (ks.getD i 0) t b) := by
  unfold bgsL
  rw [List.getElem?_zipWith]
  simp [hi, hb]
theorem bgsL_set (t : Nat) : ∀ (ks : List Nat) (bs : List Bg) (i : Nat) (hi : i < ks.length) (b' : Bg), (bgsL t ks bs).set i (bgI (ks.getD i 0) t b') = bgsL t ks (bs.set i b')
  | [], bs, i, hi, b' => by simp at hi
  | k :: ks, [], i, hi, b' => by simp [bgsL]
  | k :: ks, b :: bs, 0, hi, b' => by simp [bgsL]
  | k :: ks, b :: bs, i + 1, hi, b' => by
    have := bgsL_set t ks bs i (by simpa using hi) b'
    simp only [bgsL, List.zipWith_cons_cons, List.set_cons_succ] at this ⊢
    rw [← this]
    rfl
theorem bgsL_push (t : Nat) : ∀ (ks : List Nat) (bs : List Bg) (k : Nat) (b : Bg), bs.length = ks.length → bgsL t (ks ++ [k]) (bs ++ [b]) = bgsL t ks bs ++ [bgI k t b]
  | [], [], k, b, _ => rfl
  | k' :: ks, b' :: bs, k, b, h => by
    have := bgsL_push t ks bs k b (by simpa using h)
    simp only [bgsL, List.cons_append, List.zipWith_cons_cons] at this ⊢
    rw [this]
  | [], b' :: bs, k, b, h => by simp at h
  | k' :: ks, [], k, b, h => by simp at h

def AllRel (w : World) (n : Nat) (A : Ad) (X : Nat) (ks : List Nat) (bs : List Bg) (wr : World) : Prop :=
  ∃ z v kk, bs.length = ks.length ∧ AllInv n bs z ∧ z.ok (smallC n) kk ∧ kk + tot n bs ≤ 11 * bs.length ∧ St w (boxI X (arr8 ks) 71 :: spI A (smallC n) z v (.slice none 0 0) :: bgsL A.t ks bs) wr
section
variable {w wr : World} {n : Nat} {A : Ad} {X : Nat} {ks : List Nat} {bs : List Bg}
theorem all_ptr (h : AllRel w n A X ks bs wr) (i : Nat) (hi : i < ks.length) : wr.cell? ⟨X, i, none⟩ = some (.pointer (some ⟨ks.getD i 0, 0, none⟩)) := by
  obtain ⟨z, v, kk, h1, h2, h3, h4, h5⟩ := h
  exact (h5.cell 0 rfl i).trans (arr8_at ks i hi)
theorem all_done (h : AllRel w n A X ks bs wr) (i : Nat) (hi : i < ks.length) {b : Bg} (hb : bs[i]? = some b) :
    Calls Try.prog 12 #[.pointer (some ⟨ks.getD i 0, 0, none⟩)] wr fun e w' => e = .returned (.bool (b.st == 3)) ∧ w' = wr := by
  obtain ⟨z, v, kk, h1, h2, h3, h4, h5⟩ := h
  exact bgDone h5 (i + 2) (by exact bgsL_at A.t ks bs i hi hb)
theorem all_slot (h : AllRel w n A X ks bs wr) (i : Nat) (hi : i < ks.length) {b : Bg} (hb : bs[i]? = some b) :
    Calls Try.prog 17 #[.pointer (some ⟨ks.getD i 0, 0, none⟩)] wr fun e w' => e = .returned (.tuple #[.int .i64 b.slotA, .int .i64 b.slotB, .int .i64 b.slotE]) ∧ ∃ q, w' = wr.drewN q := by
  obtain ⟨z, v, kk, h1, h2, h3, h4, h5⟩ := h
  exact bgSlot h5 (i + 2) (by exact bgsL_at A.t ks bs i hi hb)
theorem all_step (h : AllRel w n A X ks bs wr) (h8 : ks.length = 8) (i : Nat) (hi : i < 8) {b : Bg} (hb : bs[i]? = some b) :
    Calls Try.prog 16 #[.pointer (some ⟨ks.getD i 0, 0, none⟩)] wr fun e w' => ∃ b', e = .returned (.int .i64 b.ans) ∧ AllRel w n A X ks (bs.set i b') w' ∧ (b.st ≠ 3 → left n b' < left n b) := by
  obtain ⟨z, v, kk, h1, h2, h3, h4, h5⟩ := h
  have hj : (boxI X (arr8 ks) 71 :: spI A (smallC n) z v (.slice none 0 0) :: bgsL A.t ks bs)[i + 2]? = some (bgI (ks.getD i 0) A.t b) := bgsL_at A.t ks bs i (by omega) hb
  obtain ⟨g1, g2, g3⟩ := h2.step hb hi
  have hf := (h2.each i b hb).fine h2.n8
  have hl : bs.length ≤ 8 := by omega
  refine (bgStep h5 1 (i + 2) (by omega) rfl hj h3 (by omega) hf).mono ?_
  rintro e w' ⟨he, v', h'⟩
  refine ⟨b.next z, he, ?_, g2⟩
  have ht := tot_set n (b.next z) bs i b hb
  have hS : St w (boxI X (arr8 ks) 71 :: spI A (smallC n) (z.goes b) v' (.slice none 0 0) :: (bgsL A.t ks bs).set i (bgI (ks.getD i 0) A.t (b.next z))) w' := h'
  rw [bgsL_set A.t ks bs i (by omega)] at hS
  by_cases hst : b.st = 3
  · obtain ⟨e1, e2⟩ := g3 hst
    rw [e1] at ht
    refine ⟨z.goes b, v', kk, by simpa using h1, g1, by rw [e2]; exact h3, ?_, hS⟩
    rw [List.length_set, e1]
    omega
  · have := g2 hst
    refine ⟨z.goes b, v', kk + 1, by simpa using h1, g1, h3.goes b, ?_, hS⟩
    rw [List.length_set]
    omega
theorem all_new (h : AllRel w n A X ks bs wr) (h8 : ks.length < 8) :
    Calls Try.prog 10 #[.pointer (some ⟨A.sp, 0, none⟩), .int .i64 ((ks.length : Int) + 1), .int .i64 (10 + (ks.length : Int))] wr fun e w' => ∃ k, e = .returned (.tuple #[.pointer (some ⟨k, 0, none⟩), .int .i64 0]) ∧ w'.cell? ⟨X, ks.length, none⟩ = some (.pointer none) ∧ w'.frozen? ⟨X, ks.length, none⟩ = false ∧
      Hid (∃ bs', AllRel w n A X (ks ++ [k]) bs' (w'.setCell ⟨X, ks.length, none⟩ (.pointer (some ⟨k, 0, none⟩)))) := by
  obtain ⟨z, v, kk, h1, h2, h3, h4, h5⟩ := h
  refine (bgNew_st h5 1 rfl ((ks.length : Int) + 1) (10 + (ks.length : Int)) (by omega)).mono ?_
  rintro e w' ⟨k, he, h'⟩
  refine ⟨k, he, (h'.cell 1 rfl _).trans (arr8_end ks h8), h'.frozen 1 rfl _, ?_⟩
  have hS : St w (boxI X (arr8 ks) 71 :: spI A (smallC n) z v (.slice none 0 0) :: bgsL A.t (ks ++ [k]) (bs ++ [Bg.new ((bs.length : Int) + 1) (10 + (bs.length : Int))])) w' := by
    rw [bgsL_push A.t ks bs k _ h1, h1]
    have := h'.perm (List.perm_append_singleton (bgI k A.t (Bg.new ((ks.length : Int) + 1) (10 + (ks.length : Int)))) (boxI X (arr8 ks) 71 :: spI A (smallC n) z v (.slice none 0 0) :: bgsL A.t ks bs)).symm
    exact this
  have hW := hS.write 0 rfl ks.length (.pointer (some ⟨k, 0, none⟩))
  rw [arr8_push ks k h8] at hW
  have hl := (h2.push.each bs.length _ (by rw [List.getElem?_append_right (Nat.le_refl _), Nat.sub_self]; rfl)).left_le h2.n8
  refine ⟨_, z, v, kk, by simp [h1], h2.push, h3, ?_, hW⟩
  rw [tot_append, List.length_append, List.length_singleton]
  omega
end

theorem count_le : ∀ (tk : List Bool) (n : Nat), (∀ q, n ≤ q → tk[q]? ≠ some true) → tk.count true ≤ n
  | [], n, _ => by simp
  | b :: l, 0, h => by
    have hb : b = false := by
      have := h 0 (Nat.le_refl _)
      simpa using this
    subst hb
    have := count_le l 0 (fun q hq => by have := h (q + 1) (by omega); simpa using this)
    simpa using this
  | b :: l, n + 1, h => by
    have := count_le l n (fun q hq => by have := h (q + 1) (by omega); simpa using this)
    rw [List.count_cons]
    split <;> omega
theorem count_ge : ∀ (tk : List Bool) (n : Nat), (∀ q, q < n → tk[q]? = some true) → n ≤ tk.count true
  | _, 0, _ => by omega
  | [], n + 1, h => by have := h 0 (by omega); simp at this
  | b :: l, n + 1, h => by
    have hb : b = true := by have := h 0 (by omega); simpa using this
    subst hb
    have := count_ge l n (fun q hq => by have := h (q + 1) (by omega); simpa using this)
    rw [List.count_cons]
    simp
    omega
theorem count_set : ∀ (tk : List Bool) (s : Nat), tk[s]? = some false → (tk.set s true).count true = tk.count true + 1
  | [], s, h => by simp at h
  | b :: l, 0, h => by
    obtain rfl : b = false := by simpa using h
    simp
  | b :: l, s + 1, h => by
    have := count_set l s (by simpa using h)
    rw [List.set_cons_succ, List.count_cons, List.count_cons, this]
    omega

/-- What was told of the first i begins. -/
structure Fin8 (bs : List Bg) (i g : Nat) (tk : List Bool) : Prop where
  len : tk.length = 8
  got : g = tk.count true
  tak : ∀ q : Nat, tk[q]? = some true → ∃ (j : Nat) (b : Bg), j < i ∧ bs[j]? = some b ∧ b.e = 0 ∧ b.sl = q
  kat : ∀ (j : Nat) (b : Bg) (q : Nat), j < i → bs[j]? = some b → b.e = 0 → b.sl = q → tk[q]? = some true
  non : (∃ (j : Nat) (b : Bg), bs[j]? = some b ∧ b.e = 6) ∨ g = i
/-- Where a begin ended. -/
theorem all_end {n : Nat} {bs : List Bg} {z : SSt} (h : AllInv n bs z) {i : Nat} {b : Bg} (hb : bs[i]? = some b) (h3 : b.st = 3) :
    (b.e = 6 ∧ b.slotE = 6) ∨ (b.e = 0 ∧ b.slotE = 0 ∧ ∃ s : Nat, b.sl = s ∧ b.slotA = s ∧ b.slotB = 1 ∧ s < n ∧ z.hs[s]? = some ⟨1, 2, 10 + i, i + 1, false, 0⟩) := by
  obtain ⟨_, _, hw⟩ := h.each i b hb
  rcases hw with ⟨a, _⟩ | ⟨a, _⟩ | ⟨a, _⟩ | ⟨a, _, g, e, s, hs, hn, hh⟩ | ⟨a, _, e, _⟩
  · omega
  · omega
  · omega
  · exact .inr ⟨e, by simp [Bg.slotE, a, e], s, hs, by simp [Bg.slotA, a, e, hs], by simp [Bg.slotB, a, e, g], hn, hh⟩
  · exact .inl ⟨e, by simp [Bg.slotE, a, e]⟩
theorem fin_new {n : Nat} {bs : List Bg} {z : SSt} (h : AllInv n bs z) (h3 : ∀ (j : Nat) (b : Bg), bs[j]? = some b → b.st = 3) {i g : Nat} {tk : List Bool} (f : Fin8 bs i g tk) {b : Bg} (hb : bs[i]? = some b) {s : Nat} (hs : b.sl = s) (he : b.e = 0) (h8 : n ≤ 8) : tk[s]? = some false := by
  rcases all_end h hb (h3 i b hb) with ⟨e6, _⟩ | ⟨_, _, s', a1, _, _, a4, a5⟩
  · omega
  obtain rfl : s' = s := by omega
  have hl : s' < tk.length := by have := f.len; omega
  rw [List.getElem?_eq_getElem hl]
  cases hx : tk[s']
  · rfl
  · exfalso
    obtain ⟨j, c, hj, hc, hc0, hcs⟩ := f.tak s' (by rw [List.getElem?_eq_getElem hl, hx])
    rcases all_end h hc (h3 j c hc) with ⟨e6, _⟩ | ⟨_, _, s2, b1, _, _, b4, b5⟩
    · omega
    obtain rfl : s2 = s' := by omega
    rw [a5] at b5
    simp only [Option.some.injEq, Hd.mk.injEq] at b5
    omega
theorem Fin8.hit {bs : List Bg} {i g : Nat} {tk : List Bool} (f : Fin8 bs i g tk) {b : Bg} (hb : bs[i]? = some b) {s : Nat} (hs : b.sl = s) (he : b.e = 0) (hf : tk[s]? = some false) : Fin8 bs (i + 1) (g + 1) (tk.set s true) := by
  have hl := (List.getElem?_eq_some_iff.1 hf).1
  refine ⟨by simpa using f.len, by rw [count_set tk s hf, ← f.got], ?_, ?_, ?_⟩
  · intro q hq
    by_cases hsq : s = q
    · subst hsq
      exact ⟨i, b, by omega, hb, he, hs⟩
    · rw [List.getElem?_set_ne hsq] at hq
      obtain ⟨j, c, a1, a2⟩ := f.tak q hq
      exact ⟨j, c, by omega, a2⟩
  · intro j c q hj hc hc0 hcq
    by_cases hsq : s = q
    · subst hsq
      rw [List.getElem?_set_self hl]
    · rw [List.getElem?_set_ne hsq]
      by_cases hji : j = i
      · subst hji
        rw [hb] at hc
        obtain rfl : b = c := by simpa using hc
        omega
      · exact f.kat j c q (by omega) hc hc0 hcq
  · rcases f.non with h | h
    · exact .inl h
    · exact .inr (by omega)
theorem Fin8.miss {bs : List Bg} {i g : Nat} {tk : List Bool} (f : Fin8 bs i g tk) {b : Bg} (hb : bs[i]? = some b) (he : b.e = 6) : Fin8 bs (i + 1) g tk := by
  refine ⟨f.len, f.got, fun q hq => ?_, fun j c q hj hc hc0 hcq => ?_, .inl ⟨i, b, hb, he⟩⟩
  · obtain ⟨j, c, a1, a2⟩ := f.tak q hq
    exact ⟨j, c, by omega, a2⟩
  · by_cases hji : j = i
    · subst hji
      rw [hb] at hc
      obtain rfl : b = c := by simpa using hc
      omega
    · exact f.kat j c q (by omega) hc hc0 hcq
theorem Fin8.all {n : Nat} {bs : List Bg} {z : SSt} (h : AllInv n bs z) (hl : bs.length = 8) (h3 : ∀ (j : Nat) (b : Bg), bs[j]? = some b → b.st = 3) {g : Nat} {tk : List Bool} (f : Fin8 bs 8 g tk) : g = n := by
  have n8 := h.n8
  have hle : g ≤ n := by
    rw [f.got]
    refine count_le tk n (fun q hq hx => ?_)
    obtain ⟨j, c, hj, hc, hc0, hcs⟩ := f.tak q hx
    rcases all_end h hc (h3 j c hc) with ⟨e6, _⟩ | ⟨_, _, s2, b1, _, _, b4, b5⟩ <;> omega
  rcases f.non with ⟨j, c, hc, hc6⟩ | h8
  · have hge : n ≤ g := by
      rw [f.got]
      refine count_ge tk n (fun q hq => ?_)
      rcases h.slot q hq with h0 | ⟨i, b, hb, ho⟩
      · exfalso
        obtain ⟨_, _, hw⟩ := h.each j c hc
        rcases hw with ⟨a, _, e, _⟩ | ⟨a, _, _, e, _⟩ | ⟨a, _, _, e, _⟩ | ⟨a, _, g, e, _⟩ | ⟨a, _, e, _, hf⟩
        · omega
        · omega
        · omega
        · omega
        · obtain ⟨y, hy, hy0⟩ := hf q hq
          rw [h0] at hy
          obtain rfl : Hd.zero = y := by simpa using hy
          exact hy0 rfl
      · have hi : i < bs.length := (List.getElem?_eq_some_iff.1 hb).1
        have h3b := h3 i b hb
        obtain ⟨o1, o2⟩ := ho
        exact f.kat i b q (by omega) hb (by omega) o1
    omega
  · omega
end Go.Proofs.Ytpjhljfcoejndaa
