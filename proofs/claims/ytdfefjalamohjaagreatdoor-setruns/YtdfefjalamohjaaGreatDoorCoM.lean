/- Programs of sets and their texts as plain data. No program is named here. -/
import Derived.Test.YtdfefjalamohjaaGreatDoorNt
import Derived.Test.YtdfefjalamohjaaGreatDoorVfM
import Derived.Lib.ItoaLen
import Derived.Test.YtdfefjalamohjaaGreatDoorPsG
namespace Go.Proofs.YtdfefjalamohjaaGreatDoor
open Go.RowKit
set_option linter.unusedVariables false
set_option linter.unusedSimpArgs false

/-- A word is met first where its first sign is. -/
theorem index_word (a r b : List UInt8) (c : UInt8) (h : c ∉ a) : Lib.index (a ++ (c :: r ++ b)) (c :: r) = a.length := by
  induction a with
  | nil => simp [Lib.index]
  | cons x a ih =>
    have hx : ¬ c = x := fun e => h (by simp [e])
    have hi := ih (fun m => h (by simp [m]))
    simp only [List.cons_append, Lib.index] at hi ⊢
    rw [if_neg (by simp [List.isPrefixOf, hx]), hi, if_neg (by simp only [beq_iff_eq]; omega)]
    simp
theorem index_noword (a r : List UInt8) (c : UInt8) (h : c ∉ a) : Lib.index a (c :: r) = -1 := by
  induction a with
  | nil => rfl
  | cons x a ih =>
    have hx : ¬ c = x := fun e => h (by simp [e])
    have hi := ih (fun m => h (by simp [m]))
    simp only [Lib.index]
    rw [if_neg (by simp [List.isPrefixOf, hx]), hi]
    rfl
/-- A text in pieces, with something between them. -/
def rend (f : Nat → List UInt8) : List (Nat × List UInt8) → List UInt8
  | [] => []
  | (k, p) :: r => f k ++ (p ++ rend f r)
def occ (j : Nat) : List (Nat × List UInt8) → Nat
  | [] => 0
  | (k, _) :: r => (if k = j then 1 else 0) + occ j r
theorem rend_all {c : UInt8} {r x : List UInt8} {j : Nat} {f g : Nat → List UInt8} (hf : f j = c :: r) (hg : g j = x) (hfg : ∀ k, k ≠ j → g k = f k) (hc : ∀ k, k ≠ j → c ∉ f k) :
    ∀ (ps : List (Nat × List UInt8)) (a : List UInt8), c ∉ a → (∀ q ∈ ps, c ∉ q.2) → Lib.count (a ++ rend f ps) (c :: r) = occ j ps ∧ Lib.replaceK (c :: r) x (occ j ps) (a ++ rend f ps) = a ++ rend g ps
  | [], a, ha, _ => by
    simp only [rend, List.append_nil, occ]
    exact ⟨Lib.count_miss (index_noword a r c ha), rfl⟩
  | (k, p) :: ps, a, ha, hp => by
    have hpp := hp (k, p) (by simp)
    have hps : ∀ q ∈ ps, c ∉ q.2 := fun q hq => hp q (by simp [hq])
    by_cases hk : k = j
    · subst hk
      obtain ⟨i1, i2⟩ := rend_all hf hg hfg hc ps p hpp hps
      simp only [rend, occ, if_true]
      rw [hf, hg, Nat.add_comm 1]
      have hi := index_word a r (p ++ rend f ps) c ha
      have hd : (a ++ (c :: r ++ (p ++ rend f ps))).drop (a.length + (c :: r).length) = p ++ rend f ps := by
        rw [List.drop_append, List.drop_of_length_le (by omega), List.nil_append, Nat.add_sub_cancel_left, List.drop_left]
      refine ⟨?_, ?_⟩
      · rw [Lib.count_hit (by simp) hi, hd, i1, Nat.add_comm]
      · rw [Lib.replaceK_hit _ _ _ _ _ hi, hd, i2]
        simp
    · have e : a ++ rend f ((k, p) :: ps) = (a ++ f k ++ p) ++ rend f ps := by simp [rend]
      have e2 : a ++ rend g ((k, p) :: ps) = (a ++ f k ++ p) ++ rend g ps := by simp [rend, hfg k hk]
      rw [e, e2]
      simp only [occ, if_neg hk, Nat.zero_add]
      exact rend_all hf hg hfg hc ps (a ++ f k ++ p) (by simp only [List.mem_append, not_or]; exact ⟨⟨ha, hc k hk⟩, hpp⟩) hps
theorem replace_rend {c : UInt8} {r x : List UInt8} {j : Nat} {f g : Nat → List UInt8} (hf : f j = c :: r) (hg : g j = x) (hfg : ∀ k, k ≠ j → g k = f k) (hc : ∀ k, k ≠ j → c ∉ f k) (hx : x ≠ c :: r)
    (ps : List (Nat × List UInt8)) (a : List UInt8) (ha : c ∉ a) (hp : ∀ q ∈ ps, c ∉ q.2) : Lib.replaceAll (a ++ rend f ps) (c :: r) x = a ++ rend g ps := by
  obtain ⟨h1, h2⟩ := rend_all hf hg hfg hc ps a ha hp
  unfold Lib.replaceAll Lib.replace
  rw [if_neg (by simpa using fun e => hx e.symm)]
  have hn : Lib.replaceNum (a ++ rend f ps) (c :: r) (-1) = occ j ps := by
    unfold Lib.replaceNum
    rw [if_pos (.inl (by decide)), h1]
  rw [hn, h2]
def wd : Nat → List UInt8
  | 0 => [72, 69, 65, 68]
  | 1 => [70, 82, 69, 69]
  | 2 => [83, 73, 90, 69]
  | 3 => [78, 79, 68, 69, 48]
  | 4 => [88]
  | _ => []
def nv (base x : Int) : Nat → Int
  | 0 => base
  | 1 => base + 1
  | 2 => base + 2
  | 3 => base + 1
  | _ => x
/-- The first j words are filled. -/
def wf (base x : Int) (j k : Nat) : List UInt8 := if k < j then Lib.itoa (nv base x k) else wd k
def fillS (t : List UInt8) (base x : Int) : Nat → List UInt8
  | 0 => t
  | j + 1 => Lib.replaceAll (fillS t base x j) (wd j) (Lib.itoa (nv base x j))
theorem itoa_cap (v : Int) (c : UInt8) (h : 65 ≤ c.toNat) : c ∉ Lib.itoa v := itoa_no v c (by omega) (by omega)
theorem fill_rend (base x : Int) (ps : List (Nat × List UInt8)) (a : List UInt8) (hk : ∀ q ∈ ps, q.1 < 5) (ha : ∀ c ∈ [72, 70, 83, 78, 88], c ∉ a) (hp : ∀ q ∈ ps, ∀ c ∈ ([72, 70, 83, 78, 88] : List UInt8), c ∉ q.2) : (∀ j, j ≤ 5 → fillS (a ++ rend wd ps) base x j = a ++ rend (wf base x j) ps) ∧ fillS (a ++ rend wd ps) base x 5 = a ++ rend (fun k => Lib.itoa (nv base x k)) ps := by
  have hext : ∀ (f g : Nat → List UInt8) (ps : List (Nat × List UInt8)), (∀ q ∈ ps, f q.1 = g q.1) → rend f ps = rend g ps := by
    intro f g ps
    induction ps with
    | nil => intro _; rfl
    | cons q ps ih =>
      intro h
      obtain ⟨k, p⟩ := q
      simp only [rend]
      rw [h (k, p) (by simp), ih (fun q hq => h q (by simp [hq]))]
  have h0 : a ++ rend wd ps = a ++ rend (wf base x 0) ps := by rw [hext wd (wf base x 0) ps (fun q _ => by simp [wf])]
  have step : ∀ (j : Nat) (c : UInt8) (r : List UInt8), wd j = c :: r → 65 ≤ c.toNat → c ∈ ([72, 70, 83, 78, 88] : List UInt8) → (∀ k, k ≠ j → c ∉ wd k) → Lib.replaceAll (a ++ rend (wf base x j) ps) (wd j) (Lib.itoa (nv base x j)) = a ++ rend (wf base x (j + 1)) ps := by
    intro j c r hw hc hm hn
    rw [hw]
    refine replace_rend (j := j) (f := wf base x j) (g := wf base x (j + 1)) (by simp [wf, hw]) (by simp [wf]) (fun k hk => ?_) (fun k hk => ?_) (fun e => ?_) ps a (ha c hm) (fun q hq => hp q hq c hm)
    · unfold wf
      by_cases h : k < j
      · rw [if_pos h, if_pos (by omega)]
      · rw [if_neg h, if_neg (by omega)]
    · unfold wf
      split
      · exact itoa_cap _ _ hc
      · exact hn k hk
    · exact itoa_cap (nv base x j) c hc (by rw [e]; simp)
  have hno : ∀ (c : UInt8) (j : Nat), (∀ k, k < 5 → k ≠ j → c ∉ wd k) → j < 5 → c ∉ wd 5 → ∀ k, k ≠ j → c ∉ wd k := fun c j h hj h5 k hk => by
    by_cases h6 : k < 5
    · exact h k h6 hk
    · have : wd k = wd 5 := by
        match k, h6 with
        | k + 5, _ => rfl
      rw [this]; exact h5
  have e0 : fillS (a ++ rend wd ps) base x 0 = a ++ rend (wf base x 0) ps := h0
  have e1 : fillS (a ++ rend wd ps) base x 1 = a ++ rend (wf base x 1) ps := by
    show Lib.replaceAll (fillS (a ++ rend wd ps) base x 0) (wd 0) (Lib.itoa (nv base x 0)) = _
    rw [e0, step 0 72 [69, 65, 68] rfl (by decide) (by decide) (hno _ 0 (by decide) (by decide) (by decide))]
  have e2 : fillS (a ++ rend wd ps) base x 2 = a ++ rend (wf base x 2) ps := by
    show Lib.replaceAll (fillS (a ++ rend wd ps) base x 1) (wd 1) (Lib.itoa (nv base x 1)) = _
    rw [e1, step 1 70 [82, 69, 69] rfl (by decide) (by decide) (hno _ 1 (by decide) (by decide) (by decide))]
  have e3 : fillS (a ++ rend wd ps) base x 3 = a ++ rend (wf base x 3) ps := by
    show Lib.replaceAll (fillS (a ++ rend wd ps) base x 2) (wd 2) (Lib.itoa (nv base x 2)) = _
    rw [e2, step 2 83 [73, 90, 69] rfl (by decide) (by decide) (hno _ 2 (by decide) (by decide) (by decide))]
  have e4 : fillS (a ++ rend wd ps) base x 4 = a ++ rend (wf base x 4) ps := by
    show Lib.replaceAll (fillS (a ++ rend wd ps) base x 3) (wd 3) (Lib.itoa (nv base x 3)) = _
    rw [e3, step 3 78 [79, 68, 69, 48] rfl (by decide) (by decide) (hno _ 3 (by decide) (by decide) (by decide))]
  have e5 : fillS (a ++ rend wd ps) base x 5 = a ++ rend (wf base x 5) ps := by
    show Lib.replaceAll (fillS (a ++ rend wd ps) base x 4) (wd 4) (Lib.itoa (nv base x 4)) = _
    rw [e4, step 4 88 [] rfl (by decide) (by decide) (hno _ 4 (by decide) (by decide) (by decide))]
  refine ⟨fun j hj => ?_, ?_⟩
  · match j, hj with
    | 0, _ => exact e0
    | 1, _ => exact e1
    | 2, _ => exact e2
    | 3, _ => exact e3
    | 4, _ => exact e4
    | 5, _ => exact e5
  · rw [e5]
    congr 1
    exact hext _ _ ps (fun q hq => by have := hk q hq; simp [wf, this])
def lens : List (Nat × List UInt8) → Nat
  | [] => 0
  | q :: r => q.2.length + lens r
theorem nv_rng {base x : Int} (h0 : 0 ≤ base) (h1 : base ≤ 256) (h2 : -9223372036854775808 ≤ x) (h3 : x ≤ 9223372036854775807) (j : Nat) : -9223372036854775808 ≤ nv base x j ∧ nv base x j ≤ 9223372036854775807 := by
  unfold nv
  split <;> omega
theorem wd_len (j : Nat) : (wd j).length ≤ 5 := by
  match j with
  | 0 => decide
  | 1 => decide
  | 2 => decide
  | 3 => decide
  | 4 => decide
  | k + 5 => exact Nat.zero_le _
theorem rend_len {base x : Int} (h0 : 0 ≤ base) (h1 : base ≤ 256) (h2 : -9223372036854775808 ≤ x) (h3 : x ≤ 9223372036854775807) (j : Nat) : ∀ ps, (rend (wf base x j) ps).length ≤ 21 * ps.length + lens ps
  | [] => by simp [rend, lens]
  | (k, p) :: r => by
    have ih := rend_len h0 h1 h2 h3 j r
    have hw : (wf base x j k).length ≤ 21 := by
      unfold wf
      split
      · obtain ⟨a, b⟩ := nv_rng h0 h1 h2 h3 k
        have := Lib.itoa_length_le (nv base x k) a b
        omega
      · have := wd_len k
        omega
    simp only [rend, lens, List.length_append, List.length_cons]
    omega
def pushL (v : Int) : List UInt8 := 9 :: 112 :: 117 :: 115 :: 104 :: 32 :: Lib.itoa v
theorem push_no (v : Int) : (10 : UInt8) ∉ pushL v := by
  have := itoa_no v 10 (by decide) (by decide)
  simp [pushL, this]
theorem push_len (v : Int) (h0 : -9223372036854775808 ≤ v) (h1 : v ≤ 9223372036854775807) : (pushL v).length ≤ 27 := by
  have := Lib.itoa_length_le v h0 h1
  simp only [pushL, List.length_cons]
  omega
theorem txt_le (k : Nat) : ∀ (ls : List (List UInt8)), (∀ l ∈ ls, l.length ≤ k) → (txt ls).length ≤ (k + 1) * ls.length
  | [], _ => by simp [txt]
  | l :: ls, h => by
    have h1 := txt_le k ls (fun x hx => h x (by simp [hx]))
    have h2 := h l (by simp)
    have e : (txt (l :: ls)).length = l.length + 1 + (txt ls).length := by simp [txt]; omega
    rw [e, List.length_cons, Nat.mul_add]
    omega
def plainB (l : List UInt8) : Bool := decide (8 < l.length) || l.all (fun b => decide (b.toNat < 128))
theorem plain_of {l : List UInt8} (h : plainB l = true) : Plain8 l := by
  intro h8 b hb
  unfold plainB at h
  rw [Bool.or_eq_true] at h
  rcases h with h | h
  · simp at h; omega
  · simpa using List.all_eq_true.1 h b hb
theorem plain_push (v : Int) : Plain8 (saidM (pushL v)) := by
  intro _ b hb
  unfold pushL at hb
  rw [push_said] at hb
  simp only [List.mem_cons] at hb
  rcases hb with rfl | rfl | rfl | rfl | rfl | hb
  · decide
  · decide
  · decide
  · decide
  · decide
  · have := itoa_mem v b hb
    omega
theorem plain_txt {ls : List (List UInt8)} (h10 : ∀ l ∈ ls, (10 : UInt8) ∉ l) (h : ∀ l ∈ ls, Plain8 (saidM l)) : PlainT (bs (txt ls)) := by
  intro x hx
  rw [lines_txt ls h10] at hx
  obtain ⟨l, hl, rfl⟩ := List.mem_map.1 hx
  rcases List.mem_append.1 hl with hl | hl
  · exact h l hl
  · rw [List.mem_singleton.1 hl]
    exact plain_of (by kernel_rfl)

def putT : List UInt8 := [10, 9, 112, 117, 115, 104, 32, 72, 69, 65, 68, 10, 9, 115, 101, 116, 32, 48, 10, 102, 105, 110, 100, 58, 10, 9, 103, 101, 116, 32, 48, 10, 9, 108, 111, 97, 100, 10, 9, 100, 117, 112, 10, 9, 115, 101, 116, 32, 49, 10, 9, 122, 101, 114, 111, 32, 102, 111, 117, 110, 100, 45, 101, 110, 100, 10, 9, 103, 101, 116, 32, 49, 10, 9, 112, 117, 115, 104, 32, 50, 10, 9, 109, 117, 108, 10, 9, 112, 117, 115, 104, 32, 78, 79, 68, 69, 48, 10, 9, 97, 100, 100, 10, 9, 100, 117, 112, 10, 9, 115, 101, 116, 32, 50, 10, 9, 108, 111, 97, 100, 10, 9, 112, 117, 115, 104, 32, 88, 10, 9, 108, 101, 115, 115, 10, 9, 122, 101, 114, 111, 32, 102, 111, 117, 110, 100, 45, 110, 111, 100, 101, 10, 9, 103, 101, 116, 32, 50, 10, 9, 112, 117, 115, 104, 32, 49, 10, 9, 97, 100, 100, 10, 9, 115, 101, 116, 32, 48, 10, 9, 106, 117, 109, 112, 32, 102, 105, 110, 100, 10, 102, 111, 117, 110, 100, 45, 110, 111, 100, 101, 58, 10, 9, 103, 101, 116, 32, 50, 10, 9, 108, 111, 97, 100, 10, 9, 112, 117, 115, 104, 32, 88, 10, 9, 115, 97, 109, 101, 10, 9, 106, 117, 109, 112, 32, 102, 111, 117, 110, 100, 10, 102, 111, 117, 110, 100, 45, 101, 110, 100, 58, 10, 9, 112, 117, 115, 104, 32, 48, 10, 102, 111, 117, 110, 100, 58, 10, 10, 9, 110, 111, 116, 10, 9, 122, 101, 114, 111, 32, 116, 104, 101, 114, 101, 10, 9, 112, 117, 115, 104, 32, 70, 82, 69, 69, 10, 9, 108, 111, 97, 100, 10, 9, 100, 117, 112, 10, 9, 115, 101, 116, 32, 51, 10, 9, 122, 101, 114, 111, 32, 102, 117, 108, 108, 10, 9, 103, 101, 116, 32, 51, 10, 9, 112, 117, 115, 104, 32, 50, 10, 9, 109, 117, 108, 10, 9, 112, 117, 115, 104, 32, 78, 79, 68, 69, 48, 10, 9, 97, 100, 100, 10, 9, 100, 117, 112, 10, 9, 115, 101, 116, 32, 52, 10, 9, 112, 117, 115, 104, 32, 88, 10, 9, 115, 116, 111, 114, 101, 10, 9, 112, 117, 115, 104, 32, 70, 82, 69, 69, 10, 9, 103, 101, 116, 32, 52, 10, 9, 112, 117, 115, 104, 32, 49, 10, 9, 97, 100, 100, 10, 9, 108, 111, 97, 100, 10, 9, 115, 116, 111, 114, 101, 10, 9, 103, 101, 116, 32, 52, 10, 9, 112, 117, 115, 104, 32, 49, 10, 9, 97, 100, 100, 10, 9, 103, 101, 116, 32, 49, 10, 9, 115, 116, 111, 114, 101, 10, 9, 103, 101, 116, 32, 48, 10, 9, 103, 101, 116, 32, 51, 10, 9, 115, 116, 111, 114, 101, 10, 9, 112, 117, 115, 104, 32, 83, 73, 90, 69, 10, 9, 112, 117, 115, 104, 32, 83, 73, 90, 69, 10, 9, 108, 111, 97, 100, 10, 9, 112, 117, 115, 104, 32, 49, 10, 9, 97, 100, 100, 10, 9, 115, 116, 111, 114, 101, 10, 9, 112, 117, 115, 104, 32, 49, 10, 9, 106, 117, 109, 112, 32, 111, 117, 116, 10, 116, 104, 101, 114, 101, 58, 10, 9, 112, 117, 115, 104, 32, 48, 10, 9, 106, 117, 109, 112, 32, 111, 117, 116, 10, 102, 117, 108, 108, 58, 10, 9, 112, 117, 115, 104, 32, 50, 10, 111, 117, 116, 58, 10, 9, 116, 101, 108, 108, 10]
def putC (base x : Int) : List Ins := [⟨16, 0⟩, ⟨1, base⟩, ⟨6, 0⟩, ⟨5, 0⟩, ⟨17, 0⟩, ⟨3, 0⟩, ⟨6, 1⟩, ⟨15, 29⟩, ⟨5, 1⟩, ⟨1, 2⟩, ⟨9, 0⟩, ⟨1, base + 1⟩, ⟨7, 0⟩, ⟨3, 0⟩, ⟨6, 2⟩, ⟨17, 0⟩, ⟨1, x⟩, ⟨11, 0⟩, ⟨15, 24⟩, ⟨5, 2⟩, ⟨1, 1⟩, ⟨7, 0⟩, ⟨6, 0⟩, ⟨14, 3⟩, ⟨5, 2⟩, ⟨17, 0⟩, ⟨1, x⟩, ⟨12, 0⟩, ⟨14, 30⟩, ⟨1, 0⟩, ⟨13, 0⟩, ⟨15, 68⟩, ⟨1, base + 1⟩, ⟨17, 0⟩, ⟨3, 0⟩, ⟨6, 3⟩, ⟨15, 70⟩, ⟨5, 3⟩, ⟨1, 2⟩, ⟨9, 0⟩, ⟨1, base + 1⟩, ⟨7, 0⟩, ⟨3, 0⟩, ⟨6, 4⟩, ⟨1, x⟩, ⟨18, 0⟩, ⟨1, base + 1⟩, ⟨5, 4⟩, ⟨1, 1⟩, ⟨7, 0⟩, ⟨17, 0⟩, ⟨18, 0⟩, ⟨5, 4⟩, ⟨1, 1⟩, ⟨7, 0⟩, ⟨5, 1⟩, ⟨18, 0⟩, ⟨5, 0⟩, ⟨5, 3⟩, ⟨18, 0⟩, ⟨1, base + 2⟩, ⟨1, base + 2⟩, ⟨17, 0⟩, ⟨1, 1⟩, ⟨7, 0⟩, ⟨18, 0⟩, ⟨1, 1⟩, ⟨14, 71⟩, ⟨1, 0⟩, ⟨14, 71⟩, ⟨1, 2⟩, ⟨21, 0⟩, ⟨19, 0⟩]
def putP : List (Nat × List UInt8) := [(0, [10, 9, 115, 101, 116, 32, 48, 10, 102, 105, 110, 100, 58, 10, 9, 103, 101, 116, 32, 48, 10, 9, 108, 111, 97, 100, 10, 9, 100, 117, 112, 10, 9, 115, 101, 116, 32, 49, 10, 9, 122, 101, 114, 111, 32, 102, 111, 117, 110, 100, 45, 101, 110, 100, 10, 9, 103, 101, 116, 32, 49, 10, 9, 112, 117, 115, 104, 32, 50, 10, 9, 109, 117, 108, 10, 9, 112, 117, 115, 104, 32]), (3, [10, 9, 97, 100, 100, 10, 9, 100, 117, 112, 10, 9, 115, 101, 116, 32, 50, 10, 9, 108, 111, 97, 100, 10, 9, 112, 117, 115, 104, 32]), (4, [10, 9, 108, 101, 115, 115, 10, 9, 122, 101, 114, 111, 32, 102, 111, 117, 110, 100, 45, 110, 111, 100, 101, 10, 9, 103, 101, 116, 32, 50, 10, 9, 112, 117, 115, 104, 32, 49, 10, 9, 97, 100, 100, 10, 9, 115, 101, 116, 32, 48, 10, 9, 106, 117, 109, 112, 32, 102, 105, 110, 100, 10, 102, 111, 117, 110, 100, 45, 110, 111, 100, 101, 58, 10, 9, 103, 101, 116, 32, 50, 10, 9, 108, 111, 97, 100, 10, 9, 112, 117, 115, 104, 32]), (4, [10, 9, 115, 97, 109, 101, 10, 9, 106, 117, 109, 112, 32, 102, 111, 117, 110, 100, 10, 102, 111, 117, 110, 100, 45, 101, 110, 100, 58, 10, 9, 112, 117, 115, 104, 32, 48, 10, 102, 111, 117, 110, 100, 58, 10, 10, 9, 110, 111, 116, 10, 9, 122, 101, 114, 111, 32, 116, 104, 101, 114, 101, 10, 9, 112, 117, 115, 104, 32]), (1, [10, 9, 108, 111, 97, 100, 10, 9, 100, 117, 112, 10, 9, 115, 101, 116, 32, 51, 10, 9, 122, 101, 114, 111, 32, 102, 117, 108, 108, 10, 9, 103, 101, 116, 32, 51, 10, 9, 112, 117, 115, 104, 32, 50, 10, 9, 109, 117, 108, 10, 9, 112, 117, 115, 104, 32]), (3, [10, 9, 97, 100, 100, 10, 9, 100, 117, 112, 10, 9, 115, 101, 116, 32, 52, 10, 9, 112, 117, 115, 104, 32]), (4, [10, 9, 115, 116, 111, 114, 101, 10, 9, 112, 117, 115, 104, 32]), (1, [10, 9, 103, 101, 116, 32, 52, 10, 9, 112, 117, 115, 104, 32, 49, 10, 9, 97, 100, 100, 10, 9, 108, 111, 97, 100, 10, 9, 115, 116, 111, 114, 101, 10, 9, 103, 101, 116, 32, 52, 10, 9, 112, 117, 115, 104, 32, 49, 10, 9, 97, 100, 100, 10, 9, 103, 101, 116, 32, 49, 10, 9, 115, 116, 111, 114, 101, 10, 9, 103, 101, 116, 32, 48, 10, 9, 103, 101, 116, 32, 51, 10, 9, 115, 116, 111, 114, 101, 10, 9, 112, 117, 115, 104, 32]), (2, [10, 9, 112, 117, 115, 104, 32]), (2, [10, 9, 108, 111, 97, 100, 10, 9, 112, 117, 115, 104, 32, 49, 10, 9, 97, 100, 100, 10, 9, 115, 116, 111, 114, 101, 10, 9, 112, 117, 115, 104, 32, 49, 10, 9, 106, 117, 109, 112, 32, 111, 117, 116, 10, 116, 104, 101, 114, 101, 58, 10, 9, 112, 117, 115, 104, 32, 48, 10, 9, 106, 117, 109, 112, 32, 111, 117, 116, 10, 102, 117, 108, 108, 58, 10, 9, 112, 117, 115, 104, 32, 50, 10, 111, 117, 116, 58, 10, 9, 116, 101, 108, 108, 10])]
theorem putT_pieces : putT = [10, 9, 112, 117, 115, 104, 32] ++ rend wd putP := by kernel_rfl
theorem put_filled (base x : Int) : fillS putT base x 5 = [10, 9, 112, 117, 115, 104, 32] ++ rend (fun k => Lib.itoa (nv base x k)) putP := by
  rw [putT_pieces]
  exact (fill_rend base x putP [10, 9, 112, 117, 115, 104, 32] (by decide) (by decide) (by decide)).2
theorem put_steps (base x : Int) : ∀ j, j ≤ 5 → fillS putT base x j = [10, 9, 112, 117, 115, 104, 32] ++ rend (wf base x j) putP := by
  rw [putT_pieces]
  exact (fill_rend base x putP [10, 9, 112, 117, 115, 104, 32] (by decide) (by decide) (by decide)).1
set_option maxRecDepth 100000 in
theorem put_short {base x : Int} (h0 : 0 ≤ base) (h1 : base ≤ 256) (h2 : -9223372036854775808 ≤ x) (h3 : x ≤ 9223372036854775807) (j : Nat) (hj : j ≤ 5) : (fillS putT base x j).length ≤ 100000 := by
  rw [put_steps base x j hj, List.length_append]
  have := rend_len h0 h1 h2 h3 j putP
  exact Nat.le_trans (Nat.add_le_add_left this _) (by decide)
def putLs (base x : Int) : List (List UInt8) := [[98, 101, 103, 105, 110], [], pushL (base), [9, 115, 101, 116, 32, 48], [102, 105, 110, 100, 58], [9, 103, 101, 116, 32, 48], [9, 108, 111, 97, 100], [9, 100, 117, 112], [9, 115, 101, 116, 32, 49], [9, 122, 101, 114, 111, 32, 102, 111, 117, 110, 100, 45, 101, 110, 100], [9, 103, 101, 116, 32, 49], [9, 112, 117, 115, 104, 32, 50], [9, 109, 117, 108], pushL (base + 1), [9, 97, 100, 100], [9, 100, 117, 112], [9, 115, 101, 116, 32, 50], [9, 108, 111, 97, 100], pushL (x), [9, 108, 101, 115, 115], [9, 122, 101, 114, 111, 32, 102, 111, 117, 110, 100, 45, 110, 111, 100, 101], [9, 103, 101, 116, 32, 50], [9, 112, 117, 115, 104, 32, 49], [9, 97, 100, 100], [9, 115, 101, 116, 32, 48], [9, 106, 117, 109, 112, 32, 102, 105, 110, 100], [102, 111, 117, 110, 100, 45, 110, 111, 100, 101, 58], [9, 103, 101, 116, 32, 50], [9, 108, 111, 97, 100], pushL (x), [9, 115, 97, 109, 101], [9, 106, 117, 109, 112, 32, 102, 111, 117, 110, 100], [102, 111, 117, 110, 100, 45, 101, 110, 100, 58], [9, 112, 117, 115, 104, 32, 48], [102, 111, 117, 110, 100, 58], [], [9, 110, 111, 116], [9, 122, 101, 114, 111, 32, 116, 104, 101, 114, 101], pushL (base + 1), [9, 108, 111, 97, 100], [9, 100, 117, 112], [9, 115, 101, 116, 32, 51], [9, 122, 101, 114, 111, 32, 102, 117, 108, 108], [9, 103, 101, 116, 32, 51], [9, 112, 117, 115, 104, 32, 50], [9, 109, 117, 108], pushL (base + 1), [9, 97, 100, 100], [9, 100, 117, 112], [9, 115, 101, 116, 32, 52], pushL (x), [9, 115, 116, 111, 114, 101], pushL (base + 1), [9, 103, 101, 116, 32, 52], [9, 112, 117, 115, 104, 32, 49], [9, 97, 100, 100], [9, 108, 111, 97, 100], [9, 115, 116, 111, 114, 101], [9, 103, 101, 116, 32, 52], [9, 112, 117, 115, 104, 32, 49], [9, 97, 100, 100], [9, 103, 101, 116, 32, 49], [9, 115, 116, 111, 114, 101], [9, 103, 101, 116, 32, 48], [9, 103, 101, 116, 32, 51], [9, 115, 116, 111, 114, 101], pushL (base + 2), pushL (base + 2), [9, 108, 111, 97, 100], [9, 112, 117, 115, 104, 32, 49], [9, 97, 100, 100], [9, 115, 116, 111, 114, 101], [9, 112, 117, 115, 104, 32, 49], [9, 106, 117, 109, 112, 32, 111, 117, 116], [116, 104, 101, 114, 101, 58], [9, 112, 117, 115, 104, 32, 48], [9, 106, 117, 109, 112, 32, 111, 117, 116], [102, 117, 108, 108, 58], [9, 112, 117, 115, 104, 32, 50], [111, 117, 116, 58], [9, 116, 101, 108, 108], [99, 111, 109, 109, 105, 116]]
def putWs (base x : Int) : List Lw := [.ins ⟨16, 0⟩ [], .no, .ins ⟨1, base⟩ [], .ins ⟨6, 0⟩ [], .lab [102, 105, 110, 100], .ins ⟨5, 0⟩ [], .ins ⟨17, 0⟩ [], .ins ⟨3, 0⟩ [], .ins ⟨6, 1⟩ [], .ins ⟨15, 0⟩ [102, 111, 117, 110, 100, 45, 101, 110, 100], .ins ⟨5, 1⟩ [], .ins ⟨1, 2⟩ [], .ins ⟨9, 0⟩ [], .ins ⟨1, base + 1⟩ [], .ins ⟨7, 0⟩ [], .ins ⟨3, 0⟩ [], .ins ⟨6, 2⟩ [], .ins ⟨17, 0⟩ [], .ins ⟨1, x⟩ [], .ins ⟨11, 0⟩ [], .ins ⟨15, 0⟩ [102, 111, 117, 110, 100, 45, 110, 111, 100, 101], .ins ⟨5, 2⟩ [], .ins ⟨1, 1⟩ [], .ins ⟨7, 0⟩ [], .ins ⟨6, 0⟩ [], .ins ⟨14, 0⟩ [102, 105, 110, 100], .lab [102, 111, 117, 110, 100, 45, 110, 111, 100, 101], .ins ⟨5, 2⟩ [], .ins ⟨17, 0⟩ [], .ins ⟨1, x⟩ [], .ins ⟨12, 0⟩ [], .ins ⟨14, 0⟩ [102, 111, 117, 110, 100], .lab [102, 111, 117, 110, 100, 45, 101, 110, 100], .ins ⟨1, 0⟩ [], .lab [102, 111, 117, 110, 100], .no, .ins ⟨13, 0⟩ [], .ins ⟨15, 0⟩ [116, 104, 101, 114, 101], .ins ⟨1, base + 1⟩ [], .ins ⟨17, 0⟩ [], .ins ⟨3, 0⟩ [], .ins ⟨6, 3⟩ [], .ins ⟨15, 0⟩ [102, 117, 108, 108], .ins ⟨5, 3⟩ [], .ins ⟨1, 2⟩ [], .ins ⟨9, 0⟩ [], .ins ⟨1, base + 1⟩ [], .ins ⟨7, 0⟩ [], .ins ⟨3, 0⟩ [], .ins ⟨6, 4⟩ [], .ins ⟨1, x⟩ [], .ins ⟨18, 0⟩ [], .ins ⟨1, base + 1⟩ [], .ins ⟨5, 4⟩ [], .ins ⟨1, 1⟩ [], .ins ⟨7, 0⟩ [], .ins ⟨17, 0⟩ [], .ins ⟨18, 0⟩ [], .ins ⟨5, 4⟩ [], .ins ⟨1, 1⟩ [], .ins ⟨7, 0⟩ [], .ins ⟨5, 1⟩ [], .ins ⟨18, 0⟩ [], .ins ⟨5, 0⟩ [], .ins ⟨5, 3⟩ [], .ins ⟨18, 0⟩ [], .ins ⟨1, base + 2⟩ [], .ins ⟨1, base + 2⟩ [], .ins ⟨17, 0⟩ [], .ins ⟨1, 1⟩ [], .ins ⟨7, 0⟩ [], .ins ⟨18, 0⟩ [], .ins ⟨1, 1⟩ [], .ins ⟨14, 0⟩ [111, 117, 116], .lab [116, 104, 101, 114, 101], .ins ⟨1, 0⟩ [], .ins ⟨14, 0⟩ [111, 117, 116], .lab [102, 117, 108, 108], .ins ⟨1, 2⟩ [], .lab [111, 117, 116], .ins ⟨21, 0⟩ [], .ins ⟨19, 0⟩ []]
set_option maxRecDepth 100000 in
theorem put_ws {base x : Int} (h0 : 0 ≤ base) (h1 : base ≤ 256) (h2 : -9223372036854775808 ≤ x) (h3 : x ≤ 9223372036854775807) : Lws (putLs base x) (putWs base x) :=
  ⟨⟨by decide, by kernel_rfl, fun i => by kernel_rfl⟩,
   (show saidM [] = [] by kernel_rfl),
   push_line _ (by omega) (by omega),
   ⟨by decide, by kernel_rfl, fun i => by kernel_rfl⟩,
   ⟨by decide, by kernel_rfl, by kernel_rfl, by kernel_rfl⟩,
   ⟨by decide, by kernel_rfl, fun i => by kernel_rfl⟩,
   ⟨by decide, by kernel_rfl, fun i => by kernel_rfl⟩,
   ⟨by decide, by kernel_rfl, fun i => by kernel_rfl⟩,
   ⟨by decide, by kernel_rfl, fun i => by kernel_rfl⟩,
   ⟨by decide, by kernel_rfl, fun i => by kernel_rfl⟩,
   ⟨by decide, by kernel_rfl, fun i => by kernel_rfl⟩,
   ⟨by decide, by kernel_rfl, fun i => by kernel_rfl⟩,
   ⟨by decide, by kernel_rfl, fun i => by kernel_rfl⟩,
   push_line _ (by omega) (by omega),
   ⟨by decide, by kernel_rfl, fun i => by kernel_rfl⟩,
   ⟨by decide, by kernel_rfl, fun i => by kernel_rfl⟩,
   ⟨by decide, by kernel_rfl, fun i => by kernel_rfl⟩,
   ⟨by decide, by kernel_rfl, fun i => by kernel_rfl⟩,
   push_line _ (by omega) (by omega),
   ⟨by decide, by kernel_rfl, fun i => by kernel_rfl⟩,
   ⟨by decide, by kernel_rfl, fun i => by kernel_rfl⟩,
   ⟨by decide, by kernel_rfl, fun i => by kernel_rfl⟩,
   ⟨by decide, by kernel_rfl, fun i => by kernel_rfl⟩,
   ⟨by decide, by kernel_rfl, fun i => by kernel_rfl⟩,
   ⟨by decide, by kernel_rfl, fun i => by kernel_rfl⟩,
   ⟨by decide, by kernel_rfl, fun i => by kernel_rfl⟩,
   ⟨by decide, by kernel_rfl, by kernel_rfl, by kernel_rfl⟩,
   ⟨by decide, by kernel_rfl, fun i => by kernel_rfl⟩,
   ⟨by decide, by kernel_rfl, fun i => by kernel_rfl⟩,
   push_line _ (by omega) (by omega),
   ⟨by decide, by kernel_rfl, fun i => by kernel_rfl⟩,
   ⟨by decide, by kernel_rfl, fun i => by kernel_rfl⟩,
   ⟨by decide, by kernel_rfl, by kernel_rfl, by kernel_rfl⟩,
   ⟨by decide, by kernel_rfl, fun i => by kernel_rfl⟩,
   ⟨by decide, by kernel_rfl, by kernel_rfl, by kernel_rfl⟩,
   (show saidM [] = [] by kernel_rfl),
   ⟨by decide, by kernel_rfl, fun i => by kernel_rfl⟩,
   ⟨by decide, by kernel_rfl, fun i => by kernel_rfl⟩,
   push_line _ (by omega) (by omega),
   ⟨by decide, by kernel_rfl, fun i => by kernel_rfl⟩,
   ⟨by decide, by kernel_rfl, fun i => by kernel_rfl⟩,
   ⟨by decide, by kernel_rfl, fun i => by kernel_rfl⟩,
   ⟨by decide, by kernel_rfl, fun i => by kernel_rfl⟩,
   ⟨by decide, by kernel_rfl, fun i => by kernel_rfl⟩,
   ⟨by decide, by kernel_rfl, fun i => by kernel_rfl⟩,
   ⟨by decide, by kernel_rfl, fun i => by kernel_rfl⟩,
   push_line _ (by omega) (by omega),
   ⟨by decide, by kernel_rfl, fun i => by kernel_rfl⟩,
   ⟨by decide, by kernel_rfl, fun i => by kernel_rfl⟩,
   ⟨by decide, by kernel_rfl, fun i => by kernel_rfl⟩,
   push_line _ (by omega) (by omega),
   ⟨by decide, by kernel_rfl, fun i => by kernel_rfl⟩,
   push_line _ (by omega) (by omega),
   ⟨by decide, by kernel_rfl, fun i => by kernel_rfl⟩,
   ⟨by decide, by kernel_rfl, fun i => by kernel_rfl⟩,
   ⟨by decide, by kernel_rfl, fun i => by kernel_rfl⟩,
   ⟨by decide, by kernel_rfl, fun i => by kernel_rfl⟩,
   ⟨by decide, by kernel_rfl, fun i => by kernel_rfl⟩,
   ⟨by decide, by kernel_rfl, fun i => by kernel_rfl⟩,
   ⟨by decide, by kernel_rfl, fun i => by kernel_rfl⟩,
   ⟨by decide, by kernel_rfl, fun i => by kernel_rfl⟩,
   ⟨by decide, by kernel_rfl, fun i => by kernel_rfl⟩,
   ⟨by decide, by kernel_rfl, fun i => by kernel_rfl⟩,
   ⟨by decide, by kernel_rfl, fun i => by kernel_rfl⟩,
   ⟨by decide, by kernel_rfl, fun i => by kernel_rfl⟩,
   ⟨by decide, by kernel_rfl, fun i => by kernel_rfl⟩,
   push_line _ (by omega) (by omega),
   push_line _ (by omega) (by omega),
   ⟨by decide, by kernel_rfl, fun i => by kernel_rfl⟩,
   ⟨by decide, by kernel_rfl, fun i => by kernel_rfl⟩,
   ⟨by decide, by kernel_rfl, fun i => by kernel_rfl⟩,
   ⟨by decide, by kernel_rfl, fun i => by kernel_rfl⟩,
   ⟨by decide, by kernel_rfl, fun i => by kernel_rfl⟩,
   ⟨by decide, by kernel_rfl, fun i => by kernel_rfl⟩,
   ⟨by decide, by kernel_rfl, by kernel_rfl, by kernel_rfl⟩,
   ⟨by decide, by kernel_rfl, fun i => by kernel_rfl⟩,
   ⟨by decide, by kernel_rfl, fun i => by kernel_rfl⟩,
   ⟨by decide, by kernel_rfl, by kernel_rfl, by kernel_rfl⟩,
   ⟨by decide, by kernel_rfl, fun i => by kernel_rfl⟩,
   ⟨by decide, by kernel_rfl, by kernel_rfl, by kernel_rfl⟩,
   ⟨by decide, by kernel_rfl, fun i => by kernel_rfl⟩,
   ⟨by decide, by kernel_rfl, fun i => by kernel_rfl⟩, trivial⟩
set_option maxRecDepth 100000 in
theorem put_no (base x : Int) : ∀ l ∈ putLs base x, (10 : UInt8) ∉ l := by
  intro l hl
  simp only [putLs, List.mem_cons, List.not_mem_nil, or_false] at hl
  rcases hl with rfl | rfl | rfl | rfl | rfl | rfl | rfl | rfl | rfl | rfl | rfl | rfl | rfl | rfl | rfl | rfl | rfl | rfl | rfl | rfl | rfl | rfl | rfl | rfl | rfl | rfl | rfl | rfl | rfl | rfl | rfl | rfl | rfl | rfl | rfl | rfl | rfl | rfl | rfl | rfl | rfl | rfl | rfl | rfl | rfl | rfl | rfl | rfl | rfl | rfl | rfl | rfl | rfl | rfl | rfl | rfl | rfl | rfl | rfl | rfl | rfl | rfl | rfl | rfl | rfl | rfl | rfl | rfl | rfl | rfl | rfl | rfl | rfl | rfl | rfl | rfl | rfl | rfl | rfl | rfl | rfl | rfl
  · decide
  · decide
  · exact push_no _
  · decide
  · decide
  · decide
  · decide
  · decide
  · decide
  · decide
  · decide
  · decide
  · decide
  · exact push_no _
  · decide
  · decide
  · decide
  · decide
  · exact push_no _
  · decide
  · decide
  · decide
  · decide
  · decide
  · decide
  · decide
  · decide
  · decide
  · decide
  · exact push_no _
  · decide
  · decide
  · decide
  · decide
  · decide
  · decide
  · decide
  · decide
  · exact push_no _
  · decide
  · decide
  · decide
  · decide
  · decide
  · decide
  · decide
  · exact push_no _
  · decide
  · decide
  · decide
  · exact push_no _
  · decide
  · exact push_no _
  · decide
  · decide
  · decide
  · decide
  · decide
  · decide
  · decide
  · decide
  · decide
  · decide
  · decide
  · decide
  · decide
  · exact push_no _
  · exact push_no _
  · decide
  · decide
  · decide
  · decide
  · decide
  · decide
  · decide
  · decide
  · decide
  · decide
  · decide
  · decide
  · decide
  · decide
set_option maxRecDepth 100000 in
set_option maxHeartbeats 2000000 in
theorem put_txt (base x : Int) : [98, 101, 103, 105, 110, 10] ++ fillS putT base x 5 ++ [99, 111, 109, 109, 105, 116, 10] = txt (putLs base x) := by
  rw [put_filled]
  simp [txt, putLs, pushL, rend, putP, nv]
set_option maxRecDepth 100000 in
theorem put_len {base x : Int} (h0 : 0 ≤ base) (h1 : base ≤ 256) (h2 : -9223372036854775808 ≤ x) (h3 : x ≤ 9223372036854775807) : (txt (putLs base x)).length ≤ 3000 := by
  refine Nat.le_trans (txt_le 27 _ ?_) (by decide : (27 + 1) * 82 ≤ 3000)
  intro l hl
  simp only [putLs, List.mem_cons, List.not_mem_nil, or_false] at hl
  rcases hl with rfl | rfl | rfl | rfl | rfl | rfl | rfl | rfl | rfl | rfl | rfl | rfl | rfl | rfl | rfl | rfl | rfl | rfl | rfl | rfl | rfl | rfl | rfl | rfl | rfl | rfl | rfl | rfl | rfl | rfl | rfl | rfl | rfl | rfl | rfl | rfl | rfl | rfl | rfl | rfl | rfl | rfl | rfl | rfl | rfl | rfl | rfl | rfl | rfl | rfl | rfl | rfl | rfl | rfl | rfl | rfl | rfl | rfl | rfl | rfl | rfl | rfl | rfl | rfl | rfl | rfl | rfl | rfl | rfl | rfl | rfl | rfl | rfl | rfl | rfl | rfl | rfl | rfl | rfl | rfl | rfl | rfl
  · decide
  · decide
  · exact push_len _ (by omega) (by omega)
  · decide
  · decide
  · decide
  · decide
  · decide
  · decide
  · decide
  · decide
  · decide
  · decide
  · exact push_len _ (by omega) (by omega)
  · decide
  · decide
  · decide
  · decide
  · exact push_len _ (by omega) (by omega)
  · decide
  · decide
  · decide
  · decide
  · decide
  · decide
  · decide
  · decide
  · decide
  · decide
  · exact push_len _ (by omega) (by omega)
  · decide
  · decide
  · decide
  · decide
  · decide
  · decide
  · decide
  · decide
  · exact push_len _ (by omega) (by omega)
  · decide
  · decide
  · decide
  · decide
  · decide
  · decide
  · decide
  · exact push_len _ (by omega) (by omega)
  · decide
  · decide
  · decide
  · exact push_len _ (by omega) (by omega)
  · decide
  · exact push_len _ (by omega) (by omega)
  · decide
  · decide
  · decide
  · decide
  · decide
  · decide
  · decide
  · decide
  · decide
  · decide
  · decide
  · decide
  · decide
  · exact push_len _ (by omega) (by omega)
  · exact push_len _ (by omega) (by omega)
  · decide
  · decide
  · decide
  · decide
  · decide
  · decide
  · decide
  · decide
  · decide
  · decide
  · decide
  · decide
  · decide
  · decide
set_option maxRecDepth 100000 in
theorem put_plain (base x : Int) : ∀ l ∈ putLs base x, Plain8 (saidM l) := by
  intro l hl
  simp only [putLs, List.mem_cons, List.not_mem_nil, or_false] at hl
  rcases hl with rfl | rfl | rfl | rfl | rfl | rfl | rfl | rfl | rfl | rfl | rfl | rfl | rfl | rfl | rfl | rfl | rfl | rfl | rfl | rfl | rfl | rfl | rfl | rfl | rfl | rfl | rfl | rfl | rfl | rfl | rfl | rfl | rfl | rfl | rfl | rfl | rfl | rfl | rfl | rfl | rfl | rfl | rfl | rfl | rfl | rfl | rfl | rfl | rfl | rfl | rfl | rfl | rfl | rfl | rfl | rfl | rfl | rfl | rfl | rfl | rfl | rfl | rfl | rfl | rfl | rfl | rfl | rfl | rfl | rfl | rfl | rfl | rfl | rfl | rfl | rfl | rfl | rfl | rfl | rfl | rfl | rfl
  · exact plain_of (by kernel_rfl)
  · exact plain_of (by kernel_rfl)
  · exact plain_push _
  · exact plain_of (by kernel_rfl)
  · exact plain_of (by kernel_rfl)
  · exact plain_of (by kernel_rfl)
  · exact plain_of (by kernel_rfl)
  · exact plain_of (by kernel_rfl)
  · exact plain_of (by kernel_rfl)
  · exact plain_of (by kernel_rfl)
  · exact plain_of (by kernel_rfl)
  · exact plain_of (by kernel_rfl)
  · exact plain_of (by kernel_rfl)
  · exact plain_push _
  · exact plain_of (by kernel_rfl)
  · exact plain_of (by kernel_rfl)
  · exact plain_of (by kernel_rfl)
  · exact plain_of (by kernel_rfl)
  · exact plain_push _
  · exact plain_of (by kernel_rfl)
  · exact plain_of (by kernel_rfl)
  · exact plain_of (by kernel_rfl)
  · exact plain_of (by kernel_rfl)
  · exact plain_of (by kernel_rfl)
  · exact plain_of (by kernel_rfl)
  · exact plain_of (by kernel_rfl)
  · exact plain_of (by kernel_rfl)
  · exact plain_of (by kernel_rfl)
  · exact plain_of (by kernel_rfl)
  · exact plain_push _
  · exact plain_of (by kernel_rfl)
  · exact plain_of (by kernel_rfl)
  · exact plain_of (by kernel_rfl)
  · exact plain_of (by kernel_rfl)
  · exact plain_of (by kernel_rfl)
  · exact plain_of (by kernel_rfl)
  · exact plain_of (by kernel_rfl)
  · exact plain_of (by kernel_rfl)
  · exact plain_push _
  · exact plain_of (by kernel_rfl)
  · exact plain_of (by kernel_rfl)
  · exact plain_of (by kernel_rfl)
  · exact plain_of (by kernel_rfl)
  · exact plain_of (by kernel_rfl)
  · exact plain_of (by kernel_rfl)
  · exact plain_of (by kernel_rfl)
  · exact plain_push _
  · exact plain_of (by kernel_rfl)
  · exact plain_of (by kernel_rfl)
  · exact plain_of (by kernel_rfl)
  · exact plain_push _
  · exact plain_of (by kernel_rfl)
  · exact plain_push _
  · exact plain_of (by kernel_rfl)
  · exact plain_of (by kernel_rfl)
  · exact plain_of (by kernel_rfl)
  · exact plain_of (by kernel_rfl)
  · exact plain_of (by kernel_rfl)
  · exact plain_of (by kernel_rfl)
  · exact plain_of (by kernel_rfl)
  · exact plain_of (by kernel_rfl)
  · exact plain_of (by kernel_rfl)
  · exact plain_of (by kernel_rfl)
  · exact plain_of (by kernel_rfl)
  · exact plain_of (by kernel_rfl)
  · exact plain_of (by kernel_rfl)
  · exact plain_push _
  · exact plain_push _
  · exact plain_of (by kernel_rfl)
  · exact plain_of (by kernel_rfl)
  · exact plain_of (by kernel_rfl)
  · exact plain_of (by kernel_rfl)
  · exact plain_of (by kernel_rfl)
  · exact plain_of (by kernel_rfl)
  · exact plain_of (by kernel_rfl)
  · exact plain_of (by kernel_rfl)
  · exact plain_of (by kernel_rfl)
  · exact plain_of (by kernel_rfl)
  · exact plain_of (by kernel_rfl)
  · exact plain_of (by kernel_rfl)
  · exact plain_of (by kernel_rfl)
  · exact plain_of (by kernel_rfl)
set_option maxRecDepth 100000 in
theorem put_parse {base x : Int} (h0 : 0 ≤ base) (h1 : base ≤ 256) (h2 : -9223372036854775808 ≤ x) (h3 : x ≤ 9223372036854775807) : parseM (bs (txt (putLs base x))) = .ok (putC base x) :=
  parse_txt (p := (runL 0 (putWs base x) ⟨[], []⟩).getD ⟨[], []⟩) (put_no base x) (Nat.le_trans (put_len h0 h1 h2 h3) (by decide)) (put_ws h0 h1 h2 h3) (by kernel_rfl) (by kernel_rfl) (by simp [putC])
def drpT : List UInt8 := [10, 9, 112, 117, 115, 104, 32, 72, 69, 65, 68, 10, 9, 115, 101, 116, 32, 48, 10, 102, 105, 110, 100, 58, 10, 9, 103, 101, 116, 32, 48, 10, 9, 108, 111, 97, 100, 10, 9, 100, 117, 112, 10, 9, 115, 101, 116, 32, 49, 10, 9, 122, 101, 114, 111, 32, 102, 111, 117, 110, 100, 45, 101, 110, 100, 10, 9, 103, 101, 116, 32, 49, 10, 9, 112, 117, 115, 104, 32, 50, 10, 9, 109, 117, 108, 10, 9, 112, 117, 115, 104, 32, 78, 79, 68, 69, 48, 10, 9, 97, 100, 100, 10, 9, 100, 117, 112, 10, 9, 115, 101, 116, 32, 50, 10, 9, 108, 111, 97, 100, 10, 9, 112, 117, 115, 104, 32, 88, 10, 9, 108, 101, 115, 115, 10, 9, 122, 101, 114, 111, 32, 102, 111, 117, 110, 100, 45, 110, 111, 100, 101, 10, 9, 103, 101, 116, 32, 50, 10, 9, 112, 117, 115, 104, 32, 49, 10, 9, 97, 100, 100, 10, 9, 115, 101, 116, 32, 48, 10, 9, 106, 117, 109, 112, 32, 102, 105, 110, 100, 10, 102, 111, 117, 110, 100, 45, 110, 111, 100, 101, 58, 10, 9, 103, 101, 116, 32, 50, 10, 9, 108, 111, 97, 100, 10, 9, 112, 117, 115, 104, 32, 88, 10, 9, 115, 97, 109, 101, 10, 9, 106, 117, 109, 112, 32, 102, 111, 117, 110, 100, 10, 102, 111, 117, 110, 100, 45, 101, 110, 100, 58, 10, 9, 112, 117, 115, 104, 32, 48, 10, 102, 111, 117, 110, 100, 58, 10, 10, 9, 100, 117, 112, 10, 9, 116, 101, 108, 108, 10, 9, 122, 101, 114, 111, 32, 111, 117, 116, 10, 9, 103, 101, 116, 32, 48, 10, 9, 103, 101, 116, 32, 50, 10, 9, 112, 117, 115, 104, 32, 49, 10, 9, 97, 100, 100, 10, 9, 108, 111, 97, 100, 10, 9, 115, 116, 111, 114, 101, 10, 9, 103, 101, 116, 32, 50, 10, 9, 112, 117, 115, 104, 32, 49, 10, 9, 97, 100, 100, 10, 9, 112, 117, 115, 104, 32, 70, 82, 69, 69, 10, 9, 108, 111, 97, 100, 10, 9, 115, 116, 111, 114, 101, 10, 9, 112, 117, 115, 104, 32, 70, 82, 69, 69, 10, 9, 103, 101, 116, 32, 49, 10, 9, 115, 116, 111, 114, 101, 10, 9, 112, 117, 115, 104, 32, 83, 73, 90, 69, 10, 9, 112, 117, 115, 104, 32, 83, 73, 90, 69, 10, 9, 108, 111, 97, 100, 10, 9, 112, 117, 115, 104, 32, 49, 10, 9, 115, 117, 98, 10, 9, 115, 116, 111, 114, 101, 10, 111, 117, 116, 58, 10]
def drpC (base x : Int) : List Ins := [⟨16, 0⟩, ⟨1, base⟩, ⟨6, 0⟩, ⟨5, 0⟩, ⟨17, 0⟩, ⟨3, 0⟩, ⟨6, 1⟩, ⟨15, 29⟩, ⟨5, 1⟩, ⟨1, 2⟩, ⟨9, 0⟩, ⟨1, base + 1⟩, ⟨7, 0⟩, ⟨3, 0⟩, ⟨6, 2⟩, ⟨17, 0⟩, ⟨1, x⟩, ⟨11, 0⟩, ⟨15, 24⟩, ⟨5, 2⟩, ⟨1, 1⟩, ⟨7, 0⟩, ⟨6, 0⟩, ⟨14, 3⟩, ⟨5, 2⟩, ⟨17, 0⟩, ⟨1, x⟩, ⟨12, 0⟩, ⟨14, 30⟩, ⟨1, 0⟩, ⟨3, 0⟩, ⟨21, 0⟩, ⟨15, 54⟩, ⟨5, 0⟩, ⟨5, 2⟩, ⟨1, 1⟩, ⟨7, 0⟩, ⟨17, 0⟩, ⟨18, 0⟩, ⟨5, 2⟩, ⟨1, 1⟩, ⟨7, 0⟩, ⟨1, base + 1⟩, ⟨17, 0⟩, ⟨18, 0⟩, ⟨1, base + 1⟩, ⟨5, 1⟩, ⟨18, 0⟩, ⟨1, base + 2⟩, ⟨1, base + 2⟩, ⟨17, 0⟩, ⟨1, 1⟩, ⟨8, 0⟩, ⟨18, 0⟩, ⟨19, 0⟩]
def drpP : List (Nat × List UInt8) := [(0, [10, 9, 115, 101, 116, 32, 48, 10, 102, 105, 110, 100, 58, 10, 9, 103, 101, 116, 32, 48, 10, 9, 108, 111, 97, 100, 10, 9, 100, 117, 112, 10, 9, 115, 101, 116, 32, 49, 10, 9, 122, 101, 114, 111, 32, 102, 111, 117, 110, 100, 45, 101, 110, 100, 10, 9, 103, 101, 116, 32, 49, 10, 9, 112, 117, 115, 104, 32, 50, 10, 9, 109, 117, 108, 10, 9, 112, 117, 115, 104, 32]), (3, [10, 9, 97, 100, 100, 10, 9, 100, 117, 112, 10, 9, 115, 101, 116, 32, 50, 10, 9, 108, 111, 97, 100, 10, 9, 112, 117, 115, 104, 32]), (4, [10, 9, 108, 101, 115, 115, 10, 9, 122, 101, 114, 111, 32, 102, 111, 117, 110, 100, 45, 110, 111, 100, 101, 10, 9, 103, 101, 116, 32, 50, 10, 9, 112, 117, 115, 104, 32, 49, 10, 9, 97, 100, 100, 10, 9, 115, 101, 116, 32, 48, 10, 9, 106, 117, 109, 112, 32, 102, 105, 110, 100, 10, 102, 111, 117, 110, 100, 45, 110, 111, 100, 101, 58, 10, 9, 103, 101, 116, 32, 50, 10, 9, 108, 111, 97, 100, 10, 9, 112, 117, 115, 104, 32]), (4, [10, 9, 115, 97, 109, 101, 10, 9, 106, 117, 109, 112, 32, 102, 111, 117, 110, 100, 10, 102, 111, 117, 110, 100, 45, 101, 110, 100, 58, 10, 9, 112, 117, 115, 104, 32, 48, 10, 102, 111, 117, 110, 100, 58, 10, 10, 9, 100, 117, 112, 10, 9, 116, 101, 108, 108, 10, 9, 122, 101, 114, 111, 32, 111, 117, 116, 10, 9, 103, 101, 116, 32, 48, 10, 9, 103, 101, 116, 32, 50, 10, 9, 112, 117, 115, 104, 32, 49, 10, 9, 97, 100, 100, 10, 9, 108, 111, 97, 100, 10, 9, 115, 116, 111, 114, 101, 10, 9, 103, 101, 116, 32, 50, 10, 9, 112, 117, 115, 104, 32, 49, 10, 9, 97, 100, 100, 10, 9, 112, 117, 115, 104, 32]), (1, [10, 9, 108, 111, 97, 100, 10, 9, 115, 116, 111, 114, 101, 10, 9, 112, 117, 115, 104, 32]), (1, [10, 9, 103, 101, 116, 32, 49, 10, 9, 115, 116, 111, 114, 101, 10, 9, 112, 117, 115, 104, 32]), (2, [10, 9, 112, 117, 115, 104, 32]), (2, [10, 9, 108, 111, 97, 100, 10, 9, 112, 117, 115, 104, 32, 49, 10, 9, 115, 117, 98, 10, 9, 115, 116, 111, 114, 101, 10, 111, 117, 116, 58, 10])]
theorem drpT_pieces : drpT = [10, 9, 112, 117, 115, 104, 32] ++ rend wd drpP := by kernel_rfl
theorem drp_filled (base x : Int) : fillS drpT base x 5 = [10, 9, 112, 117, 115, 104, 32] ++ rend (fun k => Lib.itoa (nv base x k)) drpP := by
  rw [drpT_pieces]
  exact (fill_rend base x drpP [10, 9, 112, 117, 115, 104, 32] (by decide) (by decide) (by decide)).2
theorem drp_steps (base x : Int) : ∀ j, j ≤ 5 → fillS drpT base x j = [10, 9, 112, 117, 115, 104, 32] ++ rend (wf base x j) drpP := by
  rw [drpT_pieces]
  exact (fill_rend base x drpP [10, 9, 112, 117, 115, 104, 32] (by decide) (by decide) (by decide)).1
set_option maxRecDepth 100000 in
theorem drp_short {base x : Int} (h0 : 0 ≤ base) (h1 : base ≤ 256) (h2 : -9223372036854775808 ≤ x) (h3 : x ≤ 9223372036854775807) (j : Nat) (hj : j ≤ 5) : (fillS drpT base x j).length ≤ 100000 := by
  rw [drp_steps base x j hj, List.length_append]
  have := rend_len h0 h1 h2 h3 j drpP
  exact Nat.le_trans (Nat.add_le_add_left this _) (by decide)
def drpLs (base x : Int) : List (List UInt8) := [[98, 101, 103, 105, 110], [], pushL (base), [9, 115, 101, 116, 32, 48], [102, 105, 110, 100, 58], [9, 103, 101, 116, 32, 48], [9, 108, 111, 97, 100], [9, 100, 117, 112], [9, 115, 101, 116, 32, 49], [9, 122, 101, 114, 111, 32, 102, 111, 117, 110, 100, 45, 101, 110, 100], [9, 103, 101, 116, 32, 49], [9, 112, 117, 115, 104, 32, 50], [9, 109, 117, 108], pushL (base + 1), [9, 97, 100, 100], [9, 100, 117, 112], [9, 115, 101, 116, 32, 50], [9, 108, 111, 97, 100], pushL (x), [9, 108, 101, 115, 115], [9, 122, 101, 114, 111, 32, 102, 111, 117, 110, 100, 45, 110, 111, 100, 101], [9, 103, 101, 116, 32, 50], [9, 112, 117, 115, 104, 32, 49], [9, 97, 100, 100], [9, 115, 101, 116, 32, 48], [9, 106, 117, 109, 112, 32, 102, 105, 110, 100], [102, 111, 117, 110, 100, 45, 110, 111, 100, 101, 58], [9, 103, 101, 116, 32, 50], [9, 108, 111, 97, 100], pushL (x), [9, 115, 97, 109, 101], [9, 106, 117, 109, 112, 32, 102, 111, 117, 110, 100], [102, 111, 117, 110, 100, 45, 101, 110, 100, 58], [9, 112, 117, 115, 104, 32, 48], [102, 111, 117, 110, 100, 58], [], [9, 100, 117, 112], [9, 116, 101, 108, 108], [9, 122, 101, 114, 111, 32, 111, 117, 116], [9, 103, 101, 116, 32, 48], [9, 103, 101, 116, 32, 50], [9, 112, 117, 115, 104, 32, 49], [9, 97, 100, 100], [9, 108, 111, 97, 100], [9, 115, 116, 111, 114, 101], [9, 103, 101, 116, 32, 50], [9, 112, 117, 115, 104, 32, 49], [9, 97, 100, 100], pushL (base + 1), [9, 108, 111, 97, 100], [9, 115, 116, 111, 114, 101], pushL (base + 1), [9, 103, 101, 116, 32, 49], [9, 115, 116, 111, 114, 101], pushL (base + 2), pushL (base + 2), [9, 108, 111, 97, 100], [9, 112, 117, 115, 104, 32, 49], [9, 115, 117, 98], [9, 115, 116, 111, 114, 101], [111, 117, 116, 58], [99, 111, 109, 109, 105, 116]]
def drpWs (base x : Int) : List Lw := [.ins ⟨16, 0⟩ [], .no, .ins ⟨1, base⟩ [], .ins ⟨6, 0⟩ [], .lab [102, 105, 110, 100], .ins ⟨5, 0⟩ [], .ins ⟨17, 0⟩ [], .ins ⟨3, 0⟩ [], .ins ⟨6, 1⟩ [], .ins ⟨15, 0⟩ [102, 111, 117, 110, 100, 45, 101, 110, 100], .ins ⟨5, 1⟩ [], .ins ⟨1, 2⟩ [], .ins ⟨9, 0⟩ [], .ins ⟨1, base + 1⟩ [], .ins ⟨7, 0⟩ [], .ins ⟨3, 0⟩ [], .ins ⟨6, 2⟩ [], .ins ⟨17, 0⟩ [], .ins ⟨1, x⟩ [], .ins ⟨11, 0⟩ [], .ins ⟨15, 0⟩ [102, 111, 117, 110, 100, 45, 110, 111, 100, 101], .ins ⟨5, 2⟩ [], .ins ⟨1, 1⟩ [], .ins ⟨7, 0⟩ [], .ins ⟨6, 0⟩ [], .ins ⟨14, 0⟩ [102, 105, 110, 100], .lab [102, 111, 117, 110, 100, 45, 110, 111, 100, 101], .ins ⟨5, 2⟩ [], .ins ⟨17, 0⟩ [], .ins ⟨1, x⟩ [], .ins ⟨12, 0⟩ [], .ins ⟨14, 0⟩ [102, 111, 117, 110, 100], .lab [102, 111, 117, 110, 100, 45, 101, 110, 100], .ins ⟨1, 0⟩ [], .lab [102, 111, 117, 110, 100], .no, .ins ⟨3, 0⟩ [], .ins ⟨21, 0⟩ [], .ins ⟨15, 0⟩ [111, 117, 116], .ins ⟨5, 0⟩ [], .ins ⟨5, 2⟩ [], .ins ⟨1, 1⟩ [], .ins ⟨7, 0⟩ [], .ins ⟨17, 0⟩ [], .ins ⟨18, 0⟩ [], .ins ⟨5, 2⟩ [], .ins ⟨1, 1⟩ [], .ins ⟨7, 0⟩ [], .ins ⟨1, base + 1⟩ [], .ins ⟨17, 0⟩ [], .ins ⟨18, 0⟩ [], .ins ⟨1, base + 1⟩ [], .ins ⟨5, 1⟩ [], .ins ⟨18, 0⟩ [], .ins ⟨1, base + 2⟩ [], .ins ⟨1, base + 2⟩ [], .ins ⟨17, 0⟩ [], .ins ⟨1, 1⟩ [], .ins ⟨8, 0⟩ [], .ins ⟨18, 0⟩ [], .lab [111, 117, 116], .ins ⟨19, 0⟩ []]
set_option maxRecDepth 100000 in
theorem drp_ws {base x : Int} (h0 : 0 ≤ base) (h1 : base ≤ 256) (h2 : -9223372036854775808 ≤ x) (h3 : x ≤ 9223372036854775807) : Lws (drpLs base x) (drpWs base x) :=
  ⟨⟨by decide, by kernel_rfl, fun i => by kernel_rfl⟩,
   (show saidM [] = [] by kernel_rfl),
   push_line _ (by omega) (by omega),
   ⟨by decide, by kernel_rfl, fun i => by kernel_rfl⟩,
   ⟨by decide, by kernel_rfl, by kernel_rfl, by kernel_rfl⟩,
   ⟨by decide, by kernel_rfl, fun i => by kernel_rfl⟩,
   ⟨by decide, by kernel_rfl, fun i => by kernel_rfl⟩,
   ⟨by decide, by kernel_rfl, fun i => by kernel_rfl⟩,
   ⟨by decide, by kernel_rfl, fun i => by kernel_rfl⟩,
   ⟨by decide, by kernel_rfl, fun i => by kernel_rfl⟩,
   ⟨by decide, by kernel_rfl, fun i => by kernel_rfl⟩,
   ⟨by decide, by kernel_rfl, fun i => by kernel_rfl⟩,
   ⟨by decide, by kernel_rfl, fun i => by kernel_rfl⟩,
   push_line _ (by omega) (by omega),
   ⟨by decide, by kernel_rfl, fun i => by kernel_rfl⟩,
   ⟨by decide, by kernel_rfl, fun i => by kernel_rfl⟩,
   ⟨by decide, by kernel_rfl, fun i => by kernel_rfl⟩,
   ⟨by decide, by kernel_rfl, fun i => by kernel_rfl⟩,
   push_line _ (by omega) (by omega),
   ⟨by decide, by kernel_rfl, fun i => by kernel_rfl⟩,
   ⟨by decide, by kernel_rfl, fun i => by kernel_rfl⟩,
   ⟨by decide, by kernel_rfl, fun i => by kernel_rfl⟩,
   ⟨by decide, by kernel_rfl, fun i => by kernel_rfl⟩,
   ⟨by decide, by kernel_rfl, fun i => by kernel_rfl⟩,
   ⟨by decide, by kernel_rfl, fun i => by kernel_rfl⟩,
   ⟨by decide, by kernel_rfl, fun i => by kernel_rfl⟩,
   ⟨by decide, by kernel_rfl, by kernel_rfl, by kernel_rfl⟩,
   ⟨by decide, by kernel_rfl, fun i => by kernel_rfl⟩,
   ⟨by decide, by kernel_rfl, fun i => by kernel_rfl⟩,
   push_line _ (by omega) (by omega),
   ⟨by decide, by kernel_rfl, fun i => by kernel_rfl⟩,
   ⟨by decide, by kernel_rfl, fun i => by kernel_rfl⟩,
   ⟨by decide, by kernel_rfl, by kernel_rfl, by kernel_rfl⟩,
   ⟨by decide, by kernel_rfl, fun i => by kernel_rfl⟩,
   ⟨by decide, by kernel_rfl, by kernel_rfl, by kernel_rfl⟩,
   (show saidM [] = [] by kernel_rfl),
   ⟨by decide, by kernel_rfl, fun i => by kernel_rfl⟩,
   ⟨by decide, by kernel_rfl, fun i => by kernel_rfl⟩,
   ⟨by decide, by kernel_rfl, fun i => by kernel_rfl⟩,
   ⟨by decide, by kernel_rfl, fun i => by kernel_rfl⟩,
   ⟨by decide, by kernel_rfl, fun i => by kernel_rfl⟩,
   ⟨by decide, by kernel_rfl, fun i => by kernel_rfl⟩,
   ⟨by decide, by kernel_rfl, fun i => by kernel_rfl⟩,
   ⟨by decide, by kernel_rfl, fun i => by kernel_rfl⟩,
   ⟨by decide, by kernel_rfl, fun i => by kernel_rfl⟩,
   ⟨by decide, by kernel_rfl, fun i => by kernel_rfl⟩,
   ⟨by decide, by kernel_rfl, fun i => by kernel_rfl⟩,
   ⟨by decide, by kernel_rfl, fun i => by kernel_rfl⟩,
   push_line _ (by omega) (by omega),
   ⟨by decide, by kernel_rfl, fun i => by kernel_rfl⟩,
   ⟨by decide, by kernel_rfl, fun i => by kernel_rfl⟩,
   push_line _ (by omega) (by omega),
   ⟨by decide, by kernel_rfl, fun i => by kernel_rfl⟩,
   ⟨by decide, by kernel_rfl, fun i => by kernel_rfl⟩,
   push_line _ (by omega) (by omega),
   push_line _ (by omega) (by omega),
   ⟨by decide, by kernel_rfl, fun i => by kernel_rfl⟩,
   ⟨by decide, by kernel_rfl, fun i => by kernel_rfl⟩,
   ⟨by decide, by kernel_rfl, fun i => by kernel_rfl⟩,
   ⟨by decide, by kernel_rfl, fun i => by kernel_rfl⟩,
   ⟨by decide, by kernel_rfl, by kernel_rfl, by kernel_rfl⟩,
   ⟨by decide, by kernel_rfl, fun i => by kernel_rfl⟩, trivial⟩
set_option maxRecDepth 100000 in
theorem drp_no (base x : Int) : ∀ l ∈ drpLs base x, (10 : UInt8) ∉ l := by
  intro l hl
  simp only [drpLs, List.mem_cons, List.not_mem_nil, or_false] at hl
  rcases hl with rfl | rfl | rfl | rfl | rfl | rfl | rfl | rfl | rfl | rfl | rfl | rfl | rfl | rfl | rfl | rfl | rfl | rfl | rfl | rfl | rfl | rfl | rfl | rfl | rfl | rfl | rfl | rfl | rfl | rfl | rfl | rfl | rfl | rfl | rfl | rfl | rfl | rfl | rfl | rfl | rfl | rfl | rfl | rfl | rfl | rfl | rfl | rfl | rfl | rfl | rfl | rfl | rfl | rfl | rfl | rfl | rfl | rfl | rfl | rfl | rfl | rfl
  · decide
  · decide
  · exact push_no _
  · decide
  · decide
  · decide
  · decide
  · decide
  · decide
  · decide
  · decide
  · decide
  · decide
  · exact push_no _
  · decide
  · decide
  · decide
  · decide
  · exact push_no _
  · decide
  · decide
  · decide
  · decide
  · decide
  · decide
  · decide
  · decide
  · decide
  · decide
  · exact push_no _
  · decide
  · decide
  · decide
  · decide
  · decide
  · decide
  · decide
  · decide
  · decide
  · decide
  · decide
  · decide
  · decide
  · decide
  · decide
  · decide
  · decide
  · decide
  · exact push_no _
  · decide
  · decide
  · exact push_no _
  · decide
  · decide
  · exact push_no _
  · exact push_no _
  · decide
  · decide
  · decide
  · decide
  · decide
  · decide
set_option maxRecDepth 100000 in
set_option maxHeartbeats 2000000 in
theorem drp_txt (base x : Int) : [98, 101, 103, 105, 110, 10] ++ fillS drpT base x 5 ++ [99, 111, 109, 109, 105, 116, 10] = txt (drpLs base x) := by
  rw [drp_filled]
  simp [txt, drpLs, pushL, rend, drpP, nv]
set_option maxRecDepth 100000 in
theorem drp_len {base x : Int} (h0 : 0 ≤ base) (h1 : base ≤ 256) (h2 : -9223372036854775808 ≤ x) (h3 : x ≤ 9223372036854775807) : (txt (drpLs base x)).length ≤ 3000 := by
  refine Nat.le_trans (txt_le 27 _ ?_) (by decide : (27 + 1) * 62 ≤ 3000)
  intro l hl
  simp only [drpLs, List.mem_cons, List.not_mem_nil, or_false] at hl
  rcases hl with rfl | rfl | rfl | rfl | rfl | rfl | rfl | rfl | rfl | rfl | rfl | rfl | rfl | rfl | rfl | rfl | rfl | rfl | rfl | rfl | rfl | rfl | rfl | rfl | rfl | rfl | rfl | rfl | rfl | rfl | rfl | rfl | rfl | rfl | rfl | rfl | rfl | rfl | rfl | rfl | rfl | rfl | rfl | rfl | rfl | rfl | rfl | rfl | rfl | rfl | rfl | rfl | rfl | rfl | rfl | rfl | rfl | rfl | rfl | rfl | rfl | rfl
  · decide
  · decide
  · exact push_len _ (by omega) (by omega)
  · decide
  · decide
  · decide
  · decide
  · decide
  · decide
  · decide
  · decide
  · decide
  · decide
  · exact push_len _ (by omega) (by omega)
  · decide
  · decide
  · decide
  · decide
  · exact push_len _ (by omega) (by omega)
  · decide
  · decide
  · decide
  · decide
  · decide
  · decide
  · decide
  · decide
  · decide
  · decide
  · exact push_len _ (by omega) (by omega)
  · decide
  · decide
  · decide
  · decide
  · decide
  · decide
  · decide
  · decide
  · decide
  · decide
  · decide
  · decide
  · decide
  · decide
  · decide
  · decide
  · decide
  · decide
  · exact push_len _ (by omega) (by omega)
  · decide
  · decide
  · exact push_len _ (by omega) (by omega)
  · decide
  · decide
  · exact push_len _ (by omega) (by omega)
  · exact push_len _ (by omega) (by omega)
  · decide
  · decide
  · decide
  · decide
  · decide
  · decide
set_option maxRecDepth 100000 in
theorem drp_plain (base x : Int) : ∀ l ∈ drpLs base x, Plain8 (saidM l) := by
  intro l hl
  simp only [drpLs, List.mem_cons, List.not_mem_nil, or_false] at hl
  rcases hl with rfl | rfl | rfl | rfl | rfl | rfl | rfl | rfl | rfl | rfl | rfl | rfl | rfl | rfl | rfl | rfl | rfl | rfl | rfl | rfl | rfl | rfl | rfl | rfl | rfl | rfl | rfl | rfl | rfl | rfl | rfl | rfl | rfl | rfl | rfl | rfl | rfl | rfl | rfl | rfl | rfl | rfl | rfl | rfl | rfl | rfl | rfl | rfl | rfl | rfl | rfl | rfl | rfl | rfl | rfl | rfl | rfl | rfl | rfl | rfl | rfl | rfl
  · exact plain_of (by kernel_rfl)
  · exact plain_of (by kernel_rfl)
  · exact plain_push _
  · exact plain_of (by kernel_rfl)
  · exact plain_of (by kernel_rfl)
  · exact plain_of (by kernel_rfl)
  · exact plain_of (by kernel_rfl)
  · exact plain_of (by kernel_rfl)
  · exact plain_of (by kernel_rfl)
  · exact plain_of (by kernel_rfl)
  · exact plain_of (by kernel_rfl)
  · exact plain_of (by kernel_rfl)
  · exact plain_of (by kernel_rfl)
  · exact plain_push _
  · exact plain_of (by kernel_rfl)
  · exact plain_of (by kernel_rfl)
  · exact plain_of (by kernel_rfl)
  · exact plain_of (by kernel_rfl)
  · exact plain_push _
  · exact plain_of (by kernel_rfl)
  · exact plain_of (by kernel_rfl)
  · exact plain_of (by kernel_rfl)
  · exact plain_of (by kernel_rfl)
  · exact plain_of (by kernel_rfl)
  · exact plain_of (by kernel_rfl)
  · exact plain_of (by kernel_rfl)
  · exact plain_of (by kernel_rfl)
  · exact plain_of (by kernel_rfl)
  · exact plain_of (by kernel_rfl)
  · exact plain_push _
  · exact plain_of (by kernel_rfl)
  · exact plain_of (by kernel_rfl)
  · exact plain_of (by kernel_rfl)
  · exact plain_of (by kernel_rfl)
  · exact plain_of (by kernel_rfl)
  · exact plain_of (by kernel_rfl)
  · exact plain_of (by kernel_rfl)
  · exact plain_of (by kernel_rfl)
  · exact plain_of (by kernel_rfl)
  · exact plain_of (by kernel_rfl)
  · exact plain_of (by kernel_rfl)
  · exact plain_of (by kernel_rfl)
  · exact plain_of (by kernel_rfl)
  · exact plain_of (by kernel_rfl)
  · exact plain_of (by kernel_rfl)
  · exact plain_of (by kernel_rfl)
  · exact plain_of (by kernel_rfl)
  · exact plain_of (by kernel_rfl)
  · exact plain_push _
  · exact plain_of (by kernel_rfl)
  · exact plain_of (by kernel_rfl)
  · exact plain_push _
  · exact plain_of (by kernel_rfl)
  · exact plain_of (by kernel_rfl)
  · exact plain_push _
  · exact plain_push _
  · exact plain_of (by kernel_rfl)
  · exact plain_of (by kernel_rfl)
  · exact plain_of (by kernel_rfl)
  · exact plain_of (by kernel_rfl)
  · exact plain_of (by kernel_rfl)
  · exact plain_of (by kernel_rfl)
set_option maxRecDepth 100000 in
theorem drp_parse {base x : Int} (h0 : 0 ≤ base) (h1 : base ≤ 256) (h2 : -9223372036854775808 ≤ x) (h3 : x ≤ 9223372036854775807) : parseM (bs (txt (drpLs base x))) = .ok (drpC base x) :=
  parse_txt (p := (runL 0 (drpWs base x) ⟨[], []⟩).getD ⟨[], []⟩) (drp_no base x) (Nat.le_trans (drp_len h0 h1 h2 h3) (by decide)) (drp_ws h0 h1 h2 h3) (by kernel_rfl) (by kernel_rfl) (by simp [drpC])
def hasT : List UInt8 := [10, 9, 112, 117, 115, 104, 32, 72, 69, 65, 68, 10, 9, 115, 101, 116, 32, 48, 10, 102, 105, 110, 100, 58, 10, 9, 103, 101, 116, 32, 48, 10, 9, 108, 111, 97, 100, 10, 9, 100, 117, 112, 10, 9, 115, 101, 116, 32, 49, 10, 9, 122, 101, 114, 111, 32, 102, 111, 117, 110, 100, 45, 101, 110, 100, 10, 9, 103, 101, 116, 32, 49, 10, 9, 112, 117, 115, 104, 32, 50, 10, 9, 109, 117, 108, 10, 9, 112, 117, 115, 104, 32, 78, 79, 68, 69, 48, 10, 9, 97, 100, 100, 10, 9, 100, 117, 112, 10, 9, 115, 101, 116, 32, 50, 10, 9, 108, 111, 97, 100, 10, 9, 112, 117, 115, 104, 32, 88, 10, 9, 108, 101, 115, 115, 10, 9, 122, 101, 114, 111, 32, 102, 111, 117, 110, 100, 45, 110, 111, 100, 101, 10, 9, 103, 101, 116, 32, 50, 10, 9, 112, 117, 115, 104, 32, 49, 10, 9, 97, 100, 100, 10, 9, 115, 101, 116, 32, 48, 10, 9, 106, 117, 109, 112, 32, 102, 105, 110, 100, 10, 102, 111, 117, 110, 100, 45, 110, 111, 100, 101, 58, 10, 9, 103, 101, 116, 32, 50, 10, 9, 108, 111, 97, 100, 10, 9, 112, 117, 115, 104, 32, 88, 10, 9, 115, 97, 109, 101, 10, 9, 106, 117, 109, 112, 32, 102, 111, 117, 110, 100, 10, 102, 111, 117, 110, 100, 45, 101, 110, 100, 58, 10, 9, 112, 117, 115, 104, 32, 48, 10, 102, 111, 117, 110, 100, 58, 10, 10, 9, 116, 101, 108, 108, 10]
def hasC (base x : Int) : List Ins := [⟨16, 0⟩, ⟨1, base⟩, ⟨6, 0⟩, ⟨5, 0⟩, ⟨17, 0⟩, ⟨3, 0⟩, ⟨6, 1⟩, ⟨15, 29⟩, ⟨5, 1⟩, ⟨1, 2⟩, ⟨9, 0⟩, ⟨1, base + 1⟩, ⟨7, 0⟩, ⟨3, 0⟩, ⟨6, 2⟩, ⟨17, 0⟩, ⟨1, x⟩, ⟨11, 0⟩, ⟨15, 24⟩, ⟨5, 2⟩, ⟨1, 1⟩, ⟨7, 0⟩, ⟨6, 0⟩, ⟨14, 3⟩, ⟨5, 2⟩, ⟨17, 0⟩, ⟨1, x⟩, ⟨12, 0⟩, ⟨14, 30⟩, ⟨1, 0⟩, ⟨21, 0⟩, ⟨19, 0⟩]
def hasP : List (Nat × List UInt8) := [(0, [10, 9, 115, 101, 116, 32, 48, 10, 102, 105, 110, 100, 58, 10, 9, 103, 101, 116, 32, 48, 10, 9, 108, 111, 97, 100, 10, 9, 100, 117, 112, 10, 9, 115, 101, 116, 32, 49, 10, 9, 122, 101, 114, 111, 32, 102, 111, 117, 110, 100, 45, 101, 110, 100, 10, 9, 103, 101, 116, 32, 49, 10, 9, 112, 117, 115, 104, 32, 50, 10, 9, 109, 117, 108, 10, 9, 112, 117, 115, 104, 32]), (3, [10, 9, 97, 100, 100, 10, 9, 100, 117, 112, 10, 9, 115, 101, 116, 32, 50, 10, 9, 108, 111, 97, 100, 10, 9, 112, 117, 115, 104, 32]), (4, [10, 9, 108, 101, 115, 115, 10, 9, 122, 101, 114, 111, 32, 102, 111, 117, 110, 100, 45, 110, 111, 100, 101, 10, 9, 103, 101, 116, 32, 50, 10, 9, 112, 117, 115, 104, 32, 49, 10, 9, 97, 100, 100, 10, 9, 115, 101, 116, 32, 48, 10, 9, 106, 117, 109, 112, 32, 102, 105, 110, 100, 10, 102, 111, 117, 110, 100, 45, 110, 111, 100, 101, 58, 10, 9, 103, 101, 116, 32, 50, 10, 9, 108, 111, 97, 100, 10, 9, 112, 117, 115, 104, 32]), (4, [10, 9, 115, 97, 109, 101, 10, 9, 106, 117, 109, 112, 32, 102, 111, 117, 110, 100, 10, 102, 111, 117, 110, 100, 45, 101, 110, 100, 58, 10, 9, 112, 117, 115, 104, 32, 48, 10, 102, 111, 117, 110, 100, 58, 10, 10, 9, 116, 101, 108, 108, 10])]
theorem hasT_pieces : hasT = [10, 9, 112, 117, 115, 104, 32] ++ rend wd hasP := by kernel_rfl
theorem has_filled (base x : Int) : fillS hasT base x 5 = [10, 9, 112, 117, 115, 104, 32] ++ rend (fun k => Lib.itoa (nv base x k)) hasP := by
  rw [hasT_pieces]
  exact (fill_rend base x hasP [10, 9, 112, 117, 115, 104, 32] (by decide) (by decide) (by decide)).2
theorem has_steps (base x : Int) : ∀ j, j ≤ 5 → fillS hasT base x j = [10, 9, 112, 117, 115, 104, 32] ++ rend (wf base x j) hasP := by
  rw [hasT_pieces]
  exact (fill_rend base x hasP [10, 9, 112, 117, 115, 104, 32] (by decide) (by decide) (by decide)).1
set_option maxRecDepth 100000 in
theorem has_short {base x : Int} (h0 : 0 ≤ base) (h1 : base ≤ 256) (h2 : -9223372036854775808 ≤ x) (h3 : x ≤ 9223372036854775807) (j : Nat) (hj : j ≤ 5) : (fillS hasT base x j).length ≤ 100000 := by
  rw [has_steps base x j hj, List.length_append]
  have := rend_len h0 h1 h2 h3 j hasP
  exact Nat.le_trans (Nat.add_le_add_left this _) (by decide)
def hasLs (base x : Int) : List (List UInt8) := [[98, 101, 103, 105, 110], [], pushL (base), [9, 115, 101, 116, 32, 48], [102, 105, 110, 100, 58], [9, 103, 101, 116, 32, 48], [9, 108, 111, 97, 100], [9, 100, 117, 112], [9, 115, 101, 116, 32, 49], [9, 122, 101, 114, 111, 32, 102, 111, 117, 110, 100, 45, 101, 110, 100], [9, 103, 101, 116, 32, 49], [9, 112, 117, 115, 104, 32, 50], [9, 109, 117, 108], pushL (base + 1), [9, 97, 100, 100], [9, 100, 117, 112], [9, 115, 101, 116, 32, 50], [9, 108, 111, 97, 100], pushL (x), [9, 108, 101, 115, 115], [9, 122, 101, 114, 111, 32, 102, 111, 117, 110, 100, 45, 110, 111, 100, 101], [9, 103, 101, 116, 32, 50], [9, 112, 117, 115, 104, 32, 49], [9, 97, 100, 100], [9, 115, 101, 116, 32, 48], [9, 106, 117, 109, 112, 32, 102, 105, 110, 100], [102, 111, 117, 110, 100, 45, 110, 111, 100, 101, 58], [9, 103, 101, 116, 32, 50], [9, 108, 111, 97, 100], pushL (x), [9, 115, 97, 109, 101], [9, 106, 117, 109, 112, 32, 102, 111, 117, 110, 100], [102, 111, 117, 110, 100, 45, 101, 110, 100, 58], [9, 112, 117, 115, 104, 32, 48], [102, 111, 117, 110, 100, 58], [], [9, 116, 101, 108, 108], [99, 111, 109, 109, 105, 116]]
def hasWs (base x : Int) : List Lw := [.ins ⟨16, 0⟩ [], .no, .ins ⟨1, base⟩ [], .ins ⟨6, 0⟩ [], .lab [102, 105, 110, 100], .ins ⟨5, 0⟩ [], .ins ⟨17, 0⟩ [], .ins ⟨3, 0⟩ [], .ins ⟨6, 1⟩ [], .ins ⟨15, 0⟩ [102, 111, 117, 110, 100, 45, 101, 110, 100], .ins ⟨5, 1⟩ [], .ins ⟨1, 2⟩ [], .ins ⟨9, 0⟩ [], .ins ⟨1, base + 1⟩ [], .ins ⟨7, 0⟩ [], .ins ⟨3, 0⟩ [], .ins ⟨6, 2⟩ [], .ins ⟨17, 0⟩ [], .ins ⟨1, x⟩ [], .ins ⟨11, 0⟩ [], .ins ⟨15, 0⟩ [102, 111, 117, 110, 100, 45, 110, 111, 100, 101], .ins ⟨5, 2⟩ [], .ins ⟨1, 1⟩ [], .ins ⟨7, 0⟩ [], .ins ⟨6, 0⟩ [], .ins ⟨14, 0⟩ [102, 105, 110, 100], .lab [102, 111, 117, 110, 100, 45, 110, 111, 100, 101], .ins ⟨5, 2⟩ [], .ins ⟨17, 0⟩ [], .ins ⟨1, x⟩ [], .ins ⟨12, 0⟩ [], .ins ⟨14, 0⟩ [102, 111, 117, 110, 100], .lab [102, 111, 117, 110, 100, 45, 101, 110, 100], .ins ⟨1, 0⟩ [], .lab [102, 111, 117, 110, 100], .no, .ins ⟨21, 0⟩ [], .ins ⟨19, 0⟩ []]
set_option maxRecDepth 100000 in
theorem has_ws {base x : Int} (h0 : 0 ≤ base) (h1 : base ≤ 256) (h2 : -9223372036854775808 ≤ x) (h3 : x ≤ 9223372036854775807) : Lws (hasLs base x) (hasWs base x) :=
  ⟨⟨by decide, by kernel_rfl, fun i => by kernel_rfl⟩,
   (show saidM [] = [] by kernel_rfl),
   push_line _ (by omega) (by omega),
   ⟨by decide, by kernel_rfl, fun i => by kernel_rfl⟩,
   ⟨by decide, by kernel_rfl, by kernel_rfl, by kernel_rfl⟩,
   ⟨by decide, by kernel_rfl, fun i => by kernel_rfl⟩,
   ⟨by decide, by kernel_rfl, fun i => by kernel_rfl⟩,
   ⟨by decide, by kernel_rfl, fun i => by kernel_rfl⟩,
   ⟨by decide, by kernel_rfl, fun i => by kernel_rfl⟩,
   ⟨by decide, by kernel_rfl, fun i => by kernel_rfl⟩,
   ⟨by decide, by kernel_rfl, fun i => by kernel_rfl⟩,
   ⟨by decide, by kernel_rfl, fun i => by kernel_rfl⟩,
   ⟨by decide, by kernel_rfl, fun i => by kernel_rfl⟩,
   push_line _ (by omega) (by omega),
   ⟨by decide, by kernel_rfl, fun i => by kernel_rfl⟩,
   ⟨by decide, by kernel_rfl, fun i => by kernel_rfl⟩,
   ⟨by decide, by kernel_rfl, fun i => by kernel_rfl⟩,
   ⟨by decide, by kernel_rfl, fun i => by kernel_rfl⟩,
   push_line _ (by omega) (by omega),
   ⟨by decide, by kernel_rfl, fun i => by kernel_rfl⟩,
   ⟨by decide, by kernel_rfl, fun i => by kernel_rfl⟩,
   ⟨by decide, by kernel_rfl, fun i => by kernel_rfl⟩,
   ⟨by decide, by kernel_rfl, fun i => by kernel_rfl⟩,
   ⟨by decide, by kernel_rfl, fun i => by kernel_rfl⟩,
   ⟨by decide, by kernel_rfl, fun i => by kernel_rfl⟩,
   ⟨by decide, by kernel_rfl, fun i => by kernel_rfl⟩,
   ⟨by decide, by kernel_rfl, by kernel_rfl, by kernel_rfl⟩,
   ⟨by decide, by kernel_rfl, fun i => by kernel_rfl⟩,
   ⟨by decide, by kernel_rfl, fun i => by kernel_rfl⟩,
   push_line _ (by omega) (by omega),
   ⟨by decide, by kernel_rfl, fun i => by kernel_rfl⟩,
   ⟨by decide, by kernel_rfl, fun i => by kernel_rfl⟩,
   ⟨by decide, by kernel_rfl, by kernel_rfl, by kernel_rfl⟩,
   ⟨by decide, by kernel_rfl, fun i => by kernel_rfl⟩,
   ⟨by decide, by kernel_rfl, by kernel_rfl, by kernel_rfl⟩,
   (show saidM [] = [] by kernel_rfl),
   ⟨by decide, by kernel_rfl, fun i => by kernel_rfl⟩,
   ⟨by decide, by kernel_rfl, fun i => by kernel_rfl⟩, trivial⟩
set_option maxRecDepth 100000 in
theorem has_no (base x : Int) : ∀ l ∈ hasLs base x, (10 : UInt8) ∉ l := by
  intro l hl
  simp only [hasLs, List.mem_cons, List.not_mem_nil, or_false] at hl
  rcases hl with rfl | rfl | rfl | rfl | rfl | rfl | rfl | rfl | rfl | rfl | rfl | rfl | rfl | rfl | rfl | rfl | rfl | rfl | rfl | rfl | rfl | rfl | rfl | rfl | rfl | rfl | rfl | rfl | rfl | rfl | rfl | rfl | rfl | rfl | rfl | rfl | rfl | rfl
  · decide
  · decide
  · exact push_no _
  · decide
  · decide
  · decide
  · decide
  · decide
  · decide
  · decide
  · decide
  · decide
  · decide
  · exact push_no _
  · decide
  · decide
  · decide
  · decide
  · exact push_no _
  · decide
  · decide
  · decide
  · decide
  · decide
  · decide
  · decide
  · decide
  · decide
  · decide
  · exact push_no _
  · decide
  · decide
  · decide
  · decide
  · decide
  · decide
  · decide
  · decide
set_option maxRecDepth 100000 in
set_option maxHeartbeats 2000000 in
theorem has_txt (base x : Int) : [98, 101, 103, 105, 110, 10] ++ fillS hasT base x 5 ++ [99, 111, 109, 109, 105, 116, 10] = txt (hasLs base x) := by
  rw [has_filled]
  simp [txt, hasLs, pushL, rend, hasP, nv]
set_option maxRecDepth 100000 in
theorem has_len {base x : Int} (h0 : 0 ≤ base) (h1 : base ≤ 256) (h2 : -9223372036854775808 ≤ x) (h3 : x ≤ 9223372036854775807) : (txt (hasLs base x)).length ≤ 3000 := by
  refine Nat.le_trans (txt_le 27 _ ?_) (by decide : (27 + 1) * 38 ≤ 3000)
  intro l hl
  simp only [hasLs, List.mem_cons, List.not_mem_nil, or_false] at hl
  rcases hl with rfl | rfl | rfl | rfl | rfl | rfl | rfl | rfl | rfl | rfl | rfl | rfl | rfl | rfl | rfl | rfl | rfl | rfl | rfl | rfl | rfl | rfl | rfl | rfl | rfl | rfl | rfl | rfl | rfl | rfl | rfl | rfl | rfl | rfl | rfl | rfl | rfl | rfl
  · decide
  · decide
  · exact push_len _ (by omega) (by omega)
  · decide
  · decide
  · decide
  · decide
  · decide
  · decide
  · decide
  · decide
  · decide
  · decide
  · exact push_len _ (by omega) (by omega)
  · decide
  · decide
  · decide
  · decide
  · exact push_len _ (by omega) (by omega)
  · decide
  · decide
  · decide
  · decide
  · decide
  · decide
  · decide
  · decide
  · decide
  · decide
  · exact push_len _ (by omega) (by omega)
  · decide
  · decide
  · decide
  · decide
  · decide
  · decide
  · decide
  · decide
set_option maxRecDepth 100000 in
theorem has_plain (base x : Int) : ∀ l ∈ hasLs base x, Plain8 (saidM l) := by
  intro l hl
  simp only [hasLs, List.mem_cons, List.not_mem_nil, or_false] at hl
  rcases hl with rfl | rfl | rfl | rfl | rfl | rfl | rfl | rfl | rfl | rfl | rfl | rfl | rfl | rfl | rfl | rfl | rfl | rfl | rfl | rfl | rfl | rfl | rfl | rfl | rfl | rfl | rfl | rfl | rfl | rfl | rfl | rfl | rfl | rfl | rfl | rfl | rfl | rfl
  · exact plain_of (by kernel_rfl)
  · exact plain_of (by kernel_rfl)
  · exact plain_push _
  · exact plain_of (by kernel_rfl)
  · exact plain_of (by kernel_rfl)
  · exact plain_of (by kernel_rfl)
  · exact plain_of (by kernel_rfl)
  · exact plain_of (by kernel_rfl)
  · exact plain_of (by kernel_rfl)
  · exact plain_of (by kernel_rfl)
  · exact plain_of (by kernel_rfl)
  · exact plain_of (by kernel_rfl)
  · exact plain_of (by kernel_rfl)
  · exact plain_push _
  · exact plain_of (by kernel_rfl)
  · exact plain_of (by kernel_rfl)
  · exact plain_of (by kernel_rfl)
  · exact plain_of (by kernel_rfl)
  · exact plain_push _
  · exact plain_of (by kernel_rfl)
  · exact plain_of (by kernel_rfl)
  · exact plain_of (by kernel_rfl)
  · exact plain_of (by kernel_rfl)
  · exact plain_of (by kernel_rfl)
  · exact plain_of (by kernel_rfl)
  · exact plain_of (by kernel_rfl)
  · exact plain_of (by kernel_rfl)
  · exact plain_of (by kernel_rfl)
  · exact plain_of (by kernel_rfl)
  · exact plain_push _
  · exact plain_of (by kernel_rfl)
  · exact plain_of (by kernel_rfl)
  · exact plain_of (by kernel_rfl)
  · exact plain_of (by kernel_rfl)
  · exact plain_of (by kernel_rfl)
  · exact plain_of (by kernel_rfl)
  · exact plain_of (by kernel_rfl)
  · exact plain_of (by kernel_rfl)
set_option maxRecDepth 100000 in
theorem has_parse {base x : Int} (h0 : 0 ≤ base) (h1 : base ≤ 256) (h2 : -9223372036854775808 ≤ x) (h3 : x ≤ 9223372036854775807) : parseM (bs (txt (hasLs base x))) = .ok (hasC base x) :=
  parse_txt (p := (runL 0 (hasWs base x) ⟨[], []⟩).getD ⟨[], []⟩) (has_no base x) (Nat.le_trans (has_len h0 h1 h2 h3) (by decide)) (has_ws h0 h1 h2 h3) (by kernel_rfl) (by kernel_rfl) (by simp [hasC])
def lstT : List UInt8 := [10, 9, 112, 117, 115, 104, 32, 72, 69, 65, 68, 10, 9, 108, 111, 97, 100, 10, 9, 100, 117, 112, 10, 9, 115, 101, 116, 32, 48, 10, 9, 122, 101, 114, 111, 32, 110, 111, 110, 101, 10, 9, 112, 117, 115, 104, 32, 49, 10, 9, 116, 101, 108, 108, 10, 9, 103, 101, 116, 32, 48, 10, 9, 112, 117, 115, 104, 32, 50, 10, 9, 109, 117, 108, 10, 9, 112, 117, 115, 104, 32, 78, 79, 68, 69, 48, 10, 9, 97, 100, 100, 10, 9, 108, 111, 97, 100, 10, 9, 106, 117, 109, 112, 32, 111, 117, 116, 10, 110, 111, 110, 101, 58, 10, 9, 112, 117, 115, 104, 32, 48, 10, 111, 117, 116, 58, 10, 9, 116, 101, 108, 108, 10]
def lstC (base x : Int) : List Ins := [⟨16, 0⟩, ⟨1, base⟩, ⟨17, 0⟩, ⟨3, 0⟩, ⟨6, 0⟩, ⟨15, 15⟩, ⟨1, 1⟩, ⟨21, 0⟩, ⟨5, 0⟩, ⟨1, 2⟩, ⟨9, 0⟩, ⟨1, base + 1⟩, ⟨7, 0⟩, ⟨17, 0⟩, ⟨14, 16⟩, ⟨1, 0⟩, ⟨21, 0⟩, ⟨19, 0⟩]
def lstP : List (Nat × List UInt8) := [(0, [10, 9, 108, 111, 97, 100, 10, 9, 100, 117, 112, 10, 9, 115, 101, 116, 32, 48, 10, 9, 122, 101, 114, 111, 32, 110, 111, 110, 101, 10, 9, 112, 117, 115, 104, 32, 49, 10, 9, 116, 101, 108, 108, 10, 9, 103, 101, 116, 32, 48, 10, 9, 112, 117, 115, 104, 32, 50, 10, 9, 109, 117, 108, 10, 9, 112, 117, 115, 104, 32]), (3, [10, 9, 97, 100, 100, 10, 9, 108, 111, 97, 100, 10, 9, 106, 117, 109, 112, 32, 111, 117, 116, 10, 110, 111, 110, 101, 58, 10, 9, 112, 117, 115, 104, 32, 48, 10, 111, 117, 116, 58, 10, 9, 116, 101, 108, 108, 10])]
theorem lstT_pieces : lstT = [10, 9, 112, 117, 115, 104, 32] ++ rend wd lstP := by kernel_rfl
theorem lst_filled (base x : Int) : fillS lstT base x 5 = [10, 9, 112, 117, 115, 104, 32] ++ rend (fun k => Lib.itoa (nv base x k)) lstP := by
  rw [lstT_pieces]
  exact (fill_rend base x lstP [10, 9, 112, 117, 115, 104, 32] (by decide) (by decide) (by decide)).2
theorem lst_steps (base x : Int) : ∀ j, j ≤ 5 → fillS lstT base x j = [10, 9, 112, 117, 115, 104, 32] ++ rend (wf base x j) lstP := by
  rw [lstT_pieces]
  exact (fill_rend base x lstP [10, 9, 112, 117, 115, 104, 32] (by decide) (by decide) (by decide)).1
set_option maxRecDepth 100000 in
theorem lst_short {base x : Int} (h0 : 0 ≤ base) (h1 : base ≤ 256) (h2 : -9223372036854775808 ≤ x) (h3 : x ≤ 9223372036854775807) (j : Nat) (hj : j ≤ 5) : (fillS lstT base x j).length ≤ 100000 := by
  rw [lst_steps base x j hj, List.length_append]
  have := rend_len h0 h1 h2 h3 j lstP
  exact Nat.le_trans (Nat.add_le_add_left this _) (by decide)
def lstLs (base x : Int) : List (List UInt8) := [[98, 101, 103, 105, 110], [], pushL (base), [9, 108, 111, 97, 100], [9, 100, 117, 112], [9, 115, 101, 116, 32, 48], [9, 122, 101, 114, 111, 32, 110, 111, 110, 101], [9, 112, 117, 115, 104, 32, 49], [9, 116, 101, 108, 108], [9, 103, 101, 116, 32, 48], [9, 112, 117, 115, 104, 32, 50], [9, 109, 117, 108], pushL (base + 1), [9, 97, 100, 100], [9, 108, 111, 97, 100], [9, 106, 117, 109, 112, 32, 111, 117, 116], [110, 111, 110, 101, 58], [9, 112, 117, 115, 104, 32, 48], [111, 117, 116, 58], [9, 116, 101, 108, 108], [99, 111, 109, 109, 105, 116]]
def lstWs (base x : Int) : List Lw := [.ins ⟨16, 0⟩ [], .no, .ins ⟨1, base⟩ [], .ins ⟨17, 0⟩ [], .ins ⟨3, 0⟩ [], .ins ⟨6, 0⟩ [], .ins ⟨15, 0⟩ [110, 111, 110, 101], .ins ⟨1, 1⟩ [], .ins ⟨21, 0⟩ [], .ins ⟨5, 0⟩ [], .ins ⟨1, 2⟩ [], .ins ⟨9, 0⟩ [], .ins ⟨1, base + 1⟩ [], .ins ⟨7, 0⟩ [], .ins ⟨17, 0⟩ [], .ins ⟨14, 0⟩ [111, 117, 116], .lab [110, 111, 110, 101], .ins ⟨1, 0⟩ [], .lab [111, 117, 116], .ins ⟨21, 0⟩ [], .ins ⟨19, 0⟩ []]
set_option maxRecDepth 100000 in
theorem lst_ws {base x : Int} (h0 : 0 ≤ base) (h1 : base ≤ 256) (h2 : -9223372036854775808 ≤ x) (h3 : x ≤ 9223372036854775807) : Lws (lstLs base x) (lstWs base x) :=
  ⟨⟨by decide, by kernel_rfl, fun i => by kernel_rfl⟩,
   (show saidM [] = [] by kernel_rfl),
   push_line _ (by omega) (by omega),
   ⟨by decide, by kernel_rfl, fun i => by kernel_rfl⟩,
   ⟨by decide, by kernel_rfl, fun i => by kernel_rfl⟩,
   ⟨by decide, by kernel_rfl, fun i => by kernel_rfl⟩,
   ⟨by decide, by kernel_rfl, fun i => by kernel_rfl⟩,
   ⟨by decide, by kernel_rfl, fun i => by kernel_rfl⟩,
   ⟨by decide, by kernel_rfl, fun i => by kernel_rfl⟩,
   ⟨by decide, by kernel_rfl, fun i => by kernel_rfl⟩,
   ⟨by decide, by kernel_rfl, fun i => by kernel_rfl⟩,
   ⟨by decide, by kernel_rfl, fun i => by kernel_rfl⟩,
   push_line _ (by omega) (by omega),
   ⟨by decide, by kernel_rfl, fun i => by kernel_rfl⟩,
   ⟨by decide, by kernel_rfl, fun i => by kernel_rfl⟩,
   ⟨by decide, by kernel_rfl, fun i => by kernel_rfl⟩,
   ⟨by decide, by kernel_rfl, by kernel_rfl, by kernel_rfl⟩,
   ⟨by decide, by kernel_rfl, fun i => by kernel_rfl⟩,
   ⟨by decide, by kernel_rfl, by kernel_rfl, by kernel_rfl⟩,
   ⟨by decide, by kernel_rfl, fun i => by kernel_rfl⟩,
   ⟨by decide, by kernel_rfl, fun i => by kernel_rfl⟩, trivial⟩
set_option maxRecDepth 100000 in
theorem lst_no (base x : Int) : ∀ l ∈ lstLs base x, (10 : UInt8) ∉ l := by
  intro l hl
  simp only [lstLs, List.mem_cons, List.not_mem_nil, or_false] at hl
  rcases hl with rfl | rfl | rfl | rfl | rfl | rfl | rfl | rfl | rfl | rfl | rfl | rfl | rfl | rfl | rfl | rfl | rfl | rfl | rfl | rfl | rfl
  · decide
  · decide
  · exact push_no _
  · decide
  · decide
  · decide
  · decide
  · decide
  · decide
  · decide
  · decide
  · decide
  · exact push_no _
  · decide
  · decide
  · decide
  · decide
  · decide
  · decide
  · decide
  · decide
set_option maxRecDepth 100000 in
set_option maxHeartbeats 2000000 in
theorem lst_txt (base x : Int) : [98, 101, 103, 105, 110, 10] ++ fillS lstT base x 5 ++ [99, 111, 109, 109, 105, 116, 10] = txt (lstLs base x) := by
  rw [lst_filled]
  simp [txt, lstLs, pushL, rend, lstP, nv]
set_option maxRecDepth 100000 in
theorem lst_len {base x : Int} (h0 : 0 ≤ base) (h1 : base ≤ 256) (h2 : -9223372036854775808 ≤ x) (h3 : x ≤ 9223372036854775807) : (txt (lstLs base x)).length ≤ 3000 := by
  refine Nat.le_trans (txt_le 27 _ ?_) (by decide : (27 + 1) * 21 ≤ 3000)
  intro l hl
  simp only [lstLs, List.mem_cons, List.not_mem_nil, or_false] at hl
  rcases hl with rfl | rfl | rfl | rfl | rfl | rfl | rfl | rfl | rfl | rfl | rfl | rfl | rfl | rfl | rfl | rfl | rfl | rfl | rfl | rfl | rfl
  · decide
  · decide
  · exact push_len _ (by omega) (by omega)
  · decide
  · decide
  · decide
  · decide
  · decide
  · decide
  · decide
  · decide
  · decide
  · exact push_len _ (by omega) (by omega)
  · decide
  · decide
  · decide
  · decide
  · decide
  · decide
  · decide
  · decide
set_option maxRecDepth 100000 in
theorem lst_plain (base x : Int) : ∀ l ∈ lstLs base x, Plain8 (saidM l) := by
  intro l hl
  simp only [lstLs, List.mem_cons, List.not_mem_nil, or_false] at hl
  rcases hl with rfl | rfl | rfl | rfl | rfl | rfl | rfl | rfl | rfl | rfl | rfl | rfl | rfl | rfl | rfl | rfl | rfl | rfl | rfl | rfl | rfl
  · exact plain_of (by kernel_rfl)
  · exact plain_of (by kernel_rfl)
  · exact plain_push _
  · exact plain_of (by kernel_rfl)
  · exact plain_of (by kernel_rfl)
  · exact plain_of (by kernel_rfl)
  · exact plain_of (by kernel_rfl)
  · exact plain_of (by kernel_rfl)
  · exact plain_of (by kernel_rfl)
  · exact plain_of (by kernel_rfl)
  · exact plain_of (by kernel_rfl)
  · exact plain_of (by kernel_rfl)
  · exact plain_push _
  · exact plain_of (by kernel_rfl)
  · exact plain_of (by kernel_rfl)
  · exact plain_of (by kernel_rfl)
  · exact plain_of (by kernel_rfl)
  · exact plain_of (by kernel_rfl)
  · exact plain_of (by kernel_rfl)
  · exact plain_of (by kernel_rfl)
  · exact plain_of (by kernel_rfl)
set_option maxRecDepth 100000 in
theorem lst_parse {base x : Int} (h0 : 0 ≤ base) (h1 : base ≤ 256) (h2 : -9223372036854775808 ≤ x) (h3 : x ≤ 9223372036854775807) : parseM (bs (txt (lstLs base x))) = .ok (lstC base x) :=
  parse_txt (p := (runL 0 (lstWs base x) ⟨[], []⟩).getD ⟨[], []⟩) (lst_no base x) (Nat.le_trans (lst_len h0 h1 h2 h3) (by decide)) (lst_ws h0 h1 h2 h3) (by kernel_rfl) (by kernel_rfl) (by simp [lstC])
def sizT : List UInt8 := [10, 9, 112, 117, 115, 104, 32, 83, 73, 90, 69, 10, 9, 108, 111, 97, 100, 10, 9, 116, 101, 108, 108, 10]
def sizC (base x : Int) : List Ins := [⟨16, 0⟩, ⟨1, base + 2⟩, ⟨17, 0⟩, ⟨21, 0⟩, ⟨19, 0⟩]
def sizP : List (Nat × List UInt8) := [(2, [10, 9, 108, 111, 97, 100, 10, 9, 116, 101, 108, 108, 10])]
theorem sizT_pieces : sizT = [10, 9, 112, 117, 115, 104, 32] ++ rend wd sizP := by kernel_rfl
theorem siz_filled (base x : Int) : fillS sizT base x 5 = [10, 9, 112, 117, 115, 104, 32] ++ rend (fun k => Lib.itoa (nv base x k)) sizP := by
  rw [sizT_pieces]
  exact (fill_rend base x sizP [10, 9, 112, 117, 115, 104, 32] (by decide) (by decide) (by decide)).2
theorem siz_steps (base x : Int) : ∀ j, j ≤ 5 → fillS sizT base x j = [10, 9, 112, 117, 115, 104, 32] ++ rend (wf base x j) sizP := by
  rw [sizT_pieces]
  exact (fill_rend base x sizP [10, 9, 112, 117, 115, 104, 32] (by decide) (by decide) (by decide)).1
set_option maxRecDepth 100000 in
theorem siz_short {base x : Int} (h0 : 0 ≤ base) (h1 : base ≤ 256) (h2 : -9223372036854775808 ≤ x) (h3 : x ≤ 9223372036854775807) (j : Nat) (hj : j ≤ 5) : (fillS sizT base x j).length ≤ 100000 := by
  rw [siz_steps base x j hj, List.length_append]
  have := rend_len h0 h1 h2 h3 j sizP
  exact Nat.le_trans (Nat.add_le_add_left this _) (by decide)
def sizLs (base x : Int) : List (List UInt8) := [[98, 101, 103, 105, 110], [], pushL (base + 2), [9, 108, 111, 97, 100], [9, 116, 101, 108, 108], [99, 111, 109, 109, 105, 116]]
def sizWs (base x : Int) : List Lw := [.ins ⟨16, 0⟩ [], .no, .ins ⟨1, base + 2⟩ [], .ins ⟨17, 0⟩ [], .ins ⟨21, 0⟩ [], .ins ⟨19, 0⟩ []]
set_option maxRecDepth 100000 in
theorem siz_ws {base x : Int} (h0 : 0 ≤ base) (h1 : base ≤ 256) (h2 : -9223372036854775808 ≤ x) (h3 : x ≤ 9223372036854775807) : Lws (sizLs base x) (sizWs base x) :=
  ⟨⟨by decide, by kernel_rfl, fun i => by kernel_rfl⟩,
   (show saidM [] = [] by kernel_rfl),
   push_line _ (by omega) (by omega),
   ⟨by decide, by kernel_rfl, fun i => by kernel_rfl⟩,
   ⟨by decide, by kernel_rfl, fun i => by kernel_rfl⟩,
   ⟨by decide, by kernel_rfl, fun i => by kernel_rfl⟩, trivial⟩
set_option maxRecDepth 100000 in
theorem siz_no (base x : Int) : ∀ l ∈ sizLs base x, (10 : UInt8) ∉ l := by
  intro l hl
  simp only [sizLs, List.mem_cons, List.not_mem_nil, or_false] at hl
  rcases hl with rfl | rfl | rfl | rfl | rfl | rfl
  · decide
  · decide
  · exact push_no _
  · decide
  · decide
  · decide
set_option maxRecDepth 100000 in
set_option maxHeartbeats 2000000 in
theorem siz_txt (base x : Int) : [98, 101, 103, 105, 110, 10] ++ fillS sizT base x 5 ++ [99, 111, 109, 109, 105, 116, 10] = txt (sizLs base x) := by
  rw [siz_filled]
  simp [txt, sizLs, pushL, rend, sizP, nv]
set_option maxRecDepth 100000 in
theorem siz_len {base x : Int} (h0 : 0 ≤ base) (h1 : base ≤ 256) (h2 : -9223372036854775808 ≤ x) (h3 : x ≤ 9223372036854775807) : (txt (sizLs base x)).length ≤ 3000 := by
  refine Nat.le_trans (txt_le 27 _ ?_) (by decide : (27 + 1) * 6 ≤ 3000)
  intro l hl
  simp only [sizLs, List.mem_cons, List.not_mem_nil, or_false] at hl
  rcases hl with rfl | rfl | rfl | rfl | rfl | rfl
  · decide
  · decide
  · exact push_len _ (by omega) (by omega)
  · decide
  · decide
  · decide
set_option maxRecDepth 100000 in
theorem siz_plain (base x : Int) : ∀ l ∈ sizLs base x, Plain8 (saidM l) := by
  intro l hl
  simp only [sizLs, List.mem_cons, List.not_mem_nil, or_false] at hl
  rcases hl with rfl | rfl | rfl | rfl | rfl | rfl
  · exact plain_of (by kernel_rfl)
  · exact plain_of (by kernel_rfl)
  · exact plain_push _
  · exact plain_of (by kernel_rfl)
  · exact plain_of (by kernel_rfl)
  · exact plain_of (by kernel_rfl)
set_option maxRecDepth 100000 in
theorem siz_parse {base x : Int} (h0 : 0 ≤ base) (h1 : base ≤ 256) (h2 : -9223372036854775808 ≤ x) (h3 : x ≤ 9223372036854775807) : parseM (bs (txt (sizLs base x))) = .ok (sizC base x) :=
  parse_txt (p := (runL 0 (sizWs base x) ⟨[], []⟩).getD ⟨[], []⟩) (siz_no base x) (Nat.le_trans (siz_len h0 h1 h2 h3) (by decide)) (siz_ws h0 h1 h2 h3) (by kernel_rfl) (by kernel_rfl) (by simp [sizC])
def textS (op : Int) : List UInt8 := if op = 1 then putT else if op = 2 then drpT else if op = 3 then hasT else if op = 4 then lstT else sizT
def codeS (base x op : Int) : List Ins := if op = 1 then putC base x else if op = 2 then drpC base x else if op = 3 then hasC base x else if op = 4 then lstC base x else sizC base x
def wholeS (base x op : Int) : List UInt8 := [98, 101, 103, 105, 110, 10] ++ fillS (textS op) base x 5 ++ [99, 111, 109, 109, 105, 116, 10]
theorem short_ok {base x op : Int} (ho : op = 1 ∨ op = 2 ∨ op = 3 ∨ op = 4 ∨ op = 5) (h0 : 0 ≤ base) (h1 : base ≤ 256) (h2 : -9223372036854775808 ≤ x) (h3 : x ≤ 9223372036854775807) (j : Nat) (hj : j ≤ 5) : (fillS (textS op) base x j).length ≤ 100000 := by
  unfold textS
  rcases ho with rfl | rfl | rfl | rfl | rfl
  · exact put_short h0 h1 h2 h3 j hj
  · exact drp_short h0 h1 h2 h3 j hj
  · exact has_short h0 h1 h2 h3 j hj
  · exact lst_short h0 h1 h2 h3 j hj
  · exact siz_short h0 h1 h2 h3 j hj
theorem text_ok {base x op : Int} (ho : op = 1 ∨ op = 2 ∨ op = 3 ∨ op = 4 ∨ op = 5) (h0 : 0 ≤ base) (h1 : base ≤ 256) (h2 : -9223372036854775808 ≤ x) (h3 : x ≤ 9223372036854775807) : parseM (bs (wholeS base x op)) = .ok (codeS base x op) ∧ PlainT (bs (wholeS base x op)) ∧ (wholeS base x op).length ≤ 3000 := by
  unfold wholeS codeS textS
  rcases ho with rfl | rfl | rfl | rfl | rfl
  · simp only [Int.reduceEq, ↓reduceIte]
    rw [put_txt]
    exact ⟨put_parse h0 h1 h2 h3, plain_txt (put_no base x) (put_plain base x), put_len h0 h1 h2 h3⟩
  · simp only [Int.reduceEq, ↓reduceIte]
    rw [drp_txt]
    exact ⟨drp_parse h0 h1 h2 h3, plain_txt (drp_no base x) (drp_plain base x), drp_len h0 h1 h2 h3⟩
  · simp only [Int.reduceEq, ↓reduceIte]
    rw [has_txt]
    exact ⟨has_parse h0 h1 h2 h3, plain_txt (has_no base x) (has_plain base x), has_len h0 h1 h2 h3⟩
  · simp only [Int.reduceEq, ↓reduceIte]
    rw [lst_txt]
    exact ⟨lst_parse h0 h1 h2 h3, plain_txt (lst_no base x) (lst_plain base x), lst_len h0 h1 h2 h3⟩
  · simp only [Int.reduceEq, ↓reduceIte]
    rw [siz_txt]
    exact ⟨siz_parse h0 h1 h2 h3, plain_txt (siz_no base x) (siz_plain base x), siz_len h0 h1 h2 h3⟩
end Go.Proofs.YtdfefjalamohjaaGreatDoor
