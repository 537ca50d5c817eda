/- Programs of deques and their texts as plain data. No program is named here. -/
import Derived.Test.YtahokdgodhhchaaGreatDoorNt
import Derived.Test.YtahokdgodhhchaaGreatDoorVfM
import Derived.Lib.ItoaLen
import Derived.Test.YtahokdgodhhchaaGreatDoorPsF
namespace Go.Proofs.YtahokdgodhhchaaGreatDoor
open Go.RowKit
set_option linter.unusedVariables false
set_option linter.unusedSimpArgs false

/-- The comparing with a word fails within the text. -/
def miss : List UInt8 → List UInt8 → Bool
  | c :: p, x :: a => if c = x then miss p a else true
  | _, _ => false
def killed (p : List UInt8) : List UInt8 → Bool
  | [] => true
  | x :: a => miss p (x :: a) && killed p a
theorem miss_app : ∀ (p a b : List UInt8), miss p a = true → miss p (a ++ b) = true ∧ p.isPrefixOf (a ++ b) = false
  | [], a, b, h => by simp [miss] at h
  | c :: p, [], b, h => by simp [miss] at h
  | c :: p, x :: a, b, h => by
    simp only [miss] at h
    simp only [List.cons_append, miss, List.isPrefixOf]
    by_cases hx : c = x
    · rw [if_pos hx] at h ⊢
      obtain ⟨h1, h2⟩ := miss_app p a b h
      exact ⟨h1, by rw [h2, Bool.and_false]⟩
    · rw [if_neg hx]
      refine ⟨rfl, ?_⟩
      simp [hx]
theorem killed_app {p : List UInt8} : ∀ {a b : List UInt8}, killed p a = true → killed p b = true → killed p (a ++ b) = true
  | [], b, _, hb => hb
  | x :: a, b, ha, hb => by
    simp only [killed, Bool.and_eq_true] at ha
    simp only [List.cons_append, killed, Bool.and_eq_true]
    exact ⟨(miss_app p (x :: a) b ha.1).1, killed_app ha.2 hb⟩
theorem killed_no {c : UInt8} (r : List UInt8) : ∀ {a : List UInt8}, c ∉ a → killed (c :: r) a = true
  | [], _ => rfl
  | x :: a, h => by
    have hx : ¬ c = x := fun e => h (by simp [e])
    simp only [killed, miss, if_neg hx, Bool.true_and]
    exact killed_no r (fun m => h (by simp [m]))
theorem index_word (p b : List UInt8) (hp : p ≠ []) : ∀ (a : List UInt8), killed p a = true → Lib.index (a ++ (p ++ b)) p = a.length
  | [], _ => by
    cases p with
    | nil => exact absurd rfl hp
    | cons c r => simp [Lib.index]
  | x :: a, h => by
    simp only [killed, Bool.and_eq_true] at h
    have hi := index_word p b hp a h.2
    have hm := (miss_app p (x :: a) (p ++ b) h.1).2
    simp only [List.cons_append, Lib.index] at hm ⊢
    rw [if_neg (by rw [hm]; decide), hi, if_neg (by simp only [beq_iff_eq]; omega)]
    simp
theorem index_noword (p : List UInt8) (hp : p ≠ []) : ∀ (a : List UInt8), killed p a = true → Lib.index a p = -1
  | [], _ => by
    cases p with
    | nil => exact absurd rfl hp
    | cons c r => rfl
  | x :: a, h => by
    simp only [killed, Bool.and_eq_true] at h
    have hi := index_noword p hp a h.2
    have hm := (miss_app p (x :: a) [] h.1).2
    rw [List.append_nil] at hm
    simp only [Lib.index]
    rw [if_neg (by rw [hm]; decide), hi]
    rfl
/-- A text in pieces, with something between them. -/
def rend (f : Nat → List UInt8) : List (Nat × List UInt8) → List UInt8
  | [] => []
  | (k, p) :: r => f k ++ (p ++ rend f r)
def occ (j : Nat) : List (Nat × List UInt8) → Nat
  | [] => 0
  | (k, _) :: r => (if k = j then 1 else 0) + occ j r
theorem rend_all {p x : List UInt8} (hp0 : p ≠ []) {j : Nat} {f g : Nat → List UInt8} (hf : f j = p) (hg : g j = x) (hfg : ∀ k, k ≠ j → g k = f k) (hc : ∀ k, k ≠ j → killed p (f k) = true) :
    ∀ (ps : List (Nat × List UInt8)) (a : List UInt8), killed p a = true → (∀ q ∈ ps, killed p q.2 = true) → Lib.count (a ++ rend f ps) p = occ j ps ∧ Lib.replaceK p x (occ j ps) (a ++ rend f ps) = a ++ rend g ps
  | [], a, ha, _ => by
    simp only [rend, List.append_nil, occ]
    exact ⟨Lib.count_miss (index_noword p hp0 a ha), rfl⟩
  | (k, p1) :: ps, a, ha, hp => by
    have hpp := hp (k, p1) (by simp)
    have hps : ∀ q ∈ ps, killed p q.2 = true := fun q hq => hp q (by simp [hq])
    by_cases hk : k = j
    · subst hk
      obtain ⟨i1, i2⟩ := rend_all hp0 hf hg hfg hc ps p1 hpp hps
      simp only [rend, occ, if_true]
      rw [hf, hg, Nat.add_comm 1]
      have hi := index_word p (p1 ++ rend f ps) hp0 a ha
      have hd : (a ++ (p ++ (p1 ++ rend f ps))).drop (a.length + p.length) = p1 ++ rend f ps := by
        rw [List.drop_append, List.drop_of_length_le (by omega), List.nil_append, Nat.add_sub_cancel_left, List.drop_left]
      refine ⟨?_, ?_⟩
      · rw [Lib.count_hit hp0 hi, hd, i1, Nat.add_comm]
      · rw [Lib.replaceK_hit _ _ _ _ _ hi, hd, i2]
        simp
    · have e : a ++ rend f ((k, p1) :: ps) = (a ++ f k ++ p1) ++ rend f ps := by simp [rend]
      have e2 : a ++ rend g ((k, p1) :: ps) = (a ++ f k ++ p1) ++ rend g ps := by simp [rend, hfg k hk]
      rw [e, e2]
      simp only [occ, if_neg hk, Nat.zero_add]
      exact rend_all hp0 hf hg hfg hc ps (a ++ f k ++ p1) (killed_app (killed_app ha (hc k hk)) hpp) hps
theorem replace_rend {p x : List UInt8} (hp0 : p ≠ []) {j : Nat} {f g : Nat → List UInt8} (hf : f j = p) (hg : g j = x) (hfg : ∀ k, k ≠ j → g k = f k) (hc : ∀ k, k ≠ j → killed p (f k) = true) (hx : x ≠ p)
    (ps : List (Nat × List UInt8)) (a : List UInt8) (ha : killed p a = true) (hp : ∀ q ∈ ps, killed p q.2 = true) : Lib.replaceAll (a ++ rend f ps) p x = a ++ rend g ps := by
  obtain ⟨h1, h2⟩ := rend_all hp0 hf hg hfg hc ps a ha hp
  unfold Lib.replaceAll Lib.replace
  rw [if_neg (by simpa using fun e => hx e.symm)]
  have hn : Lib.replaceNum (a ++ rend f ps) p (-1) = occ j ps := by
    unfold Lib.replaceNum
    rw [if_pos (.inl (by decide)), h1]
  rw [hn, h2]
def wd : Nat → List UInt8
  | 0 => [70, 82, 79, 78, 84]
  | 1 => [83, 73, 90, 69]
  | 2 => [70, 73, 82, 83, 84]
  | 3 => [82, 79, 85, 78, 68]
  | 4 => [88]
  | _ => []
/-- The first j words are filled. -/
def wf (v : Nat → Int) (j k : Nat) : List UInt8 := if k < j then Lib.itoa (v k) else wd k
def fillS (t : List UInt8) (v : Nat → Int) : Nat → List UInt8
  | 0 => t
  | j + 1 => Lib.replaceAll (fillS t v j) (wd j) (Lib.itoa (v j))
theorem itoa_cap (v : Int) (c : UInt8) (h : 65 ≤ c.toNat) : c ∉ Lib.itoa v := itoa_no v c (by omega) (by omega)
def clean (a : List UInt8) : Bool := (List.range 5).all fun j => killed (wd j) a
theorem fill_rend (v : Nat → Int) (ps : List (Nat × List UInt8)) (a : List UInt8) (hk : ∀ q ∈ ps, q.1 < 5) (ha : clean a = true) (hp : ∀ q ∈ ps, clean q.2 = true) : (∀ j, j ≤ 5 → fillS (a ++ rend wd ps) v j = a ++ rend (wf v j) ps) ∧ fillS (a ++ rend wd ps) v 5 = a ++ rend (fun k => Lib.itoa (v k)) ps := by
  have hext : ∀ (f g : Nat → List UInt8) (ps : List (Nat × List UInt8)), (∀ q ∈ ps, f q.1 = g q.1) → rend f ps = rend g ps := by
    intro f g ps
    induction ps with
    | nil => intro _; rfl
    | cons q ps ih =>
      intro h
      obtain ⟨k, p⟩ := q
      simp only [rend]
      rw [h (k, p) (by simp), ih (fun q hq => h q (by simp [hq]))]
  have hcl : ∀ (x : List UInt8) (j : Nat), clean x = true → j < 5 → killed (wd j) x = true := fun x j h hj => List.all_eq_true.1 h j (List.mem_range.2 hj)
  have h0 : a ++ rend wd ps = a ++ rend (wf v 0) ps := by rw [hext wd (wf v 0) ps (fun q _ => by simp [wf])]
  have step : ∀ (j : Nat) (c : UInt8) (r : List UInt8), j < 5 → wd j = c :: r → 65 ≤ c.toNat → (∀ k, j < k → killed (wd j) (wd k) = true) → Lib.replaceAll (a ++ rend (wf v j) ps) (wd j) (Lib.itoa (v j)) = a ++ rend (wf v (j + 1)) ps := by
    intro j c r hj hw hc hn
    refine replace_rend (j := j) (f := wf v j) (g := wf v (j + 1)) (by rw [hw]; simp) (by simp [wf]) (by simp [wf]) (fun k hk => ?_) (fun k hk => ?_) (fun e => ?_) ps a (hcl a j ha hj) (fun q hq => hcl q.2 j (hp q hq) hj)
    · unfold wf
      by_cases h : k < j
      · rw [if_pos h, if_pos (by omega)]
      · rw [if_neg h, if_neg (by omega)]
    · unfold wf
      split
      · rw [hw]; exact killed_no r (itoa_cap _ _ hc)
      · exact hn k (by omega)
    · exact itoa_cap (v j) c hc (by rw [e, hw]; simp)
  have hno : ∀ (j : Nat), (∀ k, k < 5 → j < k → killed (wd j) (wd k) = true) → ∀ k, j < k → killed (wd j) (wd k) = true := fun j h k hk => by
    by_cases h6 : k < 5
    · exact h k h6 hk
    · have : wd k = [] := by
        match k, h6 with
        | k + 5, _ => rfl
      rw [this]; rfl
  have e0 : fillS (a ++ rend wd ps) v 0 = a ++ rend (wf v 0) ps := h0
  have e1 : fillS (a ++ rend wd ps) v 1 = a ++ rend (wf v 1) ps := by
    show Lib.replaceAll (fillS (a ++ rend wd ps) v 0) (wd 0) (Lib.itoa (v 0)) = _
    rw [e0, step 0 70 [82, 79, 78, 84] (by decide) rfl (by decide) (hno 0 (by decide))]
  have e2 : fillS (a ++ rend wd ps) v 2 = a ++ rend (wf v 2) ps := by
    show Lib.replaceAll (fillS (a ++ rend wd ps) v 1) (wd 1) (Lib.itoa (v 1)) = _
    rw [e1, step 1 83 [73, 90, 69] (by decide) rfl (by decide) (hno 1 (by decide))]
  have e3 : fillS (a ++ rend wd ps) v 3 = a ++ rend (wf v 3) ps := by
    show Lib.replaceAll (fillS (a ++ rend wd ps) v 2) (wd 2) (Lib.itoa (v 2)) = _
    rw [e2, step 2 70 [73, 82, 83, 84] (by decide) rfl (by decide) (hno 2 (by decide))]
  have e4 : fillS (a ++ rend wd ps) v 4 = a ++ rend (wf v 4) ps := by
    show Lib.replaceAll (fillS (a ++ rend wd ps) v 3) (wd 3) (Lib.itoa (v 3)) = _
    rw [e3, step 3 82 [79, 85, 78, 68] (by decide) rfl (by decide) (hno 3 (by decide))]
  have e5 : fillS (a ++ rend wd ps) v 5 = a ++ rend (wf v 5) ps := by
    show Lib.replaceAll (fillS (a ++ rend wd ps) v 4) (wd 4) (Lib.itoa (v 4)) = _
    rw [e4, step 4 88 [] (by decide) rfl (by decide) (hno 4 (by decide))]
  refine ⟨fun j hj => ?_, ?_⟩
  · match j, hj with
    | 0, _ => exact e0
    | 1, _ => exact e1
    | 2, _ => exact e2
    | 3, _ => exact e3
    | 4, _ => exact e4
    | 5, _ => exact e5
  · rw [e5]
    congr 1
    exact hext _ _ ps (fun q hq => by have := hk q hq; simp [wf, this])
def lens : List (Nat × List UInt8) → Nat
  | [] => 0
  | q :: r => q.2.length + lens r
theorem wd_len (j : Nat) : (wd j).length ≤ 6 := by
  match j with
  | 0 => decide
  | 1 => decide
  | 2 => decide
  | 3 => decide
  | 4 => decide
  | k + 5 => exact Nat.zero_le _
/-- Numbers of 64 bits. -/
def Rng (v : Nat → Int) : Prop := ∀ j, -9223372036854775808 ≤ v j ∧ v j ≤ 9223372036854775807
theorem rend_len {v : Nat → Int} (hv : Rng v) (j : Nat) : ∀ ps, (rend (wf v j) ps).length ≤ 21 * ps.length + lens ps
  | [] => by simp [rend, lens]
  | (k, p) :: r => by
    have ih := rend_len hv j r
    have hw : (wf v j k).length ≤ 21 := by
      unfold wf
      split
      · obtain ⟨a, b⟩ := hv k
        have := Lib.itoa_length_le (v k) a b
        omega
      · have := wd_len k
        omega
    simp only [rend, lens, List.length_append, List.length_cons]
    omega
def pushL (v : Int) : List UInt8 := 9 :: 112 :: 117 :: 115 :: 104 :: 32 :: Lib.itoa v
theorem push_no (v : Int) : (10 : UInt8) ∉ pushL v := by
  have := itoa_no v 10 (by decide) (by decide)
  simp [pushL, this]
theorem push_len (v : Int) (h0 : -9223372036854775808 ≤ v) (h1 : v ≤ 9223372036854775807) : (pushL v).length ≤ 27 := by
  have := Lib.itoa_length_le v h0 h1
  simp only [pushL, List.length_cons]
  omega
theorem txt_le (k : Nat) : ∀ (ls : List (List UInt8)), (∀ l ∈ ls, l.length ≤ k) → (txt ls).length ≤ (k + 1) * ls.length
  | [], _ => by simp [txt]
  | l :: ls, h => by
    have h1 := txt_le k ls (fun x hx => h x (by simp [hx]))
    have h2 := h l (by simp)
    have e : (txt (l :: ls)).length = l.length + 1 + (txt ls).length := by simp [txt]; omega
    rw [e, List.length_cons, Nat.mul_add]
    omega
def plainB (l : List UInt8) : Bool := decide (8 < l.length) || l.all (fun b => decide (b.toNat < 128))
theorem plain_of {l : List UInt8} (h : plainB l = true) : Plain8 l := by
  intro h8 b hb
  unfold plainB at h
  rw [Bool.or_eq_true] at h
  rcases h with h | h
  · simp at h; omega
  · simpa using List.all_eq_true.1 h b hb
theorem plain_push (v : Int) : Plain8 (saidM (pushL v)) := by
  intro _ b hb
  unfold pushL at hb
  rw [push_said] at hb
  simp only [List.mem_cons] at hb
  rcases hb with rfl | rfl | rfl | rfl | rfl | hb
  · decide
  · decide
  · decide
  · decide
  · decide
  · have := itoa_mem v b hb
    omega
theorem plain_txt {ls : List (List UInt8)} (h10 : ∀ l ∈ ls, (10 : UInt8) ∉ l) (h : ∀ l ∈ ls, Plain8 (saidM l)) : PlainT (bs (txt ls)) := by
  intro x hx
  rw [lines_txt ls h10] at hx
  obtain ⟨l, hl, rfl⟩ := List.mem_map.1 hx
  rcases List.mem_append.1 hl with hl | hl
  · exact h l hl
  · rw [List.mem_singleton.1 hl]
    exact plain_of (by kernel_rfl)

def pshT : List UInt8 := [10, 9, 112, 117, 115, 104, 32, 83, 73, 90, 69, 10, 9, 108, 111, 97, 100, 10, 9, 100, 117, 112, 10, 9, 115, 101, 116, 32, 48, 10, 9, 112, 117, 115, 104, 32, 82, 79, 85, 78, 68, 10, 9, 108, 101, 115, 115, 10, 9, 100, 117, 112, 10, 9, 116, 101, 108, 108, 10, 9, 122, 101, 114, 111, 32, 111, 117, 116, 10, 10, 9, 112, 117, 115, 104, 32, 70, 82, 79, 78, 84, 10, 9, 108, 111, 97, 100, 10, 9, 103, 101, 116, 32, 48, 10, 9, 97, 100, 100, 10, 9, 112, 117, 115, 104, 32, 82, 79, 85, 78, 68, 10, 9, 109, 111, 100, 10, 9, 112, 117, 115, 104, 32, 70, 73, 82, 83, 84, 10, 9, 97, 100, 100, 10, 10, 9, 112, 117, 115, 104, 32, 88, 10, 9, 115, 116, 111, 114, 101, 10, 9, 112, 117, 115, 104, 32, 83, 73, 90, 69, 10, 9, 103, 101, 116, 32, 48, 10, 9, 112, 117, 115, 104, 32, 49, 10, 9, 97, 100, 100, 10, 9, 115, 116, 111, 114, 101, 10, 111, 117, 116, 58, 10]
def pshC (v : Nat → Int) : List Ins := [⟨16, 0⟩, ⟨1, v 1⟩, ⟨17, 0⟩, ⟨3, 0⟩, ⟨6, 0⟩, ⟨1, v 3⟩, ⟨11, 0⟩, ⟨3, 0⟩, ⟨21, 0⟩, ⟨15, 25⟩, ⟨1, v 0⟩, ⟨17, 0⟩, ⟨5, 0⟩, ⟨7, 0⟩, ⟨1, v 3⟩, ⟨10, 0⟩, ⟨1, v 2⟩, ⟨7, 0⟩, ⟨1, v 4⟩, ⟨18, 0⟩, ⟨1, v 1⟩, ⟨5, 0⟩, ⟨1, 1⟩, ⟨7, 0⟩, ⟨18, 0⟩, ⟨19, 0⟩]
def pshP : List (Nat × List UInt8) := [(1, [10, 9, 108, 111, 97, 100, 10, 9, 100, 117, 112, 10, 9, 115, 101, 116, 32, 48, 10, 9, 112, 117, 115, 104, 32]), (3, [10, 9, 108, 101, 115, 115, 10, 9, 100, 117, 112, 10, 9, 116, 101, 108, 108, 10, 9, 122, 101, 114, 111, 32, 111, 117, 116, 10, 10, 9, 112, 117, 115, 104, 32]), (0, [10, 9, 108, 111, 97, 100, 10, 9, 103, 101, 116, 32, 48, 10, 9, 97, 100, 100, 10, 9, 112, 117, 115, 104, 32]), (3, [10, 9, 109, 111, 100, 10, 9, 112, 117, 115, 104, 32]), (2, [10, 9, 97, 100, 100, 10, 10, 9, 112, 117, 115, 104, 32]), (4, [10, 9, 115, 116, 111, 114, 101, 10, 9, 112, 117, 115, 104, 32]), (1, [10, 9, 103, 101, 116, 32, 48, 10, 9, 112, 117, 115, 104, 32, 49, 10, 9, 97, 100, 100, 10, 9, 115, 116, 111, 114, 101, 10, 111, 117, 116, 58, 10])]
theorem pshT_pieces : pshT = [10, 9, 112, 117, 115, 104, 32] ++ rend wd pshP := by kernel_rfl
theorem psh_filled (v : Nat → Int) : fillS pshT v 5 = [10, 9, 112, 117, 115, 104, 32] ++ rend (fun k => Lib.itoa (v k)) pshP := by
  rw [pshT_pieces]
  exact (fill_rend v pshP [10, 9, 112, 117, 115, 104, 32] (by decide) (by decide) (by decide)).2
theorem psh_steps (v : Nat → Int) : ∀ j, j ≤ 5 → fillS pshT v j = [10, 9, 112, 117, 115, 104, 32] ++ rend (wf v j) pshP := by
  rw [pshT_pieces]
  exact (fill_rend v pshP [10, 9, 112, 117, 115, 104, 32] (by decide) (by decide) (by decide)).1
set_option maxRecDepth 100000 in
theorem psh_short {v : Nat → Int} (hv : Rng v) (j : Nat) (hj : j ≤ 5) : (fillS pshT v j).length ≤ 100000 := by
  rw [psh_steps v j hj, List.length_append]
  have := rend_len hv j pshP
  exact Nat.le_trans (Nat.add_le_add_left this _) (by decide)
def pshLs (v : Nat → Int) : List (List UInt8) := [[98, 101, 103, 105, 110], [], pushL (v 1), [9, 108, 111, 97, 100], [9, 100, 117, 112], [9, 115, 101, 116, 32, 48], pushL (v 3), [9, 108, 101, 115, 115], [9, 100, 117, 112], [9, 116, 101, 108, 108], [9, 122, 101, 114, 111, 32, 111, 117, 116], [], pushL (v 0), [9, 108, 111, 97, 100], [9, 103, 101, 116, 32, 48], [9, 97, 100, 100], pushL (v 3), [9, 109, 111, 100], pushL (v 2), [9, 97, 100, 100], [], pushL (v 4), [9, 115, 116, 111, 114, 101], pushL (v 1), [9, 103, 101, 116, 32, 48], [9, 112, 117, 115, 104, 32, 49], [9, 97, 100, 100], [9, 115, 116, 111, 114, 101], [111, 117, 116, 58], [99, 111, 109, 109, 105, 116]]
def pshWs (v : Nat → Int) : List Lw := [.ins ⟨16, 0⟩ [], .no, .ins ⟨1, v 1⟩ [], .ins ⟨17, 0⟩ [], .ins ⟨3, 0⟩ [], .ins ⟨6, 0⟩ [], .ins ⟨1, v 3⟩ [], .ins ⟨11, 0⟩ [], .ins ⟨3, 0⟩ [], .ins ⟨21, 0⟩ [], .ins ⟨15, 0⟩ [111, 117, 116], .no, .ins ⟨1, v 0⟩ [], .ins ⟨17, 0⟩ [], .ins ⟨5, 0⟩ [], .ins ⟨7, 0⟩ [], .ins ⟨1, v 3⟩ [], .ins ⟨10, 0⟩ [], .ins ⟨1, v 2⟩ [], .ins ⟨7, 0⟩ [], .no, .ins ⟨1, v 4⟩ [], .ins ⟨18, 0⟩ [], .ins ⟨1, v 1⟩ [], .ins ⟨5, 0⟩ [], .ins ⟨1, 1⟩ [], .ins ⟨7, 0⟩ [], .ins ⟨18, 0⟩ [], .lab [111, 117, 116], .ins ⟨19, 0⟩ []]
set_option maxRecDepth 100000 in
theorem psh_ws {v : Nat → Int} (hv : Rng v) : Lws (pshLs v) (pshWs v) :=
  ⟨⟨by decide, by kernel_rfl, fun i => by kernel_rfl⟩,
   (show saidM [] = [] by kernel_rfl),
   push_line _ (hv 1).1 (hv 1).2,
   ⟨by decide, by kernel_rfl, fun i => by kernel_rfl⟩,
   ⟨by decide, by kernel_rfl, fun i => by kernel_rfl⟩,
   ⟨by decide, by kernel_rfl, fun i => by kernel_rfl⟩,
   push_line _ (hv 3).1 (hv 3).2,
   ⟨by decide, by kernel_rfl, fun i => by kernel_rfl⟩,
   ⟨by decide, by kernel_rfl, fun i => by kernel_rfl⟩,
   ⟨by decide, by kernel_rfl, fun i => by kernel_rfl⟩,
   ⟨by decide, by kernel_rfl, fun i => by kernel_rfl⟩,
   (show saidM [] = [] by kernel_rfl),
   push_line _ (hv 0).1 (hv 0).2,
   ⟨by decide, by kernel_rfl, fun i => by kernel_rfl⟩,
   ⟨by decide, by kernel_rfl, fun i => by kernel_rfl⟩,
   ⟨by decide, by kernel_rfl, fun i => by kernel_rfl⟩,
   push_line _ (hv 3).1 (hv 3).2,
   ⟨by decide, by kernel_rfl, fun i => by kernel_rfl⟩,
   push_line _ (hv 2).1 (hv 2).2,
   ⟨by decide, by kernel_rfl, fun i => by kernel_rfl⟩,
   (show saidM [] = [] by kernel_rfl),
   push_line _ (hv 4).1 (hv 4).2,
   ⟨by decide, by kernel_rfl, fun i => by kernel_rfl⟩,
   push_line _ (hv 1).1 (hv 1).2,
   ⟨by decide, by kernel_rfl, fun i => by kernel_rfl⟩,
   ⟨by decide, by kernel_rfl, fun i => by kernel_rfl⟩,
   ⟨by decide, by kernel_rfl, fun i => by kernel_rfl⟩,
   ⟨by decide, by kernel_rfl, fun i => by kernel_rfl⟩,
   ⟨by decide, by kernel_rfl, by kernel_rfl, by kernel_rfl⟩,
   ⟨by decide, by kernel_rfl, fun i => by kernel_rfl⟩, trivial⟩
set_option maxRecDepth 100000 in
theorem psh_no (v : Nat → Int) : ∀ l ∈ pshLs v, (10 : UInt8) ∉ l := by
  intro l hl
  simp only [pshLs, List.mem_cons, List.not_mem_nil, or_false] at hl
  rcases hl with rfl | rfl | rfl | rfl | rfl | rfl | rfl | rfl | rfl | rfl | rfl | rfl | rfl | rfl | rfl | rfl | rfl | rfl | rfl | rfl | rfl | rfl | rfl | rfl | rfl | rfl | rfl | rfl | rfl | rfl
  · decide
  · decide
  · exact push_no _
  · decide
  · decide
  · decide
  · exact push_no _
  · decide
  · decide
  · decide
  · decide
  · decide
  · exact push_no _
  · decide
  · decide
  · decide
  · exact push_no _
  · decide
  · exact push_no _
  · decide
  · decide
  · exact push_no _
  · decide
  · exact push_no _
  · decide
  · decide
  · decide
  · decide
  · decide
  · decide
set_option maxRecDepth 100000 in
set_option maxHeartbeats 2000000 in
theorem psh_txt (v : Nat → Int) : [98, 101, 103, 105, 110, 10] ++ fillS pshT v 5 ++ [99, 111, 109, 109, 105, 116, 10] = txt (pshLs v) := by
  rw [psh_filled]
  simp [txt, pshLs, pushL, rend, pshP]
set_option maxRecDepth 100000 in
theorem psh_len {v : Nat → Int} (hv : Rng v) : (txt (pshLs v)).length ≤ 3000 := by
  refine Nat.le_trans (txt_le 27 _ ?_) (by decide : (27 + 1) * 30 ≤ 3000)
  intro l hl
  simp only [pshLs, List.mem_cons, List.not_mem_nil, or_false] at hl
  rcases hl with rfl | rfl | rfl | rfl | rfl | rfl | rfl | rfl | rfl | rfl | rfl | rfl | rfl | rfl | rfl | rfl | rfl | rfl | rfl | rfl | rfl | rfl | rfl | rfl | rfl | rfl | rfl | rfl | rfl | rfl
  · decide
  · decide
  · exact push_len _ (hv 1).1 (hv 1).2
  · decide
  · decide
  · decide
  · exact push_len _ (hv 3).1 (hv 3).2
  · decide
  · decide
  · decide
  · decide
  · decide
  · exact push_len _ (hv 0).1 (hv 0).2
  · decide
  · decide
  · decide
  · exact push_len _ (hv 3).1 (hv 3).2
  · decide
  · exact push_len _ (hv 2).1 (hv 2).2
  · decide
  · decide
  · exact push_len _ (hv 4).1 (hv 4).2
  · decide
  · exact push_len _ (hv 1).1 (hv 1).2
  · decide
  · decide
  · decide
  · decide
  · decide
  · decide
set_option maxRecDepth 100000 in
theorem psh_plain (v : Nat → Int) : ∀ l ∈ pshLs v, Plain8 (saidM l) := by
  intro l hl
  simp only [pshLs, List.mem_cons, List.not_mem_nil, or_false] at hl
  rcases hl with rfl | rfl | rfl | rfl | rfl | rfl | rfl | rfl | rfl | rfl | rfl | rfl | rfl | rfl | rfl | rfl | rfl | rfl | rfl | rfl | rfl | rfl | rfl | rfl | rfl | rfl | rfl | rfl | rfl | rfl
  · exact plain_of (by kernel_rfl)
  · exact plain_of (by kernel_rfl)
  · exact plain_push _
  · exact plain_of (by kernel_rfl)
  · exact plain_of (by kernel_rfl)
  · exact plain_of (by kernel_rfl)
  · exact plain_push _
  · exact plain_of (by kernel_rfl)
  · exact plain_of (by kernel_rfl)
  · exact plain_of (by kernel_rfl)
  · exact plain_of (by kernel_rfl)
  · exact plain_of (by kernel_rfl)
  · exact plain_push _
  · exact plain_of (by kernel_rfl)
  · exact plain_of (by kernel_rfl)
  · exact plain_of (by kernel_rfl)
  · exact plain_push _
  · exact plain_of (by kernel_rfl)
  · exact plain_push _
  · exact plain_of (by kernel_rfl)
  · exact plain_of (by kernel_rfl)
  · exact plain_push _
  · exact plain_of (by kernel_rfl)
  · exact plain_push _
  · exact plain_of (by kernel_rfl)
  · exact plain_of (by kernel_rfl)
  · exact plain_of (by kernel_rfl)
  · exact plain_of (by kernel_rfl)
  · exact plain_of (by kernel_rfl)
  · exact plain_of (by kernel_rfl)
set_option maxRecDepth 100000 in
theorem psh_parse {v : Nat → Int} (hv : Rng v) : parseM (bs (txt (pshLs v))) = .ok (pshC v) :=
  parse_txt (p := (runL 0 (pshWs v) ⟨[], []⟩).getD ⟨[], []⟩) (psh_no v) (Nat.le_trans (psh_len hv) (by decide)) (psh_ws hv) (by kernel_rfl) (by kernel_rfl) (by simp [pshC])
def shvT : List UInt8 := [10, 9, 112, 117, 115, 104, 32, 83, 73, 90, 69, 10, 9, 108, 111, 97, 100, 10, 9, 100, 117, 112, 10, 9, 115, 101, 116, 32, 48, 10, 9, 112, 117, 115, 104, 32, 82, 79, 85, 78, 68, 10, 9, 108, 101, 115, 115, 10, 9, 100, 117, 112, 10, 9, 116, 101, 108, 108, 10, 9, 122, 101, 114, 111, 32, 111, 117, 116, 10, 10, 9, 112, 117, 115, 104, 32, 70, 82, 79, 78, 84, 10, 9, 108, 111, 97, 100, 10, 9, 112, 117, 115, 104, 32, 49, 10, 9, 115, 117, 98, 10, 9, 112, 117, 115, 104, 32, 82, 79, 85, 78, 68, 10, 9, 109, 111, 100, 10, 9, 115, 101, 116, 32, 49, 10, 9, 112, 117, 115, 104, 32, 70, 82, 79, 78, 84, 10, 9, 103, 101, 116, 32, 49, 10, 9, 115, 116, 111, 114, 101, 10, 9, 112, 117, 115, 104, 32, 70, 73, 82, 83, 84, 10, 9, 103, 101, 116, 32, 49, 10, 9, 97, 100, 100, 10, 10, 9, 112, 117, 115, 104, 32, 88, 10, 9, 115, 116, 111, 114, 101, 10, 9, 112, 117, 115, 104, 32, 83, 73, 90, 69, 10, 9, 103, 101, 116, 32, 48, 10, 9, 112, 117, 115, 104, 32, 49, 10, 9, 97, 100, 100, 10, 9, 115, 116, 111, 114, 101, 10, 111, 117, 116, 58, 10]
def shvC (v : Nat → Int) : List Ins := [⟨16, 0⟩, ⟨1, v 1⟩, ⟨17, 0⟩, ⟨3, 0⟩, ⟨6, 0⟩, ⟨1, v 3⟩, ⟨11, 0⟩, ⟨3, 0⟩, ⟨21, 0⟩, ⟨15, 30⟩, ⟨1, v 0⟩, ⟨17, 0⟩, ⟨1, 1⟩, ⟨8, 0⟩, ⟨1, v 3⟩, ⟨10, 0⟩, ⟨6, 1⟩, ⟨1, v 0⟩, ⟨5, 1⟩, ⟨18, 0⟩, ⟨1, v 2⟩, ⟨5, 1⟩, ⟨7, 0⟩, ⟨1, v 4⟩, ⟨18, 0⟩, ⟨1, v 1⟩, ⟨5, 0⟩, ⟨1, 1⟩, ⟨7, 0⟩, ⟨18, 0⟩, ⟨19, 0⟩]
def shvP : List (Nat × List UInt8) := [(1, [10, 9, 108, 111, 97, 100, 10, 9, 100, 117, 112, 10, 9, 115, 101, 116, 32, 48, 10, 9, 112, 117, 115, 104, 32]), (3, [10, 9, 108, 101, 115, 115, 10, 9, 100, 117, 112, 10, 9, 116, 101, 108, 108, 10, 9, 122, 101, 114, 111, 32, 111, 117, 116, 10, 10, 9, 112, 117, 115, 104, 32]), (0, [10, 9, 108, 111, 97, 100, 10, 9, 112, 117, 115, 104, 32, 49, 10, 9, 115, 117, 98, 10, 9, 112, 117, 115, 104, 32]), (3, [10, 9, 109, 111, 100, 10, 9, 115, 101, 116, 32, 49, 10, 9, 112, 117, 115, 104, 32]), (0, [10, 9, 103, 101, 116, 32, 49, 10, 9, 115, 116, 111, 114, 101, 10, 9, 112, 117, 115, 104, 32]), (2, [10, 9, 103, 101, 116, 32, 49, 10, 9, 97, 100, 100, 10, 10, 9, 112, 117, 115, 104, 32]), (4, [10, 9, 115, 116, 111, 114, 101, 10, 9, 112, 117, 115, 104, 32]), (1, [10, 9, 103, 101, 116, 32, 48, 10, 9, 112, 117, 115, 104, 32, 49, 10, 9, 97, 100, 100, 10, 9, 115, 116, 111, 114, 101, 10, 111, 117, 116, 58, 10])]
theorem shvT_pieces : shvT = [10, 9, 112, 117, 115, 104, 32] ++ rend wd shvP := by kernel_rfl
theorem shv_filled (v : Nat → Int) : fillS shvT v 5 = [10, 9, 112, 117, 115, 104, 32] ++ rend (fun k => Lib.itoa (v k)) shvP := by
  rw [shvT_pieces]
  exact (fill_rend v shvP [10, 9, 112, 117, 115, 104, 32] (by decide) (by decide) (by decide)).2
theorem shv_steps (v : Nat → Int) : ∀ j, j ≤ 5 → fillS shvT v j = [10, 9, 112, 117, 115, 104, 32] ++ rend (wf v j) shvP := by
  rw [shvT_pieces]
  exact (fill_rend v shvP [10, 9, 112, 117, 115, 104, 32] (by decide) (by decide) (by decide)).1
set_option maxRecDepth 100000 in
theorem shv_short {v : Nat → Int} (hv : Rng v) (j : Nat) (hj : j ≤ 5) : (fillS shvT v j).length ≤ 100000 := by
  rw [shv_steps v j hj, List.length_append]
  have := rend_len hv j shvP
  exact Nat.le_trans (Nat.add_le_add_left this _) (by decide)
def shvLs (v : Nat → Int) : List (List UInt8) := [[98, 101, 103, 105, 110], [], pushL (v 1), [9, 108, 111, 97, 100], [9, 100, 117, 112], [9, 115, 101, 116, 32, 48], pushL (v 3), [9, 108, 101, 115, 115], [9, 100, 117, 112], [9, 116, 101, 108, 108], [9, 122, 101, 114, 111, 32, 111, 117, 116], [], pushL (v 0), [9, 108, 111, 97, 100], [9, 112, 117, 115, 104, 32, 49], [9, 115, 117, 98], pushL (v 3), [9, 109, 111, 100], [9, 115, 101, 116, 32, 49], pushL (v 0), [9, 103, 101, 116, 32, 49], [9, 115, 116, 111, 114, 101], pushL (v 2), [9, 103, 101, 116, 32, 49], [9, 97, 100, 100], [], pushL (v 4), [9, 115, 116, 111, 114, 101], pushL (v 1), [9, 103, 101, 116, 32, 48], [9, 112, 117, 115, 104, 32, 49], [9, 97, 100, 100], [9, 115, 116, 111, 114, 101], [111, 117, 116, 58], [99, 111, 109, 109, 105, 116]]
def shvWs (v : Nat → Int) : List Lw := [.ins ⟨16, 0⟩ [], .no, .ins ⟨1, v 1⟩ [], .ins ⟨17, 0⟩ [], .ins ⟨3, 0⟩ [], .ins ⟨6, 0⟩ [], .ins ⟨1, v 3⟩ [], .ins ⟨11, 0⟩ [], .ins ⟨3, 0⟩ [], .ins ⟨21, 0⟩ [], .ins ⟨15, 0⟩ [111, 117, 116], .no, .ins ⟨1, v 0⟩ [], .ins ⟨17, 0⟩ [], .ins ⟨1, 1⟩ [], .ins ⟨8, 0⟩ [], .ins ⟨1, v 3⟩ [], .ins ⟨10, 0⟩ [], .ins ⟨6, 1⟩ [], .ins ⟨1, v 0⟩ [], .ins ⟨5, 1⟩ [], .ins ⟨18, 0⟩ [], .ins ⟨1, v 2⟩ [], .ins ⟨5, 1⟩ [], .ins ⟨7, 0⟩ [], .no, .ins ⟨1, v 4⟩ [], .ins ⟨18, 0⟩ [], .ins ⟨1, v 1⟩ [], .ins ⟨5, 0⟩ [], .ins ⟨1, 1⟩ [], .ins ⟨7, 0⟩ [], .ins ⟨18, 0⟩ [], .lab [111, 117, 116], .ins ⟨19, 0⟩ []]
set_option maxRecDepth 100000 in
theorem shv_ws {v : Nat → Int} (hv : Rng v) : Lws (shvLs v) (shvWs v) :=
  ⟨⟨by decide, by kernel_rfl, fun i => by kernel_rfl⟩,
   (show saidM [] = [] by kernel_rfl),
   push_line _ (hv 1).1 (hv 1).2,
   ⟨by decide, by kernel_rfl, fun i => by kernel_rfl⟩,
   ⟨by decide, by kernel_rfl, fun i => by kernel_rfl⟩,
   ⟨by decide, by kernel_rfl, fun i => by kernel_rfl⟩,
   push_line _ (hv 3).1 (hv 3).2,
   ⟨by decide, by kernel_rfl, fun i => by kernel_rfl⟩,
   ⟨by decide, by kernel_rfl, fun i => by kernel_rfl⟩,
   ⟨by decide, by kernel_rfl, fun i => by kernel_rfl⟩,
   ⟨by decide, by kernel_rfl, fun i => by kernel_rfl⟩,
   (show saidM [] = [] by kernel_rfl),
   push_line _ (hv 0).1 (hv 0).2,
   ⟨by decide, by kernel_rfl, fun i => by kernel_rfl⟩,
   ⟨by decide, by kernel_rfl, fun i => by kernel_rfl⟩,
   ⟨by decide, by kernel_rfl, fun i => by kernel_rfl⟩,
   push_line _ (hv 3).1 (hv 3).2,
   ⟨by decide, by kernel_rfl, fun i => by kernel_rfl⟩,
   ⟨by decide, by kernel_rfl, fun i => by kernel_rfl⟩,
   push_line _ (hv 0).1 (hv 0).2,
   ⟨by decide, by kernel_rfl, fun i => by kernel_rfl⟩,
   ⟨by decide, by kernel_rfl, fun i => by kernel_rfl⟩,
   push_line _ (hv 2).1 (hv 2).2,
   ⟨by decide, by kernel_rfl, fun i => by kernel_rfl⟩,
   ⟨by decide, by kernel_rfl, fun i => by kernel_rfl⟩,
   (show saidM [] = [] by kernel_rfl),
   push_line _ (hv 4).1 (hv 4).2,
   ⟨by decide, by kernel_rfl, fun i => by kernel_rfl⟩,
   push_line _ (hv 1).1 (hv 1).2,
   ⟨by decide, by kernel_rfl, fun i => by kernel_rfl⟩,
   ⟨by decide, by kernel_rfl, fun i => by kernel_rfl⟩,
   ⟨by decide, by kernel_rfl, fun i => by kernel_rfl⟩,
   ⟨by decide, by kernel_rfl, fun i => by kernel_rfl⟩,
   ⟨by decide, by kernel_rfl, by kernel_rfl, by kernel_rfl⟩,
   ⟨by decide, by kernel_rfl, fun i => by kernel_rfl⟩, trivial⟩
set_option maxRecDepth 100000 in
theorem shv_no (v : Nat → Int) : ∀ l ∈ shvLs v, (10 : UInt8) ∉ l := by
  intro l hl
  simp only [shvLs, List.mem_cons, List.not_mem_nil, or_false] at hl
  rcases hl with rfl | rfl | rfl | rfl | rfl | rfl | rfl | rfl | rfl | rfl | rfl | rfl | rfl | rfl | rfl | rfl | rfl | rfl | rfl | rfl | rfl | rfl | rfl | rfl | rfl | rfl | rfl | rfl | rfl | rfl | rfl | rfl | rfl | rfl | rfl
  · decide
  · decide
  · exact push_no _
  · decide
  · decide
  · decide
  · exact push_no _
  · decide
  · decide
  · decide
  · decide
  · decide
  · exact push_no _
  · decide
  · decide
  · decide
  · exact push_no _
  · decide
  · decide
  · exact push_no _
  · decide
  · decide
  · exact push_no _
  · decide
  · decide
  · decide
  · exact push_no _
  · decide
  · exact push_no _
  · decide
  · decide
  · decide
  · decide
  · decide
  · decide
set_option maxRecDepth 100000 in
set_option maxHeartbeats 2000000 in
theorem shv_txt (v : Nat → Int) : [98, 101, 103, 105, 110, 10] ++ fillS shvT v 5 ++ [99, 111, 109, 109, 105, 116, 10] = txt (shvLs v) := by
  rw [shv_filled]
  simp [txt, shvLs, pushL, rend, shvP]
set_option maxRecDepth 100000 in
theorem shv_len {v : Nat → Int} (hv : Rng v) : (txt (shvLs v)).length ≤ 3000 := by
  refine Nat.le_trans (txt_le 27 _ ?_) (by decide : (27 + 1) * 35 ≤ 3000)
  intro l hl
  simp only [shvLs, List.mem_cons, List.not_mem_nil, or_false] at hl
  rcases hl with rfl | rfl | rfl | rfl | rfl | rfl | rfl | rfl | rfl | rfl | rfl | rfl | rfl | rfl | rfl | rfl | rfl | rfl | rfl | rfl | rfl | rfl | rfl | rfl | rfl | rfl | rfl | rfl | rfl | rfl | rfl | rfl | rfl | rfl | rfl
  · decide
  · decide
  · exact push_len _ (hv 1).1 (hv 1).2
  · decide
  · decide
  · decide
  · exact push_len _ (hv 3).1 (hv 3).2
  · decide
  · decide
  · decide
  · decide
  · decide
  · exact push_len _ (hv 0).1 (hv 0).2
  · decide
  · decide
  · decide
  · exact push_len _ (hv 3).1 (hv 3).2
  · decide
  · decide
  · exact push_len _ (hv 0).1 (hv 0).2
  · decide
  · decide
  · exact push_len _ (hv 2).1 (hv 2).2
  · decide
  · decide
  · decide
  · exact push_len _ (hv 4).1 (hv 4).2
  · decide
  · exact push_len _ (hv 1).1 (hv 1).2
  · decide
  · decide
  · decide
  · decide
  · decide
  · decide
set_option maxRecDepth 100000 in
theorem shv_plain (v : Nat → Int) : ∀ l ∈ shvLs v, Plain8 (saidM l) := by
  intro l hl
  simp only [shvLs, List.mem_cons, List.not_mem_nil, or_false] at hl
  rcases hl with rfl | rfl | rfl | rfl | rfl | rfl | rfl | rfl | rfl | rfl | rfl | rfl | rfl | rfl | rfl | rfl | rfl | rfl | rfl | rfl | rfl | rfl | rfl | rfl | rfl | rfl | rfl | rfl | rfl | rfl | rfl | rfl | rfl | rfl | rfl
  · exact plain_of (by kernel_rfl)
  · exact plain_of (by kernel_rfl)
  · exact plain_push _
  · exact plain_of (by kernel_rfl)
  · exact plain_of (by kernel_rfl)
  · exact plain_of (by kernel_rfl)
  · exact plain_push _
  · exact plain_of (by kernel_rfl)
  · exact plain_of (by kernel_rfl)
  · exact plain_of (by kernel_rfl)
  · exact plain_of (by kernel_rfl)
  · exact plain_of (by kernel_rfl)
  · exact plain_push _
  · exact plain_of (by kernel_rfl)
  · exact plain_of (by kernel_rfl)
  · exact plain_of (by kernel_rfl)
  · exact plain_push _
  · exact plain_of (by kernel_rfl)
  · exact plain_of (by kernel_rfl)
  · exact plain_push _
  · exact plain_of (by kernel_rfl)
  · exact plain_of (by kernel_rfl)
  · exact plain_push _
  · exact plain_of (by kernel_rfl)
  · exact plain_of (by kernel_rfl)
  · exact plain_of (by kernel_rfl)
  · exact plain_push _
  · exact plain_of (by kernel_rfl)
  · exact plain_push _
  · exact plain_of (by kernel_rfl)
  · exact plain_of (by kernel_rfl)
  · exact plain_of (by kernel_rfl)
  · exact plain_of (by kernel_rfl)
  · exact plain_of (by kernel_rfl)
  · exact plain_of (by kernel_rfl)
set_option maxRecDepth 100000 in
theorem shv_parse {v : Nat → Int} (hv : Rng v) : parseM (bs (txt (shvLs v))) = .ok (shvC v) :=
  parse_txt (p := (runL 0 (shvWs v) ⟨[], []⟩).getD ⟨[], []⟩) (shv_no v) (Nat.le_trans (shv_len hv) (by decide)) (shv_ws hv) (by kernel_rfl) (by kernel_rfl) (by simp [shvC])
def popT : List UInt8 := [10, 9, 112, 117, 115, 104, 32, 48, 10, 9, 112, 117, 115, 104, 32, 83, 73, 90, 69, 10, 9, 108, 111, 97, 100, 10, 9, 100, 117, 112, 10, 9, 115, 101, 116, 32, 48, 10, 9, 108, 101, 115, 115, 10, 9, 100, 117, 112, 10, 9, 116, 101, 108, 108, 10, 9, 122, 101, 114, 111, 32, 111, 117, 116, 10, 10, 9, 112, 117, 115, 104, 32, 70, 82, 79, 78, 84, 10, 9, 108, 111, 97, 100, 10, 9, 103, 101, 116, 32, 48, 10, 9, 97, 100, 100, 10, 9, 112, 117, 115, 104, 32, 49, 10, 9, 115, 117, 98, 10, 9, 112, 117, 115, 104, 32, 82, 79, 85, 78, 68, 10, 9, 109, 111, 100, 10, 9, 112, 117, 115, 104, 32, 70, 73, 82, 83, 84, 10, 9, 97, 100, 100, 10, 10, 9, 108, 111, 97, 100, 10, 9, 116, 101, 108, 108, 10, 9, 112, 117, 115, 104, 32, 83, 73, 90, 69, 10, 9, 103, 101, 116, 32, 48, 10, 9, 112, 117, 115, 104, 32, 49, 10, 9, 115, 117, 98, 10, 9, 115, 116, 111, 114, 101, 10, 111, 117, 116, 58, 10]
def popC (v : Nat → Int) : List Ins := [⟨16, 0⟩, ⟨1, 0⟩, ⟨1, v 1⟩, ⟨17, 0⟩, ⟨3, 0⟩, ⟨6, 0⟩, ⟨11, 0⟩, ⟨3, 0⟩, ⟨21, 0⟩, ⟨15, 27⟩, ⟨1, v 0⟩, ⟨17, 0⟩, ⟨5, 0⟩, ⟨7, 0⟩, ⟨1, 1⟩, ⟨8, 0⟩, ⟨1, v 3⟩, ⟨10, 0⟩, ⟨1, v 2⟩, ⟨7, 0⟩, ⟨17, 0⟩, ⟨21, 0⟩, ⟨1, v 1⟩, ⟨5, 0⟩, ⟨1, 1⟩, ⟨8, 0⟩, ⟨18, 0⟩, ⟨19, 0⟩]
def popP : List (Nat × List UInt8) := [(1, [10, 9, 108, 111, 97, 100, 10, 9, 100, 117, 112, 10, 9, 115, 101, 116, 32, 48, 10, 9, 108, 101, 115, 115, 10, 9, 100, 117, 112, 10, 9, 116, 101, 108, 108, 10, 9, 122, 101, 114, 111, 32, 111, 117, 116, 10, 10, 9, 112, 117, 115, 104, 32]), (0, [10, 9, 108, 111, 97, 100, 10, 9, 103, 101, 116, 32, 48, 10, 9, 97, 100, 100, 10, 9, 112, 117, 115, 104, 32, 49, 10, 9, 115, 117, 98, 10, 9, 112, 117, 115, 104, 32]), (3, [10, 9, 109, 111, 100, 10, 9, 112, 117, 115, 104, 32]), (2, [10, 9, 97, 100, 100, 10, 10, 9, 108, 111, 97, 100, 10, 9, 116, 101, 108, 108, 10, 9, 112, 117, 115, 104, 32]), (1, [10, 9, 103, 101, 116, 32, 48, 10, 9, 112, 117, 115, 104, 32, 49, 10, 9, 115, 117, 98, 10, 9, 115, 116, 111, 114, 101, 10, 111, 117, 116, 58, 10])]
theorem popT_pieces : popT = [10, 9, 112, 117, 115, 104, 32, 48, 10, 9, 112, 117, 115, 104, 32] ++ rend wd popP := by kernel_rfl
theorem pop_filled (v : Nat → Int) : fillS popT v 5 = [10, 9, 112, 117, 115, 104, 32, 48, 10, 9, 112, 117, 115, 104, 32] ++ rend (fun k => Lib.itoa (v k)) popP := by
  rw [popT_pieces]
  exact (fill_rend v popP [10, 9, 112, 117, 115, 104, 32, 48, 10, 9, 112, 117, 115, 104, 32] (by decide) (by decide) (by decide)).2
theorem pop_steps (v : Nat → Int) : ∀ j, j ≤ 5 → fillS popT v j = [10, 9, 112, 117, 115, 104, 32, 48, 10, 9, 112, 117, 115, 104, 32] ++ rend (wf v j) popP := by
  rw [popT_pieces]
  exact (fill_rend v popP [10, 9, 112, 117, 115, 104, 32, 48, 10, 9, 112, 117, 115, 104, 32] (by decide) (by decide) (by decide)).1
set_option maxRecDepth 100000 in
theorem pop_short {v : Nat → Int} (hv : Rng v) (j : Nat) (hj : j ≤ 5) : (fillS popT v j).length ≤ 100000 := by
  rw [pop_steps v j hj, List.length_append]
  have := rend_len hv j popP
  exact Nat.le_trans (Nat.add_le_add_left this _) (by decide)
def popLs (v : Nat → Int) : List (List UInt8) := [[98, 101, 103, 105, 110], [], [9, 112, 117, 115, 104, 32, 48], pushL (v 1), [9, 108, 111, 97, 100], [9, 100, 117, 112], [9, 115, 101, 116, 32, 48], [9, 108, 101, 115, 115], [9, 100, 117, 112], [9, 116, 101, 108, 108], [9, 122, 101, 114, 111, 32, 111, 117, 116], [], pushL (v 0), [9, 108, 111, 97, 100], [9, 103, 101, 116, 32, 48], [9, 97, 100, 100], [9, 112, 117, 115, 104, 32, 49], [9, 115, 117, 98], pushL (v 3), [9, 109, 111, 100], pushL (v 2), [9, 97, 100, 100], [], [9, 108, 111, 97, 100], [9, 116, 101, 108, 108], pushL (v 1), [9, 103, 101, 116, 32, 48], [9, 112, 117, 115, 104, 32, 49], [9, 115, 117, 98], [9, 115, 116, 111, 114, 101], [111, 117, 116, 58], [99, 111, 109, 109, 105, 116]]
def popWs (v : Nat → Int) : List Lw := [.ins ⟨16, 0⟩ [], .no, .ins ⟨1, 0⟩ [], .ins ⟨1, v 1⟩ [], .ins ⟨17, 0⟩ [], .ins ⟨3, 0⟩ [], .ins ⟨6, 0⟩ [], .ins ⟨11, 0⟩ [], .ins ⟨3, 0⟩ [], .ins ⟨21, 0⟩ [], .ins ⟨15, 0⟩ [111, 117, 116], .no, .ins ⟨1, v 0⟩ [], .ins ⟨17, 0⟩ [], .ins ⟨5, 0⟩ [], .ins ⟨7, 0⟩ [], .ins ⟨1, 1⟩ [], .ins ⟨8, 0⟩ [], .ins ⟨1, v 3⟩ [], .ins ⟨10, 0⟩ [], .ins ⟨1, v 2⟩ [], .ins ⟨7, 0⟩ [], .no, .ins ⟨17, 0⟩ [], .ins ⟨21, 0⟩ [], .ins ⟨1, v 1⟩ [], .ins ⟨5, 0⟩ [], .ins ⟨1, 1⟩ [], .ins ⟨8, 0⟩ [], .ins ⟨18, 0⟩ [], .lab [111, 117, 116], .ins ⟨19, 0⟩ []]
set_option maxRecDepth 100000 in
theorem pop_ws {v : Nat → Int} (hv : Rng v) : Lws (popLs v) (popWs v) :=
  ⟨⟨by decide, by kernel_rfl, fun i => by kernel_rfl⟩,
   (show saidM [] = [] by kernel_rfl),
   ⟨by decide, by kernel_rfl, fun i => by kernel_rfl⟩,
   push_line _ (hv 1).1 (hv 1).2,
   ⟨by decide, by kernel_rfl, fun i => by kernel_rfl⟩,
   ⟨by decide, by kernel_rfl, fun i => by kernel_rfl⟩,
   ⟨by decide, by kernel_rfl, fun i => by kernel_rfl⟩,
   ⟨by decide, by kernel_rfl, fun i => by kernel_rfl⟩,
   ⟨by decide, by kernel_rfl, fun i => by kernel_rfl⟩,
   ⟨by decide, by kernel_rfl, fun i => by kernel_rfl⟩,
   ⟨by decide, by kernel_rfl, fun i => by kernel_rfl⟩,
   (show saidM [] = [] by kernel_rfl),
   push_line _ (hv 0).1 (hv 0).2,
   ⟨by decide, by kernel_rfl, fun i => by kernel_rfl⟩,
   ⟨by decide, by kernel_rfl, fun i => by kernel_rfl⟩,
   ⟨by decide, by kernel_rfl, fun i => by kernel_rfl⟩,
   ⟨by decide, by kernel_rfl, fun i => by kernel_rfl⟩,
   ⟨by decide, by kernel_rfl, fun i => by kernel_rfl⟩,
   push_line _ (hv 3).1 (hv 3).2,
   ⟨by decide, by kernel_rfl, fun i => by kernel_rfl⟩,
   push_line _ (hv 2).1 (hv 2).2,
   ⟨by decide, by kernel_rfl, fun i => by kernel_rfl⟩,
   (show saidM [] = [] by kernel_rfl),
   ⟨by decide, by kernel_rfl, fun i => by kernel_rfl⟩,
   ⟨by decide, by kernel_rfl, fun i => by kernel_rfl⟩,
   push_line _ (hv 1).1 (hv 1).2,
   ⟨by decide, by kernel_rfl, fun i => by kernel_rfl⟩,
   ⟨by decide, by kernel_rfl, fun i => by kernel_rfl⟩,
   ⟨by decide, by kernel_rfl, fun i => by kernel_rfl⟩,
   ⟨by decide, by kernel_rfl, fun i => by kernel_rfl⟩,
   ⟨by decide, by kernel_rfl, by kernel_rfl, by kernel_rfl⟩,
   ⟨by decide, by kernel_rfl, fun i => by kernel_rfl⟩, trivial⟩
set_option maxRecDepth 100000 in
theorem pop_no (v : Nat → Int) : ∀ l ∈ popLs v, (10 : UInt8) ∉ l := by
  intro l hl
  simp only [popLs, List.mem_cons, List.not_mem_nil, or_false] at hl
  rcases hl with rfl | rfl | rfl | rfl | rfl | rfl | rfl | rfl | rfl | rfl | rfl | rfl | rfl | rfl | rfl | rfl | rfl | rfl | rfl | rfl | rfl | rfl | rfl | rfl | rfl | rfl | rfl | rfl | rfl | rfl | rfl | rfl
  · decide
  · decide
  · decide
  · exact push_no _
  · decide
  · decide
  · decide
  · decide
  · decide
  · decide
  · decide
  · decide
  · exact push_no _
  · decide
  · decide
  · decide
  · decide
  · decide
  · exact push_no _
  · decide
  · exact push_no _
  · decide
  · decide
  · decide
  · decide
  · exact push_no _
  · decide
  · decide
  · decide
  · decide
  · decide
  · decide
set_option maxRecDepth 100000 in
set_option maxHeartbeats 2000000 in
theorem pop_txt (v : Nat → Int) : [98, 101, 103, 105, 110, 10] ++ fillS popT v 5 ++ [99, 111, 109, 109, 105, 116, 10] = txt (popLs v) := by
  rw [pop_filled]
  simp [txt, popLs, pushL, rend, popP]
set_option maxRecDepth 100000 in
theorem pop_len {v : Nat → Int} (hv : Rng v) : (txt (popLs v)).length ≤ 3000 := by
  refine Nat.le_trans (txt_le 27 _ ?_) (by decide : (27 + 1) * 32 ≤ 3000)
  intro l hl
  simp only [popLs, List.mem_cons, List.not_mem_nil, or_false] at hl
  rcases hl with rfl | rfl | rfl | rfl | rfl | rfl | rfl | rfl | rfl | rfl | rfl | rfl | rfl | rfl | rfl | rfl | rfl | rfl | rfl | rfl | rfl | rfl | rfl | rfl | rfl | rfl | rfl | rfl | rfl | rfl | rfl | rfl
  · decide
  · decide
  · decide
  · exact push_len _ (hv 1).1 (hv 1).2
  · decide
  · decide
  · decide
  · decide
  · decide
  · decide
  · decide
  · decide
  · exact push_len _ (hv 0).1 (hv 0).2
  · decide
  · decide
  · decide
  · decide
  · decide
  · exact push_len _ (hv 3).1 (hv 3).2
  · decide
  · exact push_len _ (hv 2).1 (hv 2).2
  · decide
  · decide
  · decide
  · decide
  · exact push_len _ (hv 1).1 (hv 1).2
  · decide
  · decide
  · decide
  · decide
  · decide
  · decide
set_option maxRecDepth 100000 in
theorem pop_plain (v : Nat → Int) : ∀ l ∈ popLs v, Plain8 (saidM l) := by
  intro l hl
  simp only [popLs, List.mem_cons, List.not_mem_nil, or_false] at hl
  rcases hl with rfl | rfl | rfl | rfl | rfl | rfl | rfl | rfl | rfl | rfl | rfl | rfl | rfl | rfl | rfl | rfl | rfl | rfl | rfl | rfl | rfl | rfl | rfl | rfl | rfl | rfl | rfl | rfl | rfl | rfl | rfl | rfl
  · exact plain_of (by kernel_rfl)
  · exact plain_of (by kernel_rfl)
  · exact plain_of (by kernel_rfl)
  · exact plain_push _
  · exact plain_of (by kernel_rfl)
  · exact plain_of (by kernel_rfl)
  · exact plain_of (by kernel_rfl)
  · exact plain_of (by kernel_rfl)
  · exact plain_of (by kernel_rfl)
  · exact plain_of (by kernel_rfl)
  · exact plain_of (by kernel_rfl)
  · exact plain_of (by kernel_rfl)
  · exact plain_push _
  · exact plain_of (by kernel_rfl)
  · exact plain_of (by kernel_rfl)
  · exact plain_of (by kernel_rfl)
  · exact plain_of (by kernel_rfl)
  · exact plain_of (by kernel_rfl)
  · exact plain_push _
  · exact plain_of (by kernel_rfl)
  · exact plain_push _
  · exact plain_of (by kernel_rfl)
  · exact plain_of (by kernel_rfl)
  · exact plain_of (by kernel_rfl)
  · exact plain_of (by kernel_rfl)
  · exact plain_push _
  · exact plain_of (by kernel_rfl)
  · exact plain_of (by kernel_rfl)
  · exact plain_of (by kernel_rfl)
  · exact plain_of (by kernel_rfl)
  · exact plain_of (by kernel_rfl)
  · exact plain_of (by kernel_rfl)
set_option maxRecDepth 100000 in
theorem pop_parse {v : Nat → Int} (hv : Rng v) : parseM (bs (txt (popLs v))) = .ok (popC v) :=
  parse_txt (p := (runL 0 (popWs v) ⟨[], []⟩).getD ⟨[], []⟩) (pop_no v) (Nat.le_trans (pop_len hv) (by decide)) (pop_ws hv) (by kernel_rfl) (by kernel_rfl) (by simp [popC])
def sftT : List UInt8 := [10, 9, 112, 117, 115, 104, 32, 48, 10, 9, 112, 117, 115, 104, 32, 83, 73, 90, 69, 10, 9, 108, 111, 97, 100, 10, 9, 100, 117, 112, 10, 9, 115, 101, 116, 32, 48, 10, 9, 108, 101, 115, 115, 10, 9, 100, 117, 112, 10, 9, 116, 101, 108, 108, 10, 9, 122, 101, 114, 111, 32, 111, 117, 116, 10, 10, 9, 112, 117, 115, 104, 32, 70, 82, 79, 78, 84, 10, 9, 108, 111, 97, 100, 10, 9, 115, 101, 116, 32, 49, 10, 9, 112, 117, 115, 104, 32, 70, 82, 79, 78, 84, 10, 9, 103, 101, 116, 32, 49, 10, 9, 112, 117, 115, 104, 32, 49, 10, 9, 97, 100, 100, 10, 9, 112, 117, 115, 104, 32, 82, 79, 85, 78, 68, 10, 9, 109, 111, 100, 10, 9, 115, 116, 111, 114, 101, 10, 9, 112, 117, 115, 104, 32, 70, 73, 82, 83, 84, 10, 9, 103, 101, 116, 32, 49, 10, 9, 97, 100, 100, 10, 10, 9, 108, 111, 97, 100, 10, 9, 116, 101, 108, 108, 10, 9, 112, 117, 115, 104, 32, 83, 73, 90, 69, 10, 9, 103, 101, 116, 32, 48, 10, 9, 112, 117, 115, 104, 32, 49, 10, 9, 115, 117, 98, 10, 9, 115, 116, 111, 114, 101, 10, 111, 117, 116, 58, 10]
def sftC (v : Nat → Int) : List Ins := [⟨16, 0⟩, ⟨1, 0⟩, ⟨1, v 1⟩, ⟨17, 0⟩, ⟨3, 0⟩, ⟨6, 0⟩, ⟨11, 0⟩, ⟨3, 0⟩, ⟨21, 0⟩, ⟨15, 30⟩, ⟨1, v 0⟩, ⟨17, 0⟩, ⟨6, 1⟩, ⟨1, v 0⟩, ⟨5, 1⟩, ⟨1, 1⟩, ⟨7, 0⟩, ⟨1, v 3⟩, ⟨10, 0⟩, ⟨18, 0⟩, ⟨1, v 2⟩, ⟨5, 1⟩, ⟨7, 0⟩, ⟨17, 0⟩, ⟨21, 0⟩, ⟨1, v 1⟩, ⟨5, 0⟩, ⟨1, 1⟩, ⟨8, 0⟩, ⟨18, 0⟩, ⟨19, 0⟩]
def sftP : List (Nat × List UInt8) := [(1, [10, 9, 108, 111, 97, 100, 10, 9, 100, 117, 112, 10, 9, 115, 101, 116, 32, 48, 10, 9, 108, 101, 115, 115, 10, 9, 100, 117, 112, 10, 9, 116, 101, 108, 108, 10, 9, 122, 101, 114, 111, 32, 111, 117, 116, 10, 10, 9, 112, 117, 115, 104, 32]), (0, [10, 9, 108, 111, 97, 100, 10, 9, 115, 101, 116, 32, 49, 10, 9, 112, 117, 115, 104, 32]), (0, [10, 9, 103, 101, 116, 32, 49, 10, 9, 112, 117, 115, 104, 32, 49, 10, 9, 97, 100, 100, 10, 9, 112, 117, 115, 104, 32]), (3, [10, 9, 109, 111, 100, 10, 9, 115, 116, 111, 114, 101, 10, 9, 112, 117, 115, 104, 32]), (2, [10, 9, 103, 101, 116, 32, 49, 10, 9, 97, 100, 100, 10, 10, 9, 108, 111, 97, 100, 10, 9, 116, 101, 108, 108, 10, 9, 112, 117, 115, 104, 32]), (1, [10, 9, 103, 101, 116, 32, 48, 10, 9, 112, 117, 115, 104, 32, 49, 10, 9, 115, 117, 98, 10, 9, 115, 116, 111, 114, 101, 10, 111, 117, 116, 58, 10])]
theorem sftT_pieces : sftT = [10, 9, 112, 117, 115, 104, 32, 48, 10, 9, 112, 117, 115, 104, 32] ++ rend wd sftP := by kernel_rfl
theorem sft_filled (v : Nat → Int) : fillS sftT v 5 = [10, 9, 112, 117, 115, 104, 32, 48, 10, 9, 112, 117, 115, 104, 32] ++ rend (fun k => Lib.itoa (v k)) sftP := by
  rw [sftT_pieces]
  exact (fill_rend v sftP [10, 9, 112, 117, 115, 104, 32, 48, 10, 9, 112, 117, 115, 104, 32] (by decide) (by decide) (by decide)).2
theorem sft_steps (v : Nat → Int) : ∀ j, j ≤ 5 → fillS sftT v j = [10, 9, 112, 117, 115, 104, 32, 48, 10, 9, 112, 117, 115, 104, 32] ++ rend (wf v j) sftP := by
  rw [sftT_pieces]
  exact (fill_rend v sftP [10, 9, 112, 117, 115, 104, 32, 48, 10, 9, 112, 117, 115, 104, 32] (by decide) (by decide) (by decide)).1
set_option maxRecDepth 100000 in
theorem sft_short {v : Nat → Int} (hv : Rng v) (j : Nat) (hj : j ≤ 5) : (fillS sftT v j).length ≤ 100000 := by
  rw [sft_steps v j hj, List.length_append]
  have := rend_len hv j sftP
  exact Nat.le_trans (Nat.add_le_add_left this _) (by decide)
def sftLs (v : Nat → Int) : List (List UInt8) := [[98, 101, 103, 105, 110], [], [9, 112, 117, 115, 104, 32, 48], pushL (v 1), [9, 108, 111, 97, 100], [9, 100, 117, 112], [9, 115, 101, 116, 32, 48], [9, 108, 101, 115, 115], [9, 100, 117, 112], [9, 116, 101, 108, 108], [9, 122, 101, 114, 111, 32, 111, 117, 116], [], pushL (v 0), [9, 108, 111, 97, 100], [9, 115, 101, 116, 32, 49], pushL (v 0), [9, 103, 101, 116, 32, 49], [9, 112, 117, 115, 104, 32, 49], [9, 97, 100, 100], pushL (v 3), [9, 109, 111, 100], [9, 115, 116, 111, 114, 101], pushL (v 2), [9, 103, 101, 116, 32, 49], [9, 97, 100, 100], [], [9, 108, 111, 97, 100], [9, 116, 101, 108, 108], pushL (v 1), [9, 103, 101, 116, 32, 48], [9, 112, 117, 115, 104, 32, 49], [9, 115, 117, 98], [9, 115, 116, 111, 114, 101], [111, 117, 116, 58], [99, 111, 109, 109, 105, 116]]
def sftWs (v : Nat → Int) : List Lw := [.ins ⟨16, 0⟩ [], .no, .ins ⟨1, 0⟩ [], .ins ⟨1, v 1⟩ [], .ins ⟨17, 0⟩ [], .ins ⟨3, 0⟩ [], .ins ⟨6, 0⟩ [], .ins ⟨11, 0⟩ [], .ins ⟨3, 0⟩ [], .ins ⟨21, 0⟩ [], .ins ⟨15, 0⟩ [111, 117, 116], .no, .ins ⟨1, v 0⟩ [], .ins ⟨17, 0⟩ [], .ins ⟨6, 1⟩ [], .ins ⟨1, v 0⟩ [], .ins ⟨5, 1⟩ [], .ins ⟨1, 1⟩ [], .ins ⟨7, 0⟩ [], .ins ⟨1, v 3⟩ [], .ins ⟨10, 0⟩ [], .ins ⟨18, 0⟩ [], .ins ⟨1, v 2⟩ [], .ins ⟨5, 1⟩ [], .ins ⟨7, 0⟩ [], .no, .ins ⟨17, 0⟩ [], .ins ⟨21, 0⟩ [], .ins ⟨1, v 1⟩ [], .ins ⟨5, 0⟩ [], .ins ⟨1, 1⟩ [], .ins ⟨8, 0⟩ [], .ins ⟨18, 0⟩ [], .lab [111, 117, 116], .ins ⟨19, 0⟩ []]
set_option maxRecDepth 100000 in
theorem sft_ws {v : Nat → Int} (hv : Rng v) : Lws (sftLs v) (sftWs v) :=
  ⟨⟨by decide, by kernel_rfl, fun i => by kernel_rfl⟩,
   (show saidM [] = [] by kernel_rfl),
   ⟨by decide, by kernel_rfl, fun i => by kernel_rfl⟩,
   push_line _ (hv 1).1 (hv 1).2,
   ⟨by decide, by kernel_rfl, fun i => by kernel_rfl⟩,
   ⟨by decide, by kernel_rfl, fun i => by kernel_rfl⟩,
   ⟨by decide, by kernel_rfl, fun i => by kernel_rfl⟩,
   ⟨by decide, by kernel_rfl, fun i => by kernel_rfl⟩,
   ⟨by decide, by kernel_rfl, fun i => by kernel_rfl⟩,
   ⟨by decide, by kernel_rfl, fun i => by kernel_rfl⟩,
   ⟨by decide, by kernel_rfl, fun i => by kernel_rfl⟩,
   (show saidM [] = [] by kernel_rfl),
   push_line _ (hv 0).1 (hv 0).2,
   ⟨by decide, by kernel_rfl, fun i => by kernel_rfl⟩,
   ⟨by decide, by kernel_rfl, fun i => by kernel_rfl⟩,
   push_line _ (hv 0).1 (hv 0).2,
   ⟨by decide, by kernel_rfl, fun i => by kernel_rfl⟩,
   ⟨by decide, by kernel_rfl, fun i => by kernel_rfl⟩,
   ⟨by decide, by kernel_rfl, fun i => by kernel_rfl⟩,
   push_line _ (hv 3).1 (hv 3).2,
   ⟨by decide, by kernel_rfl, fun i => by kernel_rfl⟩,
   ⟨by decide, by kernel_rfl, fun i => by kernel_rfl⟩,
   push_line _ (hv 2).1 (hv 2).2,
   ⟨by decide, by kernel_rfl, fun i => by kernel_rfl⟩,
   ⟨by decide, by kernel_rfl, fun i => by kernel_rfl⟩,
   (show saidM [] = [] by kernel_rfl),
   ⟨by decide, by kernel_rfl, fun i => by kernel_rfl⟩,
   ⟨by decide, by kernel_rfl, fun i => by kernel_rfl⟩,
   push_line _ (hv 1).1 (hv 1).2,
   ⟨by decide, by kernel_rfl, fun i => by kernel_rfl⟩,
   ⟨by decide, by kernel_rfl, fun i => by kernel_rfl⟩,
   ⟨by decide, by kernel_rfl, fun i => by kernel_rfl⟩,
   ⟨by decide, by kernel_rfl, fun i => by kernel_rfl⟩,
   ⟨by decide, by kernel_rfl, by kernel_rfl, by kernel_rfl⟩,
   ⟨by decide, by kernel_rfl, fun i => by kernel_rfl⟩, trivial⟩
set_option maxRecDepth 100000 in
theorem sft_no (v : Nat → Int) : ∀ l ∈ sftLs v, (10 : UInt8) ∉ l := by
  intro l hl
  simp only [sftLs, List.mem_cons, List.not_mem_nil, or_false] at hl
  rcases hl with rfl | rfl | rfl | rfl | rfl | rfl | rfl | rfl | rfl | rfl | rfl | rfl | rfl | rfl | rfl | rfl | rfl | rfl | rfl | rfl | rfl | rfl | rfl | rfl | rfl | rfl | rfl | rfl | rfl | rfl | rfl | rfl | rfl | rfl | rfl
  · decide
  · decide
  · decide
  · exact push_no _
  · decide
  · decide
  · decide
  · decide
  · decide
  · decide
  · decide
  · decide
  · exact push_no _
  · decide
  · decide
  · exact push_no _
  · decide
  · decide
  · decide
  · exact push_no _
  · decide
  · decide
  · exact push_no _
  · decide
  · decide
  · decide
  · decide
  · decide
  · exact push_no _
  · decide
  · decide
  · decide
  · decide
  · decide
  · decide
set_option maxRecDepth 100000 in
set_option maxHeartbeats 2000000 in
theorem sft_txt (v : Nat → Int) : [98, 101, 103, 105, 110, 10] ++ fillS sftT v 5 ++ [99, 111, 109, 109, 105, 116, 10] = txt (sftLs v) := by
  rw [sft_filled]
  simp [txt, sftLs, pushL, rend, sftP]
set_option maxRecDepth 100000 in
theorem sft_len {v : Nat → Int} (hv : Rng v) : (txt (sftLs v)).length ≤ 3000 := by
  refine Nat.le_trans (txt_le 27 _ ?_) (by decide : (27 + 1) * 35 ≤ 3000)
  intro l hl
  simp only [sftLs, List.mem_cons, List.not_mem_nil, or_false] at hl
  rcases hl with rfl | rfl | rfl | rfl | rfl | rfl | rfl | rfl | rfl | rfl | rfl | rfl | rfl | rfl | rfl | rfl | rfl | rfl | rfl | rfl | rfl | rfl | rfl | rfl | rfl | rfl | rfl | rfl | rfl | rfl | rfl | rfl | rfl | rfl | rfl
  · decide
  · decide
  · decide
  · exact push_len _ (hv 1).1 (hv 1).2
  · decide
  · decide
  · decide
  · decide
  · decide
  · decide
  · decide
  · decide
  · exact push_len _ (hv 0).1 (hv 0).2
  · decide
  · decide
  · exact push_len _ (hv 0).1 (hv 0).2
  · decide
  · decide
  · decide
  · exact push_len _ (hv 3).1 (hv 3).2
  · decide
  · decide
  · exact push_len _ (hv 2).1 (hv 2).2
  · decide
  · decide
  · decide
  · decide
  · decide
  · exact push_len _ (hv 1).1 (hv 1).2
  · decide
  · decide
  · decide
  · decide
  · decide
  · decide
set_option maxRecDepth 100000 in
theorem sft_plain (v : Nat → Int) : ∀ l ∈ sftLs v, Plain8 (saidM l) := by
  intro l hl
  simp only [sftLs, List.mem_cons, List.not_mem_nil, or_false] at hl
  rcases hl with rfl | rfl | rfl | rfl | rfl | rfl | rfl | rfl | rfl | rfl | rfl | rfl | rfl | rfl | rfl | rfl | rfl | rfl | rfl | rfl | rfl | rfl | rfl | rfl | rfl | rfl | rfl | rfl | rfl | rfl | rfl | rfl | rfl | rfl | rfl
  · exact plain_of (by kernel_rfl)
  · exact plain_of (by kernel_rfl)
  · exact plain_of (by kernel_rfl)
  · exact plain_push _
  · exact plain_of (by kernel_rfl)
  · exact plain_of (by kernel_rfl)
  · exact plain_of (by kernel_rfl)
  · exact plain_of (by kernel_rfl)
  · exact plain_of (by kernel_rfl)
  · exact plain_of (by kernel_rfl)
  · exact plain_of (by kernel_rfl)
  · exact plain_of (by kernel_rfl)
  · exact plain_push _
  · exact plain_of (by kernel_rfl)
  · exact plain_of (by kernel_rfl)
  · exact plain_push _
  · exact plain_of (by kernel_rfl)
  · exact plain_of (by kernel_rfl)
  · exact plain_of (by kernel_rfl)
  · exact plain_push _
  · exact plain_of (by kernel_rfl)
  · exact plain_of (by kernel_rfl)
  · exact plain_push _
  · exact plain_of (by kernel_rfl)
  · exact plain_of (by kernel_rfl)
  · exact plain_of (by kernel_rfl)
  · exact plain_of (by kernel_rfl)
  · exact plain_of (by kernel_rfl)
  · exact plain_push _
  · exact plain_of (by kernel_rfl)
  · exact plain_of (by kernel_rfl)
  · exact plain_of (by kernel_rfl)
  · exact plain_of (by kernel_rfl)
  · exact plain_of (by kernel_rfl)
  · exact plain_of (by kernel_rfl)
set_option maxRecDepth 100000 in
theorem sft_parse {v : Nat → Int} (hv : Rng v) : parseM (bs (txt (sftLs v))) = .ok (sftC v) :=
  parse_txt (p := (runL 0 (sftWs v) ⟨[], []⟩).getD ⟨[], []⟩) (sft_no v) (Nat.le_trans (sft_len hv) (by decide)) (sft_ws hv) (by kernel_rfl) (by kernel_rfl) (by simp [sftC])
def sizT : List UInt8 := [10, 9, 112, 117, 115, 104, 32, 83, 73, 90, 69, 10, 9, 108, 111, 97, 100, 10, 9, 116, 101, 108, 108, 10]
def sizC (v : Nat → Int) : List Ins := [⟨16, 0⟩, ⟨1, v 1⟩, ⟨17, 0⟩, ⟨21, 0⟩, ⟨19, 0⟩]
def sizP : List (Nat × List UInt8) := [(1, [10, 9, 108, 111, 97, 100, 10, 9, 116, 101, 108, 108, 10])]
theorem sizT_pieces : sizT = [10, 9, 112, 117, 115, 104, 32] ++ rend wd sizP := by kernel_rfl
theorem siz_filled (v : Nat → Int) : fillS sizT v 5 = [10, 9, 112, 117, 115, 104, 32] ++ rend (fun k => Lib.itoa (v k)) sizP := by
  rw [sizT_pieces]
  exact (fill_rend v sizP [10, 9, 112, 117, 115, 104, 32] (by decide) (by decide) (by decide)).2
theorem siz_steps (v : Nat → Int) : ∀ j, j ≤ 5 → fillS sizT v j = [10, 9, 112, 117, 115, 104, 32] ++ rend (wf v j) sizP := by
  rw [sizT_pieces]
  exact (fill_rend v sizP [10, 9, 112, 117, 115, 104, 32] (by decide) (by decide) (by decide)).1
set_option maxRecDepth 100000 in
theorem siz_short {v : Nat → Int} (hv : Rng v) (j : Nat) (hj : j ≤ 5) : (fillS sizT v j).length ≤ 100000 := by
  rw [siz_steps v j hj, List.length_append]
  have := rend_len hv j sizP
  exact Nat.le_trans (Nat.add_le_add_left this _) (by decide)
def sizLs (v : Nat → Int) : List (List UInt8) := [[98, 101, 103, 105, 110], [], pushL (v 1), [9, 108, 111, 97, 100], [9, 116, 101, 108, 108], [99, 111, 109, 109, 105, 116]]
def sizWs (v : Nat → Int) : List Lw := [.ins ⟨16, 0⟩ [], .no, .ins ⟨1, v 1⟩ [], .ins ⟨17, 0⟩ [], .ins ⟨21, 0⟩ [], .ins ⟨19, 0⟩ []]
set_option maxRecDepth 100000 in
theorem siz_ws {v : Nat → Int} (hv : Rng v) : Lws (sizLs v) (sizWs v) :=
  ⟨⟨by decide, by kernel_rfl, fun i => by kernel_rfl⟩,
   (show saidM [] = [] by kernel_rfl),
   push_line _ (hv 1).1 (hv 1).2,
   ⟨by decide, by kernel_rfl, fun i => by kernel_rfl⟩,
   ⟨by decide, by kernel_rfl, fun i => by kernel_rfl⟩,
   ⟨by decide, by kernel_rfl, fun i => by kernel_rfl⟩, trivial⟩
set_option maxRecDepth 100000 in
theorem siz_no (v : Nat → Int) : ∀ l ∈ sizLs v, (10 : UInt8) ∉ l := by
  intro l hl
  simp only [sizLs, List.mem_cons, List.not_mem_nil, or_false] at hl
  rcases hl with rfl | rfl | rfl | rfl | rfl | rfl
  · decide
  · decide
  · exact push_no _
  · decide
  · decide
  · decide
set_option maxRecDepth 100000 in
set_option maxHeartbeats 2000000 in
theorem siz_txt (v : Nat → Int) : [98, 101, 103, 105, 110, 10] ++ fillS sizT v 5 ++ [99, 111, 109, 109, 105, 116, 10] = txt (sizLs v) := by
  rw [siz_filled]
  simp [txt, sizLs, pushL, rend, sizP]
set_option maxRecDepth 100000 in
theorem siz_len {v : Nat → Int} (hv : Rng v) : (txt (sizLs v)).length ≤ 3000 := by
  refine Nat.le_trans (txt_le 27 _ ?_) (by decide : (27 + 1) * 6 ≤ 3000)
  intro l hl
  simp only [sizLs, List.mem_cons, List.not_mem_nil, or_false] at hl
  rcases hl with rfl | rfl | rfl | rfl | rfl | rfl
  · decide
  · decide
  · exact push_len _ (hv 1).1 (hv 1).2
  · decide
  · decide
  · decide
set_option maxRecDepth 100000 in
theorem siz_plain (v : Nat → Int) : ∀ l ∈ sizLs v, Plain8 (saidM l) := by
  intro l hl
  simp only [sizLs, List.mem_cons, List.not_mem_nil, or_false] at hl
  rcases hl with rfl | rfl | rfl | rfl | rfl | rfl
  · exact plain_of (by kernel_rfl)
  · exact plain_of (by kernel_rfl)
  · exact plain_push _
  · exact plain_of (by kernel_rfl)
  · exact plain_of (by kernel_rfl)
  · exact plain_of (by kernel_rfl)
set_option maxRecDepth 100000 in
theorem siz_parse {v : Nat → Int} (hv : Rng v) : parseM (bs (txt (sizLs v))) = .ok (sizC v) :=
  parse_txt (p := (runL 0 (sizWs v) ⟨[], []⟩).getD ⟨[], []⟩) (siz_no v) (Nat.le_trans (siz_len hv) (by decide)) (siz_ws hv) (by kernel_rfl) (by kernel_rfl) (by simp [sizC])
def textS (op : Int) : List UInt8 := if op = 1 then pshT else if op = 2 then shvT else if op = 3 then popT else if op = 4 then sftT else sizT
def codeS (v : Nat → Int) (op : Int) : List Ins := if op = 1 then pshC v else if op = 2 then shvC v else if op = 3 then popC v else if op = 4 then sftC v else sizC v
def wholeS (v : Nat → Int) (op : Int) : List UInt8 := [98, 101, 103, 105, 110, 10] ++ fillS (textS op) v 5 ++ [99, 111, 109, 109, 105, 116, 10]
theorem short_ok {v : Nat → Int} {op : Int} (ho : op = 1 ∨ op = 2 ∨ op = 3 ∨ op = 4 ∨ op = 5) (hv : Rng v) (j : Nat) (hj : j ≤ 5) : (fillS (textS op) v j).length ≤ 100000 := by
  unfold textS
  rcases ho with rfl | rfl | rfl | rfl | rfl
  · exact psh_short hv j hj
  · exact shv_short hv j hj
  · exact pop_short hv j hj
  · exact sft_short hv j hj
  · exact siz_short hv j hj
theorem text_ok {v : Nat → Int} {op : Int} (ho : op = 1 ∨ op = 2 ∨ op = 3 ∨ op = 4 ∨ op = 5) (hv : Rng v) : parseM (bs (wholeS v op)) = .ok (codeS v op) ∧ PlainT (bs (wholeS v op)) ∧ (wholeS v op).length ≤ 3000 := by
  unfold wholeS codeS textS
  rcases ho with rfl | rfl | rfl | rfl | rfl
  · simp only [Int.reduceEq, ↓reduceIte]
    rw [psh_txt]
    exact ⟨psh_parse hv, plain_txt (psh_no v) (psh_plain v), psh_len hv⟩
  · simp only [Int.reduceEq, ↓reduceIte]
    rw [shv_txt]
    exact ⟨shv_parse hv, plain_txt (shv_no v) (shv_plain v), shv_len hv⟩
  · simp only [Int.reduceEq, ↓reduceIte]
    rw [pop_txt]
    exact ⟨pop_parse hv, plain_txt (pop_no v) (pop_plain v), pop_len hv⟩
  · simp only [Int.reduceEq, ↓reduceIte]
    rw [sft_txt]
    exact ⟨sft_parse hv, plain_txt (sft_no v) (sft_plain v), sft_len hv⟩
  · simp only [Int.reduceEq, ↓reduceIte]
    rw [siz_txt]
    exact ⟨siz_parse hv, plain_txt (siz_no v) (siz_plain v), siz_len hv⟩
end Go.Proofs.YtahokdgodhhchaaGreatDoor
