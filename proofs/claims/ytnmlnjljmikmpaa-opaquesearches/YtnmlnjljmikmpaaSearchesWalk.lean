/- The next greater order, as plain data: what its loops keep. The document's next: the next greater order. The document's Search. OpaqueSearches, walked. -/
import Derived.Test.YtnmlnjljmikmpaaOn
import Derived.Test.YtnmlnjljmikmpaaRb
import Derived.Test.YtnmlnjljmikmpaaSc
namespace Go.Proofs.Ytnmlnjljmikmpaa
set_option linter.unusedVariables false
set_option linter.unusedSimpArgs false

theorem drop_at {o : List Nat} {q a : Nat} (h : o[q]? = some a) : o.drop q = a :: o.drop (q + 1) := by
  obtain ⟨hq, rfl⟩ := List.getElem?_eq_some_iff.1 h
  exact List.drop_eq_getElem_cons hq
theorem fall_step {o : List Nat} {q a b : Nat} (h : (o.drop (q + 1)).Pairwise (fun a b => b < a)) (ha : o[q]? = some a) (hb : o[q + 1]? = some b) (hab : b < a) : (o.drop q).Pairwise (fun a b => b < a) := by
  rw [drop_at ha, List.pairwise_cons]
  refine ⟨fun z hz => ?_, h⟩
  rw [drop_at hb] at h hz
  rcases List.mem_cons.1 hz with rfl | hz
  · exact hab
  · have := (List.pairwise_cons.1 h).1 z hz
    omega
theorem fall_one {o : List Nat} {q : Nat} (h : o.length ≤ q + 1) : (o.drop q).Pairwise (fun a b => b < a) := by
  have : (o.drop q).length ≤ 1 := by rw [List.length_drop]; omega
  match ho : o.drop q, this with
  | [], _ => exact .nil
  | [a], _ => simp
/-- What next makes of an order. -/
structure Nxt (o o' : List Nat) : Prop where
  perm : o'.Perm o
  up : lx o o'
  none : ∀ r, r.Perm o → lx o r → ¬ lx r o'
theorem cut_two {o : List Nat} {q p x y : Nat} (hx : o[q]? = some x) (hy : o[p]? = some y) (hqp : q < p) : o = o.take q ++ x :: ((o.drop (q + 1)).take (p - q - 1) ++ y :: o.drop (p + 1)) := by
  have e1 : o = o.take q ++ o.drop q := (List.take_append_drop q o).symm
  have e2 := drop_at hx
  have e3 : o.drop (q + 1) = (o.drop (q + 1)).take (p - q - 1) ++ (o.drop (q + 1)).drop (p - q - 1) := (List.take_append_drop _ _).symm
  rw [List.drop_drop, show q + 1 + (p - q - 1) = p by omega, drop_at hy] at e3
  rw [← e3, ← e2]
  exact e1
theorem set_twoN {A S1 S2 : List Nat} {x y : Nat} : ((A ++ x :: (S1 ++ y :: S2)).set A.length y).set (A.length + 1 + S1.length) x = A ++ y :: (S1 ++ x :: S2) := by
  rw [List.set_append_right _ _ (Nat.le_refl _), Nat.sub_self, List.set_cons_zero, List.set_append_right _ _ (by omega), show A.length + 1 + S1.length - A.length = S1.length + 1 by omega, List.set_cons_succ, List.set_append_right _ _ (Nat.le_refl _), Nat.sub_self, List.set_cons_zero]
/-- A list whose part behind place q is turned round, m places from both ends. -/
def turn (o : List Nat) (q m : Nat) : List Nat :=
  (List.range o.length).map fun k => if q < k ∧ (k < q + 1 + m ∨ o.length < k + 1 + m) then o.getD (o.length + q - k) 0 else o.getD k 0
theorem turn_len (o : List Nat) (q m : Nat) : (turn o q m).length = o.length := by simp [turn]
theorem turn_at {o : List Nat} {q m k : Nat} (h : k < o.length) : (turn o q m)[k]? = some (if q < k ∧ (k < q + 1 + m ∨ o.length < k + 1 + m) then o.getD (o.length + q - k) 0 else o.getD k 0) := by
  simp [turn, List.getElem?_range h]
theorem turn_zero (o : List Nat) (q : Nat) : turn o q 0 = o := by
  refine List.ext_getElem? fun k => ?_
  by_cases h : k < o.length
  · rw [turn_at h, if_neg (by omega), List.getD_eq_getElem?_getD, List.getElem?_eq_getElem h]
    rfl
  · rw [List.getElem?_eq_none (by rw [turn_len]; omega), List.getElem?_eq_none (by omega)]
theorem turn_step {o : List Nat} {q m a b : Nat} (ha : a = q + 1 + m) (hb : b + 1 + m = o.length) (hab : a < b) : ((turn o q m).set a (o.getD b 0)).set b (o.getD a 0) = turn o q (m + 1) := by
  refine List.ext_getElem? fun k => ?_
  by_cases h : k < o.length
  · rw [turn_at h, List.getElem?_set, List.getElem?_set]
    simp only [List.length_set, turn_len]
    by_cases h1 : b = k
    · subst h1
      rw [if_pos rfl, if_pos h, if_pos (by omega), show o.length + q - b = a by omega]
    · rw [if_neg h1]
      by_cases h2 : a = k
      · subst h2
        rw [if_pos rfl, if_pos h, if_pos (by omega), show o.length + q - a = b by omega]
      · rw [if_neg h2, turn_at h]
        by_cases h3 : q < k ∧ (k < q + 1 + m ∨ o.length < k + 1 + m)
        · rw [if_pos h3, if_pos (by omega)]
        · rw [if_neg h3, if_neg (by omega)]
  · rw [List.getElem?_eq_none (by simp [turn_len]; omega), List.getElem?_eq_none (by rw [turn_len]; omega)]
theorem turn_end {o : List Nat} {q m : Nat} (h : o.length ≤ q + 1 + m + 1 + m) (hq : q < o.length) : turn o q m = o.take (q + 1) ++ (o.drop (q + 1)).reverse := by
  refine List.ext_getElem? fun k => ?_
  by_cases hk : k < o.length
  · rw [turn_at hk]
    by_cases h1 : k < q + 1
    · rw [if_neg (by omega), List.getElem?_append_left (by simp; omega), List.getElem?_take_of_lt h1, List.getD_eq_getElem?_getD, List.getElem?_eq_getElem hk]
      rfl
    · have e1 : (o.take (q + 1)).length = q + 1 := by simp; omega
      rw [List.getElem?_append_right (by omega), e1, List.getElem?_reverse (by simp; omega), List.getElem?_drop, List.length_drop, show q + 1 + (o.length - (q + 1) - 1 - (k - (q + 1))) = o.length + q - k by omega]
      have e2 : o.length + q - k < o.length := by omega
      by_cases h2 : q < k ∧ (k < q + 1 + m ∨ o.length < k + 1 + m)
      · rw [if_pos h2, List.getD_eq_getElem?_getD, List.getElem?_eq_getElem e2]
        rfl
      · rw [if_neg h2, show o.length + q - k = k by omega, List.getD_eq_getElem?_getD, List.getElem?_eq_getElem hk]
        rfl
  · rw [List.getElem?_eq_none (by rw [turn_len]; omega), List.getElem?_eq_none (by simp; omega)]
theorem nxt_of {o : List Nat} {q p x y m : Nat} (hnd : o.Nodup) (hx : o[q]? = some x) (hy : o[p]? = some y) (hqp : q < p) (hf : (o.drop (q + 1)).Pairwise (fun a b => b < a)) (hxy : x < y) (hl : ∀ k z, p < k → o[k]? = some z → z < x) (hm : o.length ≤ q + 1 + m + 1 + m) : Nxt o (turn ((o.set q y).set p x) q m) := by
  have hql := (List.getElem?_eq_some_iff.1 hx).1
  have hpl := (List.getElem?_eq_some_iff.1 hy).1
  have e := cut_two hx hy hqp
  have hA : (o.take q).length = q := by simp; omega
  have hS : ((o.drop (q + 1)).take (p - q - 1)).length = p - q - 1 := by simp; omega
  have hd : o.drop (q + 1) = (o.drop (q + 1)).take (p - q - 1) ++ y :: o.drop (p + 1) := by
    have e3 : o.drop (q + 1) = (o.drop (q + 1)).take (p - q - 1) ++ (o.drop (q + 1)).drop (p - q - 1) := (List.take_append_drop _ _).symm
    rw [List.drop_drop, show q + 1 + (p - q - 1) = p by omega, drop_at hy] at e3
    exact e3
  have hS2 : ∀ z ∈ o.drop (p + 1), z ≤ x := by
    intro z hz
    obtain ⟨i, hi⟩ := List.getElem?_of_mem hz
    rw [List.getElem?_drop] at hi
    have := hl _ _ (by omega) hi
    omega
  generalize o.take q = A at *
  generalize (o.drop (q + 1)).take (p - q - 1) = S1 at *
  generalize o.drop (p + 1) = S2 at *
  rw [hd] at hf
  clear hd hl hx hy
  subst e
  have hxn : x ∉ S1 ++ y :: S2 := by
    rw [List.nodup_append, List.nodup_cons] at hnd
    exact hnd.2.1.1
  have e1 : ((A ++ x :: (S1 ++ y :: S2)).set q y).set p x = A ++ y :: (S1 ++ x :: S2) := by
    have := set_twoN (A := A) (S1 := S1) (S2 := S2) (x := x) (y := y)
    rw [hA, hS, show q + 1 + (p - q - 1) = p by omega] at this
    exact this
  have e2 : turn (A ++ y :: (S1 ++ x :: S2)) q m = A ++ y :: (S1 ++ x :: S2).reverse := by
    have hl1 : (A ++ y :: (S1 ++ x :: S2)).length = (A ++ x :: (S1 ++ y :: S2)).length := by simp
    rw [turn_end (by rw [hl1]; exact hm) (by rw [hl1]; exact hql)]
    have hA1 : (A ++ [y]).length = q + 1 := by simp [hA]
    have e3 : A ++ y :: (S1 ++ x :: S2) = (A ++ [y]) ++ (S1 ++ x :: S2) := by simp
    rw [e3, List.take_append_of_le_length (by omega), List.take_of_length_le (by omega), List.drop_append_of_le_length (by omega), List.drop_of_length_le (by omega)]
    simp
  rw [e1, e2]
  obtain ⟨h1, h2, h3⟩ := next_none_between (A := A) hf hxy hS2 hxn
  exact ⟨h1, h2, h3⟩
/-- A number that rises with the order. -/
def rank : List Nat → Nat
  | [] => 0
  | x :: r => x * 8 ^ r.length + rank r
theorem rank_lt : ∀ {a : List Nat}, (∀ x ∈ a, x < 8) → rank a < 8 ^ a.length
  | [], _ => by simp [rank]
  | x :: r, h => by
    have h1 := rank_lt (a := r) (fun z hz => h z (by simp [hz]))
    have h2 := h x (by simp)
    simp only [rank, List.length_cons, Nat.pow_succ]
    have h3 : (x + 1) * 8 ^ r.length ≤ 8 * 8 ^ r.length := Nat.mul_le_mul_right _ h2
    rw [Nat.add_mul, Nat.one_mul] at h3
    omega
theorem rank_lx : ∀ {a b : List Nat}, a.length = b.length → (∀ x ∈ a, x < 8) → (∀ x ∈ b, x < 8) → lx a b → rank a < rank b
  | [], _, _, _, _, h => h.elim
  | _ :: _, [], _, _, _, h => h.elim
  | x :: a, y :: b, hl, ha, hb, h => by
    have hl' : a.length = b.length := by simpa using hl
    simp only [rank]
    rw [hl']
    rcases h with h | ⟨rfl, h⟩
    · have h1 := rank_lt (a := a) (fun z hz => ha z (by simp [hz]))
      have h3 : (x + 1) * 8 ^ b.length ≤ y * 8 ^ b.length := Nat.mul_le_mul_right _ h
      rw [Nat.add_mul, Nat.one_mul] at h3
      rw [hl'] at h1
      omega
    · have := rank_lx hl' (fun z hz => ha z (by simp [hz])) (fun z hz => hb z (by simp [hz])) h
      omega
/-- What the search through all orders keeps: the lesser ones are refused. -/
structure Srch (start : List Int) (l : List Sy) (o : List Nat) : Prop where
  perm : o.Perm (List.range l.length)
  less : ∀ r, chk start l (asI r) = (0, 0) → ¬ lx r o
theorem pigR : ∀ (n : Nat) (r : List Nat), r.Nodup → (∀ x ∈ r, x < n) → r.length ≤ n
  | 0, [], _, _ => Nat.le_refl _
  | 0, x :: _, _, h => by have := h x (by simp); omega
  | n + 1, r, hd, h => by
    by_cases hn : n ∈ r
    · have hp := List.perm_cons_erase hn
      have hl := hp.length_eq
      have := pigR n (r.erase n) (hd.erase n) (fun x hx => by
        have h1 := (hd.mem_erase_iff).1 hx
        have := h x h1.2
        have := h1.1
        omega)
      simp only [List.length_cons] at hl
      omega
    · have := pigR n r hd (fun x hx => by
        have := h x hx
        have : x ≠ n := by rintro rfl; exact hn hx
        omega)
      omega
theorem perm_rangeR : ∀ (n : Nat) (r : List Nat), r.Nodup → (∀ x ∈ r, x < n) → r.length = n → r.Perm (List.range n)
  | 0, r, _, _, hl => by rw [List.length_eq_zero_iff.1 hl]; exact .nil
  | n + 1, r, hd, h, hl => by
    by_cases hn : n ∈ r
    · have hp := List.perm_cons_erase hn
      have hl2 := hp.length_eq
      simp only [List.length_cons] at hl2
      have := perm_rangeR n (r.erase n) (hd.erase n) (fun x hx => by
        have h1 := (hd.mem_erase_iff).1 hx
        have := h x h1.2
        have := h1.1
        omega) (by omega)
      rw [List.range_succ]
      exact hp.trans ((this.cons n).trans (List.perm_append_singleton n (List.range n)).symm)
    · have := pigR n r hd (fun x hx => by
        have := h x hx
        have : x ≠ n := by rintro rfl; exact hn hx
        omega)
      omega
theorem perm_of_chk {start : List Int} {l : List Sy} {r : List Nat} (h : chk start l (asI r) = (0, 0)) : r.Perm (List.range l.length) := by
  obtain ⟨hb, hl⟩ := chk_ok.1 h
  exact perm_rangeR _ _ hb.nodup hb.lt hl
theorem Srch.first {start : List Int} {l : List Sy} : Srch start l (List.range l.length) :=
  ⟨List.Perm.refl _, fun r hr => rises_min (List.pairwise_lt_range) (perm_of_chk hr)⟩
theorem Srch.next {start : List Int} {l : List Sy} {o o' : List Nat} (h : Srch start l o) (hn : Nxt o o') (hc : chk start l (asI o) ≠ (0, 0)) : Srch start l o' := by
  refine ⟨hn.perm.trans h.perm, fun r hr hlt => ?_⟩
  have hp := (perm_of_chk hr).trans h.perm.symm
  rcases lx_total (a := r) (b := o) hp.length_eq with c | c | c
  · exact h.less r hr c
  · subst c; exact hc hr
  · exact hn.none r hp c hlt
theorem Srch.none {start : List Int} {l : List Sy} {o : List Nat} (hr : ∀ s ∈ l, minI ≤ s.en) (h : Srch start l o) (hn : ∀ r, r.Perm o → ¬ lx o r) (hc : chk start l (asI o) ≠ (0, 0)) : found start l = none := by
  have hs := found_spec (start := start) hr
  cases hf : found start l with
  | none => rfl
  | some r =>
    rw [hf] at hs
    have hp := (perm_of_chk hs.1).trans h.perm.symm
    rcases lx_total (a := r) (b := o) hp.length_eq with c | c | c
    · exact absurd c (h.less r hs.1)
    · subst c; exact absurd hs.1 hc
    · exact absurd c (hn r hp)
theorem Srch.some {start : List Int} {l : List Sy} {o : List Nat} (hr : ∀ s ∈ l, minI ≤ s.en) (h : Srch start l o) (hc : chk start l (asI o) = (0, 0)) : found start l = some o := by
  have hs := found_spec (start := start) hr
  cases hf : found start l with
  | none => rw [hf] at hs; exact absurd hc (hs o)
  | some r =>
    rw [hf] at hs
    have hp := (perm_of_chk hs.1).trans h.perm.symm
    rcases lx_total (a := r) (b := o) hp.length_eq with c | c | c
    · exact absurd c (h.less r hs.1)
    · rw [c]
    · exact absurd c (hs.2 o hc)
end Go.Proofs.Ytnmlnjljmikmpaa

namespace Go.Proofs.Ytnmlnjljmikmpaa
open Go.RowKit Go.Shelf
set_option linter.unusedVariables false
set_option linter.unusedSimpArgs false
attribute [local go_sem ↓] Go.wp_at_zero Go.wp_at_succ

/-- Two numbers of a list of one's own change places. -/
theorem swap_at {o w : World} {R : List It} {g cap n i j x y : Nat} {os : List Nat} (h : St o (ownI 3 1 (.slice (some ⟨g, 0, none⟩) n cap) n (fl iC (asI os)) :: R) w) (hl : os.length = n) (hx : os[i]? = some x) (hy : os[j]? = some y) (hij : i ≠ j) :
    w.cell? ⟨g, i, none⟩ = some (.int .i64 x) ∧ w.cell? ⟨g, j, none⟩ = some (.int .i64 y) ∧ w.frozen? ⟨g, i, none⟩ = false ∧ (w.setCell ⟨g, i, none⟩ (.int .i64 y)).cell? ⟨g, j, none⟩ = some (.int .i64 y) ∧ (w.setCell ⟨g, i, none⟩ (.int .i64 y)).frozen? ⟨g, j, none⟩ = false ∧
      St o (ownI 3 1 (.slice (some ⟨g, 0, none⟩) n cap) n (fl iC (asI ((os.set i y).set j x))) :: R) ((w.setCell ⟨g, i, none⟩ (.int .i64 y)).setCell ⟨g, j, none⟩ (.int .i64 x)) := by
  have hl0 : (asI os).length = n := by rw [asI_len, hl]
  have hx' : (asI os)[i]? = some (x : Int) := by simp [asI, hx]
  have hy' : (asI os)[j]? = some (y : Int) := by simp [asI, hy]
  have s1 := r_set (f := iC) (k := 1) (fun _ => rfl) h 0 rfl hl0.symm hx' 0 (by omega) (.int .i64 y) (x' := (y : Int)) rfl
  rw [Nat.mul_one, Nat.add_zero] at s1
  have s1' : St o (ownI 3 1 (.slice (some ⟨g, 0, none⟩) n cap) n (fl iC ((asI os).set i (y : Int))) :: R) (w.setCell ⟨g, i, none⟩ (.int .i64 y)) := s1
  have hl2 : n = ((asI os).set i (y : Int)).length := by rw [List.length_set, hl0]
  have hy2 : ((asI os).set i (y : Int))[j]? = some (y : Int) := by rw [List.getElem?_set_ne hij]; exact hy'
  have s2 := r_set (f := iC) (k := 1) (fun _ => rfl) s1' 0 rfl hl2 hy2 0 (by omega) (.int .i64 x) (x' := (x : Int)) rfl
  rw [Nat.mul_one, Nat.add_zero] at s2
  have r := st_rin (f := iC) h 0 rfl hl0.symm (fun _ => rfl)
  have r1 := st_rin (f := iC) s1' 0 rfl hl2 (fun _ => rfl)
  have q0 := r.at (k := 1) (fun _ => rfl) hx' 0 _ rfl
  have q1 := r.at (k := 1) (fun _ => rfl) hy' 0 _ rfl
  have q2 := r1.at (k := 1) (fun _ => rfl) hy2 0 _ rfl
  rw [Nat.mul_one, Nat.add_zero, Nat.zero_add] at q0 q1 q2
  refine ⟨q0, q1, h.ownFrozen 0 rfl _, q2, s1'.ownFrozen 0 rfl _, ?_⟩
  have e : ((asI os).set i (y : Int)).set j (x : Int) = asI ((os.set i y).set j x) := by simp [asI, List.map_set]
  rw [e] at s2
  exact s2

set_option maxRecDepth 100000 in
set_option maxHeartbeats 16000000 in
theorem next_any {o0 w : World} {R : List It} {g cap n : Nat} {o : List Nat} (h : St o0 (ownI 3 1 (.slice (some ⟨g, 0, none⟩) n cap) n (fl iC (asI o)) :: R) w) (hl : o.length = n) (hnd : o.Nodup) (hn : n ≤ 7) :
    Calls Try.prog 39 #[.slice (some ⟨g, 0, none⟩) n cap] w fun e w' => (∃ o', e = .returned (.bool true) ∧ Nxt o o' ∧ St o0 (ownI 3 1 (.slice (some ⟨g, 0, none⟩) n cap) n (fl iC (asI o')) :: R) w') ∨ (e = .returned (.bool false) ∧ (∀ r, r.Perm o → ¬ lx o r) ∧ St o0 (ownI 3 1 (.slice (some ⟨g, 0, none⟩) n cap) n (fl iC (asI o)) :: R) w') := by
  have HS0 := hid h
  have HL := hid hl
  have HND := hid hnd
  have hn1 : (n : Int) ≤ 7 := by omega
  by_cases h0 : n = 0
  · subst h0
    have ho : o = [] := List.length_eq_zero_iff.1 hl
    subst ho
    clear h hl hnd
    go_enter Try.func39, Try.ntmps39
    go_upto_region 2 with fail
    go_loopw [3] (fun i wr => i = .int .i64 (-2) ∧ St o0 (ownI 3 1 (.slice (some ⟨g, 0, none⟩) 0 cap) 0 (fl iC (asI [])) :: R) wr) (fun i _ => 0)
    case atStart => exact ⟨rfl, HS0.out⟩
    case round =>
      obtain ⟨rfl, hst⟩ := hrel
      have HST := hid (hst.calm (Kept.refl _ wr).drew)
      clear hst
      go_upto_region 2 with fail
      go_region
      go_wp2
      go_ret
      exact .inr ⟨rfl, fun r hr => falls_max .nil hr, HST.out⟩
  · have hn0 : (1 : Int) ≤ (n : Int) := by omega
    have HN0 : Hid (1 ≤ n) := hid (by omega)
    clear h hl hnd h0
    go_enter Try.func39, Try.ntmps39
    go_upto_region 2 with fail
    go_loopw [3] (fun i wr => ∃ q : Nat, i = .int .i64 ((q : Int) - 1) ∧ q < n ∧ (o.drop q).Pairwise (fun a b => b < a) ∧ St o0 (ownI 3 1 (.slice (some ⟨g, 0, none⟩) n cap) n (fl iC (asI o)) :: R) wr) (fun i _ => (intOf i + 1).toNat)
    case atStart => exact ⟨n - 1, by simp; have := HN0.out; omega, by have := HN0.out; omega, fall_one (by have := HL.out; omega), HS0.out⟩
    case round =>
      clear HS0
      obtain ⟨q, rfl, hq, hf, hst⟩ := hrel
      by_cases hq0 : q = 0
      · subst hq0
        have HF := hid hf
        have HST := hid (hst.calm (Kept.refl _ wr).drew)
        clear hf hst
        rw [show ((0 : Nat) : Int) - 1 = -1 by omega]
        go_upto_region 2 with fail
        go_region
        go_wp2
        go_ret
        exact .inr ⟨rfl, fun r hr => falls_max (by simpa using HF.out) hr, HST.out⟩
      · obtain ⟨p, rfl⟩ : ∃ p, q = p + 1 := ⟨q - 1, by omega⟩
        have e1 : ((p + 1 : Nat) : Int) - 1 = (p : Int) := by omega
        rw [e1]
        have hp0 : (0 : Int) ≤ (p : Int) := by omega
        have hp1 : (p : Int) < (n : Int) := by omega
        have hp2 : (p : Int) + 1 < (n : Int) := by omega
        have hp3 : (0 : Int) ≤ (p : Int) + 1 := by omega
        have hp4 : (p : Int) ≤ 7 := by omega
        have hp5 : ((p : Int) + 1).toNat = p + 1 := by omega
        obtain ⟨x, hx⟩ : ∃ x, o[p]? = some x := ⟨_, List.getElem?_eq_getElem (by have := HL.out; omega)⟩
        obtain ⟨y, hy⟩ : ∃ y, o[p + 1]? = some y := ⟨_, List.getElem?_eq_getElem (by have := HL.out; omega)⟩
        have rr := st_rin (f := iC) hst 0 rfl (show n = (asI o).length by rw [asI_len, HL.out]) (fun _ => rfl)
        have q0 := (rr.kept (Kept.refl _ wr).drew).at (k := 1) (fun _ => rfl) (j := p) (x := (x : Int)) (by simp [asI, hx]) 0 _ rfl
        have q1 := (rr.kept (Kept.refl _ wr).drew).at (k := 1) (fun _ => rfl) (j := p + 1) (x := (y : Int)) (by simp [asI, hy]) 0 _ rfl
        have q2 := (rr.kept (Kept.refl _ wr).drew.drew).at (k := 1) (fun _ => rfl) (j := p) (x := (x : Int)) (by simp [asI, hx]) 0 _ rfl
        have q3 := (rr.kept (Kept.refl _ wr).drew.drew).at (k := 1) (fun _ => rfl) (j := p + 1) (x := (y : Int)) (by simp [asI, hy]) 0 _ rfl
        rw [Nat.mul_one, Nat.add_zero, Nat.zero_add] at q0 q1 q2 q3
        have HX := hid hx
        have HY := hid hy
        have HF := hid hf
        have HST := hid (hst.calm (Kept.refl _ wr).drew)
        have HQ := hid hq
        clear hx hy hf hst hq
        by_cases hxy : y < x
        · have t0 : decide ((y : Int) < (x : Int)) = true := by simp; omega
          have t0n : decide (y < x) = true := by simpa using hxy
          have HF2 := hid (fall_step HF.out HX.out HY.out hxy)
          clear hxy
          go_upto_region 2 with fail
          go_region
          go_wp2
          go_roundw
          case rel => exact ⟨p, by simp, by have := HQ.out; omega, HF2.out, HST.out⟩
          case measure => simp [intOf]
        · have t0 : decide ((y : Int) < (x : Int)) = false := by simp; omega
          have t0n : decide (y < x) = false := by simpa using hxy
          have hxy' : x < y := by
            have : x ≠ y := by
              rintro rfl
              have := (List.getElem?_inj (by have := HL.out; have := HQ.out; omega) HND.out).1 (HX.out.trans HY.out.symm)
              omega
            omega
          have HXY := hid hxy'
          clear hxy hxy'
          go_upto_region 2 with fail
          go_region
          clear q0 q1 q2 q3
          go_upto_region 7 with fail
          have HQ1 : Hid (p + 1 < n) := hid HQ.out
          go_loopw [4] (fun i wr => ∃ j : Nat, i = .int .i64 j ∧ p < j ∧ j < n ∧ (∀ k z, j < k → o[k]? = some z → z < x) ∧ St o0 (ownI 3 1 (.slice (some ⟨g, 0, none⟩) n cap) n (fl iC (asI o)) :: R) wr) (fun i _ => (intOf i).toNat)
          case atStart => exact ⟨n - 1, by simp; have := HN0.out; omega, by have := HQ1.out; omega, by have := HN0.out; omega, fun k z hk hz => (by have := (List.getElem?_eq_some_iff.1 hz).1; have := HL.out; omega), HST.out⟩
          case round =>
            clear HST HQ
            obtain ⟨j, rfl, hpj, hjn, hgt, hst⟩ := hrel
            have hj0 : (0 : Int) ≤ (j : Int) := by omega
            have hj1 : (j : Int) < (n : Int) := by omega
            have hj4 : (j : Int) ≤ 7 := by omega
            obtain ⟨z, hz⟩ : ∃ z, o[j]? = some z := ⟨_, List.getElem?_eq_getElem (by have := HL.out; omega)⟩
            have rr := st_rin (f := iC) hst 0 rfl (show n = (asI o).length by rw [asI_len, HL.out]) (fun _ => rfl)
            have q0 := (rr.kept (Kept.refl _ wr).drew).at (k := 1) (fun _ => rfl) (j := p) (x := (x : Int)) (by simp [asI, HX.out]) 0 _ rfl
            have q1 := (rr.kept (Kept.refl _ wr).drew).at (k := 1) (fun _ => rfl) (j := j) (x := (z : Int)) (by simp [asI, hz]) 0 _ rfl
            rw [Nat.mul_one, Nat.add_zero, Nat.zero_add] at q0 q1
            have q2 := (rr.kept (Kept.refl _ wr).drew.drew).at (k := 1) (fun _ => rfl) (j := p) (x := (x : Int)) (by simp [asI, HX.out]) 0 _ rfl
            have q3 := (rr.kept (Kept.refl _ wr).drew.drew).at (k := 1) (fun _ => rfl) (j := j) (x := (z : Int)) (by simp [asI, hz]) 0 _ rfl
            rw [Nat.mul_one, Nat.add_zero, Nat.zero_add] at q2 q3
            have HZ := hid hz
            have HG := hid hgt
            have HST := hid (hst.calm (Kept.refl _ wr).drew)
            have HSU := hid hst
            have HJ : Hid (p < j ∧ j < n) := hid ⟨hpj, hjn⟩
            clear hz hgt hst hpj hjn
            by_cases hzx : z < x
            · have t1 : decide ((z : Int) < (x : Int)) = true := by simp; omega
              have t1n : decide (z < x) = true := by simpa using hzx
              have HG2 : Hid (p < j - 1 ∧ ∀ k u, j - 1 < k → o[k]? = some u → u < x) := hid ⟨by
                have := HJ.out
                have : j ≠ p + 1 := by
                  rintro rfl
                  have := HY.out.symm.trans HZ.out
                  have := HXY.out
                  simp only [Option.some.injEq] at *
                  omega
                omega, fun k u hk hu => by
                by_cases hkj : k = j
                · subst hkj
                  have := HZ.out.symm.trans hu
                  simp only [Option.some.injEq] at this
                  omega
                · exact HG.out k u (by omega) hu⟩
              clear hzx
              go_upto_region 7 with fail
              go_region
              go_wp2
              go_roundw
              case rel => exact ⟨j - 1, by simp; have := HJ.out; omega, HG2.out.1, by have := HJ.out; omega, HG2.out.2, HST.out⟩
              case measure => have := HJ.out; simp [intOf]; omega
            · have t1 : decide ((z : Int) < (x : Int)) = false := by simp; omega
              have t1n : decide (z < x) = false := by simpa using hzx
              have HXZ : Hid (x < z) := hid (by
                have : x ≠ z := by
                  rintro rfl
                  have := (List.getElem?_inj (by have := HL.out; have := HJ.out; omega) HND.out).1 (HX.out.trans HZ.out.symm)
                  have := HJ.out
                  omega
                omega)
              clear hzx
              go_upto_region 7 with fail
              go_region
              clear q0 q1 q2 q3
              go_upto_region 9 with fail
              have hp0' : (0 : Int) ≤ (p : Int) := by omega
              obtain ⟨k1, k2, f1, k3, f2, hs7⟩ := swap_at (i := p) (j := j) HSU.out HL.out HX.out HZ.out (by have := HJ.out; omega)
              have HS7 := hid hs7
              clear hs7
              go_region
              clear k1 k2 f1 k3 f2
              have HS7 := hid HS7.out.drew.drew
              generalize ho1 : (o.set p z).set j x = o1 at *
              have hl1 : o1.length = n := by rw [← ho1]; simp only [List.length_set]; exact HL.out
              have HL1 := hid hl1
              have HFIN : Hid (∀ m, n ≤ p + 1 + m + 1 + m → Nxt o (turn o1 p m)) := hid (fun m hm => by rw [← ho1]; exact nxt_of HND.out HX.out HZ.out HJ.out.1 HF.out HXZ.out HG.out (by rw [HL.out]; exact hm))
              clear HST ho1 hl1
              go_upto_region 11 with fail
              go_loopw [5, 6] (fun a b wr => ∃ m : Nat, a = .int .i64 ((p + 1 + m : Nat) : Int) ∧ b = .int .i64 ((n : Int) - 1 - m) ∧ m ≤ n ∧ St o0 (ownI 3 1 (.slice (some ⟨g, 0, none⟩) n cap) n (fl iC (asI (turn o1 p m))) :: R) wr) (fun a _ _ => n - (intOf a).toNat)
              case atStart => exact ⟨0, by simp, by simp, Nat.zero_le _, by rw [turn_zero]; exact HS7.out⟩
              case round =>
                clear HS7
                obtain ⟨m, rfl, rfl, hm, hst⟩ := hrel
                by_cases hab : p + 1 + m < n - 1 - m
                · obtain ⟨b, hb⟩ : ∃ b : Nat, b + 1 + m = n := ⟨n - 1 - m, by omega⟩
                  have eb : (n : Int) - 1 - m = (b : Int) := by omega
                  rw [eb]
                  obtain ⟨a, ha⟩ : ∃ a : Nat, a = p + 1 + m := ⟨_, rfl⟩
                  rw [← ha]
                  have hab' : a < b := by omega
                  have t2 : decide ((a : Int) < (b : Int)) = true := by simp; omega
                  have t2n : decide (a < b) = true := by simpa using hab'
                  have hbn : b < n := by omega
                  have ha0 : (0 : Int) ≤ (a : Int) := by omega
                  have ha1 : (a : Int) < (n : Int) := by omega
                  have hb0 : (0 : Int) ≤ (b : Int) := by omega
                  have hb1 : (b : Int) < (n : Int) := by omega
                  have hbi : (b : Int) ≤ 7 := by omega
                  have hai : (a : Int) ≤ 7 := by omega
                  have hL1 := HL1.out
                  have a1 : (turn o1 p m)[a]? = some (o1.getD a 0) := by rw [turn_at (by omega), if_neg (by omega)]
                  have b1 : (turn o1 p m)[b]? = some (o1.getD b 0) := by rw [turn_at (by omega), if_neg (by omega)]
                  obtain ⟨k1, k2, f1, k3, f2, hs8⟩ := swap_at (i := a) (j := b) hst (by rw [turn_len]; omega) a1 b1 (by omega)
                  rw [turn_step ha (by omega) hab'] at hs8
                  have HS8 := hid hs8.drew
                  have HM : Hid (a + 1 = p + 1 + (m + 1) ∧ (b : Int) - 1 = (n : Int) - 1 - (m + 1 : Nat) ∧ m + 1 ≤ n ∧ a < n) := hid ⟨by omega, by omega, by omega, by omega⟩
                  clear hs8 hst a1 b1 hm hab hab' hL1 hb ha eb hbn
                  generalize o1.getD a 0 = xa at *
                  generalize o1.getD b 0 = xb at *
                  go_upto_region 13 with fail
                  go_region
                  clear k1 k2 f1 k3 f2
                  go_wp2
                  go_roundw
                  case rel => exact ⟨m + 1, by rw [← HM.out.1]; simp, by rw [← HM.out.2.1], HM.out.2.2.1, HS8.out⟩
                  case measure => have := HM.out.2.2.2; simp [intOf]; omega
                · have HE := hid (HFIN.out m (by omega))
                  have HST := hid hst
                  have hAB : ¬ ((p + 1 + m : Nat) : Int) < (n : Int) - 1 - m := by omega
                  generalize ((p + 1 + m : Nat) : Int) = A at *
                  generalize (n : Int) - 1 - m = B at *
                  have t2 : decide (A < B) = false := by simpa using hAB
                  clear hab hst hm hAB
                  go_wp2
                  go_ret
                  exact .inl ⟨_, rfl, HE.out, HST.out⟩
end Go.Proofs.Ytnmlnjljmikmpaa

namespace Go.Proofs.Ytnmlnjljmikmpaa
open Go.RowKit Go.Shelf
set_option linter.unusedVariables false
set_option linter.unusedSimpArgs false
attribute [local go_sem ↓] Go.wp_at_zero Go.wp_at_succ

theorem chk_onceN {start : List Int} {l : List Sy} {o : List Int} {b : Int} (h : chk start l o = (0, b)) : chk start l o = (0, 0) ∧ ∃ o', o = asI o' := by
  unfold chk at h ⊢
  split at h
  · rename_i he
    split at h
    · simp at h
    · rename_i ht
      split at h
      · simp at h
      · rename_i hr
        refine ⟨?_, o.map Int.toNat, ?_⟩
        · rw [if_pos he]
        · unfold asI
          rw [List.map_map]
          refine (List.map_id o).symm.trans (List.map_congr_left fun x hx => ?_)
          have := he.2.1 x hx
          simp only [id, Function.comp]
          omega
  · simp at h
/-- An order as it stands in memory. -/
def rdO (w : World) (g n : Nat) : List Nat := (List.range n).map fun i => (intOf ((w.cell? ⟨g, i, none⟩).getD (.int .i64 0))).toNat
theorem rdO_eq {o0 w : World} {R : List It} {g cap n : Nat} {o : List Nat} (h : St o0 (ownI 3 1 (.slice (some ⟨g, 0, none⟩) n cap) n (fl iC (asI o)) :: R) w) (hl : o.length = n) : rdO w g n = o := by
  have r := st_rin (f := iC) h 0 rfl (show n = (asI o).length by rw [asI_len, hl]) (fun _ => rfl)
  refine List.ext_getElem? fun k => ?_
  by_cases hk : k < n
  · obtain ⟨x, hx⟩ : ∃ x, o[k]? = some x := ⟨_, List.getElem?_eq_getElem (by omega)⟩
    have q := r.at (k := 1) (fun _ => rfl) (j := k) (x := (x : Int)) (by simp [asI, hx]) 0 _ rfl
    rw [Nat.mul_one, Nat.add_zero, Nat.zero_add] at q
    rw [hx]
    simp [rdO, List.getElem?_range hk, q, intOf]
  · rw [List.getElem?_eq_none (by simp [rdO]; omega), List.getElem?_eq_none (by omega)]

set_option maxRecDepth 100000 in
set_option maxHeartbeats 16000000 in
theorem rSearch_any {w : World} {sa la : Option Addr} {sn sc n lc : Nat} {start : List Int} {L : List Sm} (hs : RIn iC w sa sn start) (hl : LIn w la n L) (hn : n ≤ 1466015503701) (hsn : (sn : Int) ≤ 9223372036854775806) (hR : ∀ m ∈ L, RngS m.s) (hB : n ≤ 7 → ∀ m ∈ L, m.s.ms.length ≤ 300) :
    Calls Try.prog 17 #[.slice sa sn sc, .slice la n lc] w fun e w' => ∃ oa oc, e = .returned (.tuple #[.slice oa (srchM start (smS L)).1.length oc, .bool (srchM start (smS L)).2.1, .int .i64 (srchM start (smS L)).2.2]) ∧ RIn iC w' oa (srchM start (smS L)).1.length (asI (srchM start (smS L)).1) ∧ Kept (fun _ => False) w w' := by
  have hll : (smS L).length = n := by rw [smS, List.length_map]; exact hl.1.1.symm
  by_cases h7 : n ≤ 7
  · have hr2 : ∀ s ∈ smS L, minI ≤ s.en := fun s h => by
      obtain ⟨m, hm, rfl⟩ := List.mem_map.1 h
      exact (hR m hm).1
    have hBm := hB h7
    have hsr : srchM start (smS L) = match found start (smS L) with | some r => (r, true, 0) | none => ([], false, 0) := by unfold srchM; rw [if_neg (by omega)]; cases found start (smS L) <;> rfl
    have HCK := hid (fun W (va : Option Addr) (vc : Nat) (o : List Nat) (kk : Kept (fun _ => False) w W) (h : RIn iC W va n (asI o)) (hol : o.length = n) => (rCheck_any (w := W) (sc := sc) (lc := lc) (oc := vc) (hs.kept kk) (hl.kept kk) h hn (by omega) (by omega) hR (fun j => by
      have h1 := sumW_few hBm (asI o) j
      rw [asI_len, hol] at h1
      have : n * 300 ≤ 7 * 300 := Nat.mul_le_mul_right _ h7
      omega)))
    have hfirst : Srch start (smS L) (List.range n) := by rw [← hll]; exact Srch.first
    have hm1 := r_make Try.rowI 0 (by intro i z0 h1 h2; rw [zero_of Try.infoI i z0 h1 h2]; rfl) n n rfl (by omega) w
    have s1 := r_new (f := iC) (k := 1) (fun _ => rfl) 3 (St.nil w) (List.replicate n 0) (by simp only [List.length_replicate]; unfold maxLen; omega)
    simp only [lstR, List.length_replicate] at s1
    generalize hw1 : w.alloc (.cells (fl iC (List.replicate n 0)).toArray 3) = w1 at *
    generalize w.heap.size = G at *
    have HS1 := hid s1
    have HR2 := hid hr2
    have HLL := hid hll
    have HF := hid hfirst
    have HSR := hid hsr
    have hn1 : (n : Int) ≤ 7 := by omega
    have t7 : decide ((7 : Int) < (n : Int)) = false := by simp; omega
    clear s1 hs hl hn hsn hR hB hBm hw1 hr2 hll hfirst hsr
    go_enter Try.func17, Try.ntmps17
    go_upto_region 5 with (first | simp only [hm1])
    clear hm1
    go_loopw [8] (fun i wr => ∃ j : Nat, i = .int .i64 j ∧ j ≤ n ∧ St w [ownI 3 1 (.slice (some ⟨G, 0, none⟩) n n) n (fl iC (part (fun i : Nat => (i : Int)) 0 n j))] wr) (fun i _ => n - (intOf i).toNat)
    case atStart => exact ⟨0, rfl, Nat.zero_le _, by rw [part_zero (fun i : Nat => (i : Int))]; exact HS1.out⟩
    case round =>
      clear HS1
      obtain ⟨j, rfl, hj, hst⟩ := hrel
      by_cases hlt : j < n
      · have hlt' : (j : Int) < (n : Int) := by omega
        have hj0 : (0 : Int) ≤ (j : Int) := by omega
        have hxo := part_at (F := fun i : Nat => (i : Int)) (z := (0 : Int)) hlt
        have e2 := fl_at (f := iC) (k := 1) (fun _ => rfl) _ j 0 0 (by omega) hxo
        rw [Nat.mul_one, Nat.add_zero] at e2
        have d0 := (hst.ownCell 0 rfl j (by omega)).trans e2
        have f0 := hst.ownFrozen 0 rfl j
        have s2 := r_set (f := iC) (k := 1) (fun _ => rfl) hst 0 rfl (part_len hj).symm hxo 0 (by omega) (.int .i64 j) (x' := (j : Int)) rfl
        rw [part_set (F := fun i : Nat => (i : Int)) hlt, Nat.mul_one, Nat.add_zero] at s2
        have HS2 := hid s2
        have HJ : Hid (j + 1 ≤ n ∧ n - (j + 1) < n - j) := hid ⟨by omega, by omega⟩
        clear e2 s2 hxo hst hlt hj
        go_wp2
        go_roundw
        case rel => exact ⟨j + 1, by simp, HJ.out.1, HS2.out⟩
        case measure => have := HJ.out.2; simp [intOf]; omega
      · have hlt' : ¬ (j : Int) < (n : Int) := by omega
        obtain rfl : n = j := by omega
        rw [part_all (fun i : Nat => (i : Int))] at hst
        have HST := hid hst
        clear hst hlt hj
        go_upto_region 8 with fail
        go_loopw [9] (fun _ wr => ∃ o : List Nat, Srch start (smS L) o ∧ o.length = n ∧ St w [ownI 3 1 (.slice (some ⟨G, 0, none⟩) n n) n (fl iC (asI o))] wr) (fun _ wr => 8 ^ n - rank (rdO wr G n))
        case atStart => exact ⟨_, HF.out, by simp, HST.out⟩
        case round =>
          clear HST HF
          obtain ⟨o, hsr, hol, hst⟩ := hrel
          have hrd := rdO_eq hst hol
          have ho8 : ∀ x ∈ o, x < 8 := fun x hx => by
            have := hsr.perm.mem_iff.1 hx
            rw [HLL.out, List.mem_range] at this
            omega
          have hnd : o.Nodup := hsr.perm.nodup_iff.2 List.nodup_range
          have hC := HCK.out wr (some ⟨G, 0, none⟩) n o hst.same (st_rin (f := iC) hst 0 rfl (show n = (asI o).length by rw [asI_len, hol]) (fun _ => rfl)) hol
          obtain ⟨ca, cb, hc⟩ : ∃ a b, chk start (smS L) (asI o) = (a, b) := ⟨_, _, rfl⟩
          rw [hc] at hC
          simp only at hC
          have HS := hid hst
          have HO := hid hsr
          have HOL := hid hol
          have HND := hid hnd
          have HC := hid hc
          have H8 := hid ho8
          rw [hrd]
          clear hst hsr hol hrd hnd hc ho8
          by_cases h0 : ca = 0
          · subst h0
            have hc0 := (chk_onceN HC.out).1
            have HFO := hid (HO.out.some HR2.out hc0)
            have HSM : Hid (srchM start (smS L) = (o, true, 0)) := hid (by rw [HSR.out, HFO.out])
            go_wp2_with (go_at_call 14; refine hC.mono ?_; rintro e w2 ⟨rfl, hk2⟩; have HST := hid (HS.out.calm hk2); clear hk2)
            go_ret3
            have r := st_rin (f := iC) HST.out 0 rfl (show n = (asI o).length by rw [asI_len, HOL.out]) (fun _ => rfl)
            refine ⟨some ⟨G, 0, none⟩, n, by rw [HSM.out, HOL.out]; rfl, ?_, HST.out.same⟩
            rw [HSM.out, HOL.out]
            exact r
          · have t0 : (ca == 0) = false := by simpa using h0
            have HCN : Hid (chk start (smS L) (asI o) ≠ (0, 0)) := hid (by rw [HC.out]; simp [h0])
            have HN := hid (fun W (h : St w [ownI 3 1 (.slice (some ⟨G, 0, none⟩) n n) n (fl iC (asI o))] W) => next_any (R := []) h HOL.out HND.out (by omega))
            go_upto_region 9 with (go_at_call 14; refine hC.mono ?_; rintro e w2 ⟨rfl, hk2⟩; have hN := HN.out w2 (HS.out.calm hk2); clear hk2)
            clear hC
            go_upto_region 12 with (go_at_call 39; refine hN.mono ?_; rintro e w3 (⟨o', rfl, hnx, hst⟩ | ⟨rfl, hno, hst⟩))
            · have HNX := hid (HO.out.next hnx HCN.out)
              have HL2 : Hid (o'.length = n) := hid (by have := hnx.perm.length_eq; have := HOL.out; omega)
              have HM : Hid (8 ^ n - rank o' < 8 ^ n - rank o) := hid (by
                have ho8' : ∀ x ∈ o', x < 8 := fun x hx => H8.out x (hnx.perm.mem_iff.1 hx)
                have h1 := rank_lx (by have := HOL.out; have := HL2.out; omega) H8.out ho8' hnx.up
                have h2 := rank_lt ho8'
                rw [HL2.out] at h2
                omega)
              have HST := hid hst
              clear hst hnx
              go_wp2
              go_roundw
              case rel => exact ⟨o', HNX.out, HL2.out, HST.out⟩
              case measure => rw [rdO_eq HST.out HL2.out]; exact HM.out
            · have HSM : Hid (srchM start (smS L) = ([], false, 0)) := hid (by rw [HSR.out, HO.out.none HR2.out hno HCN.out])
              have HST := hid hst
              clear hst hno
              go_wp2
              go_ret3
              refine ⟨none, 0, by rw [HSM.out]; rfl, ?_, HST.out.same⟩
              rw [HSM.out]
              exact RIn.nil _ _
  · have t7 : decide ((7 : Int) < (n : Int)) = true := by simp; omega
    have hsr : srchM start (smS L) = ([], false, 223) := by unfold srchM; rw [if_pos (by omega)]
    have hn1 : (n : Int) ≤ 1466015503701 := by omega
    rw [hsr]
    clear hs hl hn hsn hR hB hsr hll h7
    go_enter Try.func17, Try.ntmps17
    go_wp2
    go_ret3
    exact ⟨none, 0, rfl, RIn.nil _ _, Kept.refl _ _⟩
end Go.Proofs.Ytnmlnjljmikmpaa

namespace Go.Proofs.Ytnmlnjljmikmpaa
open Go.RowKit Go.Shelf
set_option linter.unusedVariables false
set_option linter.unusedSimpArgs false
attribute [local go_sem ↓] Go.wp_at_zero Go.wp_at_succ

set_option maxRecDepth 100000 in
set_option maxHeartbeats 4000000 in
/-- If the law's long says no, each story has at most 300 moves. -/
theorem long2_any {w : World} {la : Option Addr} {n lc : Nat} {L : List Sm} (hl : LIn w la n L) (hn : n ≤ 1466015503701) : Calls Try.prog 15 #[.slice la n lc] w fun e w' => (e = .returned (.bool true) ∧ Kept (fun _ => False) w w') ∨ (e = .returned (.bool false) ∧ (∀ m ∈ L, m.s.ms.length ≤ 300) ∧ Kept (fun _ => False) w w') := by
  have HL := hid hl
  have HLN : Hid (n = L.length) := hid hl.1.1
  have hn1 : (n : Int) ≤ 1466015503701 := by omega
  clear hl hn
  go_enter Try.func15, Try.ntmps15
  go_upto_region 3 with fail
  go_loopw [3, 4] (fun s i wr => ∃ (j : Nat) (t : Int), i = .int .i64 j ∧ s = .int .i64 t ∧ j ≤ n ∧ 0 ≤ t ∧ t ≤ 300 ∧ (∀ m ∈ L.take j, (m.s.ms.length : Int) ≤ t) ∧ Kept (fun _ => False) w wr) (fun _ i _ => n - (intOf i).toNat)
  case atStart => exact ⟨0, 0, rfl, rfl, Nat.zero_le _, by omega, by omega, fun m hm => by simp at hm, Kept.refl _ _⟩
  case round =>
    obtain ⟨j, t, rfl, rfl, hj, ht0, ht1, hall, hk⟩ := hrel
    by_cases hlt : j < n
    · have hlt' : (j : Int) < (n : Int) := by omega
      have hj0 : (0 : Int) ≤ (j : Int) := by omega
      obtain ⟨g, off, rfl⟩ := HL.out.1.addr (by omega)
      obtain ⟨m, hx⟩ : ∃ x, L[j]? = some x := ⟨_, List.getElem?_eq_getElem (by have := HLN.out; omega)⟩
      have hSM := HL.out.2 m (List.mem_of_getElem? hx)
      have hml := hSM.2.1
      have hA2 : ∀ m' ∈ L.take (j + 1), (m'.s.ms.length : Int) ≤ t + (m.s.ms.length : Int) := by
        intro m' hm'
        rw [List.take_add_one, hx] at hm'
        rcases List.mem_append.1 hm' with h | h
        · have := hall m' h
          omega
        · simp at h
          subst h
          omega
      have HA2 := hid hA2
      obtain ⟨⟨z0, z1, z2, z3, z4, z5, z6, z7, z8, ms⟩, ma, mc⟩ := m
      simp only at hml HA2
      obtain ⟨a0, a1, a2, a3, a4, a5, a6, a7, a8, a9⟩ := story_cells HL.out hk hx
      have HJ : Hid (j + 1 ≤ n ∧ n - (j + 1) < n - j) := hid ⟨by omega, by omega⟩
      have HK := hid hk
      have hml2 : (ms.length : Int) ≤ 2932031007317 := by omega
      clear hx hSM hk hj hlt hall hA2
      by_cases h3 : 300 < t + (ms.length : Int)
      · have t3 : decide (300 < t + (ms.length : Int)) = true := by simpa using h3
        go_wp2
        go_ret
        exact .inl ⟨rfl, HK.out⟩
      · have t3 : decide (300 < t + (ms.length : Int)) = false := by simpa using h3
        have HT : Hid (0 ≤ t + (ms.length : Int) ∧ t + (ms.length : Int) ≤ 300) := hid ⟨by omega, by omega⟩
        clear h3
        go_wp2
        go_roundw
        case rel => exact ⟨j + 1, _, by simp, rfl, HJ.out.1, HT.out.1, HT.out.2, HA2.out, HK.out⟩
        case measure => have := HJ.out.2; simp [intOf]; omega
    · have hlt' : ¬ (j : Int) < (n : Int) := by omega
      have HK := hid hk
      have HR : Hid (∀ m ∈ L, m.s.ms.length ≤ 300) := hid (fun m hm => by
        rw [List.take_of_length_le (by have := HLN.out; omega)] at hall
        have := hall m hm
        omega)
      clear hk hj hlt hall
      go_wp2
      go_ret
      exact .inr ⟨rfl, HR.out, HK.out⟩

set_option maxRecDepth 100000 in
set_option maxHeartbeats 8000000 in
theorem searches_walk {w : World} {sa la : Option Addr} {sn sc n lc : Nat} {start : List Int} {L : List Sm} (hs : RIn iC w sa sn start) (hl : LIn w la n L) (hn : n ≤ 1466015503701) (hsn : (sn : Int) ≤ 9223372036854775806) (hR : ∀ m ∈ L, RngS m.s) :
    Calls Try.prog 6 #[.slice sa sn sc, .slice la n lc] w fun e w' => e = .returned (.bool true) ∧ Kept (fun _ => False) w w' := by
  have hup := up_any w
  have HG := hid (fun W (kk : Kept (fun _ => False) w W) => (long2_any (w := W) (lc := lc) (hl.kept kk) hn))
  have HA := hid (fun W (kk : Kept (fun _ => False) w W) => (search_in (w := W) (sc := sc) (lc := lc) (hs.kept kk) (hl.kept kk) hn (by omega)))
  have HB := hid (fun W (kk : Kept (fun _ => False) w W) (hb : n ≤ 7 → ∀ m ∈ L, m.s.ms.length ≤ 300) => (rSearch_any (w := W) (sc := sc) (lc := lc) (hs.kept kk) (hl.kept kk) hn hsn hR hb))
  have hn1 : (n : Int) ≤ 1466015503701 := by omega
  have hlen : (srchM start (smS L)).1.length ≤ 7 := by
    unfold srchM
    split
    · exact Nat.zero_le _
    · rename_i h7
      cases hf : found start (smS L) with
      | none => exact Nat.zero_le _
      | some r =>
        have hr2 : ∀ s ∈ smS L, minI ≤ s.en := fun s h => by
          obtain ⟨m, hm, rfl⟩ := List.mem_map.1 h
          exact (hR m hm).1
        have h2 := found_spec (start := start) hr2
        rw [hf] at h2
        have := (chk_ok.1 h2.1).2
        simp only
        omega
  have HLEN := hid hlen
  clear hs hl hn hR hlen
  go_enter Try.func6, Try.ntmps6
  go_upto_region 2 with (go_at_call 9; refine hup.mono ?_; rintro e w1 ⟨rfl, hk1⟩; have hG := HG.out w1 hk1; have HK1 := hid hk1; clear hk1)
  clear hup
  go_upto_region 3 with (go_at_call 15; refine hG.mono ?_; rintro e w2 (⟨rfl, hk2⟩ | ⟨rfl, hb, hk2⟩))
  · clear hG
    have HK2 := hid (HK1.out.trans hk2 (fun _ _ f => f))
    clear hk2
    by_cases h7 : n ≤ 7
    · have t7 : decide ((n : Int) ≤ 7) = true := by simp; omega
      clear h7
      go_wp2
      go_ret
      exact ⟨rfl, HK2.out⟩
    · have t7 : decide ((n : Int) ≤ 7) = false := by simp; omega
      have hA := HA.out w2 HK2.out
      have HB2 := hid (fun W (kk : Kept (fun _ => False) w W) => HB.out W kk (fun h => absurd h h7))
      generalize (srchM start (smS L)).1 = r at *
      generalize (srchM start (smS L)).2.1 = rb at *
      generalize (srchM start (smS L)).2.2 = re at *
      clear h7
      go_upto_region 6 with (go_at_call 16; refine hA.mono ?_; rintro e w4 ⟨oa, oc, rfl, hr, hk⟩; have R4 := hid hr; have K4 := hid (HK2.out.trans hk (fun _ _ f => f)); clear hr hk)
      clear hA
      have hBv := HB2.out w4 K4.out
      go_upto_region 7 with (go_at_call 17; refine hBv.mono ?_; rintro e w5 ⟨ob, od, rfl, hr, hk⟩; have R5 := hid hr; have P5 := hid (R4.out.kept hk); have K5 := hid (K4.out.trans hk (fun _ _ f => f)); clear hr hk)
      clear hBv
      have hS := sameInts_any (lc := oc) (ld := od) P5.out R5.out (by have := HLEN.out; omega) (by have := HLEN.out; omega)
      go_wp2_with (go_at_call 12; refine hS.mono ?_; rintro e w6 ⟨rfl, hk⟩; have K6 := hid (K5.out.trans hk (fun _ _ f => f)); clear hk)
      go_ret
      exact ⟨by simp, K6.out⟩
  · clear hG
    have HK2 := hid (HK1.out.trans hk2 (fun _ _ f => f))
    have HBB := hid hb
    clear hk2 hb
    have hA := HA.out w2 HK2.out
    have HB2 := hid (fun W (kk : Kept (fun _ => False) w W) => HB.out W kk (fun _ => HBB.out))
    generalize (srchM start (smS L)).1 = r at *
    generalize (srchM start (smS L)).2.1 = rb at *
    generalize (srchM start (smS L)).2.2 = re at *
    go_upto_region 6 with (go_at_call 16; refine hA.mono ?_; rintro e w4 ⟨oa, oc, rfl, hr, hk⟩; have R4 := hid hr; have K4 := hid (HK2.out.trans hk (fun _ _ f => f)); clear hr hk)
    clear hA
    have hBv := HB2.out w4 K4.out
    go_upto_region 7 with (go_at_call 17; refine hBv.mono ?_; rintro e w5 ⟨ob, od, rfl, hr, hk⟩; have R5 := hid hr; have P5 := hid (R4.out.kept hk); have K5 := hid (K4.out.trans hk (fun _ _ f => f)); clear hr hk)
    clear hBv
    have hS := sameInts_any (lc := oc) (ld := od) P5.out R5.out (by have := HLEN.out; omega) (by have := HLEN.out; omega)
    go_wp2_with (go_at_call 12; refine hS.mono ?_; rintro e w6 ⟨rfl, hk⟩; have K6 := hid (K5.out.trans hk (fun _ _ f => f)); clear hk)
    go_ret
    exact ⟨by simp, K6.out⟩
end Go.Proofs.Ytnmlnjljmikmpaa
