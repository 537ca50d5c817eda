/- Slots as they lie in a list: eight cells each. All slots, as Now tells them: new memory, a slot's head and words side by side. -/
import Derived.Test.YthbcbjkgjgmegaaGreatSmall
import Derived.Test.YthbcbjkgjgmegaaGreatMod
import Derived.Deep.RegionHeld3
import Derived.Deep.DrawnRows
import Derived.Defers
import Derived.Recover
import Derived.ChangeKeysEq
import Derived.Maps.AppendAt
import Derived.BigQuiet
import Derived.BigRegion
import Derived.Test.YthbcbjkgjgmegaaGreatTabD
import Derived.Laws.CopyRow
namespace Go.Proofs.YthbcbjkgjgmegaaGreat
open Go.RowKit
set_option linter.unusedVariables false
set_option linter.unusedSimpArgs false
attribute [local go_sem ↓] Go.wp_at_zero Go.wp_at_succ

structure Sl where
  gn : Int
  sa : Int
  sp : Int
  th : Int
  dm : Bool
  wy : Int
  wa : Int
  wb : Int
def Sl.zero : Sl := ⟨0, 0, 0, 0, false, 0, 0, 0⟩
def Sl.val (t : Sl) : Value := .agg #[.int .i64 t.gn, .int .i64 t.sa, .int .i64 t.sp, .int .i64 t.th, .bool t.dm, .int .i64 t.wy, .int .u64 t.wa, .int .u64 t.wb]
def Sl.cells (t : Sl) : List Value := [.int .i64 t.gn, .int .i64 t.sa, .int .i64 t.sp, .int .i64 t.th, .bool t.dm, .int .i64 t.wy, .int .u64 t.wa, .int .u64 t.wb]
def Sl.eq (a b : Sl) : Bool := (a.gn == b.gn) && (a.sa == b.sa) && (a.sp == b.sp) && (a.th == b.th) && (a.dm == b.dm) && (a.wy == b.wy) && (a.wa == b.wa) && (a.wb == b.wb)
theorem Sl.eq_iff (a b : Sl) : a.eq b = true ↔ a = b := by
  cases a; cases b; simp [Sl.eq, and_assoc]
theorem Sl.eq_ne {a b : Sl} (h : a ≠ b) : a.eq b = false := by
  cases hb : a.eq b
  · rfl
  · exact absurd ((Sl.eq_iff a b).1 hb) h
def slCells : List Sl → List Value
  | [] => []
  | t :: l => t.cells ++ slCells l
theorem slCells_length (l : List Sl) : (slCells l).length = l.length * 8 := by
  induction l with
  | nil => rfl
  | cons t l ih => simp [slCells, Sl.cells, ih]; omega
theorem slCells_at (l : List Sl) : ∀ k (hk : k < l.length), (slCells l)[k * 8]? = some (.int .i64 l[k].gn) ∧ (slCells l)[k * 8 + 1]? = some (.int .i64 l[k].sa) ∧ (slCells l)[k * 8 + 2]? = some (.int .i64 l[k].sp) ∧ (slCells l)[k * 8 + 3]? = some (.int .i64 l[k].th) ∧ (slCells l)[k * 8 + 4]? = some (.bool l[k].dm) ∧ (slCells l)[k * 8 + 5]? = some (.int .i64 l[k].wy) ∧ (slCells l)[k * 8 + 6]? = some (.int .u64 l[k].wa) ∧ (slCells l)[k * 8 + 7]? = some (.int .u64 l[k].wb) := by
  induction l with
  | nil => intro k hk; simp at hk
  | cons t l ih =>
    intro k hk
    cases k with
    | zero => simp [slCells, Sl.cells]
    | succ k =>
      have := ih k (by simpa using hk)
      have e : ∀ i, (slCells (t :: l))[(k + 1) * 8 + i]? = (slCells l)[k * 8 + i]? := fun i => by
        rw [show (k + 1) * 8 + i = 8 + (k * 8 + i) by omega]
        simp only [slCells]
        rw [List.getElem?_append_right (by simp [Sl.cells])]
        simp [Sl.cells]
      have e0 := e 0
      simp only [Nat.add_zero] at e0
      rw [e0, e 1, e 2, e 3, e 4, e 5, e 6, e 7]
      simpa using this
theorem slCells_set (l : List Sl) (t : Sl) : ∀ k, k < l.length → (((((((((slCells l).set (k * 8) (.int .i64 t.gn)).set (k * 8 + 1) (.int .i64 t.sa)).set (k * 8 + 2) (.int .i64 t.sp)).set (k * 8 + 3) (.int .i64 t.th)).set (k * 8 + 4) (.bool t.dm)).set (k * 8 + 5) (.int .i64 t.wy)).set (k * 8 + 6) (.int .u64 t.wa)).set (k * 8 + 7) (.int .u64 t.wb)) = slCells (l.set k t) := by
  induction l with
  | nil => intro k hk; simp at hk
  | cons u l ih =>
    intro k hk
    cases k with
    | zero => simp [slCells, Sl.cells]
    | succ k =>
      have := ih k (by simpa using hk)
      simp only [slCells, List.set_cons_succ]
      rw [← this, show (k + 1) * 8 = k * 8 + 8 by omega]
      simp only [Sl.cells, List.cons_append, List.nil_append]
      rw [show k * 8 + 8 + 1 = (k * 8 + 1) + 8 by omega, show k * 8 + 8 + 2 = (k * 8 + 2) + 8 by omega, show k * 8 + 8 + 3 = (k * 8 + 3) + 8 by omega, show k * 8 + 8 + 4 = (k * 8 + 4) + 8 by omega, show k * 8 + 8 + 5 = (k * 8 + 5) + 8 by omega, show k * 8 + 8 + 6 = (k * 8 + 6) + 8 by omega, show k * 8 + 8 + 7 = (k * 8 + 7) + 8 by omega]
      simp only [List.set_cons_succ]
theorem slCells_one (l : List Sl) : ∀ u ∈ slCells l, u.oneCell' = true := by
  induction l with
  | nil => intro u h; cases h
  | cons t l ih =>
    intro u h
    simp only [slCells, List.mem_append] at h
    rcases h with h | h
    · simp only [Sl.cells, List.mem_cons, List.not_mem_nil, or_false] at h
      rcases h with h | h | h | h | h | h | h | h <;> subst h <;> rfl
    · exact ih u h
theorem slCells_rep (t : Sl) : ∀ n j, j < n * 8 → (slCells (List.replicate n t))[j]? = t.cells[j % 8]? := by
  intro n
  induction n with
  | zero => intro j hj; omega
  | succ n ih =>
    intro j hj
    simp only [List.replicate_succ, slCells]
    by_cases h : j < 8
    · rw [List.getElem?_append_left (by simpa [Sl.cells] using h), Nat.mod_eq_of_lt h]
    · rw [List.getElem?_append_right (by simp [Sl.cells]; omega)]
      have := ih (j - 8) (by omega)
      simp only [Sl.cells, List.length_cons, List.length_nil] at *
      rw [this]
      congr 1
      omega
theorem made_sl (n : Nat) : madeCells (Value.agg #[.int .i64 0, .int .i64 0, .int .i64 0, .int .i64 0, .bool false, .int .i64 0, .int .u64 0, .int .u64 0]).cells (n * 8) = (slCells (List.replicate n Sl.zero)).toArray := by
  apply Array.ext'
  apply List.ext_getElem?
  intro j
  by_cases hj : j < n * 8
  · rw [List.toList_toArray, slCells_rep Sl.zero n j hj]
    have h3 : j % 8 < 8 := Nat.mod_lt _ (by omega)
    simp only [madeCells, Array.toList_map, List.getElem?_map, Array.toList_range, List.getElem?_range hj, Option.map_some]
    have hc : (Value.agg #[.int .i64 0, .int .i64 0, .int .i64 0, .int .i64 0, .bool false, .int .i64 0, .int .u64 0, .int .u64 0]).cells = #[.int .i64 0, .int .i64 0, .int .i64 0, .int .i64 0, .bool false, .int .i64 0, .int .u64 0, .int .u64 0] := rfl
    rw [hc]
    have : j % 8 = 0 ∨ j % 8 = 1 ∨ j % 8 = 2 ∨ j % 8 = 3 ∨ j % 8 = 4 ∨ j % 8 = 5 ∨ j % 8 = 6 ∨ j % 8 = 7 := by omega
    rcases this with h | h | h | h | h | h | h | h <;> simp [h, Sl.cells, Sl.zero]
  · rw [List.getElem?_eq_none (by simp [size_madeCells]; omega), List.getElem?_eq_none (by simp [slCells_length]; omega)]

theorem Tryz.infoSl : (Tryz.prog.info? 249).map (fun i => (i.zero, i.size, i.bytes)) = some (some (.agg #[.int .i64 0, .int .i64 0, .int .i64 0, .int .i64 0, .bool false, .int .i64 0, .int .u64 0, .int .u64 0]), 8, 64) := by kernel_rfl


/-- A slot: a head and its words. -/
def mkSl (h : Hd) (a b : Int) : Sl := ⟨h.gn, h.sa, h.sp, h.th, h.dm, h.wy, a, b⟩
/-- All slots of a table. -/
def slots : List Hd → List Int → List Sl
  | h :: hs, a :: b :: ws => mkSl h a b :: slots hs ws
  | _, _ => []
theorem slots_length : ∀ (hs : List Hd) (ws : List Int), ws.length = hs.length * 2 → (slots hs ws).length = hs.length
  | [], ws, _ => by cases ws <;> rfl
  | h :: hs, [], e => by simp at e
  | h :: hs, [a], e => by simp at e; omega
  | h :: hs, a :: b :: ws, e => by
    have := slots_length hs ws (by simp at e; omega)
    simp [slots, this]
theorem slots_at : ∀ (hs : List Hd) (ws : List Int) (e : ws.length = hs.length * 2) (k : Nat) (hk : k < hs.length), (slots hs ws)[k]? = some (mkSl hs[k] (ws.getD (k * 2) 0) (ws.getD (k * 2 + 1) 0))
  | [], ws, _, k, hk => by simp at hk
  | h :: hs, [], e, k, hk => by simp at e
  | h :: hs, [a], e, k, hk => by simp at e; omega
  | h :: hs, a :: b :: ws, e, 0, hk => by simp [slots]
  | h :: hs, a :: b :: ws, e, k + 1, hk => by
    have := slots_at hs ws (by simp at e; omega) k (by simpa using hk)
    rw [show (k + 1) * 2 = k * 2 + 2 by omega]
    simp only [slots, List.getElem?_cons_succ, List.getElem_cons_succ, List.getD_cons_succ]
    exact this
theorem slots_zero : ∀ n, slots (List.replicate n Hd.zero) (List.replicate (n * 2) 0) = List.replicate n Sl.zero
  | 0 => rfl
  | n + 1 => by
    rw [show (n + 1) * 2 = n * 2 + 2 by omega]
    simp only [List.replicate_succ, slots, slots_zero n]
    rfl
theorem slots_head (hs : List Hd) (ws : List Int) (e : ws.length = hs.length * 2) (k : Nat) (hk : k < hs.length) (h : Hd) : slots (hs.set k h) ws = (slots hs ws).set k (mkSl h (ws.getD (k * 2) 0) (ws.getD (k * 2 + 1) 0)) := by
  apply List.ext_getElem?
  intro j
  by_cases hj : j < hs.length
  · rw [slots_at _ ws (by simpa using e) j (by simpa using hj), List.getElem?_set]
    by_cases hkj : k = j
    · subst hkj
      simp [slots_length hs ws e, hj]
    · simp [hkj, slots_at hs ws e j hj]
  · rw [List.getElem?_eq_none (by rw [slots_length _ ws (by simpa using e)]; simp; omega), List.getElem?_eq_none (by simp [slots_length hs ws e]; omega)]
theorem getD_set (l : List Int) (a b : Nat) (x : Int) (h : a < l.length) : (l.set a x).getD b 0 = if a = b then x else l.getD b 0 := by
  simp only [List.getD_eq_getElem?_getD, List.getElem?_set]
  by_cases e : a = b
  · subst e; simp [h]
  · simp [e]
theorem slots_word (hs : List Hd) (ws : List Int) (e : ws.length = hs.length * 2) (k : Nat) (hk : k < hs.length) (x : Int) :
    slots hs (ws.set (k * 2) x) = (slots hs ws).set k (mkSl hs[k] x (ws.getD (k * 2 + 1) 0)) ∧ slots hs (ws.set (k * 2 + 1) x) = (slots hs ws).set k (mkSl hs[k] (ws.getD (k * 2) 0) x) := by
  constructor
  all_goals
    apply List.ext_getElem?
    intro j
    by_cases hj : j < hs.length
    · rw [slots_at hs _ (by simpa using e) j hj, List.getElem?_set, getD_set _ _ _ _ (by omega), getD_set _ _ _ _ (by omega)]
      by_cases hkj : k = j
      · subst hkj
        simp [slots_length hs ws e, hj]
        try omega
      · simp [hkj, slots_at hs ws e j hj]
        rw [if_neg (by omega), if_neg (by omega)]
    · rw [List.getElem?_eq_none (by rw [slots_length hs _ (by simpa using e)]; omega), List.getElem?_eq_none (by simp [slots_length hs ws e]; omega)]
end Go.Proofs.YthbcbjkgjgmegaaGreat

namespace Go.Proofs.YthbcbjkgjgmegaaGreat
open Go.RowKit
set_option linter.unusedVariables false
set_option linter.unusedSimpArgs false
attribute [local go_sem ↓] Go.wp_at_zero Go.wp_at_succ

/-- The first i slots told, the others not yet. -/
def told (ss : List Sl) (n i : Nat) : List Sl := ss.take i ++ List.replicate (n - i) Sl.zero
theorem told_length {ss : List Sl} {n i : Nat} (h : ss.length = n) (hi : i ≤ n) : (told ss n i).length = n := by
  simp [told]; omega
theorem told_next {ss : List Sl} {n i : Nat} (h : ss.length = n) (hi : i < n) : (told ss n i).set i (ss[i]'(by omega)) = told ss n (i + 1) := by
  apply List.ext_getElem?
  intro j
  unfold told
  simp only [List.getElem?_set, List.getElem?_append, List.getElem?_take, List.getElem?_replicate, List.length_take, List.length_append, List.length_replicate]
  by_cases h1 : j < i
  · simp [show ¬ i = j by omega, show j < min i ss.length by omega, show j < min (i + 1) ss.length by omega, show j < i + 1 by omega, h1]
  · by_cases h2 : j = i
    · subst h2
      simp [show j < min (j + 1) ss.length by omega, show min j ss.length = j by omega, show j < ss.length by omega]
      omega
    · simp [show ¬ i = j by omega, show ¬ j < min i ss.length by omega, show ¬ j < min (i + 1) ss.length by omega]
      by_cases h3 : j < n
      · rw [if_pos (by omega), if_pos (by omega)]
      · rw [if_neg (by omega), if_neg (by omega)]
theorem told_all {ss : List Sl} {n : Nat} (h : ss.length = n) : told ss n n = ss := by
  subst h; simp [told]
theorem told_none {ss : List Sl} {n : Nat} : told ss n 0 = List.replicate n Sl.zero := by simp [told]
theorem two_set (l : List Value) (p : Nat) (a b : Value) (h : p + 2 ≤ l.length) : l.take p ++ [a, b] ++ l.drop (p + 2) = (l.set p a).set (p + 1) b := by
  apply List.ext_getElem?
  intro j
  simp only [List.getElem?_set, List.getElem?_append, List.getElem?_take, List.getElem?_drop, List.length_set, List.length_take, List.length_append, List.length_cons, List.length_nil]
  by_cases h1 : j < p
  · simp [h1, show j < min p l.length + 2 by omega, show j < min p l.length by omega, show ¬ p + 1 = j by omega, show ¬ p = j by omega]
  · by_cases h2 : j = p
    · subst h2
      simp [show min j l.length = j by omega, show j < l.length by omega]
    · by_cases h3 : j = p + 1
      · subst h3
        simp [show min p l.length = p by omega, show p + 1 < l.length by omega]
        intro hx
        omega
      · simp [show min p l.length = p by omega, show ¬ j < p + 2 by omega, show ¬ p = j by omega, show ¬ p + 1 = j by omega, show p + 2 + (j - (p + 2)) = j by omega]
theorem St.setRow {o w : World} {its : List It} (h : St o its w) (i : Nat) {k : Nat} {cs : Array Value} {t : TypeId} (hi : its[i]? = some (boxI k cs t)) (cs' : Array Value) : St o (its.set i (boxI k cs' t)) (w.setRow k cs') := by
  refine h.set i hi ⟨rfl, rfl, rfl, by simp, fun b hb hne => setRow_other w k b cs' (fun e => hne (by simp [boxI, e]))⟩ (setRow_heap w k cs cs' t (0, 0) (h.get i hi)) (by simp [boxI]) (fun b hb => .inl hb)
theorem St.drop1 {o w : World} {its : List It} {A B : It} (h : St o (A :: B :: its) w) : St o (A :: its) w := by
  refine ⟨?_, fun i hi => h.all i ?_, fun i hi => h.high i ?_, h.kept⟩
  · have := h.nodup
    rw [List.flatMap_cons, List.flatMap_cons, List.nodup_append, List.nodup_append] at this
    obtain ⟨n1, ⟨n2, n3, n4⟩, n5⟩ := this
    rw [List.flatMap_cons, List.nodup_append]
    exact ⟨n1, n3, fun a ha b hb => n5 a ha b (List.mem_append_right _ hb)⟩
  · rcases List.mem_cons.1 hi with rfl | hi
    · simp
    · simp [hi]
  · rcases List.mem_cons.1 hi with rfl | hi
    · simp
    · simp [hi]
theorem box_own {o w : World} {its : List It} {n k : Nat} {t : TypeId} {z : Nat} {xs : List Value} (h : St o (boxI k xs.toArray t :: its) w) (hx : xs.length = n * z) (hn : n ≤ maxLen) : St o (ownI t z (.slice (some ⟨k, 0, none⟩) n n) n xs :: its) w := by
  refine ⟨h.nodup, fun i hi => ?_, fun i hi => ?_, h.kept⟩
  · rcases List.mem_cons.1 hi with rfl | hi
    · exact ⟨hx, .inr ⟨k, n, xs.toArray, rfl, Nat.zero_le _, h.get 0 rfl, Nat.le_refl _, hn, by simpa using hx, by rw [List.toList_toArray, ← hx, List.take_length]⟩⟩
    · exact h.all i (List.mem_cons_of_mem _ hi)
  · rcases List.mem_cons.1 hi with rfl | hi
    · exact h.high (boxI k xs.toArray t) (by simp)
    · exact h.high i (List.mem_cons_of_mem _ hi)

theorem sl_eight (ys : List Sl) (k : Nat) (hk : k < ys.length) (x : Hd) (a b : Int) :
    (((((((((slCells ys).set (k * 8) (.int .i64 x.gn)).set (k * 8 + 1) (.int .i64 x.sa)).set (k * 8 + 2) (.int .i64 x.sp)).set (k * 8 + 3) (.int .i64 x.th)).set (k * 8 + 4) (.bool x.dm)).set (k * 8 + 5) (.int .i64 x.wy)).set (k * 8 + 6) (.int .u64 a)).set (k * 8 + 7) (.int .u64 b)) = slCells (ys.set k (mkSl x a b)) := slCells_set ys (mkSl x a b) k hk

set_option maxRecDepth 100000 in
set_option maxHeartbeats 2000000 in
theorem tabAll_st {o w : World} {its : List It} (h : St o its w) (a b d : Nat) {t r c q f : Nat} {mo : Option Nat} {hs : List Hd} {ws : List Int} (ha : its[a]? = some (tabI t r q)) (hb : its[b]? = some (hdRowI r c mo 3 hs)) (hd : its[d]? = some (wdRowI q f mo 4 ws)) (hl : ws.length = hs.length * 2) (h1 : 1 ≤ hs.length) (h8 : hs.length ≤ 8) :
    Calls Tryz.prog 79 #[.pointer (some ⟨t, 0, none⟩)] w fun e w' => ∃ v', e = .returned v' ∧ St o (ownI 249 8 v' hs.length (slCells (slots hs ws)) :: its) w' := by
  obtain ⟨i0, hi0, hz0, hz1, hz2⟩ := info_parts Tryz.infoSl
  have c1 : w.cell? ⟨t, 1, none⟩ = some (.pointer (some ⟨q, 0, none⟩)) := h.cell a ha 1
  have hW := wdAll_st h d hd
  generalize hn : hs.length = n at *
  have hle : (n : Int) ≤ 8 := by omega
  have hge : (1 : Int) ≤ (n : Int) := by omega
  have hmk : ∀ W : World, (Instr.makeSlice 71 (.int .i64 n) (.int .i64 n)).run Tryz.prog W = .ok (.slice (some ⟨W.heap.size, 0, none⟩) n n) (W.alloc (.cells (slCells (List.replicate n Sl.zero)).toArray 249)) := by
    intro W
    have := run_make (P := Tryz.prog) W 71 249 i0 _ Tryz.underlying71 hi0 hz0 .i64 .i64 n n (by omega) (by omega) (by rw [hz2]; omega) (by omega)
    rw [this, hz1, Int.toNat_natCast, made_sl]
  have hss : (slots hs ws).length = n := by rw [slots_length hs ws (by omega), hn]
  have HL : Hid (ws.length = n * 2) := hl
  have HN : Hid (hs.length = n) := hn
  clear hl hn
  go_enter Tryz.func79, Tryz.ntmps79
  go_wp2_with fail
  refine hW.mono ?_
  rintro e w1 ⟨vw, rfl, hS1⟩
  rw [HL.out] at hS1
  have hlen := tabLen_st hS1 (a + 1) (b + 1) ha hb
  rw [HN.out] at hlen
  clear hW h c1
  go_wp2_with fail
  refine hlen.mono ?_
  rintro e w2 ⟨rfl, rfl⟩
  have hm := hmk w2
  have hS2 := hS1.box (slCells (List.replicate n Sl.zero)).toArray 249
  have c0 : (w2.alloc (.cells (slCells (List.replicate n Sl.zero)).toArray 249)).cell? ⟨t, 0, none⟩ = some (.pointer (some ⟨r, 0, none⟩)) := hS2.cell (a + 2) ha 0
  clear hlen hmk hS1
  go_wp2_with fail
  clear hm
  generalize w2.alloc (.cells (slCells (List.replicate n Sl.zero)).toArray 249) = w3 at *
  generalize w2.heap.size = A at *
  have hH := hdAll_st hS2 (b + 2) hb
  rw [HN.out] at hH
  refine hH.mono ?_
  rintro e w4 ⟨vh, rfl, hS3⟩
  clear hH hS2 c0
  have hown : w4.ownsRow 0 181 6 vh n (hdCells hs) := hS3.get 0 rfl
  obtain ⟨gh, ch, rfl, _, _⟩ := hown.form (by omega)
  have hownw : w4.ownsRow 0 128 1 vw (n * 2) (wdCells ws) := hS3.get 2 rfl
  obtain ⟨gw, cw, rfl, hcw1, hcw2⟩ := hownw.form (by omega)
  clear hown hownw
  have hwc : n * 2 ≤ cw := by
    have hx : w4.ownsRow 0 128 1 (.slice (some ⟨gw, 0, none⟩) (n * 2) cw) (n * 2) (wdCells ws) := hS3.get 2 rfl
    rcases hx.2 with ⟨hv, _⟩ | ⟨g, cap, cur, hv, _, _, hc, _⟩
    · cases hv
    · simp only [Value.slice.injEq] at hv
      omega
  go_wp2_with fail
  go_loopw [21] (fun i wr => ∃ k : Nat, i = .int .i64 k ∧ k ≤ n ∧ St o (ownI 181 6 (.slice (some ⟨gh, 0, none⟩) n ch) n (hdCells hs) :: boxI A (slCells (told (slots hs ws) n k)).toArray 249 :: ownI 128 1 (.slice (some ⟨gw, 0, none⟩) (n * 2) cw) (n * 2) (wdCells ws) :: its) wr) (fun i _ => n - (intOf i).toNat)
  case atStart => exact ⟨0, rfl, Nat.zero_le _, by rw [told_none]; exact hS3⟩
  case round =>
    clear hS3
    obtain ⟨k, rfl, hk, hS⟩ := hrel
    by_cases hlt : k < n
    · have hkh : k < hs.length := by rw [HN.out]; exact hlt
      have hsl : (slots hs ws)[k]'(by omega) = mkSl hs[k] (ws.getD (k * 2) 0) (ws.getD (k * 2 + 1) 0) := by
        have := slots_at hs ws (by rw [HL.out, HN.out]) k hkh
        exact (List.getElem?_eq_some_iff.1 this).2
      have hnext := told_next hss hlt
      rw [hsl] at hnext
      have htl := told_length hss hk
      have height := sl_eight (told (slots hs ws) n k) k (by omega) hs[k] (ws.getD (k * 2) 0) (ws.getD (k * 2 + 1) 0)
      rw [hnext] at height
      have hyl := slCells_length (told (slots hs ws) n k)
      rw [htl] at hyl
      have hd6 := hdCells_at hs k hkh
      have hwa : (wdCells ws)[k * 2]? = some (.int .u64 (ws.getD (k * 2) 0)) := by
        have hx : k * 2 < ws.length := by rw [HL.out]; omega
        rw [wdCells_at ws _ hx]; simp [List.getD, hx]
      have hwb : (wdCells ws)[k * 2 + 1]? = some (.int .u64 (ws.getD (k * 2 + 1) 0)) := by
        have hx : k * 2 + 1 < ws.length := by rw [HL.out]; omega
        rw [wdCells_at ws _ hx]; simp [List.getD, hx]
      generalize hs[k] = x at *
      generalize ws.getD (k * 2) 0 = wa at *
      generalize ws.getD (k * 2 + 1) 0 = wb at *
      generalize slCells (told (slots hs ws) n k) = ys at *
      generalize hy' : slCells (told (slots hs ws) n (k + 1)) = ys' at *
      have HY : Hid (slCells (told (slots hs ws) n (k + 1)) = ys') := hy'
      clear hy'
      obtain ⟨xgn, xsa, xsp, xth, xdm, xwy⟩ := x
      simp only at height hd6
      obtain ⟨e0, e1, e2, e3, e4, e5⟩ := hd6
      have hown : wr.ownsRow 0 181 6 (.slice (some ⟨gh, 0, none⟩) n ch) n (hdCells hs) := hS.get 0 rfl
      have d0 : wr.cell? ⟨gh, k * 6, none⟩ = some (.int .i64 xgn) := (hown.cellAt (k * 6) (by omega)).trans e0
      have d1 : wr.cell? ⟨gh, k * 6 + 1, none⟩ = some (.int .i64 xsa) := (hown.cellAt (k * 6 + 1) (by omega)).trans e1
      have d2 : wr.cell? ⟨gh, k * 6 + 2, none⟩ = some (.int .i64 xsp) := (hown.cellAt (k * 6 + 2) (by omega)).trans e2
      have d3 : wr.cell? ⟨gh, k * 6 + 3, none⟩ = some (.int .i64 xth) := (hown.cellAt (k * 6 + 3) (by omega)).trans e3
      have d4 : wr.cell? ⟨gh, k * 6 + 4, none⟩ = some (.bool xdm) := (hown.cellAt (k * 6 + 4) (by omega)).trans e4
      have d5 : wr.cell? ⟨gh, k * 6 + 5, none⟩ = some (.int .i64 xwy) := (hown.cellAt (k * 6 + 5) (by omega)).trans e5
      have hi0 : (0 : Int) ≤ (k : Int) := Int.natCast_nonneg _
      have hi1 : (k : Int) < (n : Int) := by omega
      have hSB := hS.box #[.int .i64 xgn, .int .i64 xsa, .int .i64 xsp, .int .i64 xth, .bool xdm, .int .i64 xwy] 181
      clear hown e0 e1 e2 e3 e4 e5
      have HP : Hid (∀ j, j < 8 → ∃ u, ys[k * 8 + j]? = some u) := fun j hj => ⟨_, List.getElem?_eq_getElem (by omega)⟩
      have f0 : (wr.alloc (.cells #[.int .i64 xgn, .int .i64 xsa, .int .i64 xsp, .int .i64 xth, .bool xdm, .int .i64 xwy] 181)).frozen? ⟨A, k * 8, none⟩ = false := hSB.frozen 2 rfl _
      have f1 : (wr.alloc (.cells #[.int .i64 xgn, .int .i64 xsa, .int .i64 xsp, .int .i64 xth, .bool xdm, .int .i64 xwy] 181)).frozen? ⟨A, k * 8 + 1, none⟩ = false := hSB.frozen 2 rfl _
      have f2 : (wr.alloc (.cells #[.int .i64 xgn, .int .i64 xsa, .int .i64 xsp, .int .i64 xth, .bool xdm, .int .i64 xwy] 181)).frozen? ⟨A, k * 8 + 2, none⟩ = false := hSB.frozen 2 rfl _
      have f3 : (wr.alloc (.cells #[.int .i64 xgn, .int .i64 xsa, .int .i64 xsp, .int .i64 xth, .bool xdm, .int .i64 xwy] 181)).frozen? ⟨A, k * 8 + 3, none⟩ = false := hSB.frozen 2 rfl _
      have f4 : (wr.alloc (.cells #[.int .i64 xgn, .int .i64 xsa, .int .i64 xsp, .int .i64 xth, .bool xdm, .int .i64 xwy] 181)).frozen? ⟨A, k * 8 + 4, none⟩ = false := hSB.frozen 2 rfl _
      have f5 : (wr.alloc (.cells #[.int .i64 xgn, .int .i64 xsa, .int .i64 xsp, .int .i64 xth, .bool xdm, .int .i64 xwy] 181)).frozen? ⟨A, k * 8 + 5, none⟩ = false := hSB.frozen 2 rfl _
      obtain ⟨o0, hO0⟩ := HP.out 0 (by omega)
      have g0 : (wr.alloc (.cells #[.int .i64 xgn, .int .i64 xsa, .int .i64 xsp, .int .i64 xth, .bool xdm, .int .i64 xwy] 181)).cell? ⟨A, k * 8, none⟩ = some o0 := (hSB.cell 2 rfl _).trans (by simpa using hO0)
      obtain ⟨o1, hO1⟩ := HP.out 1 (by omega)
      have g1 : (wr.alloc (.cells #[.int .i64 xgn, .int .i64 xsa, .int .i64 xsp, .int .i64 xth, .bool xdm, .int .i64 xwy] 181)).cell? ⟨A, k * 8 + 1, none⟩ = some o1 := (hSB.cell 2 rfl _).trans (by simpa using hO1)
      obtain ⟨o2, hO2⟩ := HP.out 2 (by omega)
      have g2 : (wr.alloc (.cells #[.int .i64 xgn, .int .i64 xsa, .int .i64 xsp, .int .i64 xth, .bool xdm, .int .i64 xwy] 181)).cell? ⟨A, k * 8 + 2, none⟩ = some o2 := (hSB.cell 2 rfl _).trans (by simpa using hO2)
      obtain ⟨o3, hO3⟩ := HP.out 3 (by omega)
      have g3 : (wr.alloc (.cells #[.int .i64 xgn, .int .i64 xsa, .int .i64 xsp, .int .i64 xth, .bool xdm, .int .i64 xwy] 181)).cell? ⟨A, k * 8 + 3, none⟩ = some o3 := (hSB.cell 2 rfl _).trans (by simpa using hO3)
      obtain ⟨o4, hO4⟩ := HP.out 4 (by omega)
      have g4 : (wr.alloc (.cells #[.int .i64 xgn, .int .i64 xsa, .int .i64 xsp, .int .i64 xth, .bool xdm, .int .i64 xwy] 181)).cell? ⟨A, k * 8 + 4, none⟩ = some o4 := (hSB.cell 2 rfl _).trans (by simpa using hO4)
      obtain ⟨o5, hO5⟩ := HP.out 5 (by omega)
      have g5 : (wr.alloc (.cells #[.int .i64 xgn, .int .i64 xsa, .int .i64 xsp, .int .i64 xth, .bool xdm, .int .i64 xwy] 181)).cell? ⟨A, k * 8 + 5, none⟩ = some o5 := (hSB.cell 2 rfl _).trans (by simpa using hO5)
      have hne : ¬ wr.heap.size = A := by
        have := (boxI A ys.toArray 249).old wr (hS.get 1 rfl) A (by simp [boxI])
        omega
      have hne' : ¬ A = wr.heap.size := fun e => hne e.symm
      clear hS HP
      go_wp2_with fail
      have hS6 := ((((((hSB.write 2 rfl (k * 8) (.int .i64 xgn)).write 2 rfl (k * 8 + 1) (.int .i64 xsa)).write 2 rfl (k * 8 + 2) (.int .i64 xsp)).write 2 rfl (k * 8 + 3) (.int .i64 xth)).write 2 rfl (k * 8 + 4) (.bool xdm)).write 2 rfl (k * 8 + 5) (.int .i64 xwy)).pop
      simp only [List.setIfInBounds_toArray, List.set_cons_succ, List.set_cons_zero] at hS6
      clear hSB f0 g0 hO0 f1 g1 hO1 f2 g2 hO2 f3 g3 hO3 f4 g4 hO4 f5 g5 hO5 d0 d1 d2 d3 d4 d5 hne hne'
      generalize hy6 : ((((((ys.set (k * 8) (.int .i64 xgn)).set (k * 8 + 1) (.int .i64 xsa)).set (k * 8 + 2) (.int .i64 xsp)).set (k * 8 + 3) (.int .i64 xth)).set (k * 8 + 4) (.bool xdm)).set (k * 8 + 5) (.int .i64 xwy)) = y6 at *
      have hl6 : y6.length = n * 8 := by rw [← hy6]; simpa using hyl
      clear hy6 hyl
      generalize (((((((wr.alloc (.cells #[.int .i64 xgn, .int .i64 xsa, .int .i64 xsp, .int .i64 xth, .bool xdm, .int .i64 xwy] 181)).setCell ⟨A, k * 8, none⟩ (.int .i64 xgn)).setCell ⟨A, k * 8 + 1, none⟩ (.int .i64 xsa)).setCell ⟨A, k * 8 + 2, none⟩ (.int .i64 xsp)).setCell ⟨A, k * 8 + 3, none⟩ (.int .i64 xth)).setCell ⟨A, k * 8 + 4, none⟩ (.bool xdm)).setCell ⟨A, k * 8 + 5, none⟩ (.int .i64 xwy)) = w6 at *
      generalize wr.heap.size = H at *
      have hownw : w6.ownsRow 0 128 1 (.slice (some ⟨gw, 0, none⟩) (n * 2) cw) (n * 2) (wdCells ws) := hS6.get 2 rfl
      have p0 : w6.cell? ⟨gw, k * 2, none⟩ = some (.int .u64 wa) := (hownw.cellAt (k * 2) (by omega)).trans hwa
      have p1 : w6.cell? ⟨gw, k * 2 + 1, none⟩ = some (.int .u64 wb) := (hownw.cellAt (k * 2 + 1) (by omega)).trans hwb
      have hcA : w6.heap[A]? = some (.cells y6.toArray 249 (0, 0)) := hS6.get 1 rfl
      obtain ⟨iw, hiw, hw0, hw1, hw2⟩ := info_parts Tryz.infoWd
      have hsz : (Tryz.prog.info? 128).map (·.size) = some 1 := by rw [hiw]; simp [hw1]
      have hcp : ∀ W, W = w6 ∨ W = w6.drew → (Builtin.copy_ #[244, 244] 3 #[.slice (some ⟨A, k * 8 + 6, none⟩) 2 2, .slice (some ⟨gw, k * 2, none⟩) (n * 2 - k * 2) (cw - k * 2)]).run Tryz.prog W = .ok (goInt 2) (W.setRow A ys'.toArray) := by
        intro W hW'
        have hcA' : W.heap[A]? = some (.cells y6.toArray 249 (0, 0)) := by rcases hW' with rfl | rfl <;> exact hcA
        have q0 : W.cell? ⟨gw, k * 2, none⟩ = some (.int .u64 wa) := by rcases hW' with rfl | rfl <;> exact p0
        have q1 : W.cell? ⟨gw, k * 2 + 1, none⟩ = some (.int .u64 wb) := by rcases hW' with rfl | rfl <;> exact p1
        have := run_copy_row (P := Tryz.prog) W 244 244 3 128 A (k * 8 + 6) 2 2 ⟨gw, k * 2, none⟩ (n * 2 - k * 2) (cw - k * 2) y6.toArray 249 [.int .u64 wa, .int .u64 wb] Tryz.underlying244 hsz hcA' (by
            show 2 = min (n * 2 - k * 2) 2
            omega) (by
            intro j v hv
            match j, hv with
            | 0, hv => simp at hv; subst hv; exact q0
            | 1, hv => simp at hv; subst hv; exact q1) (by simp; omega) (by simp [Value.oneCell'])
        rw [this, List.toList_toArray]
        have e2 : ([Value.int .u64 wa, .int .u64 wb] : List Value).length = 2 := rfl
        rw [e2, two_set y6 (k * 8 + 6) _ _ (by omega), height]
        rfl
      have hcp1 := hcp w6 (.inl rfl)
      have hcp2 := hcp w6.drew (.inr rfl)
      have HS : Hid (St o (ownI 181 6 (.slice (some ⟨gh, 0, none⟩) n ch) n (hdCells hs) :: boxI A ys'.toArray 249 :: ownI 128 1 (.slice (some ⟨gw, 0, none⟩) (n * 2) cw) (n * 2) (wdCells ws) :: its) (w6.setRow A ys'.toArray)) := hS6.setRow 1 rfl _
      have HT : Hid (St o (ownI 181 6 (.slice (some ⟨gh, 0, none⟩) n ch) n (hdCells hs) :: boxI A ys'.toArray 249 :: ownI 128 1 (.slice (some ⟨gw, 0, none⟩) (n * 2) cw) (n * 2) (wdCells ws) :: its) (w6.drew.setRow A ys'.toArray)) := hS6.drew.setRow 1 rfl _
      clear hcp hcA hownw hS6 hwa hwb height hnext
      go_region
      all_goals
        clear hcp1 hcp2 p0 p1
        go_wp2
        go_roundw
        case rel => exact ⟨k + 1, by go_num, hlt, by rw [HY.out]; first | exact HT.out | exact HS.out⟩
        case measure => simp [intOf]; omega
    · have hkn : k = n := by omega
      subst hkn
      have HS : Hid (St o (ownI 249 8 (.slice (some ⟨A, 0, none⟩) k k) k (slCells (slots hs ws)) :: its) wr) := by
        have h1 := hS.pop.drop1
        rw [told_all hss] at h1
        exact box_own h1 (by rw [slCells_length, hss]) (by unfold maxLen; omega)
      clear hS
      go_wp2
      go_ret
      exact ⟨_, rfl, HS.out⟩
end Go.Proofs.YthbcbjkgjgmegaaGreat
