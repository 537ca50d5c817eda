/- Slots as they lie in a list: eight cells each. -/
import Derived.Test.YtajfjkhbimehbaaGreatSmall
import Derived.Test.YtajfjkhbimehbaaGreatMod
import Derived.Deep.RegionHeld3
import Derived.Deep.DrawnRows
import Derived.Defers
import Derived.Recover
import Derived.ChangeKeysEq
import Derived.Maps.AppendAt
import Derived.BigQuiet
import Derived.BigRegion
namespace Go.Proofs.YtajfjkhbimehbaaGreat
open Go.RowKit
set_option linter.unusedVariables false
set_option linter.unusedSimpArgs false
attribute [local go_sem ↓] Go.wp_at_zero Go.wp_at_succ

structure Sl where
  gn : Int
  sa : Int
  sp : Int
  th : Int
  dm : Bool
  wy : Int
  wa : Int
  wb : Int
def Sl.zero : Sl := ⟨0, 0, 0, 0, false, 0, 0, 0⟩
def Sl.val (t : Sl) : Value := .agg #[.int .i64 t.gn, .int .i64 t.sa, .int .i64 t.sp, .int .i64 t.th, .bool t.dm, .int .i64 t.wy, .int .u64 t.wa, .int .u64 t.wb]
def Sl.cells (t : Sl) : List Value := [.int .i64 t.gn, .int .i64 t.sa, .int .i64 t.sp, .int .i64 t.th, .bool t.dm, .int .i64 t.wy, .int .u64 t.wa, .int .u64 t.wb]
def Sl.eq (a b : Sl) : Bool := (a.gn == b.gn) && (a.sa == b.sa) && (a.sp == b.sp) && (a.th == b.th) && (a.dm == b.dm) && (a.wy == b.wy) && (a.wa == b.wa) && (a.wb == b.wb)
theorem Sl.eq_iff (a b : Sl) : a.eq b = true ↔ a = b := by
  cases a; cases b; simp [Sl.eq, and_assoc]
theorem Sl.eq_ne {a b : Sl} (h : a ≠ b) : a.eq b = false := by
  cases hb : a.eq b
  · rfl
  · exact absurd ((Sl.eq_iff a b).1 hb) h
def slCells : List Sl → List Value
  | [] => []
  | t :: l => t.cells ++ slCells l
theorem slCells_length (l : List Sl) : (slCells l).length = l.length * 8 := by
  induction l with
  | nil => rfl
  | cons t l ih => simp [slCells, Sl.cells, ih]; omega
theorem slCells_at (l : List Sl) : ∀ k (hk : k < l.length), (slCells l)[k * 8]? = some (.int .i64 l[k].gn) ∧ (slCells l)[k * 8 + 1]? = some (.int .i64 l[k].sa) ∧ (slCells l)[k * 8 + 2]? = some (.int .i64 l[k].sp) ∧ (slCells l)[k * 8 + 3]? = some (.int .i64 l[k].th) ∧ (slCells l)[k * 8 + 4]? = some (.bool l[k].dm) ∧ (slCells l)[k * 8 + 5]? = some (.int .i64 l[k].wy) ∧ (slCells l)[k * 8 + 6]? = some (.int .u64 l[k].wa) ∧ (slCells l)[k * 8 + 7]? = some (.int .u64 l[k].wb) := by
  induction l with
  | nil => intro k hk; simp at hk
  | cons t l ih =>
    intro k hk
    cases k with
    | zero => simp [slCells, Sl.cells]
    | succ k =>
      have := ih k (by simpa using hk)
      have e : ∀ i, (slCells (t :: l))[(k + 1) * 8 + i]? = (slCells l)[k * 8 + i]? := fun i => by
        rw [show (k + 1) * 8 + i = 8 + (k * 8 + i) by omega]
        simp only [slCells]
        rw [List.getElem?_append_right (by simp [Sl.cells])]
        simp [Sl.cells]
      have e0 := e 0
      simp only [Nat.add_zero] at e0
      rw [e0, e 1, e 2, e 3, e 4, e 5, e 6, e 7]
      simpa using this
theorem slCells_set (l : List Sl) (t : Sl) : ∀ k, k < l.length → (((((((((slCells l).set (k * 8) (.int .i64 t.gn)).set (k * 8 + 1) (.int .i64 t.sa)).set (k * 8 + 2) (.int .i64 t.sp)).set (k * 8 + 3) (.int .i64 t.th)).set (k * 8 + 4) (.bool t.dm)).set (k * 8 + 5) (.int .i64 t.wy)).set (k * 8 + 6) (.int .u64 t.wa)).set (k * 8 + 7) (.int .u64 t.wb)) = slCells (l.set k t) := by
  induction l with
  | nil => intro k hk; simp at hk
  | cons u l ih =>
    intro k hk
    cases k with
    | zero => simp [slCells, Sl.cells]
    | succ k =>
      have := ih k (by simpa using hk)
      simp only [slCells, List.set_cons_succ]
      rw [← this, show (k + 1) * 8 = k * 8 + 8 by omega]
      simp only [Sl.cells, List.cons_append, List.nil_append]
      rw [show k * 8 + 8 + 1 = (k * 8 + 1) + 8 by omega, show k * 8 + 8 + 2 = (k * 8 + 2) + 8 by omega, show k * 8 + 8 + 3 = (k * 8 + 3) + 8 by omega, show k * 8 + 8 + 4 = (k * 8 + 4) + 8 by omega, show k * 8 + 8 + 5 = (k * 8 + 5) + 8 by omega, show k * 8 + 8 + 6 = (k * 8 + 6) + 8 by omega, show k * 8 + 8 + 7 = (k * 8 + 7) + 8 by omega]
      simp only [List.set_cons_succ]
theorem slCells_one (l : List Sl) : ∀ u ∈ slCells l, u.oneCell' = true := by
  induction l with
  | nil => intro u h; cases h
  | cons t l ih =>
    intro u h
    simp only [slCells, List.mem_append] at h
    rcases h with h | h
    · simp only [Sl.cells, List.mem_cons, List.not_mem_nil, or_false] at h
      rcases h with h | h | h | h | h | h | h | h <;> subst h <;> rfl
    · exact ih u h
theorem slCells_rep (t : Sl) : ∀ n j, j < n * 8 → (slCells (List.replicate n t))[j]? = t.cells[j % 8]? := by
  intro n
  induction n with
  | zero => intro j hj; omega
  | succ n ih =>
    intro j hj
    simp only [List.replicate_succ, slCells]
    by_cases h : j < 8
    · rw [List.getElem?_append_left (by simpa [Sl.cells] using h), Nat.mod_eq_of_lt h]
    · rw [List.getElem?_append_right (by simp [Sl.cells]; omega)]
      have := ih (j - 8) (by omega)
      simp only [Sl.cells, List.length_cons, List.length_nil] at *
      rw [this]
      congr 1
      omega
theorem made_sl (n : Nat) : madeCells (Value.agg #[.int .i64 0, .int .i64 0, .int .i64 0, .int .i64 0, .bool false, .int .i64 0, .int .u64 0, .int .u64 0]).cells (n * 8) = (slCells (List.replicate n Sl.zero)).toArray := by
  apply Array.ext'
  apply List.ext_getElem?
  intro j
  by_cases hj : j < n * 8
  · rw [List.toList_toArray, slCells_rep Sl.zero n j hj]
    have h3 : j % 8 < 8 := Nat.mod_lt _ (by omega)
    simp only [madeCells, Array.toList_map, List.getElem?_map, Array.toList_range, List.getElem?_range hj, Option.map_some]
    have hc : (Value.agg #[.int .i64 0, .int .i64 0, .int .i64 0, .int .i64 0, .bool false, .int .i64 0, .int .u64 0, .int .u64 0]).cells = #[.int .i64 0, .int .i64 0, .int .i64 0, .int .i64 0, .bool false, .int .i64 0, .int .u64 0, .int .u64 0] := rfl
    rw [hc]
    have : j % 8 = 0 ∨ j % 8 = 1 ∨ j % 8 = 2 ∨ j % 8 = 3 ∨ j % 8 = 4 ∨ j % 8 = 5 ∨ j % 8 = 6 ∨ j % 8 = 7 := by omega
    rcases this with h | h | h | h | h | h | h | h <;> simp [h, Sl.cells, Sl.zero]
  · rw [List.getElem?_eq_none (by simp [size_madeCells]; omega), List.getElem?_eq_none (by simp [slCells_length]; omega)]

theorem Tryz.infoSl : (Tryz.prog.info? 156).map (fun i => (i.zero, i.size, i.bytes)) = some (some (.agg #[.int .i64 0, .int .i64 0, .int .i64 0, .int .i64 0, .bool false, .int .i64 0, .int .u64 0, .int .u64 0]), 8, 64) := by kernel_rfl


/-- A slot: a head and its words. -/
def mkSl (h : Hd) (a b : Int) : Sl := ⟨h.gn, h.sa, h.sp, h.th, h.dm, h.wy, a, b⟩
/-- All slots of a table. -/
def slots : List Hd → List Int → List Sl
  | h :: hs, a :: b :: ws => mkSl h a b :: slots hs ws
  | _, _ => []
theorem slots_length : ∀ (hs : List Hd) (ws : List Int), ws.length = hs.length * 2 → (slots hs ws).length = hs.length
  | [], ws, _ => by cases ws <;> rfl
  | h :: hs, [], e => by simp at e
  | h :: hs, [a], e => by simp at e; omega
  | h :: hs, a :: b :: ws, e => by
    have := slots_length hs ws (by simp at e; omega)
    simp [slots, this]
theorem slots_at : ∀ (hs : List Hd) (ws : List Int) (e : ws.length = hs.length * 2) (k : Nat) (hk : k < hs.length), (slots hs ws)[k]? = some (mkSl hs[k] (ws.getD (k * 2) 0) (ws.getD (k * 2 + 1) 0))
  | [], ws, _, k, hk => by simp at hk
  | h :: hs, [], e, k, hk => by simp at e
  | h :: hs, [a], e, k, hk => by simp at e; omega
  | h :: hs, a :: b :: ws, e, 0, hk => by simp [slots]
  | h :: hs, a :: b :: ws, e, k + 1, hk => by
    have := slots_at hs ws (by simp at e; omega) k (by simpa using hk)
    rw [show (k + 1) * 2 = k * 2 + 2 by omega]
    simp only [slots, List.getElem?_cons_succ, List.getElem_cons_succ, List.getD_cons_succ]
    exact this
theorem slots_zero : ∀ n, slots (List.replicate n Hd.zero) (List.replicate (n * 2) 0) = List.replicate n Sl.zero
  | 0 => rfl
  | n + 1 => by
    rw [show (n + 1) * 2 = n * 2 + 2 by omega]
    simp only [List.replicate_succ, slots, slots_zero n]
    rfl
theorem slots_head (hs : List Hd) (ws : List Int) (e : ws.length = hs.length * 2) (k : Nat) (hk : k < hs.length) (h : Hd) : slots (hs.set k h) ws = (slots hs ws).set k (mkSl h (ws.getD (k * 2) 0) (ws.getD (k * 2 + 1) 0)) := by
  apply List.ext_getElem?
  intro j
  by_cases hj : j < hs.length
  · rw [slots_at _ ws (by simpa using e) j (by simpa using hj), List.getElem?_set]
    by_cases hkj : k = j
    · subst hkj
      simp [slots_length hs ws e, hj]
    · simp [hkj, slots_at hs ws e j hj]
  · rw [List.getElem?_eq_none (by rw [slots_length _ ws (by simpa using e)]; simp; omega), List.getElem?_eq_none (by simp [slots_length hs ws e]; omega)]
theorem getD_set (l : List Int) (a b : Nat) (x : Int) (h : a < l.length) : (l.set a x).getD b 0 = if a = b then x else l.getD b 0 := by
  simp only [List.getD_eq_getElem?_getD, List.getElem?_set]
  by_cases e : a = b
  · subst e; simp [h]
  · simp [e]
theorem slots_word (hs : List Hd) (ws : List Int) (e : ws.length = hs.length * 2) (k : Nat) (hk : k < hs.length) (x : Int) :
    slots hs (ws.set (k * 2) x) = (slots hs ws).set k (mkSl hs[k] x (ws.getD (k * 2 + 1) 0)) ∧ slots hs (ws.set (k * 2 + 1) x) = (slots hs ws).set k (mkSl hs[k] (ws.getD (k * 2) 0) x) := by
  constructor
  all_goals
    apply List.ext_getElem?
    intro j
    by_cases hj : j < hs.length
    · rw [slots_at hs _ (by simpa using e) j hj, List.getElem?_set, getD_set _ _ _ _ (by omega), getD_set _ _ _ _ (by omega)]
      by_cases hkj : k = j
      · subst hkj
        simp [slots_length hs ws e, hj]
        try omega
      · simp [hkj, slots_at hs ws e j hj]
        rw [if_neg (by omega), if_neg (by omega)]
    · rw [List.getElem?_eq_none (by rw [slots_length hs _ (by simpa using e)]; omega), List.getElem?_eq_none (by simp [slots_length hs ws e]; omega)]
end Go.Proofs.YtajfjkhbimehbaaGreat
