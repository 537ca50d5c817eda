/- Rows of Hd: New, has, Load, Store, Trade, All, same. -/
import Derived.Test.YtajfjkhbimehbaaGreatSmall
import Derived.Deep.RegionHeld3
import Derived.Deep.DrawnRows
import Derived.Defers
import Derived.Recover
import Derived.ChangeKeysEq
import Derived.Maps.AppendAt
import Derived.BigQuiet
import Derived.BigRegion
namespace Go.Proofs.YtajfjkhbimehbaaGreat
open Go.RowKit
set_option linter.unusedVariables false
set_option linter.unusedSimpArgs false
attribute [local go_sem ↓] Go.wp_at_zero Go.wp_at_succ

structure Hd where
  gn : Int
  sa : Int
  sp : Int
  th : Int
  dm : Bool
  wy : Int
def Hd.zero : Hd := ⟨0, 0, 0, 0, false, 0⟩
def Hd.val (t : Hd) : Value := .agg #[.int .i64 t.gn, .int .i64 t.sa, .int .i64 t.sp, .int .i64 t.th, .bool t.dm, .int .i64 t.wy]
def Hd.cells (t : Hd) : List Value := [.int .i64 t.gn, .int .i64 t.sa, .int .i64 t.sp, .int .i64 t.th, .bool t.dm, .int .i64 t.wy]
def Hd.eq (a b : Hd) : Bool := (a.gn == b.gn) && (a.sa == b.sa) && (a.sp == b.sp) && (a.th == b.th) && (a.dm == b.dm) && (a.wy == b.wy)
theorem Hd.eq_iff (a b : Hd) : a.eq b = true ↔ a = b := by
  cases a; cases b; simp [Hd.eq, and_assoc]
theorem Hd.eq_ne {a b : Hd} (h : a ≠ b) : a.eq b = false := by
  cases hb : a.eq b
  · rfl
  · exact absurd ((Hd.eq_iff a b).1 hb) h
def hdCells : List Hd → List Value
  | [] => []
  | t :: l => t.cells ++ hdCells l
theorem hdCells_length (l : List Hd) : (hdCells l).length = l.length * 6 := by
  induction l with
  | nil => rfl
  | cons t l ih => simp [hdCells, Hd.cells, ih]; omega
theorem hdCells_at (l : List Hd) : ∀ k (hk : k < l.length), (hdCells l)[k * 6]? = some (.int .i64 l[k].gn) ∧ (hdCells l)[k * 6 + 1]? = some (.int .i64 l[k].sa) ∧ (hdCells l)[k * 6 + 2]? = some (.int .i64 l[k].sp) ∧ (hdCells l)[k * 6 + 3]? = some (.int .i64 l[k].th) ∧ (hdCells l)[k * 6 + 4]? = some (.bool l[k].dm) ∧ (hdCells l)[k * 6 + 5]? = some (.int .i64 l[k].wy) := by
  induction l with
  | nil => intro k hk; simp at hk
  | cons t l ih =>
    intro k hk
    cases k with
    | zero => simp [hdCells, Hd.cells]
    | succ k =>
      have := ih k (by simpa using hk)
      have e : ∀ i, (hdCells (t :: l))[(k + 1) * 6 + i]? = (hdCells l)[k * 6 + i]? := fun i => by
        rw [show (k + 1) * 6 + i = 6 + (k * 6 + i) by omega]
        simp only [hdCells]
        rw [List.getElem?_append_right (by simp [Hd.cells])]
        simp [Hd.cells]
      have e0 := e 0
      simp only [Nat.add_zero] at e0
      rw [e0, e 1, e 2, e 3, e 4, e 5]
      simpa using this
theorem hdCells_set (l : List Hd) (t : Hd) : ∀ k, k < l.length → (((((((hdCells l).set (k * 6) (.int .i64 t.gn)).set (k * 6 + 1) (.int .i64 t.sa)).set (k * 6 + 2) (.int .i64 t.sp)).set (k * 6 + 3) (.int .i64 t.th)).set (k * 6 + 4) (.bool t.dm)).set (k * 6 + 5) (.int .i64 t.wy)) = hdCells (l.set k t) := by
  induction l with
  | nil => intro k hk; simp at hk
  | cons u l ih =>
    intro k hk
    cases k with
    | zero => simp [hdCells, Hd.cells]
    | succ k =>
      have := ih k (by simpa using hk)
      simp only [hdCells, List.set_cons_succ]
      rw [← this, show (k + 1) * 6 = k * 6 + 6 by omega]
      simp only [Hd.cells, List.cons_append, List.nil_append]
      rw [show k * 6 + 6 + 1 = (k * 6 + 1) + 6 by omega, show k * 6 + 6 + 2 = (k * 6 + 2) + 6 by omega, show k * 6 + 6 + 3 = (k * 6 + 3) + 6 by omega, show k * 6 + 6 + 4 = (k * 6 + 4) + 6 by omega, show k * 6 + 6 + 5 = (k * 6 + 5) + 6 by omega]
      simp only [List.set_cons_succ]
theorem hdCells_one (l : List Hd) : ∀ u ∈ hdCells l, u.oneCell' = true := by
  induction l with
  | nil => intro u h; cases h
  | cons t l ih =>
    intro u h
    simp only [hdCells, List.mem_append] at h
    rcases h with h | h
    · simp only [Hd.cells, List.mem_cons, List.not_mem_nil, or_false] at h
      rcases h with h | h | h | h | h | h <;> subst h <;> rfl
    · exact ih u h
theorem hdCells_rep (t : Hd) : ∀ n j, j < n * 6 → (hdCells (List.replicate n t))[j]? = t.cells[j % 6]? := by
  intro n
  induction n with
  | zero => intro j hj; omega
  | succ n ih =>
    intro j hj
    simp only [List.replicate_succ, hdCells]
    by_cases h : j < 6
    · rw [List.getElem?_append_left (by simpa [Hd.cells] using h), Nat.mod_eq_of_lt h]
    · rw [List.getElem?_append_right (by simp [Hd.cells]; omega)]
      have := ih (j - 6) (by omega)
      simp only [Hd.cells, List.length_cons, List.length_nil] at *
      rw [this]
      congr 1
      omega
theorem made_hd (n : Nat) : madeCells (Value.agg #[.int .i64 0, .int .i64 0, .int .i64 0, .int .i64 0, .bool false, .int .i64 0]).cells (n * 6) = (hdCells (List.replicate n Hd.zero)).toArray := by
  apply Array.ext'
  apply List.ext_getElem?
  intro j
  by_cases hj : j < n * 6
  · rw [List.toList_toArray, hdCells_rep Hd.zero n j hj]
    have h3 : j % 6 < 6 := Nat.mod_lt _ (by omega)
    simp only [madeCells, Array.toList_map, List.getElem?_map, Array.toList_range, List.getElem?_range hj, Option.map_some]
    have hc : (Value.agg #[.int .i64 0, .int .i64 0, .int .i64 0, .int .i64 0, .bool false, .int .i64 0]).cells = #[.int .i64 0, .int .i64 0, .int .i64 0, .int .i64 0, .bool false, .int .i64 0] := rfl
    rw [hc]
    have : j % 6 = 0 ∨ j % 6 = 1 ∨ j % 6 = 2 ∨ j % 6 = 3 ∨ j % 6 = 4 ∨ j % 6 = 5 := by omega
    rcases this with h | h | h | h | h | h <;> simp [h, Hd.cells, Hd.zero]
  · rw [List.getElem?_eq_none (by simp [size_madeCells]; omega), List.getElem?_eq_none (by simp [hdCells_length]; omega)]

theorem Tryz.infoHd : (Tryz.prog.info? 105).map (fun i => (i.zero, i.size, i.bytes)) = some (some (.agg #[.int .i64 0, .int .i64 0, .int .i64 0, .int .i64 0, .bool false, .int .i64 0]), 6, 48) := by kernel_rfl

/-- A row in block r, its cells in block c, noted by mo. -/
structure HdRow (w : World) (r c : Nat) (mo : Option Nat) (kind : Int) (xs : List Hd) : Prop where
  row : w.heap[r]? = some (.cells #[mptr mo, .int .i64 kind, .slice (some ⟨c, 0, none⟩) xs.length xs.length] 170 (0, 0))
  cells : w.heap[c]? = some (.cells (hdCells xs).toArray 105 (0, 0))
  small : xs.length ≤ 4096
  rc : r ≠ c
def hdRowI (r c : Nat) (mo : Option Nat) (kind : Int) (xs : List Hd) : It :=
  ⟨[r, c], fun w => HdRow w r c mo kind xs, fun w w' h p => ⟨(h r (by simp)).trans p.row, (h c (by simp)).trans p.cells, p.small, p.rc⟩,
   fun w p b hb => by
    simp only [List.mem_cons, List.not_mem_nil, or_false] at hb
    rcases hb with rfl | rfl
    · exact lt_of_heap p.row
    · exact lt_of_heap p.cells⟩
theorem HdRow.cell {w : World} {r c : Nat} {mo : Option Nat} {kind : Int} {xs : List Hd} (h : HdRow w r c mo kind xs) (k : Nat) (hk : k < xs.length) : w.cell? ⟨c, k * 6, none⟩ = some (.int .i64 xs[k].gn) ∧ w.cell? ⟨c, k * 6 + 1, none⟩ = some (.int .i64 xs[k].sa) ∧ w.cell? ⟨c, k * 6 + 2, none⟩ = some (.int .i64 xs[k].sp) ∧ w.cell? ⟨c, k * 6 + 3, none⟩ = some (.int .i64 xs[k].th) ∧ w.cell? ⟨c, k * 6 + 4, none⟩ = some (.bool xs[k].dm) ∧ w.cell? ⟨c, k * 6 + 5, none⟩ = some (.int .i64 xs[k].wy) := by
  obtain ⟨a0, a1, a2, a3, a4, a5⟩ := hdCells_at xs k hk
  exact ⟨(cell_of_heap h.cells).trans (by simpa using a0), (cell_of_heap h.cells).trans (by simpa using a1), (cell_of_heap h.cells).trans (by simpa using a2), (cell_of_heap h.cells).trans (by simpa using a3), (cell_of_heap h.cells).trans (by simpa using a4), (cell_of_heap h.cells).trans (by simpa using a5)⟩
theorem HdRow.stored {w : World} {r c : Nat} {mo : Option Nat} {kind : Int} {xs : List Hd} (h : HdRow w r c mo kind xs) (k : Nat) (hk : k < xs.length) (t : Hd) :
    HdRow (((((((w.setCell ⟨c, k * 6, none⟩ (.int .i64 t.gn)).setCell ⟨c, k * 6 + 1, none⟩ (.int .i64 t.sa)).setCell ⟨c, k * 6 + 2, none⟩ (.int .i64 t.sp)).setCell ⟨c, k * 6 + 3, none⟩ (.int .i64 t.th)).setCell ⟨c, k * 6 + 4, none⟩ (.bool t.dm)).setCell ⟨c, k * 6 + 5, none⟩ (.int .i64 t.wy))) r c mo kind (xs.set k t) := by
  refine ⟨?_, ?_, by simpa using h.small, h.rc⟩
  · rw [heap_setCell_far (by simpa using h.rc), heap_setCell_far (by simpa using h.rc), heap_setCell_far (by simpa using h.rc), heap_setCell_far (by simpa using h.rc), heap_setCell_far (by simpa using h.rc), heap_setCell_far (by simpa using h.rc)]; simpa using h.row
  · rw [heap_setCell_at (heap_setCell_at (heap_setCell_at (heap_setCell_at (heap_setCell_at (heap_setCell_at h.cells _) _) _) _) _) _]
    have := hdCells_set xs t k hk
    rw [← this]
    simp
theorem St.hdStored {o w : World} {its : List It} (h : St o its w) (j : Nat) {r c : Nat} {mo : Option Nat} {kind : Int} {xs : List Hd} (hj : its[j]? = some (hdRowI r c mo kind xs)) (k : Nat) (hk : k < xs.length) (t : Hd) :
    St o (its.set j (hdRowI r c mo kind (xs.set k t))) (((((((w.setCell ⟨c, k * 6, none⟩ (.int .i64 t.gn)).setCell ⟨c, k * 6 + 1, none⟩ (.int .i64 t.sa)).setCell ⟨c, k * 6 + 2, none⟩ (.int .i64 t.sp)).setCell ⟨c, k * 6 + 3, none⟩ (.int .i64 t.th)).setCell ⟨c, k * 6 + 4, none⟩ (.bool t.dm)).setCell ⟨c, k * 6 + 5, none⟩ (.int .i64 t.wy))) := by
  have p : HdRow w r c mo kind xs := h.get j hj
  refine h.set j hj ?_ (p.stored k hk t) (by simp [hdRowI, p.rc]) (fun b hb => .inl hb)
  exact (((((((Kept.refl _ w).setCell _ (.inl (by simp [hdRowI]))).setCell _ (.inl (by simp [hdRowI]))).setCell _ (.inl (by simp [hdRowI]))).setCell _ (.inl (by simp [hdRowI]))).setCell _ (.inl (by simp [hdRowI]))).setCell _ (.inl (by simp [hdRowI])))


set_option maxRecDepth 100000 in
theorem hdHas_in {r c : Nat} {mo : Option Nat} {kind : Int} {xs : List Hd} (k : Nat) (w : World) (h : HdRow w r c mo kind xs) (hk : k < xs.length) :
    Calls Tryz.prog 130 #[.pointer (some ⟨r, 0, none⟩), .int .i64 k] w fun e w' => e = .returned (.bool true) ∧ w' = w := by
  have c2 : w.cell? ⟨r, 2, none⟩ = some (.slice (some ⟨c, 0, none⟩) xs.length xs.length) := cell_of_heap h.row
  have h0 : (0 : Int) ≤ (k : Int) := Int.natCast_nonneg _
  have h1 : (k : Int) < (xs.length : Int) := by omega
  have hs : (xs.length : Int) ≤ 4096 := by have := h.small; omega
  clear h
  go_enter Tryz.func130, Tryz.ntmps130
  go_wp2
  go_ret
  exact ⟨rfl, rfl⟩
set_option maxRecDepth 100000 in
theorem hdHas_out {r c : Nat} {mo : Option Nat} {kind : Int} {xs : List Hd} (i : Int) (w : World) (h : HdRow w r c mo kind xs) (hk : ¬ (0 ≤ i ∧ i < xs.length)) :
    Calls Tryz.prog 130 #[.pointer (some ⟨r, 0, none⟩), .int .i64 i] w fun e w' => e = .returned (.bool false) ∧ w' = w := by
  have c2 : w.cell? ⟨r, 2, none⟩ = some (.slice (some ⟨c, 0, none⟩) xs.length xs.length) := cell_of_heap h.row
  have hs : (xs.length : Int) ≤ 4096 := by have := h.small; omega
  clear h
  by_cases h0 : (0 : Int) ≤ i
  · have h1 : ¬ i < (xs.length : Int) := by omega
    clear hk
    go_enter Tryz.func130, Tryz.ntmps130
    go_wp2
    go_ret
    exact ⟨rfl, rfl⟩
  · clear hk
    have hd : decide ((0 : Int) ≤ i) = false := by simpa using h0
    go_enter Tryz.func130, Tryz.ntmps130
    go_wp2
    go_ret
    exact ⟨rfl, rfl⟩

theorem hdCatch_idle (p : Addr) (w : World) :
    CallsD Tryz.prog 137 #[.pointer (some p)] .returning w fun e u' w' => e = .returned (.tuple #[]) ∧ u' = .returning ∧ w' = w := by
  refine callsD_of_wpS Tryz.func137 rfl fun c₀ cs hu => ?_
  apply wpS_seq
  apply wpS_region
  simp [wpOpsS, go_sem, recoverD, hu, Tryz.ntmps137, Exit.thenS]
  refine wpS_cond (t := false) (by simp [Act.eval, Array.replicate]) ?_
  simp only [Bool.false_eq_true, if_false]
  refine wpS_of_wp (wp_skip ?_)
  cases c₀
  simp_all [bodyPostS, results, Tryz.results137]


set_option maxRecDepth 100000 in
theorem hdSame (a b : Hd) (w : World) :
    Calls Tryz.prog 131 #[a.val, b.val] w fun e w' => e = .returned (.bool (a.eq b)) ∧ Kept (fun _ => False) w w' := by
  have hmf : ∀ (fn : Fn) (first cap : Array Value) (w : World), (Instr.makeFunc fn first cap).run Tryz.prog w = .ok (.func fn first cap) w := fun _ _ _ _ => rfl
  obtain ⟨agn, asa, asp, ath, adm, awy⟩ := a
  obtain ⟨bgn, bsa, bsp, bth, bdm, bwy⟩ := b
  simp only [Hd.val, Hd.eq]
  cases h0 : (agn == bgn)
  case false =>
    simp only [Bool.false_and, Bool.and_false, Bool.true_and, Bool.and_true]
    go_enter_defers Tryz.func131, Tryz.ntmps131
    go_wp2
    refine leaves_cons (f := 137) (args := #[.pointer (some ⟨w.heap.size + 1 + 1, 0, none⟩)]) (by simp) (by simp [go_sem]) ?_
    refine (hdCatch_idle ⟨w.heap.size + 1 + 1, 0, none⟩ _).mono ?_
    rintro e q' w'' ⟨rfl, rfl, rfl⟩
    simp [Leaves, settle, results, Tryz.results131, go_sem]
    first | exact (((Kept.refl _ w).alloc _).alloc _).alloc _ | exact ((((Kept.refl _ w).alloc _).alloc _).alloc _).setCell _ (.inr (by simp; omega))
  cases h1 : (asa == bsa)
  case false =>
    simp only [Bool.false_and, Bool.and_false, Bool.true_and, Bool.and_true]
    go_enter_defers Tryz.func131, Tryz.ntmps131
    go_wp2
    refine leaves_cons (f := 137) (args := #[.pointer (some ⟨w.heap.size + 1 + 1, 0, none⟩)]) (by simp) (by simp [go_sem]) ?_
    refine (hdCatch_idle ⟨w.heap.size + 1 + 1, 0, none⟩ _).mono ?_
    rintro e q' w'' ⟨rfl, rfl, rfl⟩
    simp [Leaves, settle, results, Tryz.results131, go_sem]
    first | exact (((Kept.refl _ w).alloc _).alloc _).alloc _ | exact ((((Kept.refl _ w).alloc _).alloc _).alloc _).setCell _ (.inr (by simp; omega))
  cases h2 : (asp == bsp)
  case false =>
    simp only [Bool.false_and, Bool.and_false, Bool.true_and, Bool.and_true]
    go_enter_defers Tryz.func131, Tryz.ntmps131
    go_wp2
    refine leaves_cons (f := 137) (args := #[.pointer (some ⟨w.heap.size + 1 + 1, 0, none⟩)]) (by simp) (by simp [go_sem]) ?_
    refine (hdCatch_idle ⟨w.heap.size + 1 + 1, 0, none⟩ _).mono ?_
    rintro e q' w'' ⟨rfl, rfl, rfl⟩
    simp [Leaves, settle, results, Tryz.results131, go_sem]
    first | exact (((Kept.refl _ w).alloc _).alloc _).alloc _ | exact ((((Kept.refl _ w).alloc _).alloc _).alloc _).setCell _ (.inr (by simp; omega))
  cases h3 : (ath == bth)
  case false =>
    simp only [Bool.false_and, Bool.and_false, Bool.true_and, Bool.and_true]
    go_enter_defers Tryz.func131, Tryz.ntmps131
    go_wp2
    refine leaves_cons (f := 137) (args := #[.pointer (some ⟨w.heap.size + 1 + 1, 0, none⟩)]) (by simp) (by simp [go_sem]) ?_
    refine (hdCatch_idle ⟨w.heap.size + 1 + 1, 0, none⟩ _).mono ?_
    rintro e q' w'' ⟨rfl, rfl, rfl⟩
    simp [Leaves, settle, results, Tryz.results131, go_sem]
    first | exact (((Kept.refl _ w).alloc _).alloc _).alloc _ | exact ((((Kept.refl _ w).alloc _).alloc _).alloc _).setCell _ (.inr (by simp; omega))
  cases h4 : (adm == bdm)
  case false =>
    simp only [Bool.false_and, Bool.and_false, Bool.true_and, Bool.and_true]
    go_enter_defers Tryz.func131, Tryz.ntmps131
    go_wp2
    refine leaves_cons (f := 137) (args := #[.pointer (some ⟨w.heap.size + 1 + 1, 0, none⟩)]) (by simp) (by simp [go_sem]) ?_
    refine (hdCatch_idle ⟨w.heap.size + 1 + 1, 0, none⟩ _).mono ?_
    rintro e q' w'' ⟨rfl, rfl, rfl⟩
    simp [Leaves, settle, results, Tryz.results131, go_sem]
    first | exact (((Kept.refl _ w).alloc _).alloc _).alloc _ | exact ((((Kept.refl _ w).alloc _).alloc _).alloc _).setCell _ (.inr (by simp; omega))
  cases h5 : (awy == bwy)
  case false =>
    simp only [Bool.false_and, Bool.and_false, Bool.true_and, Bool.and_true]
    go_enter_defers Tryz.func131, Tryz.ntmps131
    go_wp2
    refine leaves_cons (f := 137) (args := #[.pointer (some ⟨w.heap.size + 1 + 1, 0, none⟩)]) (by simp) (by simp [go_sem]) ?_
    refine (hdCatch_idle ⟨w.heap.size + 1 + 1, 0, none⟩ _).mono ?_
    rintro e q' w'' ⟨rfl, rfl, rfl⟩
    simp [Leaves, settle, results, Tryz.results131, go_sem]
    first | exact (((Kept.refl _ w).alloc _).alloc _).alloc _ | exact ((((Kept.refl _ w).alloc _).alloc _).alloc _).setCell _ (.inr (by simp; omega))
  simp only [Bool.and_self]
  go_enter_defers Tryz.func131, Tryz.ntmps131
  go_wp2
  refine leaves_cons (f := 137) (args := #[.pointer (some ⟨w.heap.size + 1 + 1, 0, none⟩)]) (by simp) (by simp [go_sem]) ?_
  refine (hdCatch_idle ⟨w.heap.size + 1 + 1, 0, none⟩ _).mono ?_
  rintro e q' w'' ⟨rfl, rfl, rfl⟩
  simp [Leaves, settle, results, Tryz.results131, go_sem]
  first | exact (((Kept.refl _ w).alloc _).alloc _).alloc _ | exact ((((Kept.refl _ w).alloc _).alloc _).alloc _).setCell _ (.inr (by simp; omega))


set_option maxRecDepth 100000 in
theorem hdNew_st {o w : World} {its : List It} (h : St o its w) (mo : Option Nat) (kind : Int) (n : Nat) (h0 : 1 ≤ n) (h1 : n ≤ 4096) :
    Calls Tryz.prog 67 #[mptr mo, .int .i64 kind, .int .i64 n] w fun e w' => e = .returned (.tuple #[.pointer (some ⟨w.heap.size + 1, 0, none⟩), .int .i64 0]) ∧ St o (hdRowI (w.heap.size + 1) w.heap.size mo kind (List.replicate n Hd.zero) :: its) w' ∧ w'.heap.size = w.heap.size + 2 := by
  obtain ⟨i0, hi0, hz0, hz1, hz2⟩ := info_parts Tryz.infoHd
  have h2 : ¬ (n : Int) < 1 := by omega
  have h3 : ¬ (4096 : Int) < (n : Int) := by omega
  have hmk : (Instr.makeSlice 168 (.int .i64 n) (.int .i64 n)).run Tryz.prog w = .ok (.slice (some ⟨w.heap.size, 0, none⟩) n n) (w.alloc (.cells (hdCells (List.replicate n Hd.zero)).toArray 105)) := by
    have := run_make (P := Tryz.prog) w 168 105 i0 _ Tryz.underlying168 hi0 hz0 .i64 .i64 n n (by omega) (by omega) (by rw [hz2]; omega) (by omega)
    rw [this, hz1, Int.toNat_natCast, made_hd]
  generalize hC : (hdCells (List.replicate n Hd.zero)).toArray = CC at *
  have HR : Hid (St o (hdRowI (w.heap.size + 1) w.heap.size mo kind (List.replicate n Hd.zero) :: its) ((w.alloc (.cells CC 105)).alloc (.cells #[mptr mo, .int .i64 kind, .slice (some ⟨w.heap.size, 0, none⟩) n n] 170))) := by
    generalize h1' : w.alloc (.cells CC 105) = w1
    have s1 : w1.heap.size = w.heap.size + 1 := by rw [← h1']; simp
    have m1 : w1.heap[w.heap.size]? = some (.cells CC 105) := by rw [← h1']; exact heap_alloc_new w _
    have k1 : Kept (fun _ => False) w w1 := by rw [← h1']; exact kept_alloc _ _
    refine h.push _ (k1.alloc _) ⟨?_, ?_, by simpa using h1, by omega⟩ (by simp [hdRowI]) (by simp [hdRowI])
    · have := heap_alloc_new w1 (.cells #[mptr mo, .int .i64 kind, .slice (some ⟨w.heap.size, 0, none⟩) n n] 170)
      rw [s1] at this
      simpa using this
    · rw [hC]
      exact (Below.heap_alloc _ _ _ (by omega)).trans m1
  clear hC h
  simp only [mptr] at *
  generalize maddr mo = mp at *
  go_enter Tryz.func67, Tryz.ntmps67
  go_wp2
  go_ret2
  exact ⟨rfl, HR.out, by simp⟩

end Go.Proofs.YtajfjkhbimehbaaGreat
