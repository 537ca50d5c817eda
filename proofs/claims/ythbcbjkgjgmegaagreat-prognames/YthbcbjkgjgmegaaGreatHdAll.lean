/- Rows of Hd: New, has, Load, Store, Trade, All, same. Rows of Hd: Load. Rows of Hd: Trade. Trades of heads (see HdTrade). Rows of Hd: All. -/
import Derived.Test.YthbcbjkgjgmegaaGreatSmall
import Derived.Deep.RegionHeld3
import Derived.Deep.DrawnRows
import Derived.Defers
import Derived.Recover
import Derived.ChangeKeysEq
import Derived.Maps.AppendAt
import Derived.BigQuiet
import Derived.BigRegion
import Derived.Test.YthbcbjkgjgmegaaGreatNote
namespace Go.Proofs.YthbcbjkgjgmegaaGreat
open Go.RowKit
set_option linter.unusedVariables false
set_option linter.unusedSimpArgs false
attribute [local go_sem ↓] Go.wp_at_zero Go.wp_at_succ

structure Hd where
  gn : Int
  sa : Int
  sp : Int
  th : Int
  dm : Bool
  wy : Int
def Hd.zero : Hd := ⟨0, 0, 0, 0, false, 0⟩
def Hd.val (t : Hd) : Value := .agg #[.int .i64 t.gn, .int .i64 t.sa, .int .i64 t.sp, .int .i64 t.th, .bool t.dm, .int .i64 t.wy]
def Hd.cells (t : Hd) : List Value := [.int .i64 t.gn, .int .i64 t.sa, .int .i64 t.sp, .int .i64 t.th, .bool t.dm, .int .i64 t.wy]
def Hd.eq (a b : Hd) : Bool := (a.gn == b.gn) && (a.sa == b.sa) && (a.sp == b.sp) && (a.th == b.th) && (a.dm == b.dm) && (a.wy == b.wy)
theorem Hd.eq_iff (a b : Hd) : a.eq b = true ↔ a = b := by
  cases a; cases b; simp [Hd.eq, and_assoc]
theorem Hd.eq_ne {a b : Hd} (h : a ≠ b) : a.eq b = false := by
  cases hb : a.eq b
  · rfl
  · exact absurd ((Hd.eq_iff a b).1 hb) h
def hdCells : List Hd → List Value
  | [] => []
  | t :: l => t.cells ++ hdCells l
theorem hdCells_length (l : List Hd) : (hdCells l).length = l.length * 6 := by
  induction l with
  | nil => rfl
  | cons t l ih => simp [hdCells, Hd.cells, ih]; omega
theorem hdCells_at (l : List Hd) : ∀ k (hk : k < l.length), (hdCells l)[k * 6]? = some (.int .i64 l[k].gn) ∧ (hdCells l)[k * 6 + 1]? = some (.int .i64 l[k].sa) ∧ (hdCells l)[k * 6 + 2]? = some (.int .i64 l[k].sp) ∧ (hdCells l)[k * 6 + 3]? = some (.int .i64 l[k].th) ∧ (hdCells l)[k * 6 + 4]? = some (.bool l[k].dm) ∧ (hdCells l)[k * 6 + 5]? = some (.int .i64 l[k].wy) := by
  induction l with
  | nil => intro k hk; simp at hk
  | cons t l ih =>
    intro k hk
    cases k with
    | zero => simp [hdCells, Hd.cells]
    | succ k =>
      have := ih k (by simpa using hk)
      have e : ∀ i, (hdCells (t :: l))[(k + 1) * 6 + i]? = (hdCells l)[k * 6 + i]? := fun i => by
        rw [show (k + 1) * 6 + i = 6 + (k * 6 + i) by omega]
        simp only [hdCells]
        rw [List.getElem?_append_right (by simp [Hd.cells])]
        simp [Hd.cells]
      have e0 := e 0
      simp only [Nat.add_zero] at e0
      rw [e0, e 1, e 2, e 3, e 4, e 5]
      simpa using this
theorem hdCells_set (l : List Hd) (t : Hd) : ∀ k, k < l.length → (((((((hdCells l).set (k * 6) (.int .i64 t.gn)).set (k * 6 + 1) (.int .i64 t.sa)).set (k * 6 + 2) (.int .i64 t.sp)).set (k * 6 + 3) (.int .i64 t.th)).set (k * 6 + 4) (.bool t.dm)).set (k * 6 + 5) (.int .i64 t.wy)) = hdCells (l.set k t) := by
  induction l with
  | nil => intro k hk; simp at hk
  | cons u l ih =>
    intro k hk
    cases k with
    | zero => simp [hdCells, Hd.cells]
    | succ k =>
      have := ih k (by simpa using hk)
      simp only [hdCells, List.set_cons_succ]
      rw [← this, show (k + 1) * 6 = k * 6 + 6 by omega]
      simp only [Hd.cells, List.cons_append, List.nil_append]
      rw [show k * 6 + 6 + 1 = (k * 6 + 1) + 6 by omega, show k * 6 + 6 + 2 = (k * 6 + 2) + 6 by omega, show k * 6 + 6 + 3 = (k * 6 + 3) + 6 by omega, show k * 6 + 6 + 4 = (k * 6 + 4) + 6 by omega, show k * 6 + 6 + 5 = (k * 6 + 5) + 6 by omega]
      simp only [List.set_cons_succ]
theorem hdCells_one (l : List Hd) : ∀ u ∈ hdCells l, u.oneCell' = true := by
  induction l with
  | nil => intro u h; cases h
  | cons t l ih =>
    intro u h
    simp only [hdCells, List.mem_append] at h
    rcases h with h | h
    · simp only [Hd.cells, List.mem_cons, List.not_mem_nil, or_false] at h
      rcases h with h | h | h | h | h | h <;> subst h <;> rfl
    · exact ih u h
theorem hdCells_rep (t : Hd) : ∀ n j, j < n * 6 → (hdCells (List.replicate n t))[j]? = t.cells[j % 6]? := by
  intro n
  induction n with
  | zero => intro j hj; omega
  | succ n ih =>
    intro j hj
    simp only [List.replicate_succ, hdCells]
    by_cases h : j < 6
    · rw [List.getElem?_append_left (by simpa [Hd.cells] using h), Nat.mod_eq_of_lt h]
    · rw [List.getElem?_append_right (by simp [Hd.cells]; omega)]
      have := ih (j - 6) (by omega)
      simp only [Hd.cells, List.length_cons, List.length_nil] at *
      rw [this]
      congr 1
      omega
theorem made_hd (n : Nat) : madeCells (Value.agg #[.int .i64 0, .int .i64 0, .int .i64 0, .int .i64 0, .bool false, .int .i64 0]).cells (n * 6) = (hdCells (List.replicate n Hd.zero)).toArray := by
  apply Array.ext'
  apply List.ext_getElem?
  intro j
  by_cases hj : j < n * 6
  · rw [List.toList_toArray, hdCells_rep Hd.zero n j hj]
    have h3 : j % 6 < 6 := Nat.mod_lt _ (by omega)
    simp only [madeCells, Array.toList_map, List.getElem?_map, Array.toList_range, List.getElem?_range hj, Option.map_some]
    have hc : (Value.agg #[.int .i64 0, .int .i64 0, .int .i64 0, .int .i64 0, .bool false, .int .i64 0]).cells = #[.int .i64 0, .int .i64 0, .int .i64 0, .int .i64 0, .bool false, .int .i64 0] := rfl
    rw [hc]
    have : j % 6 = 0 ∨ j % 6 = 1 ∨ j % 6 = 2 ∨ j % 6 = 3 ∨ j % 6 = 4 ∨ j % 6 = 5 := by omega
    rcases this with h | h | h | h | h | h <;> simp [h, Hd.cells, Hd.zero]
  · rw [List.getElem?_eq_none (by simp [size_madeCells]; omega), List.getElem?_eq_none (by simp [hdCells_length]; omega)]

theorem Tryz.infoHd : (Tryz.prog.info? 181).map (fun i => (i.zero, i.size, i.bytes)) = some (some (.agg #[.int .i64 0, .int .i64 0, .int .i64 0, .int .i64 0, .bool false, .int .i64 0]), 6, 48) := by kernel_rfl

/-- A row in block r, its cells in block c, noted by mo. -/
structure HdRow (w : World) (r c : Nat) (mo : Option Nat) (kind : Int) (xs : List Hd) : Prop where
  row : w.heap[r]? = some (.cells #[mptr mo, .int .i64 kind, .slice (some ⟨c, 0, none⟩) xs.length xs.length] 251 (0, 0))
  cells : w.heap[c]? = some (.cells (hdCells xs).toArray 181 (0, 0))
  small : xs.length ≤ 4096
  rc : r ≠ c
def hdRowI (r c : Nat) (mo : Option Nat) (kind : Int) (xs : List Hd) : It :=
  ⟨[r, c], fun w => HdRow w r c mo kind xs, fun w w' h p => ⟨(h r (by simp)).trans p.row, (h c (by simp)).trans p.cells, p.small, p.rc⟩,
   fun w p b hb => by
    simp only [List.mem_cons, List.not_mem_nil, or_false] at hb
    rcases hb with rfl | rfl
    · exact lt_of_heap p.row
    · exact lt_of_heap p.cells⟩
theorem HdRow.cell {w : World} {r c : Nat} {mo : Option Nat} {kind : Int} {xs : List Hd} (h : HdRow w r c mo kind xs) (k : Nat) (hk : k < xs.length) : w.cell? ⟨c, k * 6, none⟩ = some (.int .i64 xs[k].gn) ∧ w.cell? ⟨c, k * 6 + 1, none⟩ = some (.int .i64 xs[k].sa) ∧ w.cell? ⟨c, k * 6 + 2, none⟩ = some (.int .i64 xs[k].sp) ∧ w.cell? ⟨c, k * 6 + 3, none⟩ = some (.int .i64 xs[k].th) ∧ w.cell? ⟨c, k * 6 + 4, none⟩ = some (.bool xs[k].dm) ∧ w.cell? ⟨c, k * 6 + 5, none⟩ = some (.int .i64 xs[k].wy) := by
  obtain ⟨a0, a1, a2, a3, a4, a5⟩ := hdCells_at xs k hk
  exact ⟨(cell_of_heap h.cells).trans (by simpa using a0), (cell_of_heap h.cells).trans (by simpa using a1), (cell_of_heap h.cells).trans (by simpa using a2), (cell_of_heap h.cells).trans (by simpa using a3), (cell_of_heap h.cells).trans (by simpa using a4), (cell_of_heap h.cells).trans (by simpa using a5)⟩
theorem HdRow.stored {w : World} {r c : Nat} {mo : Option Nat} {kind : Int} {xs : List Hd} (h : HdRow w r c mo kind xs) (k : Nat) (hk : k < xs.length) (t : Hd) :
    HdRow (((((((w.setCell ⟨c, k * 6, none⟩ (.int .i64 t.gn)).setCell ⟨c, k * 6 + 1, none⟩ (.int .i64 t.sa)).setCell ⟨c, k * 6 + 2, none⟩ (.int .i64 t.sp)).setCell ⟨c, k * 6 + 3, none⟩ (.int .i64 t.th)).setCell ⟨c, k * 6 + 4, none⟩ (.bool t.dm)).setCell ⟨c, k * 6 + 5, none⟩ (.int .i64 t.wy))) r c mo kind (xs.set k t) := by
  refine ⟨?_, ?_, by simpa using h.small, h.rc⟩
  · rw [heap_setCell_far (by simpa using h.rc), heap_setCell_far (by simpa using h.rc), heap_setCell_far (by simpa using h.rc), heap_setCell_far (by simpa using h.rc), heap_setCell_far (by simpa using h.rc), heap_setCell_far (by simpa using h.rc)]; simpa using h.row
  · rw [heap_setCell_at (heap_setCell_at (heap_setCell_at (heap_setCell_at (heap_setCell_at (heap_setCell_at h.cells _) _) _) _) _) _]
    have := hdCells_set xs t k hk
    rw [← this]
    simp
theorem St.hdStored {o w : World} {its : List It} (h : St o its w) (j : Nat) {r c : Nat} {mo : Option Nat} {kind : Int} {xs : List Hd} (hj : its[j]? = some (hdRowI r c mo kind xs)) (k : Nat) (hk : k < xs.length) (t : Hd) :
    St o (its.set j (hdRowI r c mo kind (xs.set k t))) (((((((w.setCell ⟨c, k * 6, none⟩ (.int .i64 t.gn)).setCell ⟨c, k * 6 + 1, none⟩ (.int .i64 t.sa)).setCell ⟨c, k * 6 + 2, none⟩ (.int .i64 t.sp)).setCell ⟨c, k * 6 + 3, none⟩ (.int .i64 t.th)).setCell ⟨c, k * 6 + 4, none⟩ (.bool t.dm)).setCell ⟨c, k * 6 + 5, none⟩ (.int .i64 t.wy))) := by
  have p : HdRow w r c mo kind xs := h.get j hj
  refine h.set j hj ?_ (p.stored k hk t) (by simp [hdRowI, p.rc]) (fun b hb => .inl hb)
  exact (((((((Kept.refl _ w).setCell _ (.inl (by simp [hdRowI]))).setCell _ (.inl (by simp [hdRowI]))).setCell _ (.inl (by simp [hdRowI]))).setCell _ (.inl (by simp [hdRowI]))).setCell _ (.inl (by simp [hdRowI]))).setCell _ (.inl (by simp [hdRowI])))


set_option maxRecDepth 100000 in
theorem hdHas_in {r c : Nat} {mo : Option Nat} {kind : Int} {xs : List Hd} (k : Nat) (w : World) (h : HdRow w r c mo kind xs) (hk : k < xs.length) :
    Calls Tryz.prog 312 #[.pointer (some ⟨r, 0, none⟩), .int .i64 k] w fun e w' => e = .returned (.bool true) ∧ w' = w := by
  have c2 : w.cell? ⟨r, 2, none⟩ = some (.slice (some ⟨c, 0, none⟩) xs.length xs.length) := cell_of_heap h.row
  have h0 : (0 : Int) ≤ (k : Int) := Int.natCast_nonneg _
  have h1 : (k : Int) < (xs.length : Int) := by omega
  have hs : (xs.length : Int) ≤ 4096 := by have := h.small; omega
  clear h
  go_enter Tryz.func312, Tryz.ntmps312
  go_wp2
  go_ret
  exact ⟨rfl, rfl⟩
set_option maxRecDepth 100000 in
theorem hdHas_out {r c : Nat} {mo : Option Nat} {kind : Int} {xs : List Hd} (i : Int) (w : World) (h : HdRow w r c mo kind xs) (hk : ¬ (0 ≤ i ∧ i < xs.length)) :
    Calls Tryz.prog 312 #[.pointer (some ⟨r, 0, none⟩), .int .i64 i] w fun e w' => e = .returned (.bool false) ∧ w' = w := by
  have c2 : w.cell? ⟨r, 2, none⟩ = some (.slice (some ⟨c, 0, none⟩) xs.length xs.length) := cell_of_heap h.row
  have hs : (xs.length : Int) ≤ 4096 := by have := h.small; omega
  clear h
  by_cases h0 : (0 : Int) ≤ i
  · have h1 : ¬ i < (xs.length : Int) := by omega
    clear hk
    go_enter Tryz.func312, Tryz.ntmps312
    go_wp2
    go_ret
    exact ⟨rfl, rfl⟩
  · clear hk
    have hd : decide ((0 : Int) ≤ i) = false := by simpa using h0
    go_enter Tryz.func312, Tryz.ntmps312
    go_wp2
    go_ret
    exact ⟨rfl, rfl⟩

theorem hdCatch_idle (p : Addr) (w : World) :
    CallsD Tryz.prog 353 #[.pointer (some p)] .returning w fun e u' w' => e = .returned (.tuple #[]) ∧ u' = .returning ∧ w' = w := by
  refine callsD_of_wpS Tryz.func353 rfl fun c₀ cs hu => ?_
  apply wpS_seq
  apply wpS_region
  simp [wpOpsS, go_sem, recoverD, hu, Tryz.ntmps353, Exit.thenS]
  refine wpS_cond (t := false) (by simp [Act.eval, Array.replicate]) ?_
  simp only [Bool.false_eq_true, if_false]
  refine wpS_of_wp (wp_skip ?_)
  cases c₀
  simp_all [bodyPostS, results, Tryz.results353]


set_option maxRecDepth 100000 in
theorem hdSame (a b : Hd) (w : World) :
    Calls Tryz.prog 352 #[a.val, b.val] w fun e w' => e = .returned (.bool (a.eq b)) ∧ Kept (fun _ => False) w w' := by
  have hmf : ∀ (fn : Fn) (first cap : Array Value) (w : World), (Instr.makeFunc fn first cap).run Tryz.prog w = .ok (.func fn first cap) w := fun _ _ _ _ => rfl
  obtain ⟨agn, asa, asp, ath, adm, awy⟩ := a
  obtain ⟨bgn, bsa, bsp, bth, bdm, bwy⟩ := b
  simp only [Hd.val, Hd.eq]
  cases h0 : (agn == bgn)
  case false =>
    simp only [Bool.false_and, Bool.and_false, Bool.true_and, Bool.and_true]
    go_enter_defers Tryz.func352, Tryz.ntmps352
    go_wp2
    refine leaves_cons (f := 353) (args := #[.pointer (some ⟨w.heap.size + 1 + 1, 0, none⟩)]) (by simp) (by simp [go_sem]) ?_
    refine (hdCatch_idle ⟨w.heap.size + 1 + 1, 0, none⟩ _).mono ?_
    rintro e q' w'' ⟨rfl, rfl, rfl⟩
    simp [Leaves, settle, results, Tryz.results352, go_sem]
    first | exact (((Kept.refl _ w).alloc _).alloc _).alloc _ | exact ((((Kept.refl _ w).alloc _).alloc _).alloc _).setCell _ (.inr (by simp; omega))
  cases h1 : (asa == bsa)
  case false =>
    simp only [Bool.false_and, Bool.and_false, Bool.true_and, Bool.and_true]
    go_enter_defers Tryz.func352, Tryz.ntmps352
    go_wp2
    refine leaves_cons (f := 353) (args := #[.pointer (some ⟨w.heap.size + 1 + 1, 0, none⟩)]) (by simp) (by simp [go_sem]) ?_
    refine (hdCatch_idle ⟨w.heap.size + 1 + 1, 0, none⟩ _).mono ?_
    rintro e q' w'' ⟨rfl, rfl, rfl⟩
    simp [Leaves, settle, results, Tryz.results352, go_sem]
    first | exact (((Kept.refl _ w).alloc _).alloc _).alloc _ | exact ((((Kept.refl _ w).alloc _).alloc _).alloc _).setCell _ (.inr (by simp; omega))
  cases h2 : (asp == bsp)
  case false =>
    simp only [Bool.false_and, Bool.and_false, Bool.true_and, Bool.and_true]
    go_enter_defers Tryz.func352, Tryz.ntmps352
    go_wp2
    refine leaves_cons (f := 353) (args := #[.pointer (some ⟨w.heap.size + 1 + 1, 0, none⟩)]) (by simp) (by simp [go_sem]) ?_
    refine (hdCatch_idle ⟨w.heap.size + 1 + 1, 0, none⟩ _).mono ?_
    rintro e q' w'' ⟨rfl, rfl, rfl⟩
    simp [Leaves, settle, results, Tryz.results352, go_sem]
    first | exact (((Kept.refl _ w).alloc _).alloc _).alloc _ | exact ((((Kept.refl _ w).alloc _).alloc _).alloc _).setCell _ (.inr (by simp; omega))
  cases h3 : (ath == bth)
  case false =>
    simp only [Bool.false_and, Bool.and_false, Bool.true_and, Bool.and_true]
    go_enter_defers Tryz.func352, Tryz.ntmps352
    go_wp2
    refine leaves_cons (f := 353) (args := #[.pointer (some ⟨w.heap.size + 1 + 1, 0, none⟩)]) (by simp) (by simp [go_sem]) ?_
    refine (hdCatch_idle ⟨w.heap.size + 1 + 1, 0, none⟩ _).mono ?_
    rintro e q' w'' ⟨rfl, rfl, rfl⟩
    simp [Leaves, settle, results, Tryz.results352, go_sem]
    first | exact (((Kept.refl _ w).alloc _).alloc _).alloc _ | exact ((((Kept.refl _ w).alloc _).alloc _).alloc _).setCell _ (.inr (by simp; omega))
  cases h4 : (adm == bdm)
  case false =>
    simp only [Bool.false_and, Bool.and_false, Bool.true_and, Bool.and_true]
    go_enter_defers Tryz.func352, Tryz.ntmps352
    go_wp2
    refine leaves_cons (f := 353) (args := #[.pointer (some ⟨w.heap.size + 1 + 1, 0, none⟩)]) (by simp) (by simp [go_sem]) ?_
    refine (hdCatch_idle ⟨w.heap.size + 1 + 1, 0, none⟩ _).mono ?_
    rintro e q' w'' ⟨rfl, rfl, rfl⟩
    simp [Leaves, settle, results, Tryz.results352, go_sem]
    first | exact (((Kept.refl _ w).alloc _).alloc _).alloc _ | exact ((((Kept.refl _ w).alloc _).alloc _).alloc _).setCell _ (.inr (by simp; omega))
  cases h5 : (awy == bwy)
  case false =>
    simp only [Bool.false_and, Bool.and_false, Bool.true_and, Bool.and_true]
    go_enter_defers Tryz.func352, Tryz.ntmps352
    go_wp2
    refine leaves_cons (f := 353) (args := #[.pointer (some ⟨w.heap.size + 1 + 1, 0, none⟩)]) (by simp) (by simp [go_sem]) ?_
    refine (hdCatch_idle ⟨w.heap.size + 1 + 1, 0, none⟩ _).mono ?_
    rintro e q' w'' ⟨rfl, rfl, rfl⟩
    simp [Leaves, settle, results, Tryz.results352, go_sem]
    first | exact (((Kept.refl _ w).alloc _).alloc _).alloc _ | exact ((((Kept.refl _ w).alloc _).alloc _).alloc _).setCell _ (.inr (by simp; omega))
  simp only [Bool.and_self]
  go_enter_defers Tryz.func352, Tryz.ntmps352
  go_wp2
  refine leaves_cons (f := 353) (args := #[.pointer (some ⟨w.heap.size + 1 + 1, 0, none⟩)]) (by simp) (by simp [go_sem]) ?_
  refine (hdCatch_idle ⟨w.heap.size + 1 + 1, 0, none⟩ _).mono ?_
  rintro e q' w'' ⟨rfl, rfl, rfl⟩
  simp [Leaves, settle, results, Tryz.results352, go_sem]
  first | exact (((Kept.refl _ w).alloc _).alloc _).alloc _ | exact ((((Kept.refl _ w).alloc _).alloc _).alloc _).setCell _ (.inr (by simp; omega))


set_option maxRecDepth 100000 in
theorem hdNew_st {o w : World} {its : List It} (h : St o its w) (mo : Option Nat) (kind : Int) (n : Nat) (h0 : 1 ≤ n) (h1 : n ≤ 4096) :
    Calls Tryz.prog 81 #[mptr mo, .int .i64 kind, .int .i64 n] w fun e w' => e = .returned (.tuple #[.pointer (some ⟨w.heap.size + 1, 0, none⟩), .int .i64 0]) ∧ St o (hdRowI (w.heap.size + 1) w.heap.size mo kind (List.replicate n Hd.zero) :: its) w' ∧ w'.heap.size = w.heap.size + 2 := by
  obtain ⟨i0, hi0, hz0, hz1, hz2⟩ := info_parts Tryz.infoHd
  have h2 : ¬ (n : Int) < 1 := by omega
  have h3 : ¬ (4096 : Int) < (n : Int) := by omega
  have hmk : (Instr.makeSlice 246 (.int .i64 n) (.int .i64 n)).run Tryz.prog w = .ok (.slice (some ⟨w.heap.size, 0, none⟩) n n) (w.alloc (.cells (hdCells (List.replicate n Hd.zero)).toArray 181)) := by
    have := run_make (P := Tryz.prog) w 246 181 i0 _ Tryz.underlying246 hi0 hz0 .i64 .i64 n n (by omega) (by omega) (by rw [hz2]; omega) (by omega)
    rw [this, hz1, Int.toNat_natCast, made_hd]
  generalize hC : (hdCells (List.replicate n Hd.zero)).toArray = CC at *
  have HR : Hid (St o (hdRowI (w.heap.size + 1) w.heap.size mo kind (List.replicate n Hd.zero) :: its) ((w.alloc (.cells CC 181)).alloc (.cells #[mptr mo, .int .i64 kind, .slice (some ⟨w.heap.size, 0, none⟩) n n] 251))) := by
    generalize h1' : w.alloc (.cells CC 181) = w1
    have s1 : w1.heap.size = w.heap.size + 1 := by rw [← h1']; simp
    have m1 : w1.heap[w.heap.size]? = some (.cells CC 181) := by rw [← h1']; exact heap_alloc_new w _
    have k1 : Kept (fun _ => False) w w1 := by rw [← h1']; exact kept_alloc _ _
    refine h.push _ (k1.alloc _) ⟨?_, ?_, by simpa using h1, by omega⟩ (by simp [hdRowI]) (by simp [hdRowI])
    · have := heap_alloc_new w1 (.cells #[mptr mo, .int .i64 kind, .slice (some ⟨w.heap.size, 0, none⟩) n n] 251)
      rw [s1] at this
      simpa using this
    · rw [hC]
      exact (Below.heap_alloc _ _ _ (by omega)).trans m1
  clear hC h
  simp only [mptr] at *
  generalize maddr mo = mp at *
  go_enter Tryz.func81, Tryz.ntmps81
  go_wp2
  go_ret2
  exact ⟨rfl, HR.out, by simp⟩

end Go.Proofs.YthbcbjkgjgmegaaGreat

namespace Go.Proofs.YthbcbjkgjgmegaaGreat
open Go.RowKit
set_option linter.unusedVariables false
set_option linter.unusedSimpArgs false
attribute [local go_sem ↓] Go.wp_at_zero Go.wp_at_succ


set_option maxRecDepth 100000 in
set_option maxHeartbeats 1000000 in
theorem hdLoad_st {o w : World} {its : List It} (h : St o its w) (i j : Nat) {r c : Nat} {mo : Option Nat} {s : Mt} {v : Value} {kind : Int} {xs : List Hd} (hi : its[i]? = some (meterI 174 mo s v)) (hj : its[j]? = some (hdRowI r c mo kind xs)) (hij : i ≠ j)
    {n : Nat} (hw : s.within n) (hn : n ≤ 4611686018427) (k : Nat) (hk : k < xs.length) :
    Calls Tryz.prog 311 #[.pointer (some ⟨r, 0, none⟩), .int .i64 k] w fun e w' => e = .returned (.tuple #[xs[k].val, .int .i64 0]) ∧ ∃ v', St o (its.set i (meterI 174 mo (s.note kind k 1 true) v')) w' := by
  generalize hx : xs[k] = x
  obtain ⟨xgn, xsa, xsp, xth, xdm, xwy⟩ := x
  simp only [Hd.val]
  have HX : Hid (xs[k] = ⟨xgn, xsa, xsp, xth, xdm, xwy⟩) := hx
  clear hx
  have i0 : (0 : Int) ≤ (k : Int) := Int.natCast_nonneg _
  have i1 : (k : Int) < (xs.length : Int) := by omega
  go_enter Tryz.func311, Tryz.ntmps311
  go_wp2_with fail
  have hS0 := h.box #[.int .i64 0, .int .i64 0, .int .i64 0, .int .i64 0, .bool false, .int .i64 0] 181
  generalize w.alloc (.cells #[.int .i64 0, .int .i64 0, .int .i64 0, .int .i64 0, .bool false, .int .i64 0] 181) = W0 at hS0 ⊢
  generalize w.heap.size = B at hS0 ⊢
  have r0 : HdRow W0 r c mo kind xs := hS0.get (j + 1) hj
  have hle : (xs.length : Int) ≤ 4096 := by have := r0.small; omega
  have hnote : Calls Tryz.prog 306 #[mptr mo, .int .i64 kind, .int .i64 k, .int .i64 1, .bool true] W0.drew fun e w' => e = .returned (.tuple #[]) ∧ ∃ v', St o (boxI B #[.int .i64 0, .int .i64 0, .int .i64 0, .int .i64 0, .bool false, .int .i64 0] 181 :: its.set i (meterI 174 mo (s.note kind k 1 true) v')) w' :=
    note_st hS0.drew (i + 1) hi hw hn kind k 1 true
  have e0 : W0.cell? ⟨r, 0, none⟩ = some (mptr mo) := cell_of_heap r0.row
  have e1 : W0.cell? ⟨r, 1, none⟩ = some (.int .i64 kind) := cell_of_heap r0.row
  refine (hdHas_in k W0 r0 hk).mono ?_
  rintro e w1 ⟨rfl, rfl⟩
  clear r0 hS0 h
  go_wp2_with fail
  go_region_held3 (fun w' => w'.cell? ⟨r, 0, none⟩ = some (mptr mo) ∧ w'.cell? ⟨r, 1, none⟩ = some (.int .i64 kind)) (first | go_keep | exact ⟨cell_of_heap q.out.row, cell_of_heap q.out.row⟩)
    (first | (go_at_call 306; refine hnote.mono ?_; rintro e w' ⟨rfl, v', hS⟩; have q : Hid (HdRow w' r c mo kind xs) := hS.get (j + 1) (set_other hj hij)))
  have e2 : w'.cell? ⟨r, 2, none⟩ = some (.slice (some ⟨c, 0, none⟩) xs.length xs.length) := cell_of_heap q.out.row
  have d := q.out.cell k hk
  rw [HX.out] at d
  simp only at d
  obtain ⟨d0, d1, d2, d3, d4, d5⟩ := d
  have b0 : w'.cell? ⟨B, 0, none⟩ = some (.int .i64 0) := hS.cell 0 rfl 0
  have b1 : w'.cell? ⟨B, 1, none⟩ = some (.int .i64 0) := hS.cell 0 rfl 1
  have b2 : w'.cell? ⟨B, 2, none⟩ = some (.int .i64 0) := hS.cell 0 rfl 2
  have b3 : w'.cell? ⟨B, 3, none⟩ = some (.int .i64 0) := hS.cell 0 rfl 3
  have b4 : w'.cell? ⟨B, 4, none⟩ = some (.bool false) := hS.cell 0 rfl 4
  have b5 : w'.cell? ⟨B, 5, none⟩ = some (.int .i64 0) := hS.cell 0 rfl 5
  have f0 : w'.frozen? ⟨B, 0, none⟩ = false := hS.frozen 0 rfl 0
  have f1 : w'.frozen? ⟨B, 1, none⟩ = false := hS.frozen 0 rfl 1
  have f2 : w'.frozen? ⟨B, 2, none⟩ = false := hS.frozen 0 rfl 2
  have f3 : w'.frozen? ⟨B, 3, none⟩ = false := hS.frozen 0 rfl 3
  have f4 : w'.frozen? ⟨B, 4, none⟩ = false := hS.frozen 0 rfl 4
  have f5 : w'.frozen? ⟨B, 5, none⟩ = false := hS.frozen 0 rfl 5
  have ne : ¬ c = B := hS.ne (j + 1) 0 (set_other hj hij) rfl (by omega) (by simp [hdRowI]) (by simp [boxI])
  have HS : Hid (∀ u0 u1 u2 u3 u4 u5 : Value, St o (its.set i (meterI 174 mo (s.note kind k 1 true) v')) ((((((w'.setCell ⟨B, 0, none⟩ (u0)).setCell ⟨B, 1, none⟩ (u1)).setCell ⟨B, 2, none⟩ (u2)).setCell ⟨B, 3, none⟩ (u3)).setCell ⟨B, 4, none⟩ (u4)).setCell ⟨B, 5, none⟩ (u5))) := fun u0 u1 u2 u3 u4 u5 => ((((((hS.write 0 rfl 0 u0).write 0 rfl 1 u1).write 0 rfl 2 u2).write 0 rfl 3 u3).write 0 rfl 4 u4).write 0 rfl 5 u5).pop
  clear q hnote hS
  go_wp2
  exact bodyPost_ret (v := .tuple #[.agg #[.int .i64 xgn, .int .i64 xsa, .int .i64 xsp, .int .i64 xth, .bool xdm, .int .i64 xwy], .int .i64 0]) (by simp [results, Tryz.results311, go_sem, b0, b1, b2, b3, b4, b5]) rfl ⟨rfl, v', HS.out _ _ _ _ _ _⟩


set_option maxRecDepth 100000 in
set_option maxHeartbeats 1000000 in
theorem hdLoad_out {o w : World} {its : List It} (h : St o its w) (j : Nat) {r c : Nat} {mo : Option Nat} {kind : Int} {xs : List Hd} (hj : its[j]? = some (hdRowI r c mo kind xs)) (i : Int) (hk : ¬ (0 ≤ i ∧ i < xs.length)) :
    Calls Tryz.prog 311 #[.pointer (some ⟨r, 0, none⟩), .int .i64 i] w fun e w' => e = .returned (.tuple #[.agg #[.int .i64 0, .int .i64 0, .int .i64 0, .int .i64 0, .bool false, .int .i64 0], .int .i64 2]) ∧ St o its w' := by
  go_enter Tryz.func311, Tryz.ntmps311
  go_wp2_with fail
  have hS0 := h.box #[.int .i64 0, .int .i64 0, .int .i64 0, .int .i64 0, .bool false, .int .i64 0] 181
  generalize w.alloc (.cells #[.int .i64 0, .int .i64 0, .int .i64 0, .int .i64 0, .bool false, .int .i64 0] 181) = W0 at hS0 ⊢
  generalize w.heap.size = B at hS0 ⊢
  have r0 : HdRow W0 r c mo kind xs := hS0.get (j + 1) hj
  refine (hdHas_out i W0 r0 hk).mono ?_
  rintro e w1 ⟨rfl, rfl⟩
  have hlt : B < w1.heap.size := (boxI B #[.int .i64 0, .int .i64 0, .int .i64 0, .int .i64 0, .bool false, .int .i64 0] 181).old w1 (hS0.get 0 rfl) B (by simp [boxI])
  have hne : ¬ B = w1.heap.size := by omega
  have hne' : ¬ w1.heap.size = B := by omega
  have hS1 := hS0.box #[.int .i64 0, .int .i64 0, .int .i64 0, .int .i64 0, .bool false, .int .i64 0] 181
  have b0 : (w1.alloc (.cells #[.int .i64 0, .int .i64 0, .int .i64 0, .int .i64 0, .bool false, .int .i64 0] 181)).cell? ⟨B, 0, none⟩ = some (.int .i64 0) := hS1.cell 1 rfl 0
  have b1 : (w1.alloc (.cells #[.int .i64 0, .int .i64 0, .int .i64 0, .int .i64 0, .bool false, .int .i64 0] 181)).cell? ⟨B, 1, none⟩ = some (.int .i64 0) := hS1.cell 1 rfl 1
  have b2 : (w1.alloc (.cells #[.int .i64 0, .int .i64 0, .int .i64 0, .int .i64 0, .bool false, .int .i64 0] 181)).cell? ⟨B, 2, none⟩ = some (.int .i64 0) := hS1.cell 1 rfl 2
  have b3 : (w1.alloc (.cells #[.int .i64 0, .int .i64 0, .int .i64 0, .int .i64 0, .bool false, .int .i64 0] 181)).cell? ⟨B, 3, none⟩ = some (.int .i64 0) := hS1.cell 1 rfl 3
  have b4 : (w1.alloc (.cells #[.int .i64 0, .int .i64 0, .int .i64 0, .int .i64 0, .bool false, .int .i64 0] 181)).cell? ⟨B, 4, none⟩ = some (.bool false) := hS1.cell 1 rfl 4
  have b5 : (w1.alloc (.cells #[.int .i64 0, .int .i64 0, .int .i64 0, .int .i64 0, .bool false, .int .i64 0] 181)).cell? ⟨B, 5, none⟩ = some (.int .i64 0) := hS1.cell 1 rfl 5
  have f0 : (w1.alloc (.cells #[.int .i64 0, .int .i64 0, .int .i64 0, .int .i64 0, .bool false, .int .i64 0] 181)).frozen? ⟨B, 0, none⟩ = false := hS1.frozen 1 rfl 0
  have f1 : (w1.alloc (.cells #[.int .i64 0, .int .i64 0, .int .i64 0, .int .i64 0, .bool false, .int .i64 0] 181)).frozen? ⟨B, 1, none⟩ = false := hS1.frozen 1 rfl 1
  have f2 : (w1.alloc (.cells #[.int .i64 0, .int .i64 0, .int .i64 0, .int .i64 0, .bool false, .int .i64 0] 181)).frozen? ⟨B, 2, none⟩ = false := hS1.frozen 1 rfl 2
  have f3 : (w1.alloc (.cells #[.int .i64 0, .int .i64 0, .int .i64 0, .int .i64 0, .bool false, .int .i64 0] 181)).frozen? ⟨B, 3, none⟩ = false := hS1.frozen 1 rfl 3
  have f4 : (w1.alloc (.cells #[.int .i64 0, .int .i64 0, .int .i64 0, .int .i64 0, .bool false, .int .i64 0] 181)).frozen? ⟨B, 4, none⟩ = false := hS1.frozen 1 rfl 4
  have f5 : (w1.alloc (.cells #[.int .i64 0, .int .i64 0, .int .i64 0, .int .i64 0, .bool false, .int .i64 0] 181)).frozen? ⟨B, 5, none⟩ = false := hS1.frozen 1 rfl 5
  have HS : Hid (∀ u0 u1 u2 u3 u4 u5 : Value, St o its (((((((w1.alloc (.cells #[.int .i64 0, .int .i64 0, .int .i64 0, .int .i64 0, .bool false, .int .i64 0] 181)).setCell ⟨B, 0, none⟩ (u0)).setCell ⟨B, 1, none⟩ (u1)).setCell ⟨B, 2, none⟩ (u2)).setCell ⟨B, 3, none⟩ (u3)).setCell ⟨B, 4, none⟩ (u4)).setCell ⟨B, 5, none⟩ (u5))) := fun u0 u1 u2 u3 u4 u5 => ((((((hS1.write 1 rfl 0 u0).write 1 rfl 1 u1).write 1 rfl 2 u2).write 1 rfl 3 u3).write 1 rfl 4 u4).write 1 rfl 5 u5).pop.pop
  clear r0 hS0 hS1 h hlt hk
  go_wp2
  exact bodyPost_ret (v := .tuple #[.agg #[.int .i64 0, .int .i64 0, .int .i64 0, .int .i64 0, .bool false, .int .i64 0], .int .i64 2]) (by simp [results, Tryz.results311, go_sem, hne, hne', b0, b1, b2, b3, b4, b5]) rfl ⟨rfl, HS.out _ _ _ _ _ _⟩

end Go.Proofs.YthbcbjkgjgmegaaGreat

namespace Go.Proofs.YthbcbjkgjgmegaaGreat
open Go.RowKit
set_option linter.unusedVariables false
set_option linter.unusedSimpArgs false
attribute [local go_sem ↓] Go.wp_at_zero Go.wp_at_succ


set_option maxRecDepth 100000 in
set_option maxHeartbeats 1000000 in
theorem hdTrade_hit {o w : World} {its : List It} (h : St o its w) (i j : Nat) {r c : Nat} {mo : Option Nat} {s : Mt} {v : Value} {kind : Int} {xs : List Hd} (hi : its[i]? = some (meterI 174 mo s v)) (hj : its[j]? = some (hdRowI r c mo kind xs)) (hij : i ≠ j)
    {n : Nat} (hw : s.within n) (hn : n ≤ 4611686018427) (k : Nat) (hk : k < xs.length) (a b : Hd) (hb : xs[k].eq a = true) :
    Calls Tryz.prog 351 #[.pointer (some ⟨r, 0, none⟩), .int .i64 k, a.val, b.val] w fun e w' => e = .returned (.tuple #[xs[k].val, .bool true, .int .i64 0]) ∧ ∃ v', St o ((its.set i (meterI 174 mo (s.note kind k 3 true) v')).set j (hdRowI r c mo kind (xs.set k b))) w' := by
  generalize hx : xs[k] = x at hb ⊢
  have hsame : ∀ W, Calls Tryz.prog 352 #[x.val, a.val] W fun e w' => e = .returned (.bool true) ∧ Kept (fun _ => False) W w' := fun W => hb ▸ hdSame x a W
  clear hb
  obtain ⟨xgn, xsa, xsp, xth, xdm, xwy⟩ := x
  obtain ⟨agn, asa, asp, ath, adm, awy⟩ := a
  obtain ⟨bgn, bsa, bsp, bth, bdm, bwy⟩ := b
  simp only [Hd.val] at hsame ⊢
  have HX : Hid (xs[k] = ⟨xgn, xsa, xsp, xth, xdm, xwy⟩) := hx
  clear hx
  have i0 : (0 : Int) ≤ (k : Int) := Int.natCast_nonneg _
  have i1 : (k : Int) < (xs.length : Int) := by omega
  go_enter Tryz.func351, Tryz.ntmps351
  go_wp2_with fail
  have hS0 := ((h.box #[.int .i64 agn, .int .i64 asa, .int .i64 asp, .int .i64 ath, .bool adm, .int .i64 awy] 181).box #[.int .i64 bgn, .int .i64 bsa, .int .i64 bsp, .int .i64 bth, .bool bdm, .int .i64 bwy] 181).box #[.int .i64 0, .int .i64 0, .int .i64 0, .int .i64 0, .bool false, .int .i64 0] 181
  simp only [alloc_size] at hS0
  generalize ((w.alloc (.cells #[.int .i64 agn, .int .i64 asa, .int .i64 asp, .int .i64 ath, .bool adm, .int .i64 awy] 181)).alloc (.cells #[.int .i64 bgn, .int .i64 bsa, .int .i64 bsp, .int .i64 bth, .bool bdm, .int .i64 bwy] 181)).alloc (.cells #[.int .i64 0, .int .i64 0, .int .i64 0, .int .i64 0, .bool false, .int .i64 0] 181) = W0 at hS0 ⊢
  generalize w.heap.size = B at hS0 ⊢
  have r0 : HdRow W0 r c mo kind xs := hS0.get (j + 3) hj
  have hle : (xs.length : Int) ≤ 4096 := by have := r0.small; omega
  refine (hdHas_in k W0 r0 hk).mono ?_
  rintro e w1 ⟨rfl, rfl⟩
  have d := r0.cell k hk
  rw [HX.out] at d
  simp only at d
  obtain ⟨d0, d1, d2, d3, d4, d5⟩ := d
  have e2 : w1.cell? ⟨r, 2, none⟩ = some (.slice (some ⟨c, 0, none⟩) xs.length xs.length) := cell_of_heap r0.row
  have q0 : w1.cell? ⟨B, 0, none⟩ = some (.int .i64 agn) := hS0.cell 2 rfl 0
  have q1 : w1.cell? ⟨B, 1, none⟩ = some (.int .i64 asa) := hS0.cell 2 rfl 1
  have q2 : w1.cell? ⟨B, 2, none⟩ = some (.int .i64 asp) := hS0.cell 2 rfl 2
  have q3 : w1.cell? ⟨B, 3, none⟩ = some (.int .i64 ath) := hS0.cell 2 rfl 3
  have q4 : w1.cell? ⟨B, 4, none⟩ = some (.bool adm) := hS0.cell 2 rfl 4
  have q5 : w1.cell? ⟨B, 5, none⟩ = some (.int .i64 awy) := hS0.cell 2 rfl 5
  have hlt : B < w1.heap.size := hS0.all _ (by simp) |> fun p => (boxI B #[.int .i64 agn, .int .i64 asa, .int .i64 asp, .int .i64 ath, .bool adm, .int .i64 awy] 181).old w1 p B (by simp [boxI])
  have hlc : c < w1.heap.size := lt_of_heap r0.cells
  have hne1 : ¬ B = w1.heap.size := by omega
  have hne2 : ¬ c = w1.heap.size := by omega
  go_wp2_with fail
  have hS4 := hS0.box #[.int .i64 xgn, .int .i64 xsa, .int .i64 xsp, .int .i64 xth, .bool xdm, .int .i64 xwy] 181
  generalize w1.alloc (.cells #[.int .i64 xgn, .int .i64 xsa, .int .i64 xsp, .int .i64 xth, .bool xdm, .int .i64 xwy] 181) = w2 at hS4 ⊢
  clear d0 d1 d2 d3 d4 d5 e2 q0 q1 q2 q3 q4 q5 hlt hlc hne1 hne2 r0 hS0 h
  generalize w1.heap.size = H at hS4 ⊢
  refine (hsame w2).mono ?_
  rintro e w3 ⟨rfl, k5⟩
  have hS5 := hS4.calm k5
  clear k5 hS4 hsame
  have r3 : HdRow w3 r c mo kind xs := hS5.get (j + 4) hj
  have hnote : Calls Tryz.prog 306 #[mptr mo, .int .i64 kind, .int .i64 k, .int .i64 3, .bool true] w3.drew fun e w' => e = .returned (.tuple #[]) ∧ ∃ v', St o (boxI H #[.int .i64 xgn, .int .i64 xsa, .int .i64 xsp, .int .i64 xth, .bool xdm, .int .i64 xwy] 181 :: boxI (B + 1 + 1) #[.int .i64 0, .int .i64 0, .int .i64 0, .int .i64 0, .bool false, .int .i64 0] 181 :: boxI (B + 1) #[.int .i64 bgn, .int .i64 bsa, .int .i64 bsp, .int .i64 bth, .bool bdm, .int .i64 bwy] 181 :: boxI B #[.int .i64 agn, .int .i64 asa, .int .i64 asp, .int .i64 ath, .bool adm, .int .i64 awy] 181 :: its.set i (meterI 174 mo (s.note kind k 3 true) v')) w' :=
    note_st hS5.drew (i + 4) hi hw hn kind k 3 true
  have e0 : w3.cell? ⟨r, 0, none⟩ = some (mptr mo) := cell_of_heap r3.row
  have e1 : w3.cell? ⟨r, 1, none⟩ = some (.int .i64 kind) := cell_of_heap r3.row
  clear r3 hS5
  go_wp2_with fail
  go_region_held3 (fun w' => w'.cell? ⟨r, 0, none⟩ = some (mptr mo) ∧ w'.cell? ⟨r, 1, none⟩ = some (.int .i64 kind)) (first | go_keep | exact ⟨cell_of_heap q.out.row, cell_of_heap q.out.row⟩)
    (first | (go_at_call 306; refine hnote.mono ?_; rintro e w' ⟨rfl, v', hS⟩; have q : Hid (HdRow w' r c mo kind xs) := hS.get (j + 4) (set_other hj hij)))
  have z0 : w'.cell? ⟨H, 0, none⟩ = some (.int .i64 xgn) := hS.cell 0 rfl 0
  have z1 : w'.cell? ⟨H, 1, none⟩ = some (.int .i64 xsa) := hS.cell 0 rfl 1
  have z2 : w'.cell? ⟨H, 2, none⟩ = some (.int .i64 xsp) := hS.cell 0 rfl 2
  have z3 : w'.cell? ⟨H, 3, none⟩ = some (.int .i64 xth) := hS.cell 0 rfl 3
  have z4 : w'.cell? ⟨H, 4, none⟩ = some (.bool xdm) := hS.cell 0 rfl 4
  have z5 : w'.cell? ⟨H, 5, none⟩ = some (.int .i64 xwy) := hS.cell 0 rfl 5
  have y0 : w'.cell? ⟨B + 1 + 1, 0, none⟩ = some (.int .i64 0) := hS.cell 1 rfl 0
  have y1 : w'.cell? ⟨B + 1 + 1, 1, none⟩ = some (.int .i64 0) := hS.cell 1 rfl 1
  have y2 : w'.cell? ⟨B + 1 + 1, 2, none⟩ = some (.int .i64 0) := hS.cell 1 rfl 2
  have y3 : w'.cell? ⟨B + 1 + 1, 3, none⟩ = some (.int .i64 0) := hS.cell 1 rfl 3
  have y4 : w'.cell? ⟨B + 1 + 1, 4, none⟩ = some (.bool false) := hS.cell 1 rfl 4
  have y5 : w'.cell? ⟨B + 1 + 1, 5, none⟩ = some (.int .i64 0) := hS.cell 1 rfl 5
  have v0 : w'.frozen? ⟨B + 1 + 1, 0, none⟩ = false := hS.frozen 1 rfl 0
  have v1 : w'.frozen? ⟨B + 1 + 1, 1, none⟩ = false := hS.frozen 1 rfl 1
  have v2 : w'.frozen? ⟨B + 1 + 1, 2, none⟩ = false := hS.frozen 1 rfl 2
  have v3 : w'.frozen? ⟨B + 1 + 1, 3, none⟩ = false := hS.frozen 1 rfl 3
  have v4 : w'.frozen? ⟨B + 1 + 1, 4, none⟩ = false := hS.frozen 1 rfl 4
  have v5 : w'.frozen? ⟨B + 1 + 1, 5, none⟩ = false := hS.frozen 1 rfl 5
  have e2 : w'.cell? ⟨r, 2, none⟩ = some (.slice (some ⟨c, 0, none⟩) xs.length xs.length) := cell_of_heap q.out.row
  have d := q.out.cell k hk
  obtain ⟨d0, d1, d2, d3, d4, d5⟩ := d
  have b0 : w'.cell? ⟨B + 1, 0, none⟩ = some (.int .i64 bgn) := hS.cell 2 rfl 0
  have b1 : w'.cell? ⟨B + 1, 1, none⟩ = some (.int .i64 bsa) := hS.cell 2 rfl 1
  have b2 : w'.cell? ⟨B + 1, 2, none⟩ = some (.int .i64 bsp) := hS.cell 2 rfl 2
  have b3 : w'.cell? ⟨B + 1, 3, none⟩ = some (.int .i64 bth) := hS.cell 2 rfl 3
  have b4 : w'.cell? ⟨B + 1, 4, none⟩ = some (.bool bdm) := hS.cell 2 rfl 4
  have b5 : w'.cell? ⟨B + 1, 5, none⟩ = some (.int .i64 bwy) := hS.cell 2 rfl 5
  have l0 : w'.frozen? ⟨c, k * 6, none⟩ = false := frozen_of_heap q.out.cells
  have l1 : w'.frozen? ⟨c, k * 6 + 1, none⟩ = false := frozen_of_heap q.out.cells
  have l2 : w'.frozen? ⟨c, k * 6 + 2, none⟩ = false := frozen_of_heap q.out.cells
  have l3 : w'.frozen? ⟨c, k * 6 + 3, none⟩ = false := frozen_of_heap q.out.cells
  have l4 : w'.frozen? ⟨c, k * 6 + 4, none⟩ = false := frozen_of_heap q.out.cells
  have l5 : w'.frozen? ⟨c, k * 6 + 5, none⟩ = false := frozen_of_heap q.out.cells
  have n1 : ¬ c = B + 1 := hS.ne (j + 4) 2 (set_other hj hij) rfl (by omega) (by simp [hdRowI]) (by simp [boxI])
  have n2 : ¬ c = B + 1 + 1 := hS.ne (j + 4) 1 (set_other hj hij) rfl (by omega) (by simp [hdRowI]) (by simp [boxI])
  have n3 : ¬ B + 1 = c := fun e => n1 e.symm
  have n4 : ¬ B + 1 + 1 = c := fun e => n2 e.symm
  have n5 : ¬ H = c := hS.ne 0 (j + 4) rfl (set_other hj hij) (by omega) (by simp [boxI]) (by simp [hdRowI])
  have n6 : ¬ H = B + 1 + 1 := hS.ne 0 1 rfl rfl (by omega) (by simp [boxI]) (by simp [boxI])
  have n7 : ¬ r = c := q.out.rc
  have hT := hS.hdStored (j + 4) (set_other hj hij) k hk ⟨bgn, bsa, bsp, bth, bdm, bwy⟩
  have HS : Hid (∀ u0 u1 u2 u3 u4 u5 : Value, St o ((its.set i (meterI 174 mo (s.note kind k 3 true) v')).set j (hdRowI r c mo kind (xs.set k ⟨bgn, bsa, bsp, bth, bdm, bwy⟩))) ((((((((((((w'.setCell ⟨c, k * 6, none⟩ (.int .i64 bgn)).setCell ⟨c, k * 6 + 1, none⟩ (.int .i64 bsa)).setCell ⟨c, k * 6 + 2, none⟩ (.int .i64 bsp)).setCell ⟨c, k * 6 + 3, none⟩ (.int .i64 bth)).setCell ⟨c, k * 6 + 4, none⟩ (.bool bdm)).setCell ⟨c, k * 6 + 5, none⟩ (.int .i64 bwy)).setCell ⟨B + 1 + 1, 0, none⟩ (u0)).setCell ⟨B + 1 + 1, 1, none⟩ (u1)).setCell ⟨B + 1 + 1, 2, none⟩ (u2)).setCell ⟨B + 1 + 1, 3, none⟩ (u3)).setCell ⟨B + 1 + 1, 4, none⟩ (u4)).setCell ⟨B + 1 + 1, 5, none⟩ (u5))) := fun u0 u1 u2 u3 u4 u5 => ((((((hT.write 1 rfl 0 u0).write 1 rfl 1 u1).write 1 rfl 2 u2).write 1 rfl 3 u3).write 1 rfl 4 u4).write 1 rfl 5 u5).pop.pop.pop.pop
  clear q hnote hS hT
  go_wp2_with fail
  go_region
  all_goals
    go_wp2
    exact bodyPost_ret (v := .tuple #[.agg #[.int .i64 xgn, .int .i64 xsa, .int .i64 xsp, .int .i64 xth, .bool xdm, .int .i64 xwy], .bool true, .int .i64 0]) (by simp [results, Tryz.results351, go_sem, y0, y1, y2, y3, y4, y5, n1, n2, n3, n4, n5, n6]) rfl ⟨rfl, v', by first | exact (HS.out _ _ _ _ _ _).drew | exact HS.out _ _ _ _ _ _ | exact (HS.out _ _ _ _ _ _).drew.drew⟩


set_option maxRecDepth 100000 in
set_option maxHeartbeats 1000000 in
theorem hdTrade_miss {o w : World} {its : List It} (h : St o its w) (i j : Nat) {r c : Nat} {mo : Option Nat} {s : Mt} {v : Value} {kind : Int} {xs : List Hd} (hi : its[i]? = some (meterI 174 mo s v)) (hj : its[j]? = some (hdRowI r c mo kind xs)) (hij : i ≠ j)
    {n : Nat} (hw : s.within n) (hn : n ≤ 4611686018427) (k : Nat) (hk : k < xs.length) (a b : Hd) (hb : xs[k].eq a = false) :
    Calls Tryz.prog 351 #[.pointer (some ⟨r, 0, none⟩), .int .i64 k, a.val, b.val] w fun e w' => e = .returned (.tuple #[xs[k].val, .bool false, .int .i64 0]) ∧ ∃ v', St o (its.set i (meterI 174 mo (s.note kind k 3 false) v')) w' := by
  generalize hx : xs[k] = x at hb ⊢
  have hsame : ∀ W, Calls Tryz.prog 352 #[x.val, a.val] W fun e w' => e = .returned (.bool false) ∧ Kept (fun _ => False) W w' := fun W => hb ▸ hdSame x a W
  clear hb
  obtain ⟨xgn, xsa, xsp, xth, xdm, xwy⟩ := x
  obtain ⟨agn, asa, asp, ath, adm, awy⟩ := a
  obtain ⟨bgn, bsa, bsp, bth, bdm, bwy⟩ := b
  simp only [Hd.val] at hsame ⊢
  have HX : Hid (xs[k] = ⟨xgn, xsa, xsp, xth, xdm, xwy⟩) := hx
  clear hx
  have i0 : (0 : Int) ≤ (k : Int) := Int.natCast_nonneg _
  have i1 : (k : Int) < (xs.length : Int) := by omega
  go_enter Tryz.func351, Tryz.ntmps351
  go_wp2_with fail
  have hS0 := ((h.box #[.int .i64 agn, .int .i64 asa, .int .i64 asp, .int .i64 ath, .bool adm, .int .i64 awy] 181).box #[.int .i64 bgn, .int .i64 bsa, .int .i64 bsp, .int .i64 bth, .bool bdm, .int .i64 bwy] 181).box #[.int .i64 0, .int .i64 0, .int .i64 0, .int .i64 0, .bool false, .int .i64 0] 181
  simp only [alloc_size] at hS0
  generalize ((w.alloc (.cells #[.int .i64 agn, .int .i64 asa, .int .i64 asp, .int .i64 ath, .bool adm, .int .i64 awy] 181)).alloc (.cells #[.int .i64 bgn, .int .i64 bsa, .int .i64 bsp, .int .i64 bth, .bool bdm, .int .i64 bwy] 181)).alloc (.cells #[.int .i64 0, .int .i64 0, .int .i64 0, .int .i64 0, .bool false, .int .i64 0] 181) = W0 at hS0 ⊢
  generalize w.heap.size = B at hS0 ⊢
  have r0 : HdRow W0 r c mo kind xs := hS0.get (j + 3) hj
  have hle : (xs.length : Int) ≤ 4096 := by have := r0.small; omega
  refine (hdHas_in k W0 r0 hk).mono ?_
  rintro e w1 ⟨rfl, rfl⟩
  have d := r0.cell k hk
  rw [HX.out] at d
  simp only at d
  obtain ⟨d0, d1, d2, d3, d4, d5⟩ := d
  have e2 : w1.cell? ⟨r, 2, none⟩ = some (.slice (some ⟨c, 0, none⟩) xs.length xs.length) := cell_of_heap r0.row
  have q0 : w1.cell? ⟨B, 0, none⟩ = some (.int .i64 agn) := hS0.cell 2 rfl 0
  have q1 : w1.cell? ⟨B, 1, none⟩ = some (.int .i64 asa) := hS0.cell 2 rfl 1
  have q2 : w1.cell? ⟨B, 2, none⟩ = some (.int .i64 asp) := hS0.cell 2 rfl 2
  have q3 : w1.cell? ⟨B, 3, none⟩ = some (.int .i64 ath) := hS0.cell 2 rfl 3
  have q4 : w1.cell? ⟨B, 4, none⟩ = some (.bool adm) := hS0.cell 2 rfl 4
  have q5 : w1.cell? ⟨B, 5, none⟩ = some (.int .i64 awy) := hS0.cell 2 rfl 5
  have hlt : B < w1.heap.size := hS0.all _ (by simp) |> fun p => (boxI B #[.int .i64 agn, .int .i64 asa, .int .i64 asp, .int .i64 ath, .bool adm, .int .i64 awy] 181).old w1 p B (by simp [boxI])
  have hlc : c < w1.heap.size := lt_of_heap r0.cells
  have hne1 : ¬ B = w1.heap.size := by omega
  have hne2 : ¬ c = w1.heap.size := by omega
  go_wp2_with fail
  have hS4 := hS0.box #[.int .i64 xgn, .int .i64 xsa, .int .i64 xsp, .int .i64 xth, .bool xdm, .int .i64 xwy] 181
  generalize w1.alloc (.cells #[.int .i64 xgn, .int .i64 xsa, .int .i64 xsp, .int .i64 xth, .bool xdm, .int .i64 xwy] 181) = w2 at hS4 ⊢
  clear d0 d1 d2 d3 d4 d5 e2 q0 q1 q2 q3 q4 q5 hlt hlc hne1 hne2 r0 hS0 h
  generalize w1.heap.size = H at hS4 ⊢
  refine (hsame w2).mono ?_
  rintro e w3 ⟨rfl, k5⟩
  have hS5 := hS4.calm k5
  clear k5 hS4 hsame
  have r3 : HdRow w3 r c mo kind xs := hS5.get (j + 4) hj
  have hnote : Calls Tryz.prog 306 #[mptr mo, .int .i64 kind, .int .i64 k, .int .i64 3, .bool false] w3.drew fun e w' => e = .returned (.tuple #[]) ∧ ∃ v', St o (boxI H #[.int .i64 xgn, .int .i64 xsa, .int .i64 xsp, .int .i64 xth, .bool xdm, .int .i64 xwy] 181 :: boxI (B + 1 + 1) #[.int .i64 0, .int .i64 0, .int .i64 0, .int .i64 0, .bool false, .int .i64 0] 181 :: boxI (B + 1) #[.int .i64 bgn, .int .i64 bsa, .int .i64 bsp, .int .i64 bth, .bool bdm, .int .i64 bwy] 181 :: boxI B #[.int .i64 agn, .int .i64 asa, .int .i64 asp, .int .i64 ath, .bool adm, .int .i64 awy] 181 :: its.set i (meterI 174 mo (s.note kind k 3 false) v')) w' :=
    note_st hS5.drew (i + 4) hi hw hn kind k 3 false
  have e0 : w3.cell? ⟨r, 0, none⟩ = some (mptr mo) := cell_of_heap r3.row
  have e1 : w3.cell? ⟨r, 1, none⟩ = some (.int .i64 kind) := cell_of_heap r3.row
  clear r3 hS5
  go_wp2_with fail
  go_region_held3 (fun w' => w'.cell? ⟨r, 0, none⟩ = some (mptr mo) ∧ w'.cell? ⟨r, 1, none⟩ = some (.int .i64 kind)) (first | go_keep | exact ⟨cell_of_heap q.out.row, cell_of_heap q.out.row⟩)
    (first | (go_at_call 306; refine hnote.mono ?_; rintro e w' ⟨rfl, v', hS⟩; have q : Hid (HdRow w' r c mo kind xs) := hS.get (j + 4) (set_other hj hij)))
  have z0 : w'.cell? ⟨H, 0, none⟩ = some (.int .i64 xgn) := hS.cell 0 rfl 0
  have z1 : w'.cell? ⟨H, 1, none⟩ = some (.int .i64 xsa) := hS.cell 0 rfl 1
  have z2 : w'.cell? ⟨H, 2, none⟩ = some (.int .i64 xsp) := hS.cell 0 rfl 2
  have z3 : w'.cell? ⟨H, 3, none⟩ = some (.int .i64 xth) := hS.cell 0 rfl 3
  have z4 : w'.cell? ⟨H, 4, none⟩ = some (.bool xdm) := hS.cell 0 rfl 4
  have z5 : w'.cell? ⟨H, 5, none⟩ = some (.int .i64 xwy) := hS.cell 0 rfl 5
  have y0 : w'.cell? ⟨B + 1 + 1, 0, none⟩ = some (.int .i64 0) := hS.cell 1 rfl 0
  have y1 : w'.cell? ⟨B + 1 + 1, 1, none⟩ = some (.int .i64 0) := hS.cell 1 rfl 1
  have y2 : w'.cell? ⟨B + 1 + 1, 2, none⟩ = some (.int .i64 0) := hS.cell 1 rfl 2
  have y3 : w'.cell? ⟨B + 1 + 1, 3, none⟩ = some (.int .i64 0) := hS.cell 1 rfl 3
  have y4 : w'.cell? ⟨B + 1 + 1, 4, none⟩ = some (.bool false) := hS.cell 1 rfl 4
  have y5 : w'.cell? ⟨B + 1 + 1, 5, none⟩ = some (.int .i64 0) := hS.cell 1 rfl 5
  have v0 : w'.frozen? ⟨B + 1 + 1, 0, none⟩ = false := hS.frozen 1 rfl 0
  have v1 : w'.frozen? ⟨B + 1 + 1, 1, none⟩ = false := hS.frozen 1 rfl 1
  have v2 : w'.frozen? ⟨B + 1 + 1, 2, none⟩ = false := hS.frozen 1 rfl 2
  have v3 : w'.frozen? ⟨B + 1 + 1, 3, none⟩ = false := hS.frozen 1 rfl 3
  have v4 : w'.frozen? ⟨B + 1 + 1, 4, none⟩ = false := hS.frozen 1 rfl 4
  have v5 : w'.frozen? ⟨B + 1 + 1, 5, none⟩ = false := hS.frozen 1 rfl 5
  have n6 : ¬ H = B + 1 + 1 := hS.ne 0 1 rfl rfl (by omega) (by simp [boxI]) (by simp [boxI])
  have HS : Hid (∀ u0 u1 u2 u3 u4 u5 : Value, St o (its.set i (meterI 174 mo (s.note kind k 3 false) v')) ((((((w'.setCell ⟨B + 1 + 1, 0, none⟩ (u0)).setCell ⟨B + 1 + 1, 1, none⟩ (u1)).setCell ⟨B + 1 + 1, 2, none⟩ (u2)).setCell ⟨B + 1 + 1, 3, none⟩ (u3)).setCell ⟨B + 1 + 1, 4, none⟩ (u4)).setCell ⟨B + 1 + 1, 5, none⟩ (u5))) := fun u0 u1 u2 u3 u4 u5 => ((((((hS.write 1 rfl 0 u0).write 1 rfl 1 u1).write 1 rfl 2 u2).write 1 rfl 3 u3).write 1 rfl 4 u4).write 1 rfl 5 u5).pop.pop.pop.pop
  clear q hnote hS
  go_wp2
  exact bodyPost_ret (v := .tuple #[.agg #[.int .i64 xgn, .int .i64 xsa, .int .i64 xsp, .int .i64 xth, .bool xdm, .int .i64 xwy], .bool false, .int .i64 0]) (by simp [results, Tryz.results351, go_sem, y0, y1, y2, y3, y4, y5, n6]) rfl ⟨rfl, v', HS.out _ _ _ _ _ _⟩


set_option maxRecDepth 100000 in
set_option maxHeartbeats 1000000 in
theorem hdTrade_out {o w : World} {its : List It} (h : St o its w) (j : Nat) {r c : Nat} {mo : Option Nat} {kind : Int} {xs : List Hd} (hj : its[j]? = some (hdRowI r c mo kind xs)) (i : Int) (hk : ¬ (0 ≤ i ∧ i < xs.length)) (a b : Hd) :
    Calls Tryz.prog 351 #[.pointer (some ⟨r, 0, none⟩), .int .i64 i, a.val, b.val] w fun e w' => e = .returned (.tuple #[.agg #[.int .i64 0, .int .i64 0, .int .i64 0, .int .i64 0, .bool false, .int .i64 0], .bool false, .int .i64 2]) ∧ St o its w' := by
  obtain ⟨agn, asa, asp, ath, adm, awy⟩ := a
  obtain ⟨bgn, bsa, bsp, bth, bdm, bwy⟩ := b
  simp only [Hd.val]
  go_enter Tryz.func351, Tryz.ntmps351
  go_wp2_with fail
  have hS0 := ((h.box #[.int .i64 agn, .int .i64 asa, .int .i64 asp, .int .i64 ath, .bool adm, .int .i64 awy] 181).box #[.int .i64 bgn, .int .i64 bsa, .int .i64 bsp, .int .i64 bth, .bool bdm, .int .i64 bwy] 181).box #[.int .i64 0, .int .i64 0, .int .i64 0, .int .i64 0, .bool false, .int .i64 0] 181
  simp only [alloc_size] at hS0
  generalize ((w.alloc (.cells #[.int .i64 agn, .int .i64 asa, .int .i64 asp, .int .i64 ath, .bool adm, .int .i64 awy] 181)).alloc (.cells #[.int .i64 bgn, .int .i64 bsa, .int .i64 bsp, .int .i64 bth, .bool bdm, .int .i64 bwy] 181)).alloc (.cells #[.int .i64 0, .int .i64 0, .int .i64 0, .int .i64 0, .bool false, .int .i64 0] 181) = W0 at hS0 ⊢
  generalize w.heap.size + 1 + 1 = B at hS0 ⊢
  generalize w.heap.size + 1 = B1 at hS0 ⊢
  generalize w.heap.size = B2 at hS0 ⊢
  have r0 : HdRow W0 r c mo kind xs := hS0.get (j + 3) hj
  refine (hdHas_out i W0 r0 hk).mono ?_
  rintro e w1 ⟨rfl, rfl⟩
  have hlt : B < w1.heap.size := (boxI B #[.int .i64 0, .int .i64 0, .int .i64 0, .int .i64 0, .bool false, .int .i64 0] 181).old w1 (hS0.get 0 rfl) B (by simp [boxI])
  have hne : ¬ B = w1.heap.size := by omega
  have hne' : ¬ w1.heap.size = B := by omega
  have hS1 := hS0.box #[.int .i64 0, .int .i64 0, .int .i64 0, .int .i64 0, .bool false, .int .i64 0] 181
  have b0 : (w1.alloc (.cells #[.int .i64 0, .int .i64 0, .int .i64 0, .int .i64 0, .bool false, .int .i64 0] 181)).cell? ⟨B, 0, none⟩ = some (.int .i64 0) := hS1.cell 1 rfl 0
  have b1 : (w1.alloc (.cells #[.int .i64 0, .int .i64 0, .int .i64 0, .int .i64 0, .bool false, .int .i64 0] 181)).cell? ⟨B, 1, none⟩ = some (.int .i64 0) := hS1.cell 1 rfl 1
  have b2 : (w1.alloc (.cells #[.int .i64 0, .int .i64 0, .int .i64 0, .int .i64 0, .bool false, .int .i64 0] 181)).cell? ⟨B, 2, none⟩ = some (.int .i64 0) := hS1.cell 1 rfl 2
  have b3 : (w1.alloc (.cells #[.int .i64 0, .int .i64 0, .int .i64 0, .int .i64 0, .bool false, .int .i64 0] 181)).cell? ⟨B, 3, none⟩ = some (.int .i64 0) := hS1.cell 1 rfl 3
  have b4 : (w1.alloc (.cells #[.int .i64 0, .int .i64 0, .int .i64 0, .int .i64 0, .bool false, .int .i64 0] 181)).cell? ⟨B, 4, none⟩ = some (.bool false) := hS1.cell 1 rfl 4
  have b5 : (w1.alloc (.cells #[.int .i64 0, .int .i64 0, .int .i64 0, .int .i64 0, .bool false, .int .i64 0] 181)).cell? ⟨B, 5, none⟩ = some (.int .i64 0) := hS1.cell 1 rfl 5
  have f0 : (w1.alloc (.cells #[.int .i64 0, .int .i64 0, .int .i64 0, .int .i64 0, .bool false, .int .i64 0] 181)).frozen? ⟨B, 0, none⟩ = false := hS1.frozen 1 rfl 0
  have f1 : (w1.alloc (.cells #[.int .i64 0, .int .i64 0, .int .i64 0, .int .i64 0, .bool false, .int .i64 0] 181)).frozen? ⟨B, 1, none⟩ = false := hS1.frozen 1 rfl 1
  have f2 : (w1.alloc (.cells #[.int .i64 0, .int .i64 0, .int .i64 0, .int .i64 0, .bool false, .int .i64 0] 181)).frozen? ⟨B, 2, none⟩ = false := hS1.frozen 1 rfl 2
  have f3 : (w1.alloc (.cells #[.int .i64 0, .int .i64 0, .int .i64 0, .int .i64 0, .bool false, .int .i64 0] 181)).frozen? ⟨B, 3, none⟩ = false := hS1.frozen 1 rfl 3
  have f4 : (w1.alloc (.cells #[.int .i64 0, .int .i64 0, .int .i64 0, .int .i64 0, .bool false, .int .i64 0] 181)).frozen? ⟨B, 4, none⟩ = false := hS1.frozen 1 rfl 4
  have f5 : (w1.alloc (.cells #[.int .i64 0, .int .i64 0, .int .i64 0, .int .i64 0, .bool false, .int .i64 0] 181)).frozen? ⟨B, 5, none⟩ = false := hS1.frozen 1 rfl 5
  have HS : Hid (∀ u0 u1 u2 u3 u4 u5 : Value, St o its (((((((w1.alloc (.cells #[.int .i64 0, .int .i64 0, .int .i64 0, .int .i64 0, .bool false, .int .i64 0] 181)).setCell ⟨B, 0, none⟩ (u0)).setCell ⟨B, 1, none⟩ (u1)).setCell ⟨B, 2, none⟩ (u2)).setCell ⟨B, 3, none⟩ (u3)).setCell ⟨B, 4, none⟩ (u4)).setCell ⟨B, 5, none⟩ (u5))) := fun u0 u1 u2 u3 u4 u5 => ((((((hS1.write 1 rfl 0 u0).write 1 rfl 1 u1).write 1 rfl 2 u2).write 1 rfl 3 u3).write 1 rfl 4 u4).write 1 rfl 5 u5).pop.pop.pop.pop
  clear r0 hS0 hS1 h hlt hk
  go_wp2
  exact bodyPost_ret (v := .tuple #[.agg #[.int .i64 0, .int .i64 0, .int .i64 0, .int .i64 0, .bool false, .int .i64 0], .bool false, .int .i64 2]) (by simp [results, Tryz.results351, go_sem, hne, hne', b0, b1, b2, b3, b4, b5]) rfl ⟨rfl, HS.out _ _ _ _ _ _⟩

end Go.Proofs.YthbcbjkgjgmegaaGreat

namespace Go.Proofs.YthbcbjkgjgmegaaGreat
open Go.RowKit
set_option linter.unusedVariables false
set_option linter.unusedSimpArgs false
attribute [local go_sem ↓] Go.wp_at_zero Go.wp_at_succ


set_option maxRecDepth 100000 in
set_option maxHeartbeats 1000000 in
theorem hdAll_st {o w : World} {its : List It} (h : St o its w) (j : Nat) {r c : Nat} {mo : Option Nat} {kind : Int} {xs : List Hd} (hj : its[j]? = some (hdRowI r c mo kind xs)) :
    Calls Tryz.prog 120 #[.pointer (some ⟨r, 0, none⟩)] w fun e w' => ∃ v', e = .returned v' ∧ St o (ownI 181 6 v' xs.length (hdCells xs) :: its) w' := by
  obtain ⟨i0, hi0, hz0, hz1, hz2⟩ := info_parts Tryz.infoHd
  have hr : HdRow w r c mo kind xs := h.get j hj
  have hE : ∀ a n c w, (binOp .eql 246 (.slice a n c) (.slice none 0 0)).run Tryz.prog w = .ok (.bool a.isNone) w := fun a n c w => Lib.run_eql_slice_nil w 246 181 a n c 0 0 Tryz.underlying246
  have c2 : w.cell? ⟨r, 2, none⟩ = some (.slice (some ⟨c, 0, none⟩) xs.length xs.length) := cell_of_heap hr.row
  have hcl : Calls Tryz.prog 166 #[.slice (some ⟨c, 0, none⟩) xs.length xs.length] w fun e w' => ∃ v', e = .returned v' ∧ w'.ownsRow w.heap.size 181 6 v' xs.length (hdCells xs) ∧ Kept (fun _ => False) w w' := by
    have hcells : ∀ j u, (hdCells xs)[j]? = some u → (w.alloc (.cells #[] 181)).cell? ((⟨c, 0, none⟩ : Addr).add j) = some u := by
      have h2 : (w.alloc (.cells #[] 181)).heap[c]? = some (.cells (hdCells xs).toArray 181 (0, 0)) := (Below.heap_alloc w _ c (lt_of_heap hr.cells)).trans hr.cells
      intro j u hu
      exact World.news_of_block (cs := (hdCells xs).toArray) h2 j u (by simpa using hu)
    have hsm := hr.small
    have hlen := hdCells_length xs
    have h1 := hdCells_one xs
    generalize hdCells xs = TC at *
    clear c2 hr h hj
    go_enter Tryz.func166, Tryz.ntmps166
    go_wp2_with (at_builtin; refine wpList_append_own_at _ rfl (.tmp 5) (.tmp 6) 246 rfl w.heap.size 181 i0 _ 6 48 Tryz.underlying246 hi0 hz0 hz1 hz2 rfl (by omega) (.slice (some ⟨w.heap.size, 0, none⟩) 0 0) 0 [] rfl (World.ownsRow_made w #[] 0 (Nat.le_refl _) (Nat.zero_le _) rfl) ⟨c, 0, none⟩ xs.length xs.length TC rfl hlen hcells h1 (by unfold maxLen; omega) (by omega) (by simp) ?_; intro v' w1 hown' hgrow hnil hat)
    go_ret
    refine ⟨_, rfl, by simpa using hown', ((Kept.refl _ w).alloc _).grown hgrow (fun k e => ?_)⟩
    right
    simp [Value.ownBlock] at e
    omega
  have hS : Hid (∀ v' w', w'.ownsRow w.heap.size 181 6 v' xs.length (hdCells xs) → Kept (fun _ => False) w w' → St o (ownI 181 6 v' xs.length (hdCells xs) :: its) w') := fun v' w' p k => h.own k p
  clear hr h hj
  generalize hdCells xs = TC at *
  go_enter Tryz.func120, Tryz.ntmps120
  go_wp2_with (go_at_call 166; refine hcl.mono ?_; rintro e w' ⟨v', rfl, ho', hk⟩)
  go_ret
  exact ⟨_, rfl, hS.out _ _ ho' hk⟩

end Go.Proofs.YthbcbjkgjgmegaaGreat
