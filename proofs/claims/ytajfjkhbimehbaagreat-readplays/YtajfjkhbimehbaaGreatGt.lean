/- Rows of Gt: New, has, Load, Store, Trade, All, same. -/
import Derived.Test.YtajfjkhbimehbaaGreatSmall
import Derived.Deep.RegionHeld3
import Derived.Deep.DrawnRows
import Derived.Defers
import Derived.Recover
import Derived.ChangeKeysEq
import Derived.Maps.AppendAt
import Derived.BigQuiet
import Derived.BigRegion
namespace Go.Proofs.YtajfjkhbimehbaaGreat
open Go.RowKit
set_option linter.unusedVariables false
set_option linter.unusedSimpArgs false
attribute [local go_sem ↓] Go.wp_at_zero Go.wp_at_succ

structure Gt where
  n : Int
  o : Int
def Gt.zero : Gt := ⟨0, 0⟩
def Gt.val (t : Gt) : Value := .agg #[.int .i64 t.n, .int .i64 t.o]
def Gt.cells (t : Gt) : List Value := [.int .i64 t.n, .int .i64 t.o]
def Gt.eq (a b : Gt) : Bool := (a.n == b.n) && (a.o == b.o)
theorem Gt.eq_iff (a b : Gt) : a.eq b = true ↔ a = b := by
  cases a; cases b; simp [Gt.eq]
theorem Gt.eq_ne {a b : Gt} (h : a ≠ b) : a.eq b = false := by
  cases hb : a.eq b
  · rfl
  · exact absurd ((Gt.eq_iff a b).1 hb) h
def gtCells : List Gt → List Value
  | [] => []
  | t :: l => t.cells ++ gtCells l
theorem gtCells_length (l : List Gt) : (gtCells l).length = l.length * 2 := by
  induction l with
  | nil => rfl
  | cons t l ih => simp [gtCells, Gt.cells, ih]; omega
theorem gtCells_at (l : List Gt) : ∀ k (hk : k < l.length), (gtCells l)[k * 2]? = some (.int .i64 l[k].n) ∧ (gtCells l)[k * 2 + 1]? = some (.int .i64 l[k].o) := by
  induction l with
  | nil => intro k hk; simp at hk
  | cons t l ih =>
    intro k hk
    cases k with
    | zero => simp [gtCells, Gt.cells]
    | succ k =>
      have := ih k (by simpa using hk)
      have e : ∀ i, (gtCells (t :: l))[(k + 1) * 2 + i]? = (gtCells l)[k * 2 + i]? := fun i => by
        rw [show (k + 1) * 2 + i = 2 + (k * 2 + i) by omega]
        simp only [gtCells]
        rw [List.getElem?_append_right (by simp [Gt.cells])]
        simp [Gt.cells]
      have e0 := e 0
      simp only [Nat.add_zero] at e0
      rw [e0, e 1]
      simpa using this
theorem gtCells_set (l : List Gt) (t : Gt) : ∀ k, k < l.length → (((gtCells l).set (k * 2) (.int .i64 t.n)).set (k * 2 + 1) (.int .i64 t.o)) = gtCells (l.set k t) := by
  induction l with
  | nil => intro k hk; simp at hk
  | cons u l ih =>
    intro k hk
    cases k with
    | zero => simp [gtCells, Gt.cells]
    | succ k =>
      have := ih k (by simpa using hk)
      simp only [gtCells, List.set_cons_succ]
      rw [← this, show (k + 1) * 2 = k * 2 + 2 by omega]
      simp only [Gt.cells, List.cons_append, List.nil_append]
      rw [show k * 2 + 2 + 1 = (k * 2 + 1) + 2 by omega]
      simp only [List.set_cons_succ]
theorem gtCells_one (l : List Gt) : ∀ u ∈ gtCells l, u.oneCell' = true := by
  induction l with
  | nil => intro u h; cases h
  | cons t l ih =>
    intro u h
    simp only [gtCells, List.mem_append] at h
    rcases h with h | h
    · simp only [Gt.cells, List.mem_cons, List.not_mem_nil, or_false] at h
      rcases h with h | h <;> subst h <;> rfl
    · exact ih u h
theorem gtCells_rep (t : Gt) : ∀ n j, j < n * 2 → (gtCells (List.replicate n t))[j]? = t.cells[j % 2]? := by
  intro n
  induction n with
  | zero => intro j hj; omega
  | succ n ih =>
    intro j hj
    simp only [List.replicate_succ, gtCells]
    by_cases h : j < 2
    · rw [List.getElem?_append_left (by simpa [Gt.cells] using h), Nat.mod_eq_of_lt h]
    · rw [List.getElem?_append_right (by simp [Gt.cells]; omega)]
      have := ih (j - 2) (by omega)
      simp only [Gt.cells, List.length_cons, List.length_nil] at *
      rw [this]
      congr 1
      omega
theorem made_gt (n : Nat) : madeCells (Value.agg #[.int .i64 0, .int .i64 0]).cells (n * 2) = (gtCells (List.replicate n Gt.zero)).toArray := by
  apply Array.ext'
  apply List.ext_getElem?
  intro j
  by_cases hj : j < n * 2
  · rw [List.toList_toArray, gtCells_rep Gt.zero n j hj]
    have h3 : j % 2 < 2 := Nat.mod_lt _ (by omega)
    simp only [madeCells, Array.toList_map, List.getElem?_map, Array.toList_range, List.getElem?_range hj, Option.map_some]
    have hc : (Value.agg #[.int .i64 0, .int .i64 0]).cells = #[.int .i64 0, .int .i64 0] := rfl
    rw [hc]
    have : j % 2 = 0 ∨ j % 2 = 1 := by omega
    rcases this with h | h <;> simp [h, Gt.cells, Gt.zero]
  · rw [List.getElem?_eq_none (by simp [size_madeCells]; omega), List.getElem?_eq_none (by simp [gtCells_length]; omega)]

theorem Tryz.infoGt : (Tryz.prog.info? 88).map (fun i => (i.zero, i.size, i.bytes)) = some (some (.agg #[.int .i64 0, .int .i64 0]), 2, 16) := by kernel_rfl

/-- A row in block r, its cells in block c, noted by mo. -/
structure GtRow (w : World) (r c : Nat) (mo : Option Nat) (kind : Int) (xs : List Gt) : Prop where
  row : w.heap[r]? = some (.cells #[mptr mo, .int .i64 kind, .slice (some ⟨c, 0, none⟩) xs.length xs.length] 176 (0, 0))
  cells : w.heap[c]? = some (.cells (gtCells xs).toArray 88 (0, 0))
  small : xs.length ≤ 4096
  rc : r ≠ c
def gtRowI (r c : Nat) (mo : Option Nat) (kind : Int) (xs : List Gt) : It :=
  ⟨[r, c], fun w => GtRow w r c mo kind xs, fun w w' h p => ⟨(h r (by simp)).trans p.row, (h c (by simp)).trans p.cells, p.small, p.rc⟩,
   fun w p b hb => by
    simp only [List.mem_cons, List.not_mem_nil, or_false] at hb
    rcases hb with rfl | rfl
    · exact lt_of_heap p.row
    · exact lt_of_heap p.cells⟩
theorem GtRow.cell {w : World} {r c : Nat} {mo : Option Nat} {kind : Int} {xs : List Gt} (h : GtRow w r c mo kind xs) (k : Nat) (hk : k < xs.length) : w.cell? ⟨c, k * 2, none⟩ = some (.int .i64 xs[k].n) ∧ w.cell? ⟨c, k * 2 + 1, none⟩ = some (.int .i64 xs[k].o) := by
  obtain ⟨a0, a1⟩ := gtCells_at xs k hk
  exact ⟨(cell_of_heap h.cells).trans (by simpa using a0), (cell_of_heap h.cells).trans (by simpa using a1)⟩
theorem GtRow.stored {w : World} {r c : Nat} {mo : Option Nat} {kind : Int} {xs : List Gt} (h : GtRow w r c mo kind xs) (k : Nat) (hk : k < xs.length) (t : Gt) :
    GtRow (((w.setCell ⟨c, k * 2, none⟩ (.int .i64 t.n)).setCell ⟨c, k * 2 + 1, none⟩ (.int .i64 t.o))) r c mo kind (xs.set k t) := by
  refine ⟨?_, ?_, by simpa using h.small, h.rc⟩
  · rw [heap_setCell_far (by simpa using h.rc), heap_setCell_far (by simpa using h.rc)]; simpa using h.row
  · rw [heap_setCell_at (heap_setCell_at h.cells _) _]
    have := gtCells_set xs t k hk
    rw [← this]
    simp
theorem St.gtStored {o w : World} {its : List It} (h : St o its w) (j : Nat) {r c : Nat} {mo : Option Nat} {kind : Int} {xs : List Gt} (hj : its[j]? = some (gtRowI r c mo kind xs)) (k : Nat) (hk : k < xs.length) (t : Gt) :
    St o (its.set j (gtRowI r c mo kind (xs.set k t))) (((w.setCell ⟨c, k * 2, none⟩ (.int .i64 t.n)).setCell ⟨c, k * 2 + 1, none⟩ (.int .i64 t.o))) := by
  have p : GtRow w r c mo kind xs := h.get j hj
  refine h.set j hj ?_ (p.stored k hk t) (by simp [gtRowI, p.rc]) (fun b hb => .inl hb)
  exact (((Kept.refl _ w).setCell _ (.inl (by simp [gtRowI]))).setCell _ (.inl (by simp [gtRowI])))


set_option maxRecDepth 100000 in
theorem gtHas_in {r c : Nat} {mo : Option Nat} {kind : Int} {xs : List Gt} (k : Nat) (w : World) (h : GtRow w r c mo kind xs) (hk : k < xs.length) :
    Calls Tryz.prog 127 #[.pointer (some ⟨r, 0, none⟩), .int .i64 k] w fun e w' => e = .returned (.bool true) ∧ w' = w := by
  have c2 : w.cell? ⟨r, 2, none⟩ = some (.slice (some ⟨c, 0, none⟩) xs.length xs.length) := cell_of_heap h.row
  have h0 : (0 : Int) ≤ (k : Int) := Int.natCast_nonneg _
  have h1 : (k : Int) < (xs.length : Int) := by omega
  have hs : (xs.length : Int) ≤ 4096 := by have := h.small; omega
  clear h
  go_enter Tryz.func127, Tryz.ntmps127
  go_wp2
  go_ret
  exact ⟨rfl, rfl⟩
set_option maxRecDepth 100000 in
theorem gtHas_out {r c : Nat} {mo : Option Nat} {kind : Int} {xs : List Gt} (i : Int) (w : World) (h : GtRow w r c mo kind xs) (hk : ¬ (0 ≤ i ∧ i < xs.length)) :
    Calls Tryz.prog 127 #[.pointer (some ⟨r, 0, none⟩), .int .i64 i] w fun e w' => e = .returned (.bool false) ∧ w' = w := by
  have c2 : w.cell? ⟨r, 2, none⟩ = some (.slice (some ⟨c, 0, none⟩) xs.length xs.length) := cell_of_heap h.row
  have hs : (xs.length : Int) ≤ 4096 := by have := h.small; omega
  clear h
  by_cases h0 : (0 : Int) ≤ i
  · have h1 : ¬ i < (xs.length : Int) := by omega
    clear hk
    go_enter Tryz.func127, Tryz.ntmps127
    go_wp2
    go_ret
    exact ⟨rfl, rfl⟩
  · clear hk
    have hd : decide ((0 : Int) ≤ i) = false := by simpa using h0
    go_enter Tryz.func127, Tryz.ntmps127
    go_wp2
    go_ret
    exact ⟨rfl, rfl⟩

theorem gtCatch_idle (p : Addr) (w : World) :
    CallsD Tryz.prog 136 #[.pointer (some p)] .returning w fun e u' w' => e = .returned (.tuple #[]) ∧ u' = .returning ∧ w' = w := by
  refine callsD_of_wpS Tryz.func136 rfl fun c₀ cs hu => ?_
  apply wpS_seq
  apply wpS_region
  simp [wpOpsS, go_sem, recoverD, hu, Tryz.ntmps136, Exit.thenS]
  refine wpS_cond (t := false) (by simp [Act.eval, Array.replicate]) ?_
  simp only [Bool.false_eq_true, if_false]
  refine wpS_of_wp (wp_skip ?_)
  cases c₀
  simp_all [bodyPostS, results, Tryz.results136]


set_option maxRecDepth 100000 in
theorem gtSame (a b : Gt) (w : World) :
    Calls Tryz.prog 128 #[a.val, b.val] w fun e w' => e = .returned (.bool (a.eq b)) ∧ Kept (fun _ => False) w w' := by
  have hmf : ∀ (fn : Fn) (first cap : Array Value) (w : World), (Instr.makeFunc fn first cap).run Tryz.prog w = .ok (.func fn first cap) w := fun _ _ _ _ => rfl
  obtain ⟨an, ao⟩ := a
  obtain ⟨bn, bo⟩ := b
  simp only [Gt.val, Gt.eq]
  cases h0 : (an == bn)
  case false =>
    simp only [Bool.false_and, Bool.and_false, Bool.true_and, Bool.and_true]
    go_enter_defers Tryz.func128, Tryz.ntmps128
    go_wp2
    refine leaves_cons (f := 136) (args := #[.pointer (some ⟨w.heap.size + 1 + 1, 0, none⟩)]) (by simp) (by simp [go_sem]) ?_
    refine (gtCatch_idle ⟨w.heap.size + 1 + 1, 0, none⟩ _).mono ?_
    rintro e q' w'' ⟨rfl, rfl, rfl⟩
    simp [Leaves, settle, results, Tryz.results128, go_sem]
    first | exact (((Kept.refl _ w).alloc _).alloc _).alloc _ | exact ((((Kept.refl _ w).alloc _).alloc _).alloc _).setCell _ (.inr (by simp; omega))
  cases h1 : (ao == bo)
  case false =>
    simp only [Bool.false_and, Bool.and_false, Bool.true_and, Bool.and_true]
    go_enter_defers Tryz.func128, Tryz.ntmps128
    go_wp2
    refine leaves_cons (f := 136) (args := #[.pointer (some ⟨w.heap.size + 1 + 1, 0, none⟩)]) (by simp) (by simp [go_sem]) ?_
    refine (gtCatch_idle ⟨w.heap.size + 1 + 1, 0, none⟩ _).mono ?_
    rintro e q' w'' ⟨rfl, rfl, rfl⟩
    simp [Leaves, settle, results, Tryz.results128, go_sem]
    first | exact (((Kept.refl _ w).alloc _).alloc _).alloc _ | exact ((((Kept.refl _ w).alloc _).alloc _).alloc _).setCell _ (.inr (by simp; omega))
  simp only [Bool.and_self]
  go_enter_defers Tryz.func128, Tryz.ntmps128
  go_wp2
  refine leaves_cons (f := 136) (args := #[.pointer (some ⟨w.heap.size + 1 + 1, 0, none⟩)]) (by simp) (by simp [go_sem]) ?_
  refine (gtCatch_idle ⟨w.heap.size + 1 + 1, 0, none⟩ _).mono ?_
  rintro e q' w'' ⟨rfl, rfl, rfl⟩
  simp [Leaves, settle, results, Tryz.results128, go_sem]
  first | exact (((Kept.refl _ w).alloc _).alloc _).alloc _ | exact ((((Kept.refl _ w).alloc _).alloc _).alloc _).setCell _ (.inr (by simp; omega))


set_option maxRecDepth 100000 in
theorem gtNew_st {o w : World} {its : List It} (h : St o its w) (mo : Option Nat) (kind : Int) (n : Nat) (h0 : 1 ≤ n) (h1 : n ≤ 4096) :
    Calls Tryz.prog 69 #[mptr mo, .int .i64 kind, .int .i64 n] w fun e w' => e = .returned (.tuple #[.pointer (some ⟨w.heap.size + 1, 0, none⟩), .int .i64 0]) ∧ St o (gtRowI (w.heap.size + 1) w.heap.size mo kind (List.replicate n Gt.zero) :: its) w' ∧ w'.heap.size = w.heap.size + 2 := by
  obtain ⟨i0, hi0, hz0, hz1, hz2⟩ := info_parts Tryz.infoGt
  have h2 : ¬ (n : Int) < 1 := by omega
  have h3 : ¬ (4096 : Int) < (n : Int) := by omega
  have hmk : (Instr.makeSlice 174 (.int .i64 n) (.int .i64 n)).run Tryz.prog w = .ok (.slice (some ⟨w.heap.size, 0, none⟩) n n) (w.alloc (.cells (gtCells (List.replicate n Gt.zero)).toArray 88)) := by
    have := run_make (P := Tryz.prog) w 174 88 i0 _ Tryz.underlying174 hi0 hz0 .i64 .i64 n n (by omega) (by omega) (by rw [hz2]; omega) (by omega)
    rw [this, hz1, Int.toNat_natCast, made_gt]
  generalize hC : (gtCells (List.replicate n Gt.zero)).toArray = CC at *
  have HR : Hid (St o (gtRowI (w.heap.size + 1) w.heap.size mo kind (List.replicate n Gt.zero) :: its) ((w.alloc (.cells CC 88)).alloc (.cells #[mptr mo, .int .i64 kind, .slice (some ⟨w.heap.size, 0, none⟩) n n] 176))) := by
    generalize h1' : w.alloc (.cells CC 88) = w1
    have s1 : w1.heap.size = w.heap.size + 1 := by rw [← h1']; simp
    have m1 : w1.heap[w.heap.size]? = some (.cells CC 88) := by rw [← h1']; exact heap_alloc_new w _
    have k1 : Kept (fun _ => False) w w1 := by rw [← h1']; exact kept_alloc _ _
    refine h.push _ (k1.alloc _) ⟨?_, ?_, by simpa using h1, by omega⟩ (by simp [gtRowI]) (by simp [gtRowI])
    · have := heap_alloc_new w1 (.cells #[mptr mo, .int .i64 kind, .slice (some ⟨w.heap.size, 0, none⟩) n n] 176)
      rw [s1] at this
      simpa using this
    · rw [hC]
      exact (Below.heap_alloc _ _ _ (by omega)).trans m1
  clear hC h
  simp only [mptr] at *
  generalize maddr mo = mp at *
  go_enter Tryz.func69, Tryz.ntmps69
  go_wp2
  go_ret2
  exact ⟨rfl, HR.out, by simp⟩

end Go.Proofs.YtajfjkhbimehbaaGreat
