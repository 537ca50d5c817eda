/- Rows of Gt: New, has, Load, Store, Trade, All, same. Rows of Gt: Load. Rows of Gt: Trade. Rows of Gt: All. -/
import Derived.Test.YthbcbjkgjgmegaaGreatSmall
import Derived.Deep.RegionHeld3
import Derived.Deep.DrawnRows
import Derived.Defers
import Derived.Recover
import Derived.ChangeKeysEq
import Derived.Maps.AppendAt
import Derived.BigQuiet
import Derived.BigRegion
import Derived.Test.YthbcbjkgjgmegaaGreatNote
namespace Go.Proofs.YthbcbjkgjgmegaaGreat
open Go.RowKit
set_option linter.unusedVariables false
set_option linter.unusedSimpArgs false
attribute [local go_sem ↓] Go.wp_at_zero Go.wp_at_succ

structure Gt where
  n : Int
  o : Int
def Gt.zero : Gt := ⟨0, 0⟩
def Gt.val (t : Gt) : Value := .agg #[.int .i64 t.n, .int .i64 t.o]
def Gt.cells (t : Gt) : List Value := [.int .i64 t.n, .int .i64 t.o]
def Gt.eq (a b : Gt) : Bool := (a.n == b.n) && (a.o == b.o)
theorem Gt.eq_iff (a b : Gt) : a.eq b = true ↔ a = b := by
  cases a; cases b; simp [Gt.eq]
theorem Gt.eq_ne {a b : Gt} (h : a ≠ b) : a.eq b = false := by
  cases hb : a.eq b
  · rfl
  · exact absurd ((Gt.eq_iff a b).1 hb) h
def gtCells : List Gt → List Value
  | [] => []
  | t :: l => t.cells ++ gtCells l
theorem gtCells_length (l : List Gt) : (gtCells l).length = l.length * 2 := by
  induction l with
  | nil => rfl
  | cons t l ih => simp [gtCells, Gt.cells, ih]; omega
theorem gtCells_at (l : List Gt) : ∀ k (hk : k < l.length), (gtCells l)[k * 2]? = some (.int .i64 l[k].n) ∧ (gtCells l)[k * 2 + 1]? = some (.int .i64 l[k].o) := by
  induction l with
  | nil => intro k hk; simp at hk
  | cons t l ih =>
    intro k hk
    cases k with
    | zero => simp [gtCells, Gt.cells]
    | succ k =>
      have := ih k (by simpa using hk)
      have e : ∀ i, (gtCells (t :: l))[(k + 1) * 2 + i]? = (gtCells l)[k * 2 + i]? := fun i => by
        rw [show (k + 1) * 2 + i = 2 + (k * 2 + i) by omega]
        simp only [gtCells]
        rw [List.getElem?_append_right (by simp [Gt.cells])]
        simp [Gt.cells]
      have e0 := e 0
      simp only [Nat.add_zero] at e0
      rw [e0, e 1]
      simpa using this
theorem gtCells_set (l : List Gt) (t : Gt) : ∀ k, k < l.length → (((gtCells l).set (k * 2) (.int .i64 t.n)).set (k * 2 + 1) (.int .i64 t.o)) = gtCells (l.set k t) := by
  induction l with
  | nil => intro k hk; simp at hk
  | cons u l ih =>
    intro k hk
    cases k with
    | zero => simp [gtCells, Gt.cells]
    | succ k =>
      have := ih k (by simpa using hk)
      simp only [gtCells, List.set_cons_succ]
      rw [← this, show (k + 1) * 2 = k * 2 + 2 by omega]
      simp only [Gt.cells, List.cons_append, List.nil_append]
      rw [show k * 2 + 2 + 1 = (k * 2 + 1) + 2 by omega]
      simp only [List.set_cons_succ]
theorem gtCells_one (l : List Gt) : ∀ u ∈ gtCells l, u.oneCell' = true := by
  induction l with
  | nil => intro u h; cases h
  | cons t l ih =>
    intro u h
    simp only [gtCells, List.mem_append] at h
    rcases h with h | h
    · simp only [Gt.cells, List.mem_cons, List.not_mem_nil, or_false] at h
      rcases h with h | h <;> subst h <;> rfl
    · exact ih u h
theorem gtCells_rep (t : Gt) : ∀ n j, j < n * 2 → (gtCells (List.replicate n t))[j]? = t.cells[j % 2]? := by
  intro n
  induction n with
  | zero => intro j hj; omega
  | succ n ih =>
    intro j hj
    simp only [List.replicate_succ, gtCells]
    by_cases h : j < 2
    · rw [List.getElem?_append_left (by simpa [Gt.cells] using h), Nat.mod_eq_of_lt h]
    · rw [List.getElem?_append_right (by simp [Gt.cells]; omega)]
      have := ih (j - 2) (by omega)
      simp only [Gt.cells, List.length_cons, List.length_nil] at *
      rw [this]
      congr 1
      omega
theorem made_gt (n : Nat) : madeCells (Value.agg #[.int .i64 0, .int .i64 0]).cells (n * 2) = (gtCells (List.replicate n Gt.zero)).toArray := by
  apply Array.ext'
  apply List.ext_getElem?
  intro j
  by_cases hj : j < n * 2
  · rw [List.toList_toArray, gtCells_rep Gt.zero n j hj]
    have h3 : j % 2 < 2 := Nat.mod_lt _ (by omega)
    simp only [madeCells, Array.toList_map, List.getElem?_map, Array.toList_range, List.getElem?_range hj, Option.map_some]
    have hc : (Value.agg #[.int .i64 0, .int .i64 0]).cells = #[.int .i64 0, .int .i64 0] := rfl
    rw [hc]
    have : j % 2 = 0 ∨ j % 2 = 1 := by omega
    rcases this with h | h <;> simp [h, Gt.cells, Gt.zero]
  · rw [List.getElem?_eq_none (by simp [size_madeCells]; omega), List.getElem?_eq_none (by simp [gtCells_length]; omega)]

theorem Tryz.infoGt : (Tryz.prog.info? 70).map (fun i => (i.zero, i.size, i.bytes)) = some (some (.agg #[.int .i64 0, .int .i64 0]), 2, 16) := by kernel_rfl

/-- A row in block r, its cells in block c, noted by mo. -/
structure GtRow (w : World) (r c : Nat) (mo : Option Nat) (kind : Int) (xs : List Gt) : Prop where
  row : w.heap[r]? = some (.cells #[mptr mo, .int .i64 kind, .slice (some ⟨c, 0, none⟩) xs.length xs.length] 255 (0, 0))
  cells : w.heap[c]? = some (.cells (gtCells xs).toArray 70 (0, 0))
  small : xs.length ≤ 4096
  rc : r ≠ c
def gtRowI (r c : Nat) (mo : Option Nat) (kind : Int) (xs : List Gt) : It :=
  ⟨[r, c], fun w => GtRow w r c mo kind xs, fun w w' h p => ⟨(h r (by simp)).trans p.row, (h c (by simp)).trans p.cells, p.small, p.rc⟩,
   fun w p b hb => by
    simp only [List.mem_cons, List.not_mem_nil, or_false] at hb
    rcases hb with rfl | rfl
    · exact lt_of_heap p.row
    · exact lt_of_heap p.cells⟩
theorem GtRow.cell {w : World} {r c : Nat} {mo : Option Nat} {kind : Int} {xs : List Gt} (h : GtRow w r c mo kind xs) (k : Nat) (hk : k < xs.length) : w.cell? ⟨c, k * 2, none⟩ = some (.int .i64 xs[k].n) ∧ w.cell? ⟨c, k * 2 + 1, none⟩ = some (.int .i64 xs[k].o) := by
  obtain ⟨a0, a1⟩ := gtCells_at xs k hk
  exact ⟨(cell_of_heap h.cells).trans (by simpa using a0), (cell_of_heap h.cells).trans (by simpa using a1)⟩
theorem GtRow.stored {w : World} {r c : Nat} {mo : Option Nat} {kind : Int} {xs : List Gt} (h : GtRow w r c mo kind xs) (k : Nat) (hk : k < xs.length) (t : Gt) :
    GtRow (((w.setCell ⟨c, k * 2, none⟩ (.int .i64 t.n)).setCell ⟨c, k * 2 + 1, none⟩ (.int .i64 t.o))) r c mo kind (xs.set k t) := by
  refine ⟨?_, ?_, by simpa using h.small, h.rc⟩
  · rw [heap_setCell_far (by simpa using h.rc), heap_setCell_far (by simpa using h.rc)]; simpa using h.row
  · rw [heap_setCell_at (heap_setCell_at h.cells _) _]
    have := gtCells_set xs t k hk
    rw [← this]
    simp
theorem St.gtStored {o w : World} {its : List It} (h : St o its w) (j : Nat) {r c : Nat} {mo : Option Nat} {kind : Int} {xs : List Gt} (hj : its[j]? = some (gtRowI r c mo kind xs)) (k : Nat) (hk : k < xs.length) (t : Gt) :
    St o (its.set j (gtRowI r c mo kind (xs.set k t))) (((w.setCell ⟨c, k * 2, none⟩ (.int .i64 t.n)).setCell ⟨c, k * 2 + 1, none⟩ (.int .i64 t.o))) := by
  have p : GtRow w r c mo kind xs := h.get j hj
  refine h.set j hj ?_ (p.stored k hk t) (by simp [gtRowI, p.rc]) (fun b hb => .inl hb)
  exact (((Kept.refl _ w).setCell _ (.inl (by simp [gtRowI]))).setCell _ (.inl (by simp [gtRowI])))


set_option maxRecDepth 100000 in
theorem gtHas_in {r c : Nat} {mo : Option Nat} {kind : Int} {xs : List Gt} (k : Nat) (w : World) (h : GtRow w r c mo kind xs) (hk : k < xs.length) :
    Calls Tryz.prog 310 #[.pointer (some ⟨r, 0, none⟩), .int .i64 k] w fun e w' => e = .returned (.bool true) ∧ w' = w := by
  have c2 : w.cell? ⟨r, 2, none⟩ = some (.slice (some ⟨c, 0, none⟩) xs.length xs.length) := cell_of_heap h.row
  have h0 : (0 : Int) ≤ (k : Int) := Int.natCast_nonneg _
  have h1 : (k : Int) < (xs.length : Int) := by omega
  have hs : (xs.length : Int) ≤ 4096 := by have := h.small; omega
  clear h
  go_enter Tryz.func310, Tryz.ntmps310
  go_wp2
  go_ret
  exact ⟨rfl, rfl⟩
set_option maxRecDepth 100000 in
theorem gtHas_out {r c : Nat} {mo : Option Nat} {kind : Int} {xs : List Gt} (i : Int) (w : World) (h : GtRow w r c mo kind xs) (hk : ¬ (0 ≤ i ∧ i < xs.length)) :
    Calls Tryz.prog 310 #[.pointer (some ⟨r, 0, none⟩), .int .i64 i] w fun e w' => e = .returned (.bool false) ∧ w' = w := by
  have c2 : w.cell? ⟨r, 2, none⟩ = some (.slice (some ⟨c, 0, none⟩) xs.length xs.length) := cell_of_heap h.row
  have hs : (xs.length : Int) ≤ 4096 := by have := h.small; omega
  clear h
  by_cases h0 : (0 : Int) ≤ i
  · have h1 : ¬ i < (xs.length : Int) := by omega
    clear hk
    go_enter Tryz.func310, Tryz.ntmps310
    go_wp2
    go_ret
    exact ⟨rfl, rfl⟩
  · clear hk
    have hd : decide ((0 : Int) ≤ i) = false := by simpa using h0
    go_enter Tryz.func310, Tryz.ntmps310
    go_wp2
    go_ret
    exact ⟨rfl, rfl⟩

theorem gtCatch_idle (p : Addr) (w : World) :
    CallsD Tryz.prog 388 #[.pointer (some p)] .returning w fun e u' w' => e = .returned (.tuple #[]) ∧ u' = .returning ∧ w' = w := by
  refine callsD_of_wpS Tryz.func388 rfl fun c₀ cs hu => ?_
  apply wpS_seq
  apply wpS_region
  simp [wpOpsS, go_sem, recoverD, hu, Tryz.ntmps388, Exit.thenS]
  refine wpS_cond (t := false) (by simp [Act.eval, Array.replicate]) ?_
  simp only [Bool.false_eq_true, if_false]
  refine wpS_of_wp (wp_skip ?_)
  cases c₀
  simp_all [bodyPostS, results, Tryz.results388]


set_option maxRecDepth 100000 in
theorem gtSame (a b : Gt) (w : World) :
    Calls Tryz.prog 387 #[a.val, b.val] w fun e w' => e = .returned (.bool (a.eq b)) ∧ Kept (fun _ => False) w w' := by
  have hmf : ∀ (fn : Fn) (first cap : Array Value) (w : World), (Instr.makeFunc fn first cap).run Tryz.prog w = .ok (.func fn first cap) w := fun _ _ _ _ => rfl
  obtain ⟨an, ao⟩ := a
  obtain ⟨bn, bo⟩ := b
  simp only [Gt.val, Gt.eq]
  cases h0 : (an == bn)
  case false =>
    simp only [Bool.false_and, Bool.and_false, Bool.true_and, Bool.and_true]
    go_enter_defers Tryz.func387, Tryz.ntmps387
    go_wp2
    refine leaves_cons (f := 388) (args := #[.pointer (some ⟨w.heap.size + 1 + 1, 0, none⟩)]) (by simp) (by simp [go_sem]) ?_
    refine (gtCatch_idle ⟨w.heap.size + 1 + 1, 0, none⟩ _).mono ?_
    rintro e q' w'' ⟨rfl, rfl, rfl⟩
    simp [Leaves, settle, results, Tryz.results387, go_sem]
    first | exact (((Kept.refl _ w).alloc _).alloc _).alloc _ | exact ((((Kept.refl _ w).alloc _).alloc _).alloc _).setCell _ (.inr (by simp; omega))
  cases h1 : (ao == bo)
  case false =>
    simp only [Bool.false_and, Bool.and_false, Bool.true_and, Bool.and_true]
    go_enter_defers Tryz.func387, Tryz.ntmps387
    go_wp2
    refine leaves_cons (f := 388) (args := #[.pointer (some ⟨w.heap.size + 1 + 1, 0, none⟩)]) (by simp) (by simp [go_sem]) ?_
    refine (gtCatch_idle ⟨w.heap.size + 1 + 1, 0, none⟩ _).mono ?_
    rintro e q' w'' ⟨rfl, rfl, rfl⟩
    simp [Leaves, settle, results, Tryz.results387, go_sem]
    first | exact (((Kept.refl _ w).alloc _).alloc _).alloc _ | exact ((((Kept.refl _ w).alloc _).alloc _).alloc _).setCell _ (.inr (by simp; omega))
  simp only [Bool.and_self]
  go_enter_defers Tryz.func387, Tryz.ntmps387
  go_wp2
  refine leaves_cons (f := 388) (args := #[.pointer (some ⟨w.heap.size + 1 + 1, 0, none⟩)]) (by simp) (by simp [go_sem]) ?_
  refine (gtCatch_idle ⟨w.heap.size + 1 + 1, 0, none⟩ _).mono ?_
  rintro e q' w'' ⟨rfl, rfl, rfl⟩
  simp [Leaves, settle, results, Tryz.results387, go_sem]
  first | exact (((Kept.refl _ w).alloc _).alloc _).alloc _ | exact ((((Kept.refl _ w).alloc _).alloc _).alloc _).setCell _ (.inr (by simp; omega))


set_option maxRecDepth 100000 in
theorem gtNew_st {o w : World} {its : List It} (h : St o its w) (mo : Option Nat) (kind : Int) (n : Nat) (h0 : 1 ≤ n) (h1 : n ≤ 4096) :
    Calls Tryz.prog 83 #[mptr mo, .int .i64 kind, .int .i64 n] w fun e w' => e = .returned (.tuple #[.pointer (some ⟨w.heap.size + 1, 0, none⟩), .int .i64 0]) ∧ St o (gtRowI (w.heap.size + 1) w.heap.size mo kind (List.replicate n Gt.zero) :: its) w' ∧ w'.heap.size = w.heap.size + 2 := by
  obtain ⟨i0, hi0, hz0, hz1, hz2⟩ := info_parts Tryz.infoGt
  have h2 : ¬ (n : Int) < 1 := by omega
  have h3 : ¬ (4096 : Int) < (n : Int) := by omega
  have hmk : (Instr.makeSlice 242 (.int .i64 n) (.int .i64 n)).run Tryz.prog w = .ok (.slice (some ⟨w.heap.size, 0, none⟩) n n) (w.alloc (.cells (gtCells (List.replicate n Gt.zero)).toArray 70)) := by
    have := run_make (P := Tryz.prog) w 242 70 i0 _ Tryz.underlying242 hi0 hz0 .i64 .i64 n n (by omega) (by omega) (by rw [hz2]; omega) (by omega)
    rw [this, hz1, Int.toNat_natCast, made_gt]
  generalize hC : (gtCells (List.replicate n Gt.zero)).toArray = CC at *
  have HR : Hid (St o (gtRowI (w.heap.size + 1) w.heap.size mo kind (List.replicate n Gt.zero) :: its) ((w.alloc (.cells CC 70)).alloc (.cells #[mptr mo, .int .i64 kind, .slice (some ⟨w.heap.size, 0, none⟩) n n] 255))) := by
    generalize h1' : w.alloc (.cells CC 70) = w1
    have s1 : w1.heap.size = w.heap.size + 1 := by rw [← h1']; simp
    have m1 : w1.heap[w.heap.size]? = some (.cells CC 70) := by rw [← h1']; exact heap_alloc_new w _
    have k1 : Kept (fun _ => False) w w1 := by rw [← h1']; exact kept_alloc _ _
    refine h.push _ (k1.alloc _) ⟨?_, ?_, by simpa using h1, by omega⟩ (by simp [gtRowI]) (by simp [gtRowI])
    · have := heap_alloc_new w1 (.cells #[mptr mo, .int .i64 kind, .slice (some ⟨w.heap.size, 0, none⟩) n n] 255)
      rw [s1] at this
      simpa using this
    · rw [hC]
      exact (Below.heap_alloc _ _ _ (by omega)).trans m1
  clear hC h
  simp only [mptr] at *
  generalize maddr mo = mp at *
  go_enter Tryz.func83, Tryz.ntmps83
  go_wp2
  go_ret2
  exact ⟨rfl, HR.out, by simp⟩

end Go.Proofs.YthbcbjkgjgmegaaGreat

namespace Go.Proofs.YthbcbjkgjgmegaaGreat
open Go.RowKit
set_option linter.unusedVariables false
set_option linter.unusedSimpArgs false
attribute [local go_sem ↓] Go.wp_at_zero Go.wp_at_succ


set_option maxRecDepth 100000 in
set_option maxHeartbeats 1000000 in
theorem gtLoad_st {o w : World} {its : List It} (h : St o its w) (i j : Nat) {r c : Nat} {mo : Option Nat} {s : Mt} {v : Value} {kind : Int} {xs : List Gt} (hi : its[i]? = some (meterI 174 mo s v)) (hj : its[j]? = some (gtRowI r c mo kind xs)) (hij : i ≠ j)
    {n : Nat} (hw : s.within n) (hn : n ≤ 4611686018427) (k : Nat) (hk : k < xs.length) :
    Calls Tryz.prog 308 #[.pointer (some ⟨r, 0, none⟩), .int .i64 k] w fun e w' => e = .returned (.tuple #[xs[k].val, .int .i64 0]) ∧ ∃ v', St o (its.set i (meterI 174 mo (s.note kind k 1 true) v')) w' := by
  generalize hx : xs[k] = x
  obtain ⟨xn, xo⟩ := x
  simp only [Gt.val]
  have HX : Hid (xs[k] = ⟨xn, xo⟩) := hx
  clear hx
  have i0 : (0 : Int) ≤ (k : Int) := Int.natCast_nonneg _
  have i1 : (k : Int) < (xs.length : Int) := by omega
  go_enter Tryz.func308, Tryz.ntmps308
  go_wp2_with fail
  have hS0 := h.box #[.int .i64 0, .int .i64 0] 70
  generalize w.alloc (.cells #[.int .i64 0, .int .i64 0] 70) = W0 at hS0 ⊢
  generalize w.heap.size = B at hS0 ⊢
  have r0 : GtRow W0 r c mo kind xs := hS0.get (j + 1) hj
  have hle : (xs.length : Int) ≤ 4096 := by have := r0.small; omega
  have hnote : Calls Tryz.prog 306 #[mptr mo, .int .i64 kind, .int .i64 k, .int .i64 1, .bool true] W0.drew fun e w' => e = .returned (.tuple #[]) ∧ ∃ v', St o (boxI B #[.int .i64 0, .int .i64 0] 70 :: its.set i (meterI 174 mo (s.note kind k 1 true) v')) w' :=
    note_st hS0.drew (i + 1) hi hw hn kind k 1 true
  have e0 : W0.cell? ⟨r, 0, none⟩ = some (mptr mo) := cell_of_heap r0.row
  have e1 : W0.cell? ⟨r, 1, none⟩ = some (.int .i64 kind) := cell_of_heap r0.row
  refine (gtHas_in k W0 r0 hk).mono ?_
  rintro e w1 ⟨rfl, rfl⟩
  clear r0 hS0 h
  go_wp2_with fail
  go_region_held3 (fun w' => w'.cell? ⟨r, 0, none⟩ = some (mptr mo) ∧ w'.cell? ⟨r, 1, none⟩ = some (.int .i64 kind)) (first | go_keep | exact ⟨cell_of_heap q.out.row, cell_of_heap q.out.row⟩)
    (first | (go_at_call 306; refine hnote.mono ?_; rintro e w' ⟨rfl, v', hS⟩; have q : Hid (GtRow w' r c mo kind xs) := hS.get (j + 1) (set_other hj hij)))
  have e2 : w'.cell? ⟨r, 2, none⟩ = some (.slice (some ⟨c, 0, none⟩) xs.length xs.length) := cell_of_heap q.out.row
  have d := q.out.cell k hk
  rw [HX.out] at d
  simp only at d
  obtain ⟨d0, d1⟩ := d
  have b0 : w'.cell? ⟨B, 0, none⟩ = some (.int .i64 0) := hS.cell 0 rfl 0
  have b1 : w'.cell? ⟨B, 1, none⟩ = some (.int .i64 0) := hS.cell 0 rfl 1
  have f0 : w'.frozen? ⟨B, 0, none⟩ = false := hS.frozen 0 rfl 0
  have f1 : w'.frozen? ⟨B, 1, none⟩ = false := hS.frozen 0 rfl 1
  have ne : ¬ c = B := hS.ne (j + 1) 0 (set_other hj hij) rfl (by omega) (by simp [gtRowI]) (by simp [boxI])
  have HS : Hid (∀ u0 u1 : Value, St o (its.set i (meterI 174 mo (s.note kind k 1 true) v')) ((w'.setCell ⟨B, 0, none⟩ (u0)).setCell ⟨B, 1, none⟩ (u1))) := fun u0 u1 => ((hS.write 0 rfl 0 u0).write 0 rfl 1 u1).pop
  clear q hnote hS
  go_wp2
  exact bodyPost_ret (v := .tuple #[.agg #[.int .i64 xn, .int .i64 xo], .int .i64 0]) (by simp [results, Tryz.results308, go_sem, b0, b1]) rfl ⟨rfl, v', HS.out _ _⟩


set_option maxRecDepth 100000 in
set_option maxHeartbeats 1000000 in
theorem gtLoad_out {o w : World} {its : List It} (h : St o its w) (j : Nat) {r c : Nat} {mo : Option Nat} {kind : Int} {xs : List Gt} (hj : its[j]? = some (gtRowI r c mo kind xs)) (i : Int) (hk : ¬ (0 ≤ i ∧ i < xs.length)) :
    Calls Tryz.prog 308 #[.pointer (some ⟨r, 0, none⟩), .int .i64 i] w fun e w' => e = .returned (.tuple #[.agg #[.int .i64 0, .int .i64 0], .int .i64 2]) ∧ St o its w' := by
  go_enter Tryz.func308, Tryz.ntmps308
  go_wp2_with fail
  have hS0 := h.box #[.int .i64 0, .int .i64 0] 70
  generalize w.alloc (.cells #[.int .i64 0, .int .i64 0] 70) = W0 at hS0 ⊢
  generalize w.heap.size = B at hS0 ⊢
  have r0 : GtRow W0 r c mo kind xs := hS0.get (j + 1) hj
  refine (gtHas_out i W0 r0 hk).mono ?_
  rintro e w1 ⟨rfl, rfl⟩
  have hlt : B < w1.heap.size := (boxI B #[.int .i64 0, .int .i64 0] 70).old w1 (hS0.get 0 rfl) B (by simp [boxI])
  have hne : ¬ B = w1.heap.size := by omega
  have hne' : ¬ w1.heap.size = B := by omega
  have hS1 := hS0.box #[.int .i64 0, .int .i64 0] 70
  have b0 : (w1.alloc (.cells #[.int .i64 0, .int .i64 0] 70)).cell? ⟨B, 0, none⟩ = some (.int .i64 0) := hS1.cell 1 rfl 0
  have b1 : (w1.alloc (.cells #[.int .i64 0, .int .i64 0] 70)).cell? ⟨B, 1, none⟩ = some (.int .i64 0) := hS1.cell 1 rfl 1
  have f0 : (w1.alloc (.cells #[.int .i64 0, .int .i64 0] 70)).frozen? ⟨B, 0, none⟩ = false := hS1.frozen 1 rfl 0
  have f1 : (w1.alloc (.cells #[.int .i64 0, .int .i64 0] 70)).frozen? ⟨B, 1, none⟩ = false := hS1.frozen 1 rfl 1
  have HS : Hid (∀ u0 u1 : Value, St o its (((w1.alloc (.cells #[.int .i64 0, .int .i64 0] 70)).setCell ⟨B, 0, none⟩ (u0)).setCell ⟨B, 1, none⟩ (u1))) := fun u0 u1 => ((hS1.write 1 rfl 0 u0).write 1 rfl 1 u1).pop.pop
  clear r0 hS0 hS1 h hlt hk
  go_wp2
  exact bodyPost_ret (v := .tuple #[.agg #[.int .i64 0, .int .i64 0], .int .i64 2]) (by simp [results, Tryz.results308, go_sem, hne, hne', b0, b1]) rfl ⟨rfl, HS.out _ _⟩

end Go.Proofs.YthbcbjkgjgmegaaGreat

namespace Go.Proofs.YthbcbjkgjgmegaaGreat
open Go.RowKit
set_option linter.unusedVariables false
set_option linter.unusedSimpArgs false
attribute [local go_sem ↓] Go.wp_at_zero Go.wp_at_succ


set_option maxRecDepth 100000 in
set_option maxHeartbeats 1000000 in
theorem gtTrade_hit {o w : World} {its : List It} (h : St o its w) (i j : Nat) {r c : Nat} {mo : Option Nat} {s : Mt} {v : Value} {kind : Int} {xs : List Gt} (hi : its[i]? = some (meterI 174 mo s v)) (hj : its[j]? = some (gtRowI r c mo kind xs)) (hij : i ≠ j)
    {n : Nat} (hw : s.within n) (hn : n ≤ 4611686018427) (k : Nat) (hk : k < xs.length) (a b : Gt) (hb : xs[k].eq a = true) :
    Calls Tryz.prog 386 #[.pointer (some ⟨r, 0, none⟩), .int .i64 k, a.val, b.val] w fun e w' => e = .returned (.tuple #[xs[k].val, .bool true, .int .i64 0]) ∧ ∃ v', St o ((its.set i (meterI 174 mo (s.note kind k 3 true) v')).set j (gtRowI r c mo kind (xs.set k b))) w' := by
  generalize hx : xs[k] = x at hb ⊢
  have hsame : ∀ W, Calls Tryz.prog 387 #[x.val, a.val] W fun e w' => e = .returned (.bool true) ∧ Kept (fun _ => False) W w' := fun W => hb ▸ gtSame x a W
  clear hb
  obtain ⟨xn, xo⟩ := x
  obtain ⟨an, ao⟩ := a
  obtain ⟨bn, bo⟩ := b
  simp only [Gt.val] at hsame ⊢
  have HX : Hid (xs[k] = ⟨xn, xo⟩) := hx
  clear hx
  have i0 : (0 : Int) ≤ (k : Int) := Int.natCast_nonneg _
  have i1 : (k : Int) < (xs.length : Int) := by omega
  go_enter Tryz.func386, Tryz.ntmps386
  go_wp2_with fail
  have hS0 := ((h.box #[.int .i64 an, .int .i64 ao] 70).box #[.int .i64 bn, .int .i64 bo] 70).box #[.int .i64 0, .int .i64 0] 70
  simp only [alloc_size] at hS0
  generalize ((w.alloc (.cells #[.int .i64 an, .int .i64 ao] 70)).alloc (.cells #[.int .i64 bn, .int .i64 bo] 70)).alloc (.cells #[.int .i64 0, .int .i64 0] 70) = W0 at hS0 ⊢
  generalize w.heap.size = B at hS0 ⊢
  have r0 : GtRow W0 r c mo kind xs := hS0.get (j + 3) hj
  have hle : (xs.length : Int) ≤ 4096 := by have := r0.small; omega
  refine (gtHas_in k W0 r0 hk).mono ?_
  rintro e w1 ⟨rfl, rfl⟩
  have d := r0.cell k hk
  rw [HX.out] at d
  simp only at d
  obtain ⟨d0, d1⟩ := d
  have e2 : w1.cell? ⟨r, 2, none⟩ = some (.slice (some ⟨c, 0, none⟩) xs.length xs.length) := cell_of_heap r0.row
  have q0 : w1.cell? ⟨B, 0, none⟩ = some (.int .i64 an) := hS0.cell 2 rfl 0
  have q1 : w1.cell? ⟨B, 1, none⟩ = some (.int .i64 ao) := hS0.cell 2 rfl 1
  have hlt : B < w1.heap.size := hS0.all _ (by simp) |> fun p => (boxI B #[.int .i64 an, .int .i64 ao] 70).old w1 p B (by simp [boxI])
  have hlc : c < w1.heap.size := lt_of_heap r0.cells
  have hne1 : ¬ B = w1.heap.size := by omega
  have hne2 : ¬ c = w1.heap.size := by omega
  go_wp2_with fail
  have hS4 := hS0.box #[.int .i64 xn, .int .i64 xo] 70
  generalize w1.alloc (.cells #[.int .i64 xn, .int .i64 xo] 70) = w2 at hS4 ⊢
  clear d0 d1 e2 q0 q1 hlt hlc hne1 hne2 r0 hS0 h
  generalize w1.heap.size = H at hS4 ⊢
  refine (hsame w2).mono ?_
  rintro e w3 ⟨rfl, k5⟩
  have hS5 := hS4.calm k5
  clear k5 hS4 hsame
  have r3 : GtRow w3 r c mo kind xs := hS5.get (j + 4) hj
  have hnote : Calls Tryz.prog 306 #[mptr mo, .int .i64 kind, .int .i64 k, .int .i64 3, .bool true] w3.drew fun e w' => e = .returned (.tuple #[]) ∧ ∃ v', St o (boxI H #[.int .i64 xn, .int .i64 xo] 70 :: boxI (B + 1 + 1) #[.int .i64 0, .int .i64 0] 70 :: boxI (B + 1) #[.int .i64 bn, .int .i64 bo] 70 :: boxI B #[.int .i64 an, .int .i64 ao] 70 :: its.set i (meterI 174 mo (s.note kind k 3 true) v')) w' :=
    note_st hS5.drew (i + 4) hi hw hn kind k 3 true
  have e0 : w3.cell? ⟨r, 0, none⟩ = some (mptr mo) := cell_of_heap r3.row
  have e1 : w3.cell? ⟨r, 1, none⟩ = some (.int .i64 kind) := cell_of_heap r3.row
  clear r3 hS5
  go_wp2_with fail
  go_region_held3 (fun w' => w'.cell? ⟨r, 0, none⟩ = some (mptr mo) ∧ w'.cell? ⟨r, 1, none⟩ = some (.int .i64 kind)) (first | go_keep | exact ⟨cell_of_heap q.out.row, cell_of_heap q.out.row⟩)
    (first | (go_at_call 306; refine hnote.mono ?_; rintro e w' ⟨rfl, v', hS⟩; have q : Hid (GtRow w' r c mo kind xs) := hS.get (j + 4) (set_other hj hij)))
  have z0 : w'.cell? ⟨H, 0, none⟩ = some (.int .i64 xn) := hS.cell 0 rfl 0
  have z1 : w'.cell? ⟨H, 1, none⟩ = some (.int .i64 xo) := hS.cell 0 rfl 1
  have y0 : w'.cell? ⟨B + 1 + 1, 0, none⟩ = some (.int .i64 0) := hS.cell 1 rfl 0
  have y1 : w'.cell? ⟨B + 1 + 1, 1, none⟩ = some (.int .i64 0) := hS.cell 1 rfl 1
  have v0 : w'.frozen? ⟨B + 1 + 1, 0, none⟩ = false := hS.frozen 1 rfl 0
  have v1 : w'.frozen? ⟨B + 1 + 1, 1, none⟩ = false := hS.frozen 1 rfl 1
  have e2 : w'.cell? ⟨r, 2, none⟩ = some (.slice (some ⟨c, 0, none⟩) xs.length xs.length) := cell_of_heap q.out.row
  have d := q.out.cell k hk
  obtain ⟨d0, d1⟩ := d
  have b0 : w'.cell? ⟨B + 1, 0, none⟩ = some (.int .i64 bn) := hS.cell 2 rfl 0
  have b1 : w'.cell? ⟨B + 1, 1, none⟩ = some (.int .i64 bo) := hS.cell 2 rfl 1
  have l0 : w'.frozen? ⟨c, k * 2, none⟩ = false := frozen_of_heap q.out.cells
  have l1 : w'.frozen? ⟨c, k * 2 + 1, none⟩ = false := frozen_of_heap q.out.cells
  have n1 : ¬ c = B + 1 := hS.ne (j + 4) 2 (set_other hj hij) rfl (by omega) (by simp [gtRowI]) (by simp [boxI])
  have n2 : ¬ c = B + 1 + 1 := hS.ne (j + 4) 1 (set_other hj hij) rfl (by omega) (by simp [gtRowI]) (by simp [boxI])
  have n3 : ¬ B + 1 = c := fun e => n1 e.symm
  have n4 : ¬ B + 1 + 1 = c := fun e => n2 e.symm
  have n5 : ¬ H = c := hS.ne 0 (j + 4) rfl (set_other hj hij) (by omega) (by simp [boxI]) (by simp [gtRowI])
  have n6 : ¬ H = B + 1 + 1 := hS.ne 0 1 rfl rfl (by omega) (by simp [boxI]) (by simp [boxI])
  have n7 : ¬ r = c := q.out.rc
  have hT := hS.gtStored (j + 4) (set_other hj hij) k hk ⟨bn, bo⟩
  have HS : Hid (∀ u0 u1 : Value, St o ((its.set i (meterI 174 mo (s.note kind k 3 true) v')).set j (gtRowI r c mo kind (xs.set k ⟨bn, bo⟩))) ((((w'.setCell ⟨c, k * 2, none⟩ (.int .i64 bn)).setCell ⟨c, k * 2 + 1, none⟩ (.int .i64 bo)).setCell ⟨B + 1 + 1, 0, none⟩ (u0)).setCell ⟨B + 1 + 1, 1, none⟩ (u1))) := fun u0 u1 => ((hT.write 1 rfl 0 u0).write 1 rfl 1 u1).pop.pop.pop.pop
  clear q hnote hS hT
  go_wp2_with fail
  go_region
  all_goals
    go_wp2
    exact bodyPost_ret (v := .tuple #[.agg #[.int .i64 xn, .int .i64 xo], .bool true, .int .i64 0]) (by simp [results, Tryz.results386, go_sem, y0, y1, n1, n2, n3, n4, n5, n6]) rfl ⟨rfl, v', by first | exact (HS.out _ _).drew | exact HS.out _ _ | exact (HS.out _ _).drew.drew⟩


set_option maxRecDepth 100000 in
set_option maxHeartbeats 1000000 in
theorem gtTrade_miss {o w : World} {its : List It} (h : St o its w) (i j : Nat) {r c : Nat} {mo : Option Nat} {s : Mt} {v : Value} {kind : Int} {xs : List Gt} (hi : its[i]? = some (meterI 174 mo s v)) (hj : its[j]? = some (gtRowI r c mo kind xs)) (hij : i ≠ j)
    {n : Nat} (hw : s.within n) (hn : n ≤ 4611686018427) (k : Nat) (hk : k < xs.length) (a b : Gt) (hb : xs[k].eq a = false) :
    Calls Tryz.prog 386 #[.pointer (some ⟨r, 0, none⟩), .int .i64 k, a.val, b.val] w fun e w' => e = .returned (.tuple #[xs[k].val, .bool false, .int .i64 0]) ∧ ∃ v', St o (its.set i (meterI 174 mo (s.note kind k 3 false) v')) w' := by
  generalize hx : xs[k] = x at hb ⊢
  have hsame : ∀ W, Calls Tryz.prog 387 #[x.val, a.val] W fun e w' => e = .returned (.bool false) ∧ Kept (fun _ => False) W w' := fun W => hb ▸ gtSame x a W
  clear hb
  obtain ⟨xn, xo⟩ := x
  obtain ⟨an, ao⟩ := a
  obtain ⟨bn, bo⟩ := b
  simp only [Gt.val] at hsame ⊢
  have HX : Hid (xs[k] = ⟨xn, xo⟩) := hx
  clear hx
  have i0 : (0 : Int) ≤ (k : Int) := Int.natCast_nonneg _
  have i1 : (k : Int) < (xs.length : Int) := by omega
  go_enter Tryz.func386, Tryz.ntmps386
  go_wp2_with fail
  have hS0 := ((h.box #[.int .i64 an, .int .i64 ao] 70).box #[.int .i64 bn, .int .i64 bo] 70).box #[.int .i64 0, .int .i64 0] 70
  simp only [alloc_size] at hS0
  generalize ((w.alloc (.cells #[.int .i64 an, .int .i64 ao] 70)).alloc (.cells #[.int .i64 bn, .int .i64 bo] 70)).alloc (.cells #[.int .i64 0, .int .i64 0] 70) = W0 at hS0 ⊢
  generalize w.heap.size = B at hS0 ⊢
  have r0 : GtRow W0 r c mo kind xs := hS0.get (j + 3) hj
  have hle : (xs.length : Int) ≤ 4096 := by have := r0.small; omega
  refine (gtHas_in k W0 r0 hk).mono ?_
  rintro e w1 ⟨rfl, rfl⟩
  have d := r0.cell k hk
  rw [HX.out] at d
  simp only at d
  obtain ⟨d0, d1⟩ := d
  have e2 : w1.cell? ⟨r, 2, none⟩ = some (.slice (some ⟨c, 0, none⟩) xs.length xs.length) := cell_of_heap r0.row
  have q0 : w1.cell? ⟨B, 0, none⟩ = some (.int .i64 an) := hS0.cell 2 rfl 0
  have q1 : w1.cell? ⟨B, 1, none⟩ = some (.int .i64 ao) := hS0.cell 2 rfl 1
  have hlt : B < w1.heap.size := hS0.all _ (by simp) |> fun p => (boxI B #[.int .i64 an, .int .i64 ao] 70).old w1 p B (by simp [boxI])
  have hlc : c < w1.heap.size := lt_of_heap r0.cells
  have hne1 : ¬ B = w1.heap.size := by omega
  have hne2 : ¬ c = w1.heap.size := by omega
  go_wp2_with fail
  have hS4 := hS0.box #[.int .i64 xn, .int .i64 xo] 70
  generalize w1.alloc (.cells #[.int .i64 xn, .int .i64 xo] 70) = w2 at hS4 ⊢
  clear d0 d1 e2 q0 q1 hlt hlc hne1 hne2 r0 hS0 h
  generalize w1.heap.size = H at hS4 ⊢
  refine (hsame w2).mono ?_
  rintro e w3 ⟨rfl, k5⟩
  have hS5 := hS4.calm k5
  clear k5 hS4 hsame
  have r3 : GtRow w3 r c mo kind xs := hS5.get (j + 4) hj
  have hnote : Calls Tryz.prog 306 #[mptr mo, .int .i64 kind, .int .i64 k, .int .i64 3, .bool false] w3.drew fun e w' => e = .returned (.tuple #[]) ∧ ∃ v', St o (boxI H #[.int .i64 xn, .int .i64 xo] 70 :: boxI (B + 1 + 1) #[.int .i64 0, .int .i64 0] 70 :: boxI (B + 1) #[.int .i64 bn, .int .i64 bo] 70 :: boxI B #[.int .i64 an, .int .i64 ao] 70 :: its.set i (meterI 174 mo (s.note kind k 3 false) v')) w' :=
    note_st hS5.drew (i + 4) hi hw hn kind k 3 false
  have e0 : w3.cell? ⟨r, 0, none⟩ = some (mptr mo) := cell_of_heap r3.row
  have e1 : w3.cell? ⟨r, 1, none⟩ = some (.int .i64 kind) := cell_of_heap r3.row
  clear r3 hS5
  go_wp2_with fail
  go_region_held3 (fun w' => w'.cell? ⟨r, 0, none⟩ = some (mptr mo) ∧ w'.cell? ⟨r, 1, none⟩ = some (.int .i64 kind)) (first | go_keep | exact ⟨cell_of_heap q.out.row, cell_of_heap q.out.row⟩)
    (first | (go_at_call 306; refine hnote.mono ?_; rintro e w' ⟨rfl, v', hS⟩; have q : Hid (GtRow w' r c mo kind xs) := hS.get (j + 4) (set_other hj hij)))
  have z0 : w'.cell? ⟨H, 0, none⟩ = some (.int .i64 xn) := hS.cell 0 rfl 0
  have z1 : w'.cell? ⟨H, 1, none⟩ = some (.int .i64 xo) := hS.cell 0 rfl 1
  have y0 : w'.cell? ⟨B + 1 + 1, 0, none⟩ = some (.int .i64 0) := hS.cell 1 rfl 0
  have y1 : w'.cell? ⟨B + 1 + 1, 1, none⟩ = some (.int .i64 0) := hS.cell 1 rfl 1
  have v0 : w'.frozen? ⟨B + 1 + 1, 0, none⟩ = false := hS.frozen 1 rfl 0
  have v1 : w'.frozen? ⟨B + 1 + 1, 1, none⟩ = false := hS.frozen 1 rfl 1
  have n6 : ¬ H = B + 1 + 1 := hS.ne 0 1 rfl rfl (by omega) (by simp [boxI]) (by simp [boxI])
  have HS : Hid (∀ u0 u1 : Value, St o (its.set i (meterI 174 mo (s.note kind k 3 false) v')) ((w'.setCell ⟨B + 1 + 1, 0, none⟩ (u0)).setCell ⟨B + 1 + 1, 1, none⟩ (u1))) := fun u0 u1 => ((hS.write 1 rfl 0 u0).write 1 rfl 1 u1).pop.pop.pop.pop
  clear q hnote hS
  go_wp2
  exact bodyPost_ret (v := .tuple #[.agg #[.int .i64 xn, .int .i64 xo], .bool false, .int .i64 0]) (by simp [results, Tryz.results386, go_sem, y0, y1, n6]) rfl ⟨rfl, v', HS.out _ _⟩


set_option maxRecDepth 100000 in
set_option maxHeartbeats 1000000 in
theorem gtTrade_out {o w : World} {its : List It} (h : St o its w) (j : Nat) {r c : Nat} {mo : Option Nat} {kind : Int} {xs : List Gt} (hj : its[j]? = some (gtRowI r c mo kind xs)) (i : Int) (hk : ¬ (0 ≤ i ∧ i < xs.length)) (a b : Gt) :
    Calls Tryz.prog 386 #[.pointer (some ⟨r, 0, none⟩), .int .i64 i, a.val, b.val] w fun e w' => e = .returned (.tuple #[.agg #[.int .i64 0, .int .i64 0], .bool false, .int .i64 2]) ∧ St o its w' := by
  obtain ⟨an, ao⟩ := a
  obtain ⟨bn, bo⟩ := b
  simp only [Gt.val]
  go_enter Tryz.func386, Tryz.ntmps386
  go_wp2_with fail
  have hS0 := ((h.box #[.int .i64 an, .int .i64 ao] 70).box #[.int .i64 bn, .int .i64 bo] 70).box #[.int .i64 0, .int .i64 0] 70
  simp only [alloc_size] at hS0
  generalize ((w.alloc (.cells #[.int .i64 an, .int .i64 ao] 70)).alloc (.cells #[.int .i64 bn, .int .i64 bo] 70)).alloc (.cells #[.int .i64 0, .int .i64 0] 70) = W0 at hS0 ⊢
  generalize w.heap.size + 1 + 1 = B at hS0 ⊢
  generalize w.heap.size + 1 = B1 at hS0 ⊢
  generalize w.heap.size = B2 at hS0 ⊢
  have r0 : GtRow W0 r c mo kind xs := hS0.get (j + 3) hj
  refine (gtHas_out i W0 r0 hk).mono ?_
  rintro e w1 ⟨rfl, rfl⟩
  have hlt : B < w1.heap.size := (boxI B #[.int .i64 0, .int .i64 0] 70).old w1 (hS0.get 0 rfl) B (by simp [boxI])
  have hne : ¬ B = w1.heap.size := by omega
  have hne' : ¬ w1.heap.size = B := by omega
  have hS1 := hS0.box #[.int .i64 0, .int .i64 0] 70
  have b0 : (w1.alloc (.cells #[.int .i64 0, .int .i64 0] 70)).cell? ⟨B, 0, none⟩ = some (.int .i64 0) := hS1.cell 1 rfl 0
  have b1 : (w1.alloc (.cells #[.int .i64 0, .int .i64 0] 70)).cell? ⟨B, 1, none⟩ = some (.int .i64 0) := hS1.cell 1 rfl 1
  have f0 : (w1.alloc (.cells #[.int .i64 0, .int .i64 0] 70)).frozen? ⟨B, 0, none⟩ = false := hS1.frozen 1 rfl 0
  have f1 : (w1.alloc (.cells #[.int .i64 0, .int .i64 0] 70)).frozen? ⟨B, 1, none⟩ = false := hS1.frozen 1 rfl 1
  have HS : Hid (∀ u0 u1 : Value, St o its (((w1.alloc (.cells #[.int .i64 0, .int .i64 0] 70)).setCell ⟨B, 0, none⟩ (u0)).setCell ⟨B, 1, none⟩ (u1))) := fun u0 u1 => ((hS1.write 1 rfl 0 u0).write 1 rfl 1 u1).pop.pop.pop.pop
  clear r0 hS0 hS1 h hlt hk
  go_wp2
  exact bodyPost_ret (v := .tuple #[.agg #[.int .i64 0, .int .i64 0], .bool false, .int .i64 2]) (by simp [results, Tryz.results386, go_sem, hne, hne', b0, b1]) rfl ⟨rfl, HS.out _ _⟩

end Go.Proofs.YthbcbjkgjgmegaaGreat

namespace Go.Proofs.YthbcbjkgjgmegaaGreat
open Go.RowKit
set_option linter.unusedVariables false
set_option linter.unusedSimpArgs false
attribute [local go_sem ↓] Go.wp_at_zero Go.wp_at_succ


set_option maxRecDepth 100000 in
set_option maxHeartbeats 1000000 in
theorem gtAll_st {o w : World} {its : List It} (h : St o its w) (j : Nat) {r c : Nat} {mo : Option Nat} {kind : Int} {xs : List Gt} (hj : its[j]? = some (gtRowI r c mo kind xs)) :
    Calls Tryz.prog 117 #[.pointer (some ⟨r, 0, none⟩)] w fun e w' => ∃ v', e = .returned v' ∧ St o (ownI 70 2 v' xs.length (gtCells xs) :: its) w' := by
  obtain ⟨i0, hi0, hz0, hz1, hz2⟩ := info_parts Tryz.infoGt
  have hr : GtRow w r c mo kind xs := h.get j hj
  have hE : ∀ a n c w, (binOp .eql 242 (.slice a n c) (.slice none 0 0)).run Tryz.prog w = .ok (.bool a.isNone) w := fun a n c w => Lib.run_eql_slice_nil w 242 70 a n c 0 0 Tryz.underlying242
  have c2 : w.cell? ⟨r, 2, none⟩ = some (.slice (some ⟨c, 0, none⟩) xs.length xs.length) := cell_of_heap hr.row
  have hcl : Calls Tryz.prog 163 #[.slice (some ⟨c, 0, none⟩) xs.length xs.length] w fun e w' => ∃ v', e = .returned v' ∧ w'.ownsRow w.heap.size 70 2 v' xs.length (gtCells xs) ∧ Kept (fun _ => False) w w' := by
    have hcells : ∀ j u, (gtCells xs)[j]? = some u → (w.alloc (.cells #[] 70)).cell? ((⟨c, 0, none⟩ : Addr).add j) = some u := by
      have h2 : (w.alloc (.cells #[] 70)).heap[c]? = some (.cells (gtCells xs).toArray 70 (0, 0)) := (Below.heap_alloc w _ c (lt_of_heap hr.cells)).trans hr.cells
      intro j u hu
      exact World.news_of_block (cs := (gtCells xs).toArray) h2 j u (by simpa using hu)
    have hsm := hr.small
    have hlen := gtCells_length xs
    have h1 := gtCells_one xs
    generalize gtCells xs = TC at *
    clear c2 hr h hj
    go_enter Tryz.func163, Tryz.ntmps163
    go_wp2_with (at_builtin; refine wpList_append_own_at _ rfl (.tmp 5) (.tmp 6) 242 rfl w.heap.size 70 i0 _ 2 16 Tryz.underlying242 hi0 hz0 hz1 hz2 rfl (by omega) (.slice (some ⟨w.heap.size, 0, none⟩) 0 0) 0 [] rfl (World.ownsRow_made w #[] 0 (Nat.le_refl _) (Nat.zero_le _) rfl) ⟨c, 0, none⟩ xs.length xs.length TC rfl hlen hcells h1 (by unfold maxLen; omega) (by omega) (by simp) ?_; intro v' w1 hown' hgrow hnil hat)
    go_ret
    refine ⟨_, rfl, by simpa using hown', ((Kept.refl _ w).alloc _).grown hgrow (fun k e => ?_)⟩
    right
    simp [Value.ownBlock] at e
    omega
  have hS : Hid (∀ v' w', w'.ownsRow w.heap.size 70 2 v' xs.length (gtCells xs) → Kept (fun _ => False) w w' → St o (ownI 70 2 v' xs.length (gtCells xs) :: its) w') := fun v' w' p k => h.own k p
  clear hr h hj
  generalize gtCells xs = TC at *
  go_enter Tryz.func117, Tryz.ntmps117
  go_wp2_with (go_at_call 163; refine hcl.mono ?_; rintro e w' ⟨v', rfl, ho', hk⟩)
  go_ret
  exact ⟨_, rfl, hS.out _ _ ho' hk⟩

end Go.Proofs.YthbcbjkgjgmegaaGreat
