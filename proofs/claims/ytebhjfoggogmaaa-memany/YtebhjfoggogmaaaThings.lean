/- The code's rows of things: same, has, Load, Store, Trade, All, with no meter. -/
import Derived.Test.YtebhjfoggogmaaaUp
import Derived.Deep.RegionHeld3
import Derived.Deep.DrawnRows
import Derived.Defers
import Derived.Recover
import Derived.ChangeKeysEq
namespace Go.Proofs.Ytebhjfoggogmaaa
open Go.RowKit
set_option linter.unusedVariables false
set_option linter.unusedSimpArgs false
attribute [local go_sem ↓] Go.wp_at_zero Go.wp_at_succ

theorem catch2_idle (p : Addr) (w : World) :
    CallsD Try.prog 50 #[.pointer (some p)] .returning w fun e u' w' => e = .returned (.tuple #[]) ∧ u' = .returning ∧ w' = w := by
  refine callsD_of_wpS Try.func50 rfl fun c₀ cs hu => ?_
  apply wpS_seq
  apply wpS_region
  simp [wpOpsS, go_sem, recoverD, hu, Try.ntmps50, Exit.thenS]
  refine wpS_cond (t := false) (by simp [Act.eval, Array.replicate]) ?_
  simp only [Bool.false_eq_true, if_false]
  refine wpS_of_wp (wp_skip ?_)
  cases c₀
  simp_all [bodyPostS, results, Try.results50]

theorem Try.info3 : (Try.prog.info? 3).map (fun i => (i.zero, i.size, i.bytes)) = some (some (.int .i64 0), 1, 8) := by kernel_rfl
theorem eqN (d : Nat) (a1 b1 a2 b2 : Int) (w : World) : (Op.equalIn (d + 2) 64 (.agg #[.int .i64 a1, .int .i64 b1]) (.agg #[.int .i64 a2, .int .i64 b2])).run Try.prog w = .ok ((a1 == a2) && (b1 == b2)) w := by
  obtain ⟨i0, hi0, hz0, hz1, hz2⟩ := info_parts Try.info3
  rw [run_equalIn_array (d := d + 1) w _ _ Try.underlying64 hi0, show Try.prog.cellsOf 3 = 1 from by kernel_rfl]
  show (Op.eqItems (d + 1) 3 1 _ _ [0, 1]).run Try.prog w = _
  have hp : ∀ (x y : Int) (w : World), (part 3 #[.int .i64 x, .int .i64 y] 0).run Try.prog w = .ok (.int .i64 x) w := fun x y w => run_part_plain (P := Try.prog) w (by kernel_rfl) rfl
  have hq : ∀ (x y : Int) (w : World), (part 3 #[.int .i64 x, .int .i64 y] 1).run Try.prog w = .ok (.int .i64 y) w := fun x y w => run_part_plain (P := Try.prog) w (by kernel_rfl) rfl
  have he : ∀ (x y : Int) (w : World), (Op.equalIn (d + 1) 3 (.int .i64 x) (.int .i64 y)).run Try.prog w = .ok (x == y) w := fun x y w => run_equalIn_int w d 3 .i64 .i64 x y Try.underlying3
  cases h1 : (a1 == a2) <;> cases h2 : (b1 == b2) <;> simp only [Op.eqItems, Sem.run_bind, Nat.zero_mul, Nat.one_mul, hp, hq, he, h1, h2, Result.andThen_ok, Bool.not_true, Bool.not_false, Bool.false_eq_true, if_true, if_false, Sem.run_pure, Bool.and_true, Bool.and_false, Bool.true_and, Bool.false_and]

def teq (s1 s2 : ByteArray) (a1 b1 a2 b2 : Int) : Bool := s1.toList == s2.toList && (a1 == a2 && b1 == b2)

set_option maxRecDepth 100000 in
theorem sameT_any (s1 s2 : ByteArray) (a1 b1 a2 b2 : Int) (w : World) :
    Calls Try.prog 45 #[.agg #[.string s1, .int .i64 a1, .int .i64 b1], .agg #[.string s2, .int .i64 a2, .int .i64 b2]] w fun e w' => e = .returned (.bool (teq s1 s2 a1 b1 a2 b2)) ∧ Kept (fun _ => False) w w' := by
  have hmf : ∀ (fn : Fn) (first cap : Array Value) (w : World), (Instr.makeFunc fn first cap).run Try.prog w = .ok (.func fn first cap) w := fun _ _ _ _ => rfl
  have hN := eqN
  unfold teq
  cases hs : (s1.toList == s2.toList)
  · go_enter_defers Try.func45, Try.ntmps45
    go_wp2
    refine leaves_cons (f := 50) (args := #[.pointer (some ⟨w.heap.size + 1 + 1, 0, none⟩)]) (by simp) (by simp [go_sem]) ?_
    refine (catch2_idle ⟨w.heap.size + 1 + 1, 0, none⟩ _).mono ?_
    rintro e q' w'' ⟨rfl, rfl, rfl⟩
    simp [Leaves, settle, results, Try.results45, go_sem]
    exact ((((Kept.refl _ w).alloc _).alloc _).alloc _)
  · cases h1 : (a1 == a2)
    · go_enter_defers Try.func45, Try.ntmps45
      go_wp2
      refine leaves_cons (f := 50) (args := #[.pointer (some ⟨w.heap.size + 1 + 1, 0, none⟩)]) (by simp) (by simp [go_sem]) ?_
      refine (catch2_idle ⟨w.heap.size + 1 + 1, 0, none⟩ _).mono ?_
      rintro e q' w'' ⟨rfl, rfl, rfl⟩
      simp [Leaves, settle, results, Try.results45, go_sem]
      exact ((((Kept.refl _ w).alloc _).alloc _).alloc _)
    · cases h2 : (b1 == b2)
      · go_enter_defers Try.func45, Try.ntmps45
        go_wp2
        refine leaves_cons (f := 50) (args := #[.pointer (some ⟨w.heap.size + 1 + 1, 0, none⟩)]) (by simp) (by simp [go_sem]) ?_
        refine (catch2_idle ⟨w.heap.size + 1 + 1, 0, none⟩ _).mono ?_
        rintro e q' w'' ⟨rfl, rfl, rfl⟩
        simp [Leaves, settle, results, Try.results45, go_sem]
        exact ((((Kept.refl _ w).alloc _).alloc _).alloc _)
      · go_enter_defers Try.func45, Try.ntmps45
        go_wp2
        refine leaves_cons (f := 50) (args := #[.pointer (some ⟨w.heap.size + 1 + 1, 0, none⟩)]) (by simp) (by simp [go_sem]) ?_
        refine (catch2_idle ⟨w.heap.size + 1 + 1, 0, none⟩ _).mono ?_
        rintro e q' w'' ⟨rfl, rfl, rfl⟩
        simp [Leaves, settle, results, Try.results45, go_sem]
        exact ((((Kept.refl _ w).alloc _).alloc _).alloc _)

theorem boxed0 (w : World) (o : Obj) : Kept (fun _ => False) w (w.alloc o) := (Kept.refl _ w).alloc o

/-- A thing. -/
structure Th where
  s : ByteArray
  a : Int
  b : Int
def Th.zero : Th := ⟨{ data := #[] }, 0, 0⟩
def Th.val (t : Th) : Value := .agg #[.string t.s, .int .i64 t.a, .int .i64 t.b]
def Th.cells (t : Th) : List Value := [.string t.s, .int .i64 t.a, .int .i64 t.b]
def thCells : List Th → List Value
  | [] => []
  | t :: l => t.cells ++ thCells l
theorem thCells_length (l : List Th) : (thCells l).length = l.length * 3 := by
  induction l with
  | nil => rfl
  | cons t l ih => simp [thCells, Th.cells, ih]; omega
theorem thCells_at (l : List Th) : ∀ k (hk : k < l.length), (thCells l)[k * 3]? = some (.string l[k].s) ∧ (thCells l)[k * 3 + 1]? = some (.int .i64 l[k].a) ∧ (thCells l)[k * 3 + 2]? = some (.int .i64 l[k].b) := by
  induction l with
  | nil => intro k hk; simp at hk
  | cons t l ih =>
    intro k hk
    cases k with
    | zero => simp [thCells, Th.cells]
    | succ k =>
      have := ih k (by simpa using hk)
      have e : ∀ i, (thCells (t :: l))[(k + 1) * 3 + i]? = (thCells l)[k * 3 + i]? := fun i => by
        rw [show (k + 1) * 3 + i = 3 + (k * 3 + i) by omega]
        simp only [thCells]
        rw [List.getElem?_append_right (by simp [Th.cells])]
        simp [Th.cells]
      have e0 := e 0
      simp only [Nat.add_zero] at e0
      rw [e0, e 1, e 2]
      simpa using this
theorem thCells_set (l : List Th) (t : Th) : ∀ k, k < l.length → (((thCells l).set (k * 3) (.string t.s)).set (k * 3 + 1) (.int .i64 t.a)).set (k * 3 + 2) (.int .i64 t.b) = thCells (l.set k t) := by
  induction l with
  | nil => intro k hk; simp at hk
  | cons u l ih =>
    intro k hk
    cases k with
    | zero => simp [thCells, Th.cells]
    | succ k =>
      have := ih k (by simpa using hk)
      simp only [thCells, List.set_cons_succ]
      rw [← this, show (k + 1) * 3 = k * 3 + 3 by omega]
      simp only [Th.cells, List.cons_append, List.nil_append]
      rw [show k * 3 + 3 + 1 = (k * 3 + 1) + 3 by omega, show k * 3 + 3 + 2 = (k * 3 + 2) + 3 by omega]
      simp only [List.set_cons_succ]
theorem thCells_one (l : List Th) : ∀ u ∈ thCells l, u.oneCell' = true := by
  induction l with
  | nil => intro u h; cases h
  | cons t l ih =>
    intro u h
    simp only [thCells, List.mem_append] at h
    rcases h with h | h
    · simp only [Th.cells, List.mem_cons, List.not_mem_nil, or_false] at h
      rcases h with h | h | h <;> subst h <;> rfl
    · exact ih u h
theorem thCells_append (l k : List Th) : thCells (l ++ k) = thCells l ++ thCells k := by
  induction l with
  | nil => rfl
  | cons a l ih => simp [thCells, ih]

/-- A row of things without a meter. -/
structure RowT (w : World) (r c : Nat) (ts : List Th) : Prop where
  row : w.heap[r]? = some (.cells #[.pointer none, .int .i64 0, .slice (some ⟨c, 0, none⟩) ts.length ts.length] 88 (0, 0))
  cells : w.heap[c]? = some (.cells (thCells ts).toArray 66 (0, 0))
  small : ts.length ≤ 4096
  rc : r ≠ c
theorem RowT.kept {w w' : World} {r c : Nat} {ts : List Th} {F : Nat → Prop} (h : RowT w r c ts) (k : Kept F w w') (h1 : ¬ F r) (h2 : ¬ F c) : RowT w' r c ts :=
  ⟨(k.block r (lt_of_heap h.row) h1).trans h.row, (k.block c (lt_of_heap h.cells) h2).trans h.cells, h.small, h.rc⟩
theorem RowT.drew {w : World} {r c : Nat} {ts : List Th} (h : RowT w r c ts) : RowT w.drew r c ts := ⟨h.row, h.cells, h.small, h.rc⟩
theorem RowT.cell {w : World} {r c : Nat} {ts : List Th} (h : RowT w r c ts) (k : Nat) (hk : k < ts.length) : w.cell? ⟨c, k * 3, none⟩ = some (.string ts[k].s) ∧ w.cell? ⟨c, k * 3 + 1, none⟩ = some (.int .i64 ts[k].a) ∧ w.cell? ⟨c, k * 3 + 2, none⟩ = some (.int .i64 ts[k].b) := by
  obtain ⟨a1, a2, a3⟩ := thCells_at ts k hk
  exact ⟨(cell_of_heap h.cells).trans (by simpa using a1), (cell_of_heap h.cells).trans (by simpa using a2), (cell_of_heap h.cells).trans (by simpa using a3)⟩
theorem RowT.stored {w : World} {r c : Nat} {ts : List Th} (h : RowT w r c ts) (k : Nat) (hk : k < ts.length) (t : Th) :
    RowT (((w.setCell ⟨c, k * 3, none⟩ (.string t.s)).setCell ⟨c, k * 3 + 1, none⟩ (.int .i64 t.a)).setCell ⟨c, k * 3 + 2, none⟩ (.int .i64 t.b)) r c (ts.set k t) := by
  refine ⟨?_, ?_, by simpa using h.small, h.rc⟩
  · rw [heap_setCell_far (by simpa using h.rc), heap_setCell_far (by simpa using h.rc), heap_setCell_far (by simpa using h.rc)]; simpa using h.row
  · rw [heap_setCell_at (heap_setCell_at (heap_setCell_at h.cells _) _) _]
    have := thCells_set ts t k hk
    rw [← this]
    simp

set_option maxRecDepth 100000 in
theorem hasT_in (r : Nat) (c : Nat) (ts : List Th) (k : Nat) (w : World) (h : RowT w r c ts) (hk : k < ts.length) :
    Calls Try.prog 44 #[.pointer (some ⟨r, 0, none⟩), .int .i64 k] w fun e w' => e = .returned (.bool true) ∧ w' = w := by
  have c2 : w.cell? ⟨r, 2, none⟩ = some (.slice (some ⟨c, 0, none⟩) ts.length ts.length) := cell_of_heap h.row
  have h0 : (0 : Int) ≤ (k : Int) := Int.natCast_nonneg _
  have h1 : (k : Int) < (ts.length : Int) := by omega
  clear h
  go_enter Try.func44, Try.ntmps44
  go_wp2
  go_ret
  exact ⟨rfl, rfl⟩
set_option maxRecDepth 100000 in
theorem hasT_out (r : Nat) (c : Nat) (ts : List Th) (k : Nat) (w : World) (h : RowT w r c ts) (hk : ¬ k < ts.length) :
    Calls Try.prog 44 #[.pointer (some ⟨r, 0, none⟩), .int .i64 k] w fun e w' => e = .returned (.bool false) ∧ w' = w := by
  have c2 : w.cell? ⟨r, 2, none⟩ = some (.slice (some ⟨c, 0, none⟩) ts.length ts.length) := cell_of_heap h.row
  have h0 : (0 : Int) ≤ (k : Int) := Int.natCast_nonneg _
  have h1 : ¬ (k : Int) < (ts.length : Int) := by omega
  clear h
  go_enter Try.func44, Try.ntmps44
  go_wp2
  go_ret
  exact ⟨rfl, rfl⟩

set_option maxRecDepth 100000 in
set_option maxHeartbeats 1000000 in
theorem loadT_in (r : Nat) (c : Nat) (ts : List Th) (k : Nat) (w : World) (h : RowT w r c ts) (hk : k < ts.length) :
    Calls Try.prog 29 #[.pointer (some ⟨r, 0, none⟩), .int .i64 k] w fun e w' => e = .returned (.tuple #[ts[k].val, .int .i64 0]) ∧ Kept (fun _ => False) w w' := by
  obtain ⟨W0, hW0⟩ : ∃ W0, w.alloc (.cells #[.string { data := #[] }, .int .i64 0, .int .i64 0] 66) = W0 := ⟨_, rfl⟩
  have hk0 : Kept (fun _ => False) w W0 := hW0 ▸ boxed0 w _
  have hb0 : W0.heap[w.heap.size]? = some (.cells #[.string { data := #[] }, .int .i64 0, .int .i64 0] 66) := hW0 ▸ heap_alloc_new w _
  have h0 := h.kept hk0 (fun f => f) (fun f => f)
  obtain ⟨d0, d1, d2⟩ := h0.cell k hk
  have e0 : W0.cell? ⟨r, 0, none⟩ = some (.pointer none) := cell_of_heap h0.row
  have e1 : W0.cell? ⟨r, 1, none⟩ = some (.int .i64 0) := cell_of_heap h0.row
  have e2 : W0.cell? ⟨r, 2, none⟩ = some (.slice (some ⟨c, 0, none⟩) ts.length ts.length) := cell_of_heap h0.row
  have b0 : W0.cell? ⟨w.heap.size, 0, none⟩ = some (.string { data := #[] }) := cell_of_heap hb0
  have b1 : W0.cell? ⟨w.heap.size, 1, none⟩ = some (.int .i64 0) := cell_of_heap hb0
  have b2 : W0.cell? ⟨w.heap.size, 2, none⟩ = some (.int .i64 0) := cell_of_heap hb0
  have f0 : W0.frozen? ⟨w.heap.size, 0, none⟩ = false := frozen_of_heap hb0
  have f1 : W0.frozen? ⟨w.heap.size, 1, none⟩ = false := frozen_of_heap hb0
  have f2 : W0.frozen? ⟨w.heap.size, 2, none⟩ = false := frozen_of_heap hb0
  have hcB : c ≠ w.heap.size := by have := lt_of_heap h.cells; omega
  generalize ht : ts[k] = t at d0 d1 d2
  obtain ⟨s, a, b⟩ := t
  simp only [Th.val] at d0 d1 d2 ⊢
  have i0 : (0 : Int) ≤ (k : Int) := Int.natCast_nonneg _
  have i1 : (k : Int) < (ts.length : Int) := by omega
  have HK : Hid (∀ (v0 v1 v2 : Value), Kept (fun _ => False) w (((W0.setCell ⟨w.heap.size, 0, none⟩ v0).setCell ⟨w.heap.size, 1, none⟩ v1).setCell ⟨w.heap.size, 2, none⟩ v2).drew) := fun v0 v1 v2 => (((hk0.setCell _ (.inr (Nat.le_refl _))).setCell _ (.inr (Nat.le_refl _))).setCell _ (.inr (Nat.le_refl _))).drew
  clear ht h hb0 hk0
  have hW := hW0
  clear hW0
  go_enter Try.func29, Try.ntmps29
  go_wp2_with fail
  refine (hasT_in r c ts k _ h0 hk).mono ?_
  rintro e w1 ⟨rfl, rfl⟩
  clear hW h0
  go_wp2_with fail
  go_region_held3 (fun w' => w'.cell? ⟨r, 0, none⟩ = some (.pointer none) ∧ w'.cell? ⟨r, 1, none⟩ = some (.int .i64 0)) (first | go_keep)
    (first | (go_at_call 42; refine (note_nil _ _ _ _ _).mono ?_; rintro e w' ⟨rfl, rfl⟩))
  go_wp2
  exact bodyPost_ret (v := .tuple #[.agg #[.string s, .int .i64 a, .int .i64 b], .int .i64 0]) (by simp [results, Try.results29, go_sem, b0, b1, b2]) rfl ⟨rfl, HK.out _ _ _⟩

set_option maxRecDepth 100000 in
set_option maxHeartbeats 1000000 in
theorem storeT_in (r : Nat) (c : Nat) (ts : List Th) (k : Nat) (t : Th) (w : World) (h : RowT w r c ts) (hk : k < ts.length) :
    Calls Try.prog 28 #[.pointer (some ⟨r, 0, none⟩), .int .i64 k, t.val] w fun e w' => e = .returned (.int .i64 0) ∧ RowT w' r c (ts.set k t) ∧ Kept (fun i => i = c) w w' := by
  obtain ⟨W0, hW0⟩ : ∃ W0, w.alloc (.cells #[.string t.s, .int .i64 t.a, .int .i64 t.b] 66) = W0 := ⟨_, rfl⟩
  have hk0 : Kept (fun _ => False) w W0 := hW0 ▸ boxed0 w _
  have hb0 : W0.heap[w.heap.size]? = some (.cells #[.string t.s, .int .i64 t.a, .int .i64 t.b] 66) := hW0 ▸ heap_alloc_new w _
  have h0 := h.kept hk0 (fun f => f) (fun f => f)
  obtain ⟨d0, d1, d2⟩ := h0.cell k hk
  have e0 : W0.cell? ⟨r, 0, none⟩ = some (.pointer none) := cell_of_heap h0.row
  have e1 : W0.cell? ⟨r, 1, none⟩ = some (.int .i64 0) := cell_of_heap h0.row
  have e2 : W0.cell? ⟨r, 2, none⟩ = some (.slice (some ⟨c, 0, none⟩) ts.length ts.length) := cell_of_heap h0.row
  have b0 : W0.cell? ⟨w.heap.size, 0, none⟩ = some (.string t.s) := cell_of_heap hb0
  have b1 : W0.cell? ⟨w.heap.size, 1, none⟩ = some (.int .i64 t.a) := cell_of_heap hb0
  have b2 : W0.cell? ⟨w.heap.size, 2, none⟩ = some (.int .i64 t.b) := cell_of_heap hb0
  have f0 : W0.frozen? ⟨c, k * 3, none⟩ = false := frozen_of_heap h0.cells
  have f1 : W0.frozen? ⟨c, k * 3 + 1, none⟩ = false := frozen_of_heap h0.cells
  have f2 : W0.frozen? ⟨c, k * 3 + 2, none⟩ = false := frozen_of_heap h0.cells
  have hcB : c ≠ w.heap.size := by have := lt_of_heap h.cells; omega
  have i0 : (0 : Int) ≤ (k : Int) := Int.natCast_nonneg _
  have i1 : (k : Int) < (ts.length : Int) := by omega
  have hkc : Kept (fun i => i = c) w W0 := hk0.mono (fun _ _ f => f.elim)
  have HK : Hid (RowT (((W0.setCell ⟨c, k * 3, none⟩ (.string t.s)).setCell ⟨c, k * 3 + 1, none⟩ (.int .i64 t.a)).setCell ⟨c, k * 3 + 2, none⟩ (.int .i64 t.b)) r c (ts.set k t) ∧ Kept (fun i => i = c) w (((W0.setCell ⟨c, k * 3, none⟩ (.string t.s)).setCell ⟨c, k * 3 + 1, none⟩ (.int .i64 t.a)).setCell ⟨c, k * 3 + 2, none⟩ (.int .i64 t.b))) :=
    ⟨h0.stored k hk t, ((hkc.setCell _ (.inl rfl)).setCell _ (.inl rfl)).setCell _ (.inl rfl)⟩
  generalize ts[k] = u at d0 d1 d2
  obtain ⟨s, a, b⟩ := t
  simp only [Th.val] at *
  clear h hb0 hk0 hkc
  have hW := hW0
  clear hW0
  go_enter Try.func28, Try.ntmps28
  go_wp2_with fail
  refine (hasT_in r c ts k _ h0 hk).mono ?_
  rintro e w1 ⟨rfl, rfl⟩
  clear hW h0
  go_wp2_with fail
  go_region_held3 (fun w' => w'.cell? ⟨r, 0, none⟩ = some (.pointer none) ∧ w'.cell? ⟨r, 1, none⟩ = some (.int .i64 0)) (first | go_keep)
    (first | (go_at_call 42; refine (note_nil _ _ _ _ _).mono ?_; rintro e w' ⟨rfl, rfl⟩))
  go_wp2_with fail
  go_region
  all_goals
    go_wp2
    go_ret
    exact ⟨rfl, HK.out.1.drew.drew, HK.out.2.drew.drew⟩
end Go.Proofs.Ytebhjfoggogmaaa
