/- The document's rows of numbers: New, there, note, Load, Store, Fill. -/
import Derived.Test.YtajfjkhbimehbaaGreatClX
import Derived.Test.YtajfjkhbimehbaaGreatRefNote
namespace Go.Proofs.YtajfjkhbimehbaaGreat
open Go.RowKit
set_option linter.unusedVariables false
set_option linter.unusedSimpArgs false
attribute [local go_sem ↓] Go.wp_at_zero Go.wp_at_succ

/-- The document's row in block r, its cells in block c, its meter m. -/
structure RrRow (w : World) (r c m : Nat) (kind : Int) (xs : List Int) : Prop where
  row : w.heap[r]? = some (.cells #[.pointer (some ⟨m, 0, none⟩), .int .i64 kind, .slice (some ⟨c, 0, none⟩) xs.length xs.length] 92 (0, 0))
  cells : w.heap[c]? = some (.cells (clCells xs).toArray 2 (0, 0))
  small : xs.length ≤ 4096
  rc : r ≠ c
def rrRowI (r c m : Nat) (kind : Int) (xs : List Int) : It :=
  ⟨[r, c], fun w => RrRow w r c m kind xs, fun w w' h p => ⟨(h r (by simp)).trans p.row, (h c (by simp)).trans p.cells, p.small, p.rc⟩,
   fun w p b hb => by
    simp only [List.mem_cons, List.not_mem_nil, or_false] at hb
    rcases hb with rfl | rfl
    · exact lt_of_heap p.row
    · exact lt_of_heap p.cells⟩
section
variable {o w : World} {its : List It} {r c m : Nat} {kind : Int} {xs : List Int}
theorem RrRow.cell (h : RrRow w r c m kind xs) (k : Nat) (hk : k < xs.length) : w.cell? ⟨c, k, none⟩ = some (.int .i64 xs[k]) :=
  (cell_of_heap h.cells).trans (by simpa using clCells_at xs k hk)
theorem RrRow.c2 (h : RrRow w r c m kind xs) : w.cell? ⟨r, 2, none⟩ = some (.slice (some ⟨c, 0, none⟩) xs.length xs.length) := cell_of_heap h.row
theorem RrRow.stored (h : RrRow w r c m kind xs) (k : Nat) (x : Int) : RrRow (w.setCell ⟨c, k, none⟩ (.int .i64 x)) r c m kind (xs.set k x) := by
  refine ⟨?_, ?_, by simpa using h.small, h.rc⟩
  · rw [heap_setCell_far (by simpa using h.rc)]; simpa using h.row
  · rw [heap_setCell_at h.cells _, ← clCells_set]
    simp
theorem St.rrStored (h : St o its w) (j : Nat) (hj : its[j]? = some (rrRowI r c m kind xs)) (k : Nat) (x : Int) : St o (its.set j (rrRowI r c m kind (xs.set k x))) (w.setCell ⟨c, k, none⟩ (.int .i64 x)) := by
  have p : RrRow w r c m kind xs := h.get j hj
  exact h.set j hj ((Kept.refl _ w).setCell _ (.inl (by simp [rrRowI]))) (p.stored k x) (by simp [rrRowI, p.rc]) (fun b hb => .inl hb)

set_option maxRecDepth 100000 in
theorem rrNew_st (h : St o its w) (m : Nat) (kind : Int) (n : Nat) (h1 : n ≤ 4096) :
    Calls Tryz.prog 30 #[.pointer (some ⟨m, 0, none⟩), .int .i64 kind, .int .i64 n] w fun e w' => e = .returned (.pointer (some ⟨w.heap.size + 1, 0, none⟩)) ∧ St o (rrRowI (w.heap.size + 1) w.heap.size m kind (List.replicate n 0) :: its) w' ∧ w'.heap.size = w.heap.size + 2 := by
  obtain ⟨i0, hi0, hz0, hz1, hz2⟩ := info_parts Tryz.infoCl
  have hmk : (Instr.makeSlice 24 (.int .i64 n) (.int .i64 n)).run Tryz.prog w = .ok (.slice (some ⟨w.heap.size, 0, none⟩) n n) (w.alloc (.cells (clCells (List.replicate n 0)).toArray 2)) := by
    have := run_make (P := Tryz.prog) w 24 2 i0 _ Tryz.underlying24 hi0 hz0 .i64 .i64 n n (by omega) (by omega) (by rw [hz2]; omega) (by omega)
    rw [this, hz1, Int.toNat_natCast, made_cl]
  generalize hC : (clCells (List.replicate n 0)).toArray = CC at *
  have HR : Hid (St o (rrRowI (w.heap.size + 1) w.heap.size m kind (List.replicate n 0) :: its) ((w.alloc (.cells CC 2)).alloc (.cells #[.pointer (some ⟨m, 0, none⟩), .int .i64 kind, .slice (some ⟨w.heap.size, 0, none⟩) n n] 92))) := by
    generalize h1' : w.alloc (.cells CC 2) = w1
    have s1 : w1.heap.size = w.heap.size + 1 := by rw [← h1']; simp
    have m1 : w1.heap[w.heap.size]? = some (.cells CC 2) := by rw [← h1']; exact heap_alloc_new w _
    have k1 : Kept (fun _ => False) w w1 := by rw [← h1']; exact kept_alloc _ _
    refine h.push _ (k1.alloc _) ⟨?_, ?_, by simpa using h1, by omega⟩ (by simp [rrRowI]) (by simp [rrRowI])
    · have := heap_alloc_new w1 (.cells #[.pointer (some ⟨m, 0, none⟩), .int .i64 kind, .slice (some ⟨w.heap.size, 0, none⟩) n n] 92)
      rw [s1] at this
      simpa using this
    · rw [hC]
      exact (Below.heap_alloc _ _ _ (by omega)).trans m1
  clear hC h
  go_enter Tryz.func30, Tryz.ntmps30
  go_wp2
  go_ret
  exact ⟨rfl, HR.out, by simp⟩
set_option maxRecDepth 100000 in
theorem rrThere_in (k : Nat) (h : RrRow w r c m kind xs) (hk : k < xs.length) :
    Calls Tryz.prog 85 #[.pointer (some ⟨r, 0, none⟩), .int .i64 k] w fun e w' => e = .returned (.bool true) ∧ w' = w := by
  have c2 := h.c2
  have h0 : (0 : Int) ≤ (k : Int) := Int.natCast_nonneg _
  have h1 : (k : Int) < (xs.length : Int) := by omega
  clear h
  go_enter Tryz.func85, Tryz.ntmps85
  go_wp2
  go_ret
  exact ⟨rfl, rfl⟩
set_option maxRecDepth 100000 in
theorem rrThere_out (k : Int) (h : RrRow w r c m kind xs) (hk : ¬ (0 ≤ k ∧ k < xs.length)) :
    Calls Tryz.prog 85 #[.pointer (some ⟨r, 0, none⟩), .int .i64 k] w fun e w' => e = .returned (.bool false) ∧ w' = w := by
  have c2 := h.c2
  clear h
  by_cases h0 : k < 0
  · go_enter Tryz.func85, Tryz.ntmps85
    go_wp2
    go_ret
    exact ⟨rfl, rfl⟩
  · have h1 : (0 : Int) ≤ k := by omega
    have h2 : ¬ k < (xs.length : Int) := by omega
    clear hk h0
    go_enter Tryz.func85, Tryz.ntmps85
    go_wp2
    go_ret
    exact ⟨rfl, rfl⟩
set_option maxRecDepth 100000 in
set_option maxHeartbeats 1000000 in
theorem rrNote_st (h : St o its w) (i j : Nat) {s : Mt} {v : Value} (hi : its[i]? = some (meterI 67 (some m) s v)) (hj : its[j]? = some (rrRowI r c m kind xs)) {n : Nat} (hw : s.within n) (hn : n ≤ 4611686018427) (k op : Int) (ok : Bool) :
    Calls Tryz.prog 86 #[.pointer (some ⟨r, 0, none⟩), .int .i64 k, .int .i64 op, .bool ok] w fun e w' => e = .returned (.tuple #[]) ∧ ∃ v', St o (its.set i (meterI 67 (some m) (s.note kind k op ok) v')) w' := by
  have r0 : RrRow w r c m kind xs := h.get j hj
  have hnote := refNote_st h.drew i hi hw hn kind k op ok
  have e0 : w.cell? ⟨r, 0, none⟩ = some (.pointer (some ⟨m, 0, none⟩)) := cell_of_heap r0.row
  have e1 : w.cell? ⟨r, 1, none⟩ = some (.int .i64 kind) := cell_of_heap r0.row
  clear r0 h
  go_enter Tryz.func86, Tryz.ntmps86
  go_wp2_with fail
  go_region_with (go_at_call 109; refine hnote.mono ?_; rintro e w' ⟨rfl, v', hS⟩)
  all_goals go_wp2
  all_goals go_end0
  all_goals exact ⟨rfl, v', hS⟩
set_option maxRecDepth 100000 in
set_option maxHeartbeats 1000000 in
theorem rrLoad_st (h : St o its w) (i j : Nat) {s : Mt} {v : Value} (hi : its[i]? = some (meterI 67 (some m) s v)) (hj : its[j]? = some (rrRowI r c m kind xs)) (hij : i ≠ j) {n : Nat} (hw : s.within n) (hn : n ≤ 4611686018427) (k : Nat) (hk : k < xs.length) :
    Calls Tryz.prog 80 #[.pointer (some ⟨r, 0, none⟩), .int .i64 k] w fun e w' => e = .returned (.tuple #[.int .i64 xs[k], .int .i64 0]) ∧ ∃ v', St o (its.set i (meterI 67 (some m) (s.note kind k 1 true) v')) w' := by
  have hT := rrThere_in k (show RrRow w r c m kind xs from h.get j hj) hk
  have hN := rrNote_st h i j hi hj hw hn k 1 true
  have i0 : (0 : Int) ≤ (k : Int) := Int.natCast_nonneg _
  have i1 : (k : Int) < (xs.length : Int) := by omega
  generalize hx : xs[k] = x
  have HX : Hid (xs[k] = x) := hx
  clear hx h
  go_enter Tryz.func80, Tryz.ntmps80
  go_wp2_with fail
  refine hT.mono ?_
  rintro e w1 ⟨rfl, rfl⟩
  go_wp2_with fail
  refine hN.mono ?_
  rintro e w2 ⟨rfl, v', hS⟩
  have q : RrRow w2 r c m kind xs := hS.get j (set_other hj hij)
  have e2 := q.c2
  have d := q.cell k hk
  rw [HX.out] at d
  have HS : Hid _ := hS
  clear q hT hN hS
  go_wp2
  go_ret2
  exact ⟨rfl, v', HS.out⟩
set_option maxRecDepth 100000 in
set_option maxHeartbeats 1000000 in
theorem rrStore_st (h : St o its w) (i j : Nat) {s : Mt} {v : Value} (hi : its[i]? = some (meterI 67 (some m) s v)) (hj : its[j]? = some (rrRowI r c m kind xs)) (hij : i ≠ j) {n : Nat} (hw : s.within n) (hn : n ≤ 4611686018427) (k : Nat) (hk : k < xs.length) (x : Int) :
    Calls Tryz.prog 42 #[.pointer (some ⟨r, 0, none⟩), .int .i64 k, .int .i64 x] w fun e w' => e = .returned (.int .i64 0) ∧ ∃ v', St o ((its.set i (meterI 67 (some m) (s.note kind k 2 true) v')).set j (rrRowI r c m kind (xs.set k x))) w' := by
  have hT := rrThere_in k (show RrRow w r c m kind xs from h.get j hj) hk
  have hN := rrNote_st h i j hi hj hw hn k 2 true
  have i0 : (0 : Int) ≤ (k : Int) := Int.natCast_nonneg _
  have i1 : (k : Int) < (xs.length : Int) := by omega
  clear h
  go_enter Tryz.func42, Tryz.ntmps42
  go_wp2_with fail
  refine hT.mono ?_
  rintro e w1 ⟨rfl, rfl⟩
  go_wp2_with fail
  refine hN.mono ?_
  rintro e w2 ⟨rfl, v', hS⟩
  have q : RrRow w2 r c m kind xs := hS.get j (set_other hj hij)
  have e2 := q.c2
  have d := q.cell k hk
  have f : w2.frozen? ⟨c, k, none⟩ = false := frozen_of_heap q.cells
  have HS : Hid _ := hS.rrStored j (set_other hj hij) k x
  clear q hT hN hS
  go_wp2
  go_ret
  exact ⟨rfl, v', HS.out⟩
set_option maxRecDepth 100000 in
theorem rrLoad_out (k : Int) (h : RrRow w r c m kind xs) (hk : ¬ (0 ≤ k ∧ k < xs.length)) :
    Calls Tryz.prog 80 #[.pointer (some ⟨r, 0, none⟩), .int .i64 k] w fun e w' => e = .returned (.tuple #[.int .i64 0, .int .i64 2]) ∧ w' = w := by
  have hH := rrThere_out k h hk
  clear h hk
  go_enter Tryz.func80, Tryz.ntmps80
  go_wp2_with fail
  refine hH.mono ?_
  rintro e w1 ⟨rfl, rfl⟩
  go_wp2
  go_ret2
  exact ⟨rfl, rfl⟩
set_option maxRecDepth 100000 in
theorem rrStore_out (k x : Int) (h : RrRow w r c m kind xs) (hk : ¬ (0 ≤ k ∧ k < xs.length)) :
    Calls Tryz.prog 42 #[.pointer (some ⟨r, 0, none⟩), .int .i64 k, .int .i64 x] w fun e w' => e = .returned (.int .i64 2) ∧ w' = w := by
  have hH := rrThere_out k h hk
  clear h hk
  go_enter Tryz.func42, Tryz.ntmps42
  go_wp2_with fail
  refine hH.mono ?_
  rintro e w1 ⟨rfl, rfl⟩
  go_wp2
  go_ret
  exact ⟨rfl, rfl⟩
theorem fill_step (xs zs : List Int) (d : Nat) (hd : d < zs.length) (hx : zs.length ≤ xs.length) : (zs.take d ++ xs.drop d).set d (zs.getD d 0) = zs.take (d + 1) ++ xs.drop (d + 1) := by
  have hdx : d < xs.length := by omega
  rw [List.set_append_right _ _ (by simp; omega), List.drop_eq_getElem_cons hdx]
  simp only [List.length_take, Nat.min_eq_left (Nat.le_of_lt hd), Nat.sub_self, List.set_cons_zero]
  rw [List.take_succ_eq_append_getElem hd]
  simp [hd, -List.take_append_getElem]
set_option maxRecDepth 100000 in
set_option maxHeartbeats 1000000 in
theorem rrFill_st {zs : List Int} {la : Option Addr} {n lc : Nat} (h : St o its w) (j : Nat) (hj : its[j]? = some (rrRowI r c m kind xs)) (hl : NumsIn w la n zs) (hn : n ≤ 17592186044416) (hap : ∀ a, la = some a → 0 < n → a.block ≠ c) :
    Calls Tryz.prog 8 #[.pointer (some ⟨r, 0, none⟩), .slice la n lc] w fun e w' => e = .returned (.int .i64 (fillErr xs zs)) ∧ St o (its.set j (rrRowI r c m kind (fillRow xs zs))) w' := by
  have hr : RrRow w r c m kind xs := h.get j hj
  have c2 := hr.c2
  have hsm := hr.small
  obtain ⟨hnz, hl⟩ := hl
  by_cases hgt : xs.length < n
  · have e1 : fillErr xs zs = 3 := by simp [fillErr, ← hnz, hgt]
    have e2 : fillRow xs zs = xs := by simp [fillRow, ← hnz, hgt]
    rw [e1, e2, set_back hj]
    clear e1 e2 hnz hl hr
    have h1 : (xs.length : Int) < (n : Int) := by omega
    go_enter Tryz.func8, Tryz.ntmps8
    go_wp2
    go_ret
    exact ⟨rfl, h⟩
  · have e1 : fillErr xs zs = 0 := by simp [fillErr, ← hnz, hgt]
    have e2 : fillRow xs zs = zs ++ xs.drop zs.length := by simp [fillRow, ← hnz, hgt]
    rw [e1, e2]
    clear e1 e2
    have h1 : ¬ (xs.length : Int) < (n : Int) := by omega
    have HN : Hid (n = zs.length) := hnz
    clear hnz
    go_enter Tryz.func8, Tryz.ntmps8
    go_wp2_with fail
    go_loopw [5] (fun x wr => ∃ d : Nat, x = .int .i64 d ∧ d ≤ n ∧ Kept (fun b => b = c) w wr ∧ St o (its.set j (rrRowI r c m kind (zs.take d ++ xs.drop d))) wr) (fun x _ => n - (intOf x).toNat)
    case atStart => exact ⟨0, rfl, Nat.zero_le _, Kept.refl _ _, by simpa [set_back hj] using h⟩
    case round =>
      obtain ⟨d, rfl, hd, hk, hS⟩ := hrel
      have hr2 : RrRow wr r c m kind (zs.take d ++ xs.drop d) := hS.get j (set_self hj)
      have elen : (zs.take d ++ xs.drop d).length = xs.length := by have := HN.out; simp; omega
      have e2 : wr.cell? ⟨r, 2, none⟩ = some (.slice (some ⟨c, 0, none⟩) xs.length xs.length) := by rw [← elen]; exact hr2.c2
      by_cases hlt : d < n
      · obtain ⟨g, o', rfl, hg⟩ := hl (by omega)
        have hgl : g < w.heap.size := World.block_lt_of_cell? w _ (hg d hlt)
        have hgc := hap _ rfl (by omega)
        have ez : wr.drew.cell? ⟨g, o' + d, none⟩ = some (.int .i64 (zs.getD d 0)) := (World.cell?_of_block (hk.block g hgl hgc)).trans (hg d hlt)
        have e2' : wr.drew.cell? ⟨r, 2, none⟩ = some (.slice (some ⟨c, 0, none⟩) xs.length xs.length) := e2
        obtain ⟨y, ey⟩ : ∃ y, wr.drew.cell? ⟨c, d, none⟩ = some y := ⟨_, hr2.cell d (by omega)⟩
        have fy : wr.drew.frozen? ⟨c, d, none⟩ = false := frozen_of_heap hr2.cells
        have HS : Hid (St o (its.set j (rrRowI r c m kind (zs.take (d + 1) ++ xs.drop (d + 1)))) (wr.setCell ⟨c, d, none⟩ (.int .i64 (zs.getD d 0))).drew) := by
          have := (hS.rrStored j (set_self hj) d (zs.getD d 0)).drew
          rw [set_same, fill_step xs zs d (by have := HN.out; omega) (by have := HN.out; omega)] at this
          exact this
        have HK : Hid (Kept (fun b => b = c) w (wr.setCell ⟨c, d, none⟩ (.int .i64 (zs.getD d 0))).drew) := (hk.setCell _ (.inl rfl)).drew
        generalize zs.getD d 0 = z at ez HS HK
        have h0 : (0 : Int) ≤ (d : Int) := Int.natCast_nonneg _
        have h2 : (d : Int) < (n : Int) := by omega
        have h3 : (d : Int) < (xs.length : Int) := by omega
        clear hg hr2 hk hl hS elen h hr
        go_wp2_with fail
        go_region
        all_goals
          go_wp2
          go_roundw
          case rel => exact ⟨d + 1, by go_num, by omega, HK.out, HS.out⟩
          case measure => simp [intOf]; omega
      · obtain rfl : d = n := by omega
        have e : zs.take d = zs := List.take_of_length_le (by have := HN.out; omega)
        rw [e, HN.out] at hS
        clear hr2 elen h hr hk
        go_wp2
        go_ret
        exact ⟨rfl, hS⟩
end
end Go.Proofs.YtajfjkhbimehbaaGreat
