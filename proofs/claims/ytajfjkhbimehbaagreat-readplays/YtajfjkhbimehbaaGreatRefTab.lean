/- The document's table as it lies in memory; there, note, Thread, New. -/
import Derived.Test.YtajfjkhbimehbaaGreatRefNote
import Derived.Test.YtajfjkhbimehbaaGreatTabN
import Derived.Laws.Pointers
namespace Go.Proofs.YtajfjkhbimehbaaGreat
open Go.RowKit
set_option linter.unusedVariables false
set_option linter.unusedSimpArgs false
attribute [local go_sem ↓] Go.wp_at_zero Go.wp_at_succ

/-- The document's table in block y; its slots in block g; its meter in block x. -/
structure RefTab (w : World) (y g x : Nat) (hs : List Hd) (ws : List Int) : Prop where
  tab : w.heap[y]? = some (.cells #[.pointer (some ⟨x, 0, none⟩), .slice (some ⟨g, 0, none⟩) hs.length hs.length] 144 (0, 0))
  cells : w.heap[g]? = some (.cells (slCells (slots hs ws)).toArray 156 (0, 0))
  wn : ws.length = hs.length * 2
  n8 : hs.length ≤ 8
  yg : y ≠ g
def refI (y g x : Nat) (hs : List Hd) (ws : List Int) : It :=
  ⟨[y, g], fun w => RefTab w y g x hs ws, fun w w' h p => ⟨(h y (by simp)).trans p.tab, (h g (by simp)).trans p.cells, p.wn, p.n8, p.yg⟩,
   fun w p b hb => by
    simp only [List.mem_cons, List.not_mem_nil, or_false] at hb
    rcases hb with rfl | rfl
    · exact lt_of_heap p.tab
    · exact lt_of_heap p.cells⟩
section
variable {w : World} {y g x : Nat} {hs : List Hd} {ws : List Int}
theorem RefTab.cell (h : RefTab w y g x hs ws) {k : Nat} (hk : k < hs.length) :
    w.cell? ⟨g, k * 8, none⟩ = some (.int .i64 hs[k].gn) ∧ w.cell? ⟨g, k * 8 + 1, none⟩ = some (.int .i64 hs[k].sa) ∧ w.cell? ⟨g, k * 8 + 2, none⟩ = some (.int .i64 hs[k].sp) ∧ w.cell? ⟨g, k * 8 + 3, none⟩ = some (.int .i64 hs[k].th) ∧ w.cell? ⟨g, k * 8 + 4, none⟩ = some (.bool hs[k].dm) ∧ w.cell? ⟨g, k * 8 + 5, none⟩ = some (.int .i64 hs[k].wy) ∧ w.cell? ⟨g, k * 8 + 6, none⟩ = some (.int .u64 (ws.getD (k * 2) 0)) ∧ w.cell? ⟨g, k * 8 + 7, none⟩ = some (.int .u64 (ws.getD (k * 2 + 1) 0)) := by
  have hs' := slots_at hs ws h.wn k hk
  obtain ⟨hlt, he⟩ := List.getElem?_eq_some_iff.1 hs'
  have c := slCells_at (slots hs ws) k hlt
  rw [he] at c
  simp only [mkSl] at c
  obtain ⟨c0, c1, c2, c3, c4, c5, c6, c7⟩ := c
  exact ⟨(cell_of_heap h.cells).trans (by simpa using c0), (cell_of_heap h.cells).trans (by simpa using c1), (cell_of_heap h.cells).trans (by simpa using c2), (cell_of_heap h.cells).trans (by simpa using c3), (cell_of_heap h.cells).trans (by simpa using c4), (cell_of_heap h.cells).trans (by simpa using c5), (cell_of_heap h.cells).trans (by simpa using c6), (cell_of_heap h.cells).trans (by simpa using c7)⟩
theorem set_noop (l : List Value) (i : Nat) (v : Value) (h : l[i]? = some v) : l.set i v = l := by
  apply List.ext_getElem?
  intro j
  rw [List.getElem?_set]
  by_cases e : i = j
  · subst e
    rw [h]
    simp [(List.getElem?_eq_some_iff.1 h).1]
  · simp [e]
/-- The six cells of a head turned. -/
theorem sl_six (wn : ws.length = hs.length * 2) {k : Nat} (hk : k < hs.length) (z : Hd) :
    (((((((slCells (slots hs ws)).set (k * 8) (.int .i64 z.gn)).set (k * 8 + 1) (.int .i64 z.sa)).set (k * 8 + 2) (.int .i64 z.sp)).set (k * 8 + 3) (.int .i64 z.th)).set (k * 8 + 4) (.bool z.dm)).set (k * 8 + 5) (.int .i64 z.wy)) = slCells (slots (hs.set k z) ws) := by
  have hl : k < (slots hs ws).length := by rw [slots_length hs ws wn]; exact hk
  have h8 := sl_eight (slots hs ws) k hl z (ws.getD (k * 2) 0) (ws.getD (k * 2 + 1) 0)
  rw [slots_head hs ws wn k hk z, ← h8]
  have hs' := slots_at hs ws wn k hk
  have he := (List.getElem?_eq_some_iff.1 hs').2
  have c := slCells_at (slots hs ws) k hl
  rw [he] at c
  simp only [mkSl] at c
  obtain ⟨_, _, _, _, _, _, c6, c7⟩ := c
  rw [set_noop _ (k * 8 + 6), set_noop _ (k * 8 + 7)]
  · simp only [List.getElem?_set]
    simp only [show ¬ (k * 8 + 5 = k * 8 + 7) by omega, show ¬ (k * 8 + 4 = k * 8 + 7) by omega, show ¬ (k * 8 + 3 = k * 8 + 7) by omega, show ¬ (k * 8 + 2 = k * 8 + 7) by omega, show ¬ (k * 8 + 1 = k * 8 + 7) by omega, show ¬ (k * 8 = k * 8 + 7) by omega, if_false]
    exact c7
  · simp only [List.getElem?_set]
    simp only [show ¬ (k * 8 + 5 = k * 8 + 6) by omega, show ¬ (k * 8 + 4 = k * 8 + 6) by omega, show ¬ (k * 8 + 3 = k * 8 + 6) by omega, show ¬ (k * 8 + 2 = k * 8 + 6) by omega, show ¬ (k * 8 + 1 = k * 8 + 6) by omega, show ¬ (k * 8 = k * 8 + 6) by omega, if_false]
    exact c6
theorem RefTab.head (h : RefTab w y g x hs ws) {k : Nat} (hk : k < hs.length) (z : Hd) :
    RefTab ((((((w.setCell ⟨g, k * 8, none⟩ (.int .i64 z.gn)).setCell ⟨g, k * 8 + 1, none⟩ (.int .i64 z.sa)).setCell ⟨g, k * 8 + 2, none⟩ (.int .i64 z.sp)).setCell ⟨g, k * 8 + 3, none⟩ (.int .i64 z.th)).setCell ⟨g, k * 8 + 4, none⟩ (.bool z.dm)).setCell ⟨g, k * 8 + 5, none⟩ (.int .i64 z.wy)) y g x (hs.set k z) ws := by
  refine ⟨?_, ?_, by simpa using h.wn, by simpa using h.n8, h.yg⟩
  · rw [heap_setCell_far (by simpa using h.yg), heap_setCell_far (by simpa using h.yg), heap_setCell_far (by simpa using h.yg), heap_setCell_far (by simpa using h.yg), heap_setCell_far (by simpa using h.yg), heap_setCell_far (by simpa using h.yg)]
    simpa using h.tab
  · rw [heap_setCell_at (heap_setCell_at (heap_setCell_at (heap_setCell_at (heap_setCell_at (heap_setCell_at h.cells _) _) _) _) _) _, ← sl_six h.wn hk z]
    simp
theorem RefTab.words (h : RefTab w y g x hs ws) {k : Nat} (hk : k < hs.length) (b : Nat) (hb : b < 2) (X va vb : Int) (ea : va = if b = 0 then X else ws.getD (k * 2) 0) (eb : vb = if b = 1 then X else ws.getD (k * 2 + 1) 0) :
    RefTab ((((((((w.setCell ⟨g, k * 8, none⟩ (.int .i64 hs[k].gn)).setCell ⟨g, k * 8 + 1, none⟩ (.int .i64 hs[k].sa)).setCell ⟨g, k * 8 + 2, none⟩ (.int .i64 hs[k].sp)).setCell ⟨g, k * 8 + 3, none⟩ (.int .i64 hs[k].th)).setCell ⟨g, k * 8 + 4, none⟩ (.bool hs[k].dm)).setCell ⟨g, k * 8 + 5, none⟩ (.int .i64 hs[k].wy)).setCell ⟨g, k * 8 + 6, none⟩ (.int .u64 va)).setCell ⟨g, k * 8 + 7, none⟩ (.int .u64 vb)) y g x hs (ws.set (k * 2 + b) X) := by
  have hl : k < (slots hs ws).length := by rw [slots_length hs ws h.wn]; exact hk
  refine ⟨?_, ?_, by simpa using h.wn, h.n8, h.yg⟩
  · rw [heap_setCell_far (by simpa using h.yg), heap_setCell_far (by simpa using h.yg), heap_setCell_far (by simpa using h.yg), heap_setCell_far (by simpa using h.yg), heap_setCell_far (by simpa using h.yg), heap_setCell_far (by simpa using h.yg), heap_setCell_far (by simpa using h.yg), heap_setCell_far (by simpa using h.yg)]
    exact h.tab
  · rw [heap_setCell_at (heap_setCell_at (heap_setCell_at (heap_setCell_at (heap_setCell_at (heap_setCell_at (heap_setCell_at (heap_setCell_at h.cells _) _) _) _) _) _) _) _]
    have h8 := sl_eight (slots hs ws) k hl hs[k] va vb
    have hw := slots_word hs ws h.wn k hk X
    have e : slots hs (ws.set (k * 2 + b) X) = (slots hs ws).set k (mkSl hs[k] va vb) := by
      have : b = 0 ∨ b = 1 := by omega
      rcases this with rfl | rfl
      · simp only [if_true, show ¬ ((0 : Nat) = 1) by omega, if_false] at ea eb
        subst ea eb
        exact hw.1
      · simp only [if_true, show ¬ ((1 : Nat) = 0) by omega, if_false] at ea eb
        subst ea eb
        exact hw.2
    rw [e, ← h8]
    simp
end
theorem St.refHead {o w : World} {its : List It} (h : St o its w) (j : Nat) {y g x : Nat} {hs : List Hd} {ws : List Int} (hj : its[j]? = some (refI y g x hs ws)) {k : Nat} (hk : k < hs.length) (z : Hd) :
    St o (its.set j (refI y g x (hs.set k z) ws)) ((((((w.setCell ⟨g, k * 8, none⟩ (.int .i64 z.gn)).setCell ⟨g, k * 8 + 1, none⟩ (.int .i64 z.sa)).setCell ⟨g, k * 8 + 2, none⟩ (.int .i64 z.sp)).setCell ⟨g, k * 8 + 3, none⟩ (.int .i64 z.th)).setCell ⟨g, k * 8 + 4, none⟩ (.bool z.dm)).setCell ⟨g, k * 8 + 5, none⟩ (.int .i64 z.wy)) := by
  have p : RefTab w y g x hs ws := h.get j hj
  refine h.set j hj ?_ (p.head hk z) (by simp [refI, p.yg]) (fun b hb => .inl hb)
  exact ((((((Kept.refl _ w).setCell _ (.inl (by simp [refI]))).setCell _ (.inl (by simp [refI]))).setCell _ (.inl (by simp [refI]))).setCell _ (.inl (by simp [refI]))).setCell _ (.inl (by simp [refI]))).setCell _ (.inl (by simp [refI]))
theorem St.refWords {o w : World} {its : List It} (h : St o its w) (j : Nat) {y g x : Nat} {hs : List Hd} {ws : List Int} (hj : its[j]? = some (refI y g x hs ws)) {k : Nat} (hk : k < hs.length) (b : Nat) (hb : b < 2) (X va vb : Int) (ea : va = if b = 0 then X else ws.getD (k * 2) 0) (eb : vb = if b = 1 then X else ws.getD (k * 2 + 1) 0) :
    St o (its.set j (refI y g x hs (ws.set (k * 2 + b) X))) ((((((((w.setCell ⟨g, k * 8, none⟩ (.int .i64 hs[k].gn)).setCell ⟨g, k * 8 + 1, none⟩ (.int .i64 hs[k].sa)).setCell ⟨g, k * 8 + 2, none⟩ (.int .i64 hs[k].sp)).setCell ⟨g, k * 8 + 3, none⟩ (.int .i64 hs[k].th)).setCell ⟨g, k * 8 + 4, none⟩ (.bool hs[k].dm)).setCell ⟨g, k * 8 + 5, none⟩ (.int .i64 hs[k].wy)).setCell ⟨g, k * 8 + 6, none⟩ (.int .u64 va)).setCell ⟨g, k * 8 + 7, none⟩ (.int .u64 vb)) := by
  have p : RefTab w y g x hs ws := h.get j hj
  refine h.set j hj ?_ (p.words hk b hb X va vb ea eb) (by simp [refI, p.yg]) (fun b hb => .inl hb)
  exact ((((((((Kept.refl _ w).setCell _ (.inl (by simp [refI]))).setCell _ (.inl (by simp [refI]))).setCell _ (.inl (by simp [refI]))).setCell _ (.inl (by simp [refI]))).setCell _ (.inl (by simp [refI]))).setCell _ (.inl (by simp [refI]))).setCell _ (.inl (by simp [refI]))).setCell _ (.inl (by simp [refI]))

set_option maxRecDepth 100000 in
theorem refThere {o w : World} {its : List It} (h : St o its w) (j : Nat) {y g x : Nat} {hs : List Hd} {ws : List Int} (hj : its[j]? = some (refI y g x hs ws)) (i : Int) :
    Calls Tryz.prog 82 #[.pointer (some ⟨y, 0, none⟩), .int .i64 i] w fun e w' => e = .returned (.bool (hasSlot hs.length i)) ∧ w' = w := by
  have p : RefTab w y g x hs ws := h.get j hj
  have c1 : w.cell? ⟨y, 1, none⟩ = some (.slice (some ⟨g, 0, none⟩) hs.length hs.length) := cell_of_heap p.tab
  clear h p
  unfold hasSlot
  generalize hs.length = n at *
  cases h1 : decide ((0 : Int) ≤ i) <;> cases h2 : decide (i < (n : Int))
  all_goals
    go_enter Tryz.func82, Tryz.ntmps82
    go_wp2
    go_ret
    first | exact ⟨rfl, rfl⟩ | simp_all
set_option maxRecDepth 100000 in
theorem refTnote {o w : World} {its : List It} (h : St o its w) (i j : Nat) {y g x : Nat} {s : Mt} {v : Value} {hs : List Hd} {ws : List Int} (hi : its[i]? = some (meterI 67 (some x) s v)) (hj : its[j]? = some (refI y g x hs ws)) {n : Nat} (hw : s.within n) (hn : n ≤ 4611686018427) (kind at_ op : Int) (ok : Bool) :
    Calls Tryz.prog 83 #[.pointer (some ⟨y, 0, none⟩), .int .i64 kind, .int .i64 at_, .int .i64 op, .bool ok] w fun e w' => e = .returned (.tuple #[]) ∧ ∃ v', St o (its.set i (meterI 67 (some x) (s.note kind at_ op ok) v')) w' := by
  have p : RefTab w y g x hs ws := h.get j hj
  have c0 : w.cell? ⟨y, 0, none⟩ = some (.pointer (some ⟨x, 0, none⟩)) := cell_of_heap p.tab
  have hc := refNote_st h i hi hw hn kind at_ op ok
  clear h p
  go_enter Tryz.func83, Tryz.ntmps83
  go_wp2_with (go_at_call 109; refine hc.mono ?_; rintro e w' ⟨rfl, hS⟩)
  first | go_end0 | refine bodyPost_ret (results_none rfl _ _ _) rfl ?_
  exact ⟨rfl, hS⟩
set_option maxRecDepth 100000 in
theorem refThread_any (t : Int) (w : World) : Calls Tryz.prog 90 #[.int .i64 t] w fun e w' => e = .returned (.bool (isTh t)) ∧ w' = w := by
  unfold isTh
  cases h1 : decide ((1 : Int) ≤ t) <;> cases h2 : decide (t ≤ (8 : Int))
  all_goals
    go_enter Tryz.func90, Tryz.ntmps90
    go_wp2
    go_ret
    first | exact ⟨rfl, rfl⟩ | simp_all
set_option maxRecDepth 100000 in
theorem refNew_out (p : Value) (n : Int) (h : n < 1 ∨ 8 < n) (w : World) : Calls Tryz.prog 29 #[p, .int .i64 n] w fun e w' => e = .returned (.tuple #[.pointer none, .int .i64 1]) ∧ w' = w := by
  by_cases h1 : n < 1
  · clear h
    go_enter Tryz.func29, Tryz.ntmps29
    go_wp2
    go_ret2
    exact ⟨rfl, rfl⟩
  · have h2 : 8 < n := by omega
    clear h
    go_enter Tryz.func29, Tryz.ntmps29
    go_wp2
    go_ret2
    exact ⟨rfl, rfl⟩
set_option maxRecDepth 100000 in
theorem refNew_st {o w : World} {its : List It} (h : St o its w) (x n : Nat) (h1 : 1 ≤ n) (h8 : n ≤ 8) :
    Calls Tryz.prog 29 #[.pointer (some ⟨x, 0, none⟩), .int .i64 n] w fun e w' => ∃ y g, e = .returned (.tuple #[.pointer (some ⟨y, 0, none⟩), .int .i64 0]) ∧ St o (refI y g x (List.replicate n Hd.zero) (List.replicate (n * 2) 0) :: its) w' := by
  obtain ⟨i0, hi0, hz0, hz1, hz2⟩ := info_parts Tryz.infoSl
  have i1 : ¬ (n : Int) < 1 := by omega
  have i2 : ¬ (8 : Int) < (n : Int) := by omega
  have hmk : (Instr.makeSlice 121 (.int .i64 n) (.int .i64 n)).run Tryz.prog w = .ok (.slice (some ⟨w.heap.size, 0, none⟩) n n) (w.alloc (.cells (slCells (List.replicate n Sl.zero)).toArray 156)) := by
    have := run_make (P := Tryz.prog) w 121 156 i0 _ Tryz.underlying121 hi0 hz0 .i64 .i64 n n (by omega) (by omega) (by rw [hz2]; omega) (by omega)
    rw [this, hz1, Int.toNat_natCast, made_sl]
  have hz := slots_zero n
  generalize hC : (slCells (List.replicate n Sl.zero)).toArray = CC at *
  have HR : Hid (St o (refI (w.heap.size + 1) w.heap.size x (List.replicate n Hd.zero) (List.replicate (n * 2) 0) :: its) ((w.alloc (.cells CC 156)).alloc (.cells #[.pointer (some ⟨x, 0, none⟩), .slice (some ⟨w.heap.size, 0, none⟩) n n] 144))) := by
    generalize h1' : w.alloc (.cells CC 156) = w1
    have s1 : w1.heap.size = w.heap.size + 1 := by rw [← h1']; simp
    have m1 : w1.heap[w.heap.size]? = some (.cells CC 156) := by rw [← h1']; exact heap_alloc_new w _
    have k1 : Kept (fun _ => False) w w1 := by rw [← h1']; exact kept_alloc _ _
    refine h.push _ (k1.alloc _) ⟨?_, ?_, by simp, by simpa using h8, by omega⟩ (by simp [refI]) (by simp [refI])
    · have := heap_alloc_new w1 (.cells #[.pointer (some ⟨x, 0, none⟩), .slice (some ⟨w.heap.size, 0, none⟩) n n] 144)
      rw [s1] at this
      simpa using this
    · rw [hz, hC]
      exact (Below.heap_alloc _ _ _ (by omega)).trans m1
  clear hC h hz
  go_enter Tryz.func29, Tryz.ntmps29
  go_wp2
  go_ret2
  exact ⟨_, rfl, _, HR.out⟩
end Go.Proofs.YtajfjkhbimehbaaGreat
