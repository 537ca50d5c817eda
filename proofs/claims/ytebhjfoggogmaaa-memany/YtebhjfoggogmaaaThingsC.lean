/- A new row of things, and all that a row of things holds. -/
import Derived.Test.YtebhjfoggogmaaaThingsB
import Derived.Maps.AppendAt
namespace Go.Proofs.Ytebhjfoggogmaaa
open Go.RowKit
set_option linter.unusedVariables false
set_option linter.unusedSimpArgs false

theorem Try.info66 : (Try.prog.info? 66).map (fun i => (i.zero, i.size, i.bytes)) = some (some (.agg #[.string { data := #[] }, .int .i64 0, .int .i64 0]), 3, 32) := by kernel_rfl

theorem thCells_rep (t : Th) : ∀ n j, j < n * 3 → (thCells (List.replicate n t))[j]? = t.cells[j % 3]? := by
  intro n
  induction n with
  | zero => intro j hj; omega
  | succ n ih =>
    intro j hj
    simp only [List.replicate_succ, thCells]
    by_cases h : j < 3
    · rw [List.getElem?_append_left (by simpa [Th.cells] using h), Nat.mod_eq_of_lt h]
    · rw [List.getElem?_append_right (by simp [Th.cells]; omega)]
      have := ih (j - 3) (by omega)
      simp only [Th.cells, List.length_cons, List.length_nil] at *
      rw [this]
      congr 1
      omega

theorem made_things (n : Nat) : madeCells (Value.agg #[.string { data := #[] }, .int .i64 0, .int .i64 0]).cells (n * 3) = (thCells (List.replicate n Th.zero)).toArray := by
  apply Array.ext'
  apply List.ext_getElem?
  intro j
  by_cases hj : j < n * 3
  · rw [List.toList_toArray, thCells_rep Th.zero n j hj]
    have h3 : j % 3 < 3 := Nat.mod_lt _ (by omega)
    simp only [madeCells, Array.toList_map, List.getElem?_map, Array.toList_range, List.getElem?_range hj, Option.map_some]
    have hc : (Value.agg #[.string { data := #[] }, .int .i64 0, .int .i64 0]).cells = #[.string { data := #[] }, .int .i64 0, .int .i64 0] := rfl
    rw [hc]
    have : j % 3 = 0 ∨ j % 3 = 1 ∨ j % 3 = 2 := by omega
    rcases this with h | h | h <;> simp [h, Th.cells, Th.zero]
  · rw [List.getElem?_eq_none (by simp [size_madeCells]; omega), List.getElem?_eq_none (by simp [thCells_length]; omega)]

set_option maxRecDepth 100000 in
theorem newRowT (n : Nat) (w : World) (h0 : 1 ≤ n) (h1 : n ≤ 4096) : Calls Try.prog 26 #[.pointer none, .int .i64 0, .int .i64 n] w fun e w' => e = .returned (.tuple #[.pointer (some ⟨w.heap.size + 1, 0, none⟩), .int .i64 0]) ∧ RowT w' (w.heap.size + 1) w.heap.size (List.replicate n Th.zero) ∧ Kept (fun _ => False) w w' ∧ w'.heap.size = w.heap.size + 2 := by
  obtain ⟨i0, hi0, hz0, hz1, hz2⟩ := info_parts Try.info66
  have h2 : ¬ (n : Int) < 1 := by omega
  have h3 : ¬ (4096 : Int) < (n : Int) := by omega
  have hmk : (Instr.makeSlice 73 (.int .i64 n) (.int .i64 n)).run Try.prog w = .ok (.slice (some ⟨w.heap.size, 0, none⟩) n n) (w.alloc (.cells (thCells (List.replicate n Th.zero)).toArray 66)) := by
    have := run_make (P := Try.prog) w 73 66 i0 _ Try.underlying73 hi0 hz0 .i64 .i64 n n (by omega) (by omega) (by rw [hz2]; omega) (by omega)
    rw [this, hz1, Int.toNat_natCast, made_things]
  have HR : Hid (RowT ((w.alloc (.cells (thCells (List.replicate n Th.zero)).toArray 66)).alloc (.cells #[.pointer none, .int .i64 0, .slice (some ⟨w.heap.size, 0, none⟩) n n] 88)) (w.heap.size + 1) w.heap.size (List.replicate n Th.zero) ∧ Kept (fun _ => False) w ((w.alloc (.cells (thCells (List.replicate n Th.zero)).toArray 66)).alloc (.cells #[.pointer none, .int .i64 0, .slice (some ⟨w.heap.size, 0, none⟩) n n] 88)) ∧ ((w.alloc (.cells (thCells (List.replicate n Th.zero)).toArray 66)).alloc (.cells #[.pointer none, .int .i64 0, .slice (some ⟨w.heap.size, 0, none⟩) n n] 88)).heap.size = w.heap.size + 2) := by
    generalize h1' : w.alloc (.cells (thCells (List.replicate n Th.zero)).toArray 66) = w1
    have s1 : w1.heap.size = w.heap.size + 1 := by rw [← h1']; simp
    have m1 : w1.heap[w.heap.size]? = some (.cells (thCells (List.replicate n Th.zero)).toArray 66) := by rw [← h1']; exact heap_alloc_new w _
    have k1 : Kept (fun _ => False) w w1 := by rw [← h1']; exact boxed0 _ _
    refine ⟨⟨?_, (Below.heap_alloc _ _ _ (by omega)).trans m1, by simpa using h1, by omega⟩, k1.alloc _, by simp [s1]⟩
    have := heap_alloc_new w1 (.cells #[.pointer none, .int .i64 0, .slice (some ⟨w.heap.size, 0, none⟩) n n] 88)
    rw [s1] at this
    simpa using this
  generalize hC : (thCells (List.replicate n Th.zero)).toArray = CC at *
  go_enter Try.func26, Try.ntmps26
  go_wp2
  go_ret2
  exact ⟨rfl, HR.out⟩

set_option maxRecDepth 100000 in
set_option maxHeartbeats 1000000 in
theorem allT {r c : Nat} {ts : List Th} (w : World) (hr : RowT w r c ts) :
    Calls Try.prog 30 #[.pointer (some ⟨r, 0, none⟩)] w fun e w' => ∃ v', e = .returned v' ∧ w'.ownsRow w.heap.size 66 3 v' ts.length (thCells ts) ∧ Kept (fun _ => False) w w' := by
  obtain ⟨i0, hi0, hz0, hz1, hz2⟩ := info_parts Try.info66
  have hE : ∀ a n c w, (binOp .eql 73 (.slice a n c) (.slice none 0 0)).run Try.prog w = .ok (.bool a.isNone) w := fun a n c w => Lib.run_eql_slice_nil w 73 66 a n c 0 0 Try.underlying73
  have c2 : w.cell? ⟨r, 2, none⟩ = some (.slice (some ⟨c, 0, none⟩) ts.length ts.length) := cell_of_heap hr.row
  have hcl : ∀ w, w.heap[c]? = some (.cells (thCells ts).toArray 66 (0, 0)) → Calls Try.prog 46 #[.slice (some ⟨c, 0, none⟩) ts.length ts.length] w fun e w' => ∃ v', e = .returned v' ∧ w'.ownsRow w.heap.size 66 3 v' ts.length (thCells ts) ∧ Kept (fun _ => False) w w' := by
    intro w hc
    have hcells : ∀ j u, (thCells ts)[j]? = some u → (w.alloc (.cells #[] 66)).cell? ((⟨c, 0, none⟩ : Addr).add j) = some u := by
      have h2 : (w.alloc (.cells #[] 66)).heap[c]? = some (.cells (thCells ts).toArray 66 (0, 0)) := (Below.heap_alloc w _ c (lt_of_heap hc)).trans hc
      intro j u hu
      exact World.news_of_block (cs := (thCells ts).toArray) h2 j u (by simpa using hu)
    have hsm := hr.small
    have hlen := thCells_length ts
    have h1 := thCells_one ts
    generalize thCells ts = TC at *
    clear c2 hc hr
    go_enter Try.func46, Try.ntmps46
    go_wp2_with (at_builtin; refine wpList_append_own_at _ rfl (.tmp 5) (.tmp 6) 73 rfl w.heap.size 66 i0 _ 3 32 Try.underlying73 hi0 hz0 hz1 hz2 rfl (by omega) (.slice (some ⟨w.heap.size, 0, none⟩) 0 0) 0 [] rfl (World.ownsRow_made w #[] 0 (Nat.le_refl _) (Nat.zero_le _) rfl) ⟨c, 0, none⟩ ts.length ts.length TC rfl hlen hcells h1 (by unfold maxLen; omega) (by omega) (by simp) ?_; intro v' w1 hown' hgrow hnil hat)
    go_ret
    refine ⟨_, rfl, by simpa using hown', ((Kept.refl _ w).alloc _).grown hgrow (fun k e => ?_)⟩
    right
    simp [Value.ownBlock] at e
    omega
  have hC := hcl w hr.cells
  clear hcl hr
  generalize thCells ts = TC at *
  go_enter Try.func30, Try.ntmps30
  go_wp2_with (go_at_call 46; refine hC.mono ?_; rintro e w' ⟨v', rfl, ho', hk⟩)
  go_ret
  exact ⟨_, rfl, ho', hk⟩
end Go.Proofs.Ytebhjfoggogmaaa
