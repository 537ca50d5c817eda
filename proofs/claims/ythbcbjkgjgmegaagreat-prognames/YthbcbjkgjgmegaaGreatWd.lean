/- Rows of words: New, has, Load, Store, All. -/
import Derived.Test.YthbcbjkgjgmegaaGreatSmall
import Derived.Test.YthbcbjkgjgmegaaGreatNote
import Derived.Deep.RegionHeld3
import Derived.Deep.DrawnRows
import Derived.Maps.AppendAt
import Derived.BigQuiet
import Derived.BigRegion
namespace Go.Proofs.YthbcbjkgjgmegaaGreat
open Go.RowKit
set_option linter.unusedVariables false
set_option linter.unusedSimpArgs false
attribute [local go_sem ↓] Go.wp_at_zero Go.wp_at_succ

def wdCells (l : List Int) : List Value := l.map (fun x => Value.int .u64 x)
theorem wdCells_length (l : List Int) : (wdCells l).length = l.length := by simp [wdCells]
theorem wdCells_at (l : List Int) (k : Nat) (hk : k < l.length) : (wdCells l)[k]? = some (.int .u64 l[k]) := by simp [wdCells, hk]
theorem wdCells_set (l : List Int) (x : Int) (k : Nat) : (wdCells l).set k (.int .u64 x) = wdCells (l.set k x) := by
  simp [wdCells, List.map_set]
theorem wdCells_one (l : List Int) : ∀ u ∈ wdCells l, u.oneCell' = true := by
  intro u h
  simp only [wdCells, List.mem_map] at h
  obtain ⟨x, _, rfl⟩ := h
  rfl
theorem made_wd (n : Nat) : madeCells (Value.int .u64 0).cells (n * 1) = (wdCells (List.replicate n 0)).toArray := by
  apply Array.ext'
  apply List.ext_getElem?
  intro j
  have hc : (Value.int .u64 0).cells = #[.int .u64 0] := rfl
  by_cases hj : j < n
  · simp [madeCells, hc, wdCells, hj, Nat.mod_one]
  · rw [List.getElem?_eq_none (by simp [size_madeCells]; omega), List.getElem?_eq_none (by simp [wdCells_length]; omega)]

theorem Tryz.infoWd : (Tryz.prog.info? 128).map (fun i => (i.zero, i.size, i.bytes)) = some (some (.int .u64 0), 1, 8) := by kernel_rfl

/-- A row of words in block r, its cells in block c, noted by mo. -/
structure WdRow (w : World) (r c : Nat) (mo : Option Nat) (kind : Int) (xs : List Int) : Prop where
  row : w.heap[r]? = some (.cells #[mptr mo, .int .i64 kind, .slice (some ⟨c, 0, none⟩) xs.length xs.length] 253 (0, 0))
  cells : w.heap[c]? = some (.cells (wdCells xs).toArray 128 (0, 0))
  small : xs.length ≤ 4096
  rc : r ≠ c
def wdRowI (r c : Nat) (mo : Option Nat) (kind : Int) (xs : List Int) : It :=
  ⟨[r, c], fun w => WdRow w r c mo kind xs, fun w w' h p => ⟨(h r (by simp)).trans p.row, (h c (by simp)).trans p.cells, p.small, p.rc⟩,
   fun w p b hb => by
    simp only [List.mem_cons, List.not_mem_nil, or_false] at hb
    rcases hb with rfl | rfl
    · exact lt_of_heap p.row
    · exact lt_of_heap p.cells⟩
theorem WdRow.cell {w : World} {r c : Nat} {mo : Option Nat} {kind : Int} {xs : List Int} (h : WdRow w r c mo kind xs) (k : Nat) (hk : k < xs.length) : w.cell? ⟨c, k, none⟩ = some (.int .u64 xs[k]) :=
  (cell_of_heap h.cells).trans (by simpa using wdCells_at xs k hk)
theorem WdRow.stored {w : World} {r c : Nat} {mo : Option Nat} {kind : Int} {xs : List Int} (h : WdRow w r c mo kind xs) (k : Nat) (x : Int) :
    WdRow (w.setCell ⟨c, k, none⟩ (.int .u64 x)) r c mo kind (xs.set k x) := by
  refine ⟨?_, ?_, by simpa using h.small, h.rc⟩
  · rw [heap_setCell_far (by simpa using h.rc)]; simpa using h.row
  · rw [heap_setCell_at h.cells _, ← wdCells_set]
    simp
theorem St.wdStored {o w : World} {its : List It} (h : St o its w) (j : Nat) {r c : Nat} {mo : Option Nat} {kind : Int} {xs : List Int} (hj : its[j]? = some (wdRowI r c mo kind xs)) (k : Nat) (x : Int) :
    St o (its.set j (wdRowI r c mo kind (xs.set k x))) (w.setCell ⟨c, k, none⟩ (.int .u64 x)) := by
  have p : WdRow w r c mo kind xs := h.get j hj
  refine h.set j hj ?_ (p.stored k x) (by simp [wdRowI, p.rc]) (fun b hb => .inl hb)
  exact (Kept.refl _ w).setCell _ (.inl (by simp [wdRowI]))

set_option maxRecDepth 100000 in
theorem wdHas_in {r c : Nat} {mo : Option Nat} {kind : Int} {xs : List Int} (k : Nat) (w : World) (h : WdRow w r c mo kind xs) (hk : k < xs.length) :
    Calls Tryz.prog 305 #[.pointer (some ⟨r, 0, none⟩), .int .i64 k] w fun e w' => e = .returned (.bool true) ∧ w' = w := by
  have c2 : w.cell? ⟨r, 2, none⟩ = some (.slice (some ⟨c, 0, none⟩) xs.length xs.length) := cell_of_heap h.row
  have h0 : (0 : Int) ≤ (k : Int) := Int.natCast_nonneg _
  have h1 : (k : Int) < (xs.length : Int) := by omega
  have hs : (xs.length : Int) ≤ 4096 := by have := h.small; omega
  clear h
  go_enter Tryz.func305, Tryz.ntmps305
  go_wp2
  go_ret
  exact ⟨rfl, rfl⟩

set_option maxRecDepth 100000 in
theorem wdNew_st {o w : World} {its : List It} (h : St o its w) (mo : Option Nat) (kind : Int) (n : Nat) (h0 : 1 ≤ n) (h1 : n ≤ 4096) :
    Calls Tryz.prog 82 #[mptr mo, .int .i64 kind, .int .i64 n] w fun e w' => e = .returned (.tuple #[.pointer (some ⟨w.heap.size + 1, 0, none⟩), .int .i64 0]) ∧ St o (wdRowI (w.heap.size + 1) w.heap.size mo kind (List.replicate n 0) :: its) w' ∧ w'.heap.size = w.heap.size + 2 := by
  obtain ⟨i0, hi0, hz0, hz1, hz2⟩ := info_parts Tryz.infoWd
  have h2 : ¬ (n : Int) < 1 := by omega
  have h3 : ¬ (4096 : Int) < (n : Int) := by omega
  have hmk : (Instr.makeSlice 244 (.int .i64 n) (.int .i64 n)).run Tryz.prog w = .ok (.slice (some ⟨w.heap.size, 0, none⟩) n n) (w.alloc (.cells (wdCells (List.replicate n 0)).toArray 128)) := by
    have := run_make (P := Tryz.prog) w 244 128 i0 _ Tryz.underlying244 hi0 hz0 .i64 .i64 n n (by omega) (by omega) (by rw [hz2]; omega) (by omega)
    rw [this, hz1, Int.toNat_natCast, made_wd]
  generalize hC : (wdCells (List.replicate n 0)).toArray = CC at *
  have HR : Hid (St o (wdRowI (w.heap.size + 1) w.heap.size mo kind (List.replicate n 0) :: its) ((w.alloc (.cells CC 128)).alloc (.cells #[mptr mo, .int .i64 kind, .slice (some ⟨w.heap.size, 0, none⟩) n n] 253))) := by
    generalize h1' : w.alloc (.cells CC 128) = w1
    have s1 : w1.heap.size = w.heap.size + 1 := by rw [← h1']; simp
    have m1 : w1.heap[w.heap.size]? = some (.cells CC 128) := by rw [← h1']; exact heap_alloc_new w _
    have k1 : Kept (fun _ => False) w w1 := by rw [← h1']; exact kept_alloc _ _
    refine h.push _ (k1.alloc _) ⟨?_, ?_, by simpa using h1, by omega⟩ (by simp [wdRowI]) (by simp [wdRowI])
    · have := heap_alloc_new w1 (.cells #[mptr mo, .int .i64 kind, .slice (some ⟨w.heap.size, 0, none⟩) n n] 253)
      rw [s1] at this
      simpa using this
    · rw [hC]
      exact (Below.heap_alloc _ _ _ (by omega)).trans m1
  clear hC h
  simp only [mptr] at *
  generalize maddr mo = mp at *
  go_enter Tryz.func82, Tryz.ntmps82
  go_wp2
  go_ret2
  exact ⟨rfl, HR.out, by simp⟩

set_option maxRecDepth 100000 in
set_option maxHeartbeats 1000000 in
theorem wdLoad_st {o w : World} {its : List It} (h : St o its w) (i j : Nat) {r c : Nat} {mo : Option Nat} {s : Mt} {v : Value} {kind : Int} {xs : List Int} (hi : its[i]? = some (meterI 174 mo s v)) (hj : its[j]? = some (wdRowI r c mo kind xs)) (hij : i ≠ j)
    {n : Nat} (hw : s.within n) (hn : n ≤ 4611686018427) (k : Nat) (hk : k < xs.length) :
    Calls Tryz.prog 338 #[.pointer (some ⟨r, 0, none⟩), .int .i64 k] w fun e w' => e = .returned (.tuple #[.int .u64 xs[k], .int .i64 0]) ∧ ∃ v', St o (its.set i (meterI 174 mo (s.note kind k 1 true) v')) w' := by
  generalize hx : xs[k] = x
  have HX : Hid (xs[k] = x) := hx
  clear hx
  have i0 : (0 : Int) ≤ (k : Int) := Int.natCast_nonneg _
  have i1 : (k : Int) < (xs.length : Int) := by omega
  have r0 : WdRow w r c mo kind xs := h.get j hj
  have hle : (xs.length : Int) ≤ 4096 := by have := r0.small; omega
  have hnote : Calls Tryz.prog 306 #[mptr mo, .int .i64 kind, .int .i64 k, .int .i64 1, .bool true] w.drew fun e w' => e = .returned (.tuple #[]) ∧ ∃ v', St o (its.set i (meterI 174 mo (s.note kind k 1 true) v')) w' :=
    note_st h.drew i hi hw hn kind k 1 true
  have e0 : w.cell? ⟨r, 0, none⟩ = some (mptr mo) := cell_of_heap r0.row
  have e1 : w.cell? ⟨r, 1, none⟩ = some (.int .i64 kind) := cell_of_heap r0.row
  go_enter Tryz.func338, Tryz.ntmps338
  go_wp2_with fail
  refine (wdHas_in k w r0 hk).mono ?_
  rintro e w1 ⟨rfl, rfl⟩
  clear r0 h
  go_wp2_with fail
  go_region_held3 (fun w' => w'.cell? ⟨r, 0, none⟩ = some (mptr mo) ∧ w'.cell? ⟨r, 1, none⟩ = some (.int .i64 kind)) (first | go_keep | exact ⟨cell_of_heap q.out.row, cell_of_heap q.out.row⟩)
    (first | (go_at_call 306; refine hnote.mono ?_; rintro e w' ⟨rfl, v', hS⟩; have q : Hid (WdRow w' r c mo kind xs) := hS.get j (set_other hj hij)))
  have e2 : w'.cell? ⟨r, 2, none⟩ = some (.slice (some ⟨c, 0, none⟩) xs.length xs.length) := cell_of_heap q.out.row
  have d := q.out.cell k hk
  rw [HX.out] at d
  have HS : Hid _ := hS
  clear q hnote hS
  go_wp2
  go_ret2
  exact ⟨rfl, v', HS.out⟩

set_option maxRecDepth 100000 in
set_option maxHeartbeats 1000000 in
theorem wdStore_st {o w : World} {its : List It} (h : St o its w) (i j : Nat) {r c : Nat} {mo : Option Nat} {s : Mt} {v : Value} {kind : Int} {xs : List Int} (hi : its[i]? = some (meterI 174 mo s v)) (hj : its[j]? = some (wdRowI r c mo kind xs)) (hij : i ≠ j)
    {n : Nat} (hw : s.within n) (hn : n ≤ 4611686018427) (k : Nat) (hk : k < xs.length) (x : Int) :
    Calls Tryz.prog 298 #[.pointer (some ⟨r, 0, none⟩), .int .i64 k, .int .u64 x] w fun e w' => e = .returned (.int .i64 0) ∧ ∃ v', St o ((its.set i (meterI 174 mo (s.note kind k 2 true) v')).set j (wdRowI r c mo kind (xs.set k x))) w' := by
  have i0 : (0 : Int) ≤ (k : Int) := Int.natCast_nonneg _
  have i1 : (k : Int) < (xs.length : Int) := by omega
  have r0 : WdRow w r c mo kind xs := h.get j hj
  have hle : (xs.length : Int) ≤ 4096 := by have := r0.small; omega
  have hnote : Calls Tryz.prog 306 #[mptr mo, .int .i64 kind, .int .i64 k, .int .i64 2, .bool true] w.drew fun e w' => e = .returned (.tuple #[]) ∧ ∃ v', St o (its.set i (meterI 174 mo (s.note kind k 2 true) v')) w' :=
    note_st h.drew i hi hw hn kind k 2 true
  have e0 : w.cell? ⟨r, 0, none⟩ = some (mptr mo) := cell_of_heap r0.row
  have e1 : w.cell? ⟨r, 1, none⟩ = some (.int .i64 kind) := cell_of_heap r0.row
  go_enter Tryz.func298, Tryz.ntmps298
  go_wp2_with fail
  refine (wdHas_in k w r0 hk).mono ?_
  rintro e w1 ⟨rfl, rfl⟩
  clear r0 h
  go_wp2_with fail
  go_region_held3 (fun w' => w'.cell? ⟨r, 0, none⟩ = some (mptr mo) ∧ w'.cell? ⟨r, 1, none⟩ = some (.int .i64 kind)) (first | go_keep | exact ⟨cell_of_heap q.out.row, cell_of_heap q.out.row⟩)
    (first | (go_at_call 306; refine hnote.mono ?_; rintro e w' ⟨rfl, v', hS⟩; have q : Hid (WdRow w' r c mo kind xs) := hS.get j (set_other hj hij)))
  have e2 : w'.cell? ⟨r, 2, none⟩ = some (.slice (some ⟨c, 0, none⟩) xs.length xs.length) := cell_of_heap q.out.row
  have d := q.out.cell k hk
  have l0 : w'.frozen? ⟨c, k, none⟩ = false := frozen_of_heap q.out.cells
  have HS : Hid _ := hS.wdStored j (set_other hj hij) k x
  clear q hnote hS
  go_wp2
  go_ret
  exact ⟨rfl, v', HS.out⟩

set_option maxRecDepth 100000 in
set_option maxHeartbeats 1000000 in
theorem wdAll_st {o w : World} {its : List It} (h : St o its w) (j : Nat) {r c : Nat} {mo : Option Nat} {kind : Int} {xs : List Int} (hj : its[j]? = some (wdRowI r c mo kind xs)) :
    Calls Tryz.prog 118 #[.pointer (some ⟨r, 0, none⟩)] w fun e w' => ∃ v', e = .returned v' ∧ St o (ownI 128 1 v' xs.length (wdCells xs) :: its) w' := by
  obtain ⟨i0, hi0, hz0, hz1, hz2⟩ := info_parts Tryz.infoWd
  have hr : WdRow w r c mo kind xs := h.get j hj
  have hE : ∀ a n c w, (binOp .eql 244 (.slice a n c) (.slice none 0 0)).run Tryz.prog w = .ok (.bool a.isNone) w := fun a n c w => Lib.run_eql_slice_nil w 244 128 a n c 0 0 Tryz.underlying244
  have c2 : w.cell? ⟨r, 2, none⟩ = some (.slice (some ⟨c, 0, none⟩) xs.length xs.length) := cell_of_heap hr.row
  have hcl : Calls Tryz.prog 164 #[.slice (some ⟨c, 0, none⟩) xs.length xs.length] w fun e w' => ∃ v', e = .returned v' ∧ w'.ownsRow w.heap.size 128 1 v' xs.length (wdCells xs) ∧ Kept (fun _ => False) w w' := by
    have hcells : ∀ j u, (wdCells xs)[j]? = some u → (w.alloc (.cells #[] 128)).cell? ((⟨c, 0, none⟩ : Addr).add j) = some u := by
      have h2 : (w.alloc (.cells #[] 128)).heap[c]? = some (.cells (wdCells xs).toArray 128 (0, 0)) := (Below.heap_alloc w _ c (lt_of_heap hr.cells)).trans hr.cells
      intro j u hu
      exact World.news_of_block (cs := (wdCells xs).toArray) h2 j u (by simpa using hu)
    have hsm := hr.small
    have hlen : (wdCells xs).length = xs.length * 1 := by rw [wdCells_length]; omega
    have h1 := wdCells_one xs
    generalize wdCells xs = TC at *
    clear c2 hr h hj
    go_enter Tryz.func164, Tryz.ntmps164
    go_wp2_with (at_builtin; refine wpList_append_own_at _ rfl (.tmp 5) (.tmp 6) 244 rfl w.heap.size 128 i0 _ 1 8 Tryz.underlying244 hi0 hz0 hz1 hz2 rfl (by omega) (.slice (some ⟨w.heap.size, 0, none⟩) 0 0) 0 [] rfl (World.ownsRow_made w #[] 0 (Nat.le_refl _) (Nat.zero_le _) rfl) ⟨c, 0, none⟩ xs.length xs.length TC rfl hlen hcells h1 (by unfold maxLen; omega) (by omega) (by simp) ?_; intro v' w1 hown' hgrow hnil hat)
    go_ret
    refine ⟨_, rfl, by simpa using hown', ((Kept.refl _ w).alloc _).grown hgrow (fun k e => ?_)⟩
    right
    simp [Value.ownBlock] at e
    omega
  have hS : Hid (∀ v' w', w'.ownsRow w.heap.size 128 1 v' xs.length (wdCells xs) → Kept (fun _ => False) w w' → St o (ownI 128 1 v' xs.length (wdCells xs) :: its) w') := fun v' w' p k => h.own k p
  clear hr h hj
  generalize wdCells xs = TC at *
  go_enter Tryz.func118, Tryz.ntmps118
  go_wp2_with (go_at_call 164; refine hcl.mono ?_; rintro e w' ⟨v', rfl, ho', hk⟩)
  go_ret
  exact ⟨_, rfl, hS.out _ _ ho' hk⟩
end Go.Proofs.YthbcbjkgjgmegaaGreat
