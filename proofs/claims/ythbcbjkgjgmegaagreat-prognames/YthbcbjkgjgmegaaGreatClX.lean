/- Rows of numbers: New, has, Load, Store, All. Rows of numbers: what is not there; Fill. -/
import Derived.Test.YthbcbjkgjgmegaaGreatSmall
import Derived.Test.YthbcbjkgjgmegaaGreatNote
import Derived.Deep.RegionHeld3
import Derived.Deep.DrawnRows
import Derived.Maps.AppendAt
import Derived.BigQuiet
import Derived.BigRegion
import Derived.Laws.CopyOwn
namespace Go.Proofs.YthbcbjkgjgmegaaGreat
open Go.RowKit
set_option linter.unusedVariables false
set_option linter.unusedSimpArgs false
attribute [local go_sem ↓] Go.wp_at_zero Go.wp_at_succ

def clCells (l : List Int) : List Value := l.map (fun x => Value.int .i64 x)
theorem clCells_length (l : List Int) : (clCells l).length = l.length := by simp [clCells]
theorem clCells_at (l : List Int) (k : Nat) (hk : k < l.length) : (clCells l)[k]? = some (.int .i64 l[k]) := by simp [clCells, hk]
theorem clCells_set (l : List Int) (x : Int) (k : Nat) : (clCells l).set k (.int .i64 x) = clCells (l.set k x) := by
  simp [clCells, List.map_set]
theorem clCells_one (l : List Int) : ∀ u ∈ clCells l, u.oneCell' = true := by
  intro u h
  simp only [clCells, List.mem_map] at h
  obtain ⟨x, _, rfl⟩ := h
  rfl
theorem made_cl (n : Nat) : madeCells (Value.int .i64 0).cells (n * 1) = (clCells (List.replicate n 0)).toArray := by
  apply Array.ext'
  apply List.ext_getElem?
  intro j
  have hc : (Value.int .i64 0).cells = #[.int .i64 0] := rfl
  by_cases hj : j < n
  · simp [madeCells, hc, clCells, hj, Nat.mod_one]
  · rw [List.getElem?_eq_none (by simp [size_madeCells]; omega), List.getElem?_eq_none (by simp [clCells_length]; omega)]

theorem Tryz.infoCl : (Tryz.prog.info? 2).map (fun i => (i.zero, i.size, i.bytes)) = some (some (.int .i64 0), 1, 8) := by kernel_rfl

/-- A row of numbers in block r, its cells in block c, noted by mo. -/
structure ClRow (w : World) (r c : Nat) (mo : Option Nat) (kind : Int) (xs : List Int) : Prop where
  row : w.heap[r]? = some (.cells #[mptr mo, .int .i64 kind, .slice (some ⟨c, 0, none⟩) xs.length xs.length] 176 (0, 0))
  cells : w.heap[c]? = some (.cells (clCells xs).toArray 2 (0, 0))
  small : xs.length ≤ 4096
  rc : r ≠ c
def clRowI (r c : Nat) (mo : Option Nat) (kind : Int) (xs : List Int) : It :=
  ⟨[r, c], fun w => ClRow w r c mo kind xs, fun w w' h p => ⟨(h r (by simp)).trans p.row, (h c (by simp)).trans p.cells, p.small, p.rc⟩,
   fun w p b hb => by
    simp only [List.mem_cons, List.not_mem_nil, or_false] at hb
    rcases hb with rfl | rfl
    · exact lt_of_heap p.row
    · exact lt_of_heap p.cells⟩
theorem ClRow.cell {w : World} {r c : Nat} {mo : Option Nat} {kind : Int} {xs : List Int} (h : ClRow w r c mo kind xs) (k : Nat) (hk : k < xs.length) : w.cell? ⟨c, k, none⟩ = some (.int .i64 xs[k]) :=
  (cell_of_heap h.cells).trans (by simpa using clCells_at xs k hk)
theorem ClRow.stored {w : World} {r c : Nat} {mo : Option Nat} {kind : Int} {xs : List Int} (h : ClRow w r c mo kind xs) (k : Nat) (x : Int) :
    ClRow (w.setCell ⟨c, k, none⟩ (.int .i64 x)) r c mo kind (xs.set k x) := by
  refine ⟨?_, ?_, by simpa using h.small, h.rc⟩
  · rw [heap_setCell_far (by simpa using h.rc)]; simpa using h.row
  · rw [heap_setCell_at h.cells _, ← clCells_set]
    simp
theorem St.clStored {o w : World} {its : List It} (h : St o its w) (j : Nat) {r c : Nat} {mo : Option Nat} {kind : Int} {xs : List Int} (hj : its[j]? = some (clRowI r c mo kind xs)) (k : Nat) (x : Int) :
    St o (its.set j (clRowI r c mo kind (xs.set k x))) (w.setCell ⟨c, k, none⟩ (.int .i64 x)) := by
  have p : ClRow w r c mo kind xs := h.get j hj
  refine h.set j hj ?_ (p.stored k x) (by simp [clRowI, p.rc]) (fun b hb => .inl hb)
  exact (Kept.refl _ w).setCell _ (.inl (by simp [clRowI]))

set_option maxRecDepth 100000 in
theorem clHas_in {r c : Nat} {mo : Option Nat} {kind : Int} {xs : List Int} (k : Nat) (w : World) (h : ClRow w r c mo kind xs) (hk : k < xs.length) :
    Calls Tryz.prog 307 #[.pointer (some ⟨r, 0, none⟩), .int .i64 k] w fun e w' => e = .returned (.bool true) ∧ w' = w := by
  have c2 : w.cell? ⟨r, 2, none⟩ = some (.slice (some ⟨c, 0, none⟩) xs.length xs.length) := cell_of_heap h.row
  have h0 : (0 : Int) ≤ (k : Int) := Int.natCast_nonneg _
  have h1 : (k : Int) < (xs.length : Int) := by omega
  have hs : (xs.length : Int) ≤ 4096 := by have := h.small; omega
  clear h
  go_enter Tryz.func307, Tryz.ntmps307
  go_wp2
  go_ret
  exact ⟨rfl, rfl⟩

set_option maxRecDepth 100000 in
theorem clNew_st {o w : World} {its : List It} (h : St o its w) (mo : Option Nat) (kind : Int) (n : Nat) (h0 : 1 ≤ n) (h1 : n ≤ 4096) :
    Calls Tryz.prog 34 #[mptr mo, .int .i64 kind, .int .i64 n] w fun e w' => e = .returned (.tuple #[.pointer (some ⟨w.heap.size + 1, 0, none⟩), .int .i64 0]) ∧ St o (clRowI (w.heap.size + 1) w.heap.size mo kind (List.replicate n 0) :: its) w' ∧ w'.heap.size = w.heap.size + 2 := by
  obtain ⟨i0, hi0, hz0, hz1, hz2⟩ := info_parts Tryz.infoCl
  have h2 : ¬ (n : Int) < 1 := by omega
  have h3 : ¬ (4096 : Int) < (n : Int) := by omega
  have hmk : (Instr.makeSlice 37 (.int .i64 n) (.int .i64 n)).run Tryz.prog w = .ok (.slice (some ⟨w.heap.size, 0, none⟩) n n) (w.alloc (.cells (clCells (List.replicate n 0)).toArray 2)) := by
    have := run_make (P := Tryz.prog) w 37 2 i0 _ Tryz.underlying37 hi0 hz0 .i64 .i64 n n (by omega) (by omega) (by rw [hz2]; omega) (by omega)
    rw [this, hz1, Int.toNat_natCast, made_cl]
  generalize hC : (clCells (List.replicate n 0)).toArray = CC at *
  have HR : Hid (St o (clRowI (w.heap.size + 1) w.heap.size mo kind (List.replicate n 0) :: its) ((w.alloc (.cells CC 2)).alloc (.cells #[mptr mo, .int .i64 kind, .slice (some ⟨w.heap.size, 0, none⟩) n n] 176))) := by
    generalize h1' : w.alloc (.cells CC 2) = w1
    have s1 : w1.heap.size = w.heap.size + 1 := by rw [← h1']; simp
    have m1 : w1.heap[w.heap.size]? = some (.cells CC 2) := by rw [← h1']; exact heap_alloc_new w _
    have k1 : Kept (fun _ => False) w w1 := by rw [← h1']; exact kept_alloc _ _
    refine h.push _ (k1.alloc _) ⟨?_, ?_, by simpa using h1, by omega⟩ (by simp [clRowI]) (by simp [clRowI])
    · have := heap_alloc_new w1 (.cells #[mptr mo, .int .i64 kind, .slice (some ⟨w.heap.size, 0, none⟩) n n] 176)
      rw [s1] at this
      simpa using this
    · rw [hC]
      exact (Below.heap_alloc _ _ _ (by omega)).trans m1
  clear hC h
  simp only [mptr] at *
  generalize maddr mo = mp at *
  go_enter Tryz.func34, Tryz.ntmps34
  go_wp2
  go_ret2
  exact ⟨rfl, HR.out, by simp⟩

set_option maxRecDepth 100000 in
set_option maxHeartbeats 1000000 in
theorem clLoad_st {o w : World} {its : List It} (h : St o its w) (i j : Nat) {r c : Nat} {mo : Option Nat} {s : Mt} {v : Value} {kind : Int} {xs : List Int} (hi : its[i]? = some (meterI 174 mo s v)) (hj : its[j]? = some (clRowI r c mo kind xs)) (hij : i ≠ j)
    {n : Nat} (hw : s.within n) (hn : n ≤ 4611686018427) (k : Nat) (hk : k < xs.length) :
    Calls Tryz.prog 299 #[.pointer (some ⟨r, 0, none⟩), .int .i64 k] w fun e w' => e = .returned (.tuple #[.int .i64 xs[k], .int .i64 0]) ∧ ∃ v', St o (its.set i (meterI 174 mo (s.note kind k 1 true) v')) w' := by
  generalize hx : xs[k] = x
  have HX : Hid (xs[k] = x) := hx
  clear hx
  have i0 : (0 : Int) ≤ (k : Int) := Int.natCast_nonneg _
  have i1 : (k : Int) < (xs.length : Int) := by omega
  have r0 : ClRow w r c mo kind xs := h.get j hj
  have hle : (xs.length : Int) ≤ 4096 := by have := r0.small; omega
  have hnote : Calls Tryz.prog 306 #[mptr mo, .int .i64 kind, .int .i64 k, .int .i64 1, .bool true] w.drew fun e w' => e = .returned (.tuple #[]) ∧ ∃ v', St o (its.set i (meterI 174 mo (s.note kind k 1 true) v')) w' :=
    note_st h.drew i hi hw hn kind k 1 true
  have e0 : w.cell? ⟨r, 0, none⟩ = some (mptr mo) := cell_of_heap r0.row
  have e1 : w.cell? ⟨r, 1, none⟩ = some (.int .i64 kind) := cell_of_heap r0.row
  go_enter Tryz.func299, Tryz.ntmps299
  go_wp2_with fail
  refine (clHas_in k w r0 hk).mono ?_
  rintro e w1 ⟨rfl, rfl⟩
  clear r0 h
  go_wp2_with fail
  go_region_held3 (fun w' => w'.cell? ⟨r, 0, none⟩ = some (mptr mo) ∧ w'.cell? ⟨r, 1, none⟩ = some (.int .i64 kind)) (first | go_keep | exact ⟨cell_of_heap q.out.row, cell_of_heap q.out.row⟩)
    (first | (go_at_call 306; refine hnote.mono ?_; rintro e w' ⟨rfl, v', hS⟩; have q : Hid (ClRow w' r c mo kind xs) := hS.get j (set_other hj hij)))
  have e2 : w'.cell? ⟨r, 2, none⟩ = some (.slice (some ⟨c, 0, none⟩) xs.length xs.length) := cell_of_heap q.out.row
  have d := q.out.cell k hk
  rw [HX.out] at d
  have HS : Hid _ := hS
  clear q hnote hS
  go_wp2
  go_ret2
  exact ⟨rfl, v', HS.out⟩

set_option maxRecDepth 100000 in
set_option maxHeartbeats 1000000 in
theorem clStore_st {o w : World} {its : List It} (h : St o its w) (i j : Nat) {r c : Nat} {mo : Option Nat} {s : Mt} {v : Value} {kind : Int} {xs : List Int} (hi : its[i]? = some (meterI 174 mo s v)) (hj : its[j]? = some (clRowI r c mo kind xs)) (hij : i ≠ j)
    {n : Nat} (hw : s.within n) (hn : n ≤ 4611686018427) (k : Nat) (hk : k < xs.length) (x : Int) :
    Calls Tryz.prog 330 #[.pointer (some ⟨r, 0, none⟩), .int .i64 k, .int .i64 x] w fun e w' => e = .returned (.int .i64 0) ∧ ∃ v', St o ((its.set i (meterI 174 mo (s.note kind k 2 true) v')).set j (clRowI r c mo kind (xs.set k x))) w' := by
  have i0 : (0 : Int) ≤ (k : Int) := Int.natCast_nonneg _
  have i1 : (k : Int) < (xs.length : Int) := by omega
  have r0 : ClRow w r c mo kind xs := h.get j hj
  have hle : (xs.length : Int) ≤ 4096 := by have := r0.small; omega
  have hnote : Calls Tryz.prog 306 #[mptr mo, .int .i64 kind, .int .i64 k, .int .i64 2, .bool true] w.drew fun e w' => e = .returned (.tuple #[]) ∧ ∃ v', St o (its.set i (meterI 174 mo (s.note kind k 2 true) v')) w' :=
    note_st h.drew i hi hw hn kind k 2 true
  have e0 : w.cell? ⟨r, 0, none⟩ = some (mptr mo) := cell_of_heap r0.row
  have e1 : w.cell? ⟨r, 1, none⟩ = some (.int .i64 kind) := cell_of_heap r0.row
  go_enter Tryz.func330, Tryz.ntmps330
  go_wp2_with fail
  refine (clHas_in k w r0 hk).mono ?_
  rintro e w1 ⟨rfl, rfl⟩
  clear r0 h
  go_wp2_with fail
  go_region_held3 (fun w' => w'.cell? ⟨r, 0, none⟩ = some (mptr mo) ∧ w'.cell? ⟨r, 1, none⟩ = some (.int .i64 kind)) (first | go_keep | exact ⟨cell_of_heap q.out.row, cell_of_heap q.out.row⟩)
    (first | (go_at_call 306; refine hnote.mono ?_; rintro e w' ⟨rfl, v', hS⟩; have q : Hid (ClRow w' r c mo kind xs) := hS.get j (set_other hj hij)))
  have e2 : w'.cell? ⟨r, 2, none⟩ = some (.slice (some ⟨c, 0, none⟩) xs.length xs.length) := cell_of_heap q.out.row
  have d := q.out.cell k hk
  have l0 : w'.frozen? ⟨c, k, none⟩ = false := frozen_of_heap q.out.cells
  have HS : Hid _ := hS.clStored j (set_other hj hij) k x
  clear q hnote hS
  go_wp2
  go_ret
  exact ⟨rfl, v', HS.out⟩

set_option maxRecDepth 100000 in
set_option maxHeartbeats 1000000 in
theorem clAll_st {o w : World} {its : List It} (h : St o its w) (j : Nat) {r c : Nat} {mo : Option Nat} {kind : Int} {xs : List Int} (hj : its[j]? = some (clRowI r c mo kind xs)) :
    Calls Tryz.prog 77 #[.pointer (some ⟨r, 0, none⟩)] w fun e w' => ∃ v', e = .returned v' ∧ St o (ownI 2 1 v' xs.length (clCells xs) :: its) w' := by
  obtain ⟨i0, hi0, hz0, hz1, hz2⟩ := info_parts Tryz.infoCl
  have hr : ClRow w r c mo kind xs := h.get j hj
  have hE : ∀ a n c w, (binOp .eql 37 (.slice a n c) (.slice none 0 0)).run Tryz.prog w = .ok (.bool a.isNone) w := fun a n c w => Lib.run_eql_slice_nil w 37 2 a n c 0 0 Tryz.underlying37
  have c2 : w.cell? ⟨r, 2, none⟩ = some (.slice (some ⟨c, 0, none⟩) xs.length xs.length) := cell_of_heap hr.row
  have hcl : Calls Tryz.prog 43 #[.slice (some ⟨c, 0, none⟩) xs.length xs.length] w fun e w' => ∃ v', e = .returned v' ∧ w'.ownsRow w.heap.size 2 1 v' xs.length (clCells xs) ∧ Kept (fun _ => False) w w' := by
    have hcells : ∀ j u, (clCells xs)[j]? = some u → (w.alloc (.cells #[] 2)).cell? ((⟨c, 0, none⟩ : Addr).add j) = some u := by
      have h2 : (w.alloc (.cells #[] 2)).heap[c]? = some (.cells (clCells xs).toArray 2 (0, 0)) := (Below.heap_alloc w _ c (lt_of_heap hr.cells)).trans hr.cells
      intro j u hu
      exact World.news_of_block (cs := (clCells xs).toArray) h2 j u (by simpa using hu)
    have hsm := hr.small
    have hlen : (clCells xs).length = xs.length * 1 := by rw [clCells_length]; omega
    have h1 := clCells_one xs
    generalize clCells xs = TC at *
    clear c2 hr h hj
    go_enter Tryz.func43, Tryz.ntmps43
    go_wp2_with (at_builtin; refine wpList_append_own_at _ rfl (.tmp 5) (.tmp 6) 37 rfl w.heap.size 2 i0 _ 1 8 Tryz.underlying37 hi0 hz0 hz1 hz2 rfl (by omega) (.slice (some ⟨w.heap.size, 0, none⟩) 0 0) 0 [] rfl (World.ownsRow_made w #[] 0 (Nat.le_refl _) (Nat.zero_le _) rfl) ⟨c, 0, none⟩ xs.length xs.length TC rfl hlen hcells h1 (by unfold maxLen; omega) (by omega) (by simp) ?_; intro v' w1 hown' hgrow hnil hat)
    go_ret
    refine ⟨_, rfl, by simpa using hown', ((Kept.refl _ w).alloc _).grown hgrow (fun k e => ?_)⟩
    right
    simp [Value.ownBlock] at e
    omega
  have hS : Hid (∀ v' w', w'.ownsRow w.heap.size 2 1 v' xs.length (clCells xs) → Kept (fun _ => False) w w' → St o (ownI 2 1 v' xs.length (clCells xs) :: its) w') := fun v' w' p k => h.own k p
  clear hr h hj
  generalize clCells xs = TC at *
  go_enter Tryz.func77, Tryz.ntmps77
  go_wp2_with (go_at_call 43; refine hcl.mono ?_; rintro e w' ⟨v', rfl, ho', hk⟩)
  go_ret
  exact ⟨_, rfl, hS.out _ _ ho' hk⟩
end Go.Proofs.YthbcbjkgjgmegaaGreat

namespace Go.Proofs.YthbcbjkgjgmegaaGreat
open Go.RowKit
set_option linter.unusedVariables false
set_option linter.unusedSimpArgs false
attribute [local go_sem ↓] Go.wp_at_zero Go.wp_at_succ

/-- A list of numbers in memory. -/
def NumsIn (w : World) (la : Option Addr) (n : Nat) (zs : List Int) : Prop :=
  n = zs.length ∧ (0 < n → ∃ g o, la = some ⟨g, o, none⟩ ∧ ∀ j, j < n → w.cell? ⟨g, o + j, none⟩ = some (.int .i64 (zs.getD j 0)))
theorem NumsIn.drew {w : World} {la : Option Addr} {n : Nat} {zs : List Int} (h : NumsIn w la n zs) : NumsIn w.drew la n zs := h
theorem NumsIn.kept {w w' : World} {la : Option Addr} {n : Nat} {zs : List Int} (h : NumsIn w la n zs) (k : Kept (fun _ => False) w w') : NumsIn w' la n zs := by
  refine ⟨h.1, fun h0 => ?_⟩
  obtain ⟨g, o, rfl, hc⟩ := h.2 h0
  refine ⟨g, o, rfl, fun j hj => ?_⟩
  have := hc j hj
  rw [World.cell?_of_block (k.block g (World.block_lt_of_cell? w _ this) (fun f => f))]
  exact this
def fillErr (xs zs : List Int) : Int := if xs.length < zs.length then 3 else 0
def fillRow (xs zs : List Int) : List Int := if xs.length < zs.length then xs else zs ++ xs.drop zs.length
theorem fillRow_length (xs zs : List Int) : (fillRow xs zs).length = xs.length := by
  unfold fillRow; split
  · rfl
  · simp; omega
theorem Kept.setRow {F : Nat → Prop} {a w : World} (h : Kept F a w) {c : Nat} (cs : Array Value) (hc : F c) : Kept F a (w.setRow c cs) :=
  ⟨h.os, h.tape, h.output, by simpa [World.setRow] using h.size, fun k hk hf => (setRow_other w c k cs (fun e => hf (e ▸ hc))).trans (h.block k hk hf)⟩

section
variable {o w : World} {its : List It} {r c : Nat} {mo : Option Nat} {kind : Int} {xs : List Int}
set_option maxRecDepth 100000 in
theorem clHas_out (k : Int) (h : ClRow w r c mo kind xs) (hk : ¬ (0 ≤ k ∧ k < xs.length)) :
    Calls Tryz.prog 307 #[.pointer (some ⟨r, 0, none⟩), .int .i64 k] w fun e w' => e = .returned (.bool false) ∧ w' = w := by
  have c2 : w.cell? ⟨r, 2, none⟩ = some (.slice (some ⟨c, 0, none⟩) xs.length xs.length) := cell_of_heap h.row
  clear h
  by_cases h0 : k < 0
  · go_enter Tryz.func307, Tryz.ntmps307
    go_wp2
    go_ret
    exact ⟨rfl, rfl⟩
  · have h1 : (0 : Int) ≤ k := by omega
    have h2 : ¬ k < (xs.length : Int) := by omega
    clear hk h0
    go_enter Tryz.func307, Tryz.ntmps307
    go_wp2
    go_ret
    exact ⟨rfl, rfl⟩
set_option maxRecDepth 100000 in
theorem clLoad_out (k : Int) (h : ClRow w r c mo kind xs) (hk : ¬ (0 ≤ k ∧ k < xs.length)) :
    Calls Tryz.prog 299 #[.pointer (some ⟨r, 0, none⟩), .int .i64 k] w fun e w' => e = .returned (.tuple #[.int .i64 0, .int .i64 2]) ∧ w' = w := by
  have hH := clHas_out k h hk
  clear h hk
  go_enter Tryz.func299, Tryz.ntmps299
  go_wp2_with fail
  refine hH.mono ?_
  rintro e w1 ⟨rfl, rfl⟩
  go_wp2
  go_ret2
  exact ⟨rfl, rfl⟩
set_option maxRecDepth 100000 in
theorem clStore_out (k x : Int) (h : ClRow w r c mo kind xs) (hk : ¬ (0 ≤ k ∧ k < xs.length)) :
    Calls Tryz.prog 330 #[.pointer (some ⟨r, 0, none⟩), .int .i64 k, .int .i64 x] w fun e w' => e = .returned (.int .i64 2) ∧ w' = w := by
  have hH := clHas_out k h hk
  clear h hk
  go_enter Tryz.func330, Tryz.ntmps330
  go_wp2_with fail
  refine hH.mono ?_
  rintro e w1 ⟨rfl, rfl⟩
  go_wp2
  go_ret
  exact ⟨rfl, rfl⟩
theorem ClRow.laid {ys : List Int} (h : ClRow w r c mo kind xs) (hl : ys.length = xs.length) : ClRow (w.setRow c (clCells ys).toArray) r c mo kind ys := by
  refine ⟨?_, setRow_heap w c _ _ _ _ h.cells, by rw [hl]; exact h.small, h.rc⟩
  rw [setRow_other w c r _ h.rc, hl]
  exact h.row
theorem St.clLaid {ys : List Int} (h : St o its w) (j : Nat) (hj : its[j]? = some (clRowI r c mo kind xs)) (hl : ys.length = xs.length) : St o (its.set j (clRowI r c mo kind ys)) (w.setRow c (clCells ys).toArray) := by
  have p : ClRow w r c mo kind xs := h.get j hj
  exact h.set j hj ((Kept.refl _ w).setRow _ (by simp [clRowI])) (p.laid hl) (by simp [clRowI, p.rc]) (fun b hb => .inl hb)
set_option maxRecDepth 100000 in
set_option maxHeartbeats 1000000 in
theorem clFill_st {zs : List Int} {la : Option Addr} {n lc : Nat} (h : St o its w) (j : Nat) (hj : its[j]? = some (clRowI r c mo kind xs)) (hl : NumsIn w la n zs) (hn : n ≤ 17592186044416) :
    Calls Tryz.prog 69 #[.pointer (some ⟨r, 0, none⟩), .slice la n lc] w fun e w' => e = .returned (.int .i64 (fillErr xs zs)) ∧ St o (its.set j (clRowI r c mo kind (fillRow xs zs))) w' := by
  have hr : ClRow w r c mo kind xs := h.get j hj
  have c2 : w.cell? ⟨r, 2, none⟩ = some (.slice (some ⟨c, 0, none⟩) xs.length xs.length) := cell_of_heap hr.row
  obtain ⟨hnz, hl⟩ := hl
  have hsm := hr.small
  by_cases hgt : xs.length < n
  · have e1 : fillErr xs zs = 3 := by simp [fillErr, ← hnz, hgt]
    have e2 : fillRow xs zs = xs := by simp [fillRow, ← hnz, hgt]
    rw [e1, e2, set_back hj]
    clear e1 e2 hnz hl hr
    have h1 : (xs.length : Int) < (n : Int) := by omega
    go_enter Tryz.func69, Tryz.ntmps69
    go_wp2
    go_ret
    exact ⟨rfl, h⟩
  · have e1 : fillErr xs zs = 0 := by simp [fillErr, ← hnz, hgt]
    have e2 : fillRow xs zs = zs ++ xs.drop zs.length := by simp [fillRow, ← hnz, hgt]
    rw [e1, e2]
    clear e1 e2
    have h1 : ¬ (xs.length : Int) < (n : Int) := by omega
    have hsz : (Tryz.prog.info? 2).map (·.size) = some 1 := by
      obtain ⟨i0, hi0, hz0, hz1, hz2⟩ := info_parts Tryz.infoCl
      rw [hi0]; simp [hz1]
    by_cases h0 : n = 0
    · subst h0
      have : zs = [] := List.length_eq_zero_iff.1 hnz.symm
      subst this
      clear hr hl hnz
      have hcp : (Builtin.copy_ #[37, 37] 3 #[.slice (some ⟨c, 0, none⟩) xs.length xs.length, .slice la 0 lc]).run Tryz.prog w = .ok (goInt 0) w := run_copy_none w 37 37 3 2 _ _ _ _ _ _ Tryz.underlying37 hsz (by simp)
      go_enter Tryz.func69, Tryz.ntmps69
      go_wp2
      go_ret
      exact ⟨rfl, by simpa [set_back hj] using h⟩
    · obtain ⟨g, o', rfl, hg⟩ := hl (by omega)
      have hcc := hr.cells
      have HN : Hid (n = zs.length) := hnz
      have hsrc : ∀ j v, (clCells zs)[j]? = some v → w.cell? ((⟨g, o', none⟩ : Addr).add j) = some v := by
        intro j v hv
        have hj : j < n := by
          have := (List.getElem?_eq_some_iff.1 hv).1
          rw [clCells_length] at this; omega
        rw [Addr.add_lit, hg j hj, ← hv, clCells_at zs j (by omega), List.getD_eq_getElem?_getD, List.getElem?_eq_getElem (by omega)]
        rfl
      have hlen : (clCells zs).length = Nat.min n xs.length := by
        rw [clCells_length, ← hnz]; exact (Nat.min_eq_left (by omega)).symm
      have hfit : 0 + (clCells zs).length ≤ (clCells xs).toArray.size := by simp [clCells_length]; omega
      have hcur : ((clCells xs).toArray.toList.take 0 ++ (clCells zs ++ (clCells xs).toArray.toList.drop (0 + (clCells zs).length))).toArray = (clCells (zs ++ xs.drop zs.length)).toArray := by simp [clCells]
      have HE : Hid (St o (its.set j (clRowI r c mo kind (zs ++ xs.drop zs.length))) (w.setRow c (clCells (zs ++ xs.drop zs.length)).toArray)) := h.clLaid j hj (by simp; omega)
      clear hr hg hnz h
      have hcp : (Builtin.copy_ #[37, 37] 3 #[.slice (some ⟨c, 0, none⟩) xs.length xs.length, .slice (some ⟨g, o', none⟩) n lc]).run Tryz.prog w = .ok (goInt (clCells zs).length) (w.setRow c (clCells (zs ++ xs.drop zs.length)).toArray) := by
        rw [← hcur]
        simpa using run_copy_row (P := Tryz.prog) w 37 37 3 2 c 0 xs.length xs.length ⟨g, o', none⟩ n lc (clCells xs).toArray 2 (clCells zs) Tryz.underlying37 hsz hcc hlen hsrc hfit (clCells_one zs)
      clear hcc hsrc hlen hfit hcur
      generalize (clCells (zs ++ xs.drop zs.length)).toArray = CC at *
      go_enter Tryz.func69, Tryz.ntmps69
      go_wp2
      go_ret
      exact ⟨rfl, HE.out⟩
end
end Go.Proofs.YthbcbjkgjgmegaaGreat
