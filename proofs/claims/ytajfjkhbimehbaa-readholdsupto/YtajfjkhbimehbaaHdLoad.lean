/- Rows of Hd: Load. -/
import Derived.Test.YtajfjkhbimehbaaHd
import Derived.Test.YtajfjkhbimehbaaNote
namespace Go.Proofs.Ytajfjkhbimehbaa
open Go.RowKit
set_option linter.unusedVariables false
set_option linter.unusedSimpArgs false
attribute [local go_sem ↓] Go.wp_at_zero Go.wp_at_succ


set_option maxRecDepth 100000 in
set_option maxHeartbeats 1000000 in
theorem hdLoad_st {o w : World} {its : List It} (h : St o its w) (i j : Nat) {r c : Nat} {mo : Option Nat} {s : Mt} {v : Value} {kind : Int} {xs : List Hd} (hi : its[i]? = some (meterI 115 mo s v)) (hj : its[j]? = some (hdRowI r c mo kind xs)) (hij : i ≠ j)
    {n : Nat} (hw : s.within n) (hn : n ≤ 4611686018427) (k : Nat) (hk : k < xs.length) :
    Calls Try.prog 100 #[.pointer (some ⟨r, 0, none⟩), .int .i64 k] w fun e w' => e = .returned (.tuple #[xs[k].val, .int .i64 0]) ∧ ∃ v', St o (its.set i (meterI 115 mo (s.note kind k 1 true) v')) w' := by
  generalize hx : xs[k] = x
  obtain ⟨xgn, xsa, xsp, xth, xdm, xwy⟩ := x
  simp only [Hd.val]
  have HX : Hid (xs[k] = ⟨xgn, xsa, xsp, xth, xdm, xwy⟩) := hx
  clear hx
  have i0 : (0 : Int) ≤ (k : Int) := Int.natCast_nonneg _
  have i1 : (k : Int) < (xs.length : Int) := by omega
  go_enter Try.func100, Try.ntmps100
  go_wp2_with fail
  have hS0 := h.box #[.int .i64 0, .int .i64 0, .int .i64 0, .int .i64 0, .bool false, .int .i64 0] 47
  generalize w.alloc (.cells #[.int .i64 0, .int .i64 0, .int .i64 0, .int .i64 0, .bool false, .int .i64 0] 47) = W0 at hS0 ⊢
  generalize w.heap.size = B at hS0 ⊢
  have r0 : HdRow W0 r c mo kind xs := hS0.get (j + 1) hj
  have hle : (xs.length : Int) ≤ 4096 := by have := r0.small; omega
  have hnote : Calls Try.prog 75 #[mptr mo, .int .i64 kind, .int .i64 k, .int .i64 1, .bool true] W0.drew fun e w' => e = .returned (.tuple #[]) ∧ ∃ v', St o (boxI B #[.int .i64 0, .int .i64 0, .int .i64 0, .int .i64 0, .bool false, .int .i64 0] 47 :: its.set i (meterI 115 mo (s.note kind k 1 true) v')) w' :=
    note_st hS0.drew (i + 1) hi hw hn kind k 1 true
  have e0 : W0.cell? ⟨r, 0, none⟩ = some (mptr mo) := cell_of_heap r0.row
  have e1 : W0.cell? ⟨r, 1, none⟩ = some (.int .i64 kind) := cell_of_heap r0.row
  refine (hdHas_in k W0 r0 hk).mono ?_
  rintro e w1 ⟨rfl, rfl⟩
  clear r0 hS0 h
  go_wp2_with fail
  go_region_held3 (fun w' => w'.cell? ⟨r, 0, none⟩ = some (mptr mo) ∧ w'.cell? ⟨r, 1, none⟩ = some (.int .i64 kind)) (first | go_keep | exact ⟨cell_of_heap q.out.row, cell_of_heap q.out.row⟩)
    (first | (go_at_call 75; refine hnote.mono ?_; rintro e w' ⟨rfl, v', hS⟩; have q : Hid (HdRow w' r c mo kind xs) := hS.get (j + 1) (set_other hj hij)))
  have e2 : w'.cell? ⟨r, 2, none⟩ = some (.slice (some ⟨c, 0, none⟩) xs.length xs.length) := cell_of_heap q.out.row
  have d := q.out.cell k hk
  rw [HX.out] at d
  simp only at d
  obtain ⟨d0, d1, d2, d3, d4, d5⟩ := d
  have b0 : w'.cell? ⟨B, 0, none⟩ = some (.int .i64 0) := hS.cell 0 rfl 0
  have b1 : w'.cell? ⟨B, 1, none⟩ = some (.int .i64 0) := hS.cell 0 rfl 1
  have b2 : w'.cell? ⟨B, 2, none⟩ = some (.int .i64 0) := hS.cell 0 rfl 2
  have b3 : w'.cell? ⟨B, 3, none⟩ = some (.int .i64 0) := hS.cell 0 rfl 3
  have b4 : w'.cell? ⟨B, 4, none⟩ = some (.bool false) := hS.cell 0 rfl 4
  have b5 : w'.cell? ⟨B, 5, none⟩ = some (.int .i64 0) := hS.cell 0 rfl 5
  have f0 : w'.frozen? ⟨B, 0, none⟩ = false := hS.frozen 0 rfl 0
  have f1 : w'.frozen? ⟨B, 1, none⟩ = false := hS.frozen 0 rfl 1
  have f2 : w'.frozen? ⟨B, 2, none⟩ = false := hS.frozen 0 rfl 2
  have f3 : w'.frozen? ⟨B, 3, none⟩ = false := hS.frozen 0 rfl 3
  have f4 : w'.frozen? ⟨B, 4, none⟩ = false := hS.frozen 0 rfl 4
  have f5 : w'.frozen? ⟨B, 5, none⟩ = false := hS.frozen 0 rfl 5
  have ne : ¬ c = B := hS.ne (j + 1) 0 (set_other hj hij) rfl (by omega) (by simp [hdRowI]) (by simp [boxI])
  have HS : Hid (∀ u0 u1 u2 u3 u4 u5 : Value, St o (its.set i (meterI 115 mo (s.note kind k 1 true) v')) ((((((w'.setCell ⟨B, 0, none⟩ (u0)).setCell ⟨B, 1, none⟩ (u1)).setCell ⟨B, 2, none⟩ (u2)).setCell ⟨B, 3, none⟩ (u3)).setCell ⟨B, 4, none⟩ (u4)).setCell ⟨B, 5, none⟩ (u5))) := fun u0 u1 u2 u3 u4 u5 => ((((((hS.write 0 rfl 0 u0).write 0 rfl 1 u1).write 0 rfl 2 u2).write 0 rfl 3 u3).write 0 rfl 4 u4).write 0 rfl 5 u5).pop
  clear q hnote hS
  go_wp2
  exact bodyPost_ret (v := .tuple #[.agg #[.int .i64 xgn, .int .i64 xsa, .int .i64 xsp, .int .i64 xth, .bool xdm, .int .i64 xwy], .int .i64 0]) (by simp [results, Try.results100, go_sem, b0, b1, b2, b3, b4, b5]) rfl ⟨rfl, v', HS.out _ _ _ _ _ _⟩


set_option maxRecDepth 100000 in
set_option maxHeartbeats 1000000 in
theorem hdLoad_out {o w : World} {its : List It} (h : St o its w) (j : Nat) {r c : Nat} {mo : Option Nat} {kind : Int} {xs : List Hd} (hj : its[j]? = some (hdRowI r c mo kind xs)) (i : Int) (hk : ¬ (0 ≤ i ∧ i < xs.length)) :
    Calls Try.prog 100 #[.pointer (some ⟨r, 0, none⟩), .int .i64 i] w fun e w' => e = .returned (.tuple #[.agg #[.int .i64 0, .int .i64 0, .int .i64 0, .int .i64 0, .bool false, .int .i64 0], .int .i64 2]) ∧ St o its w' := by
  go_enter Try.func100, Try.ntmps100
  go_wp2_with fail
  have hS0 := h.box #[.int .i64 0, .int .i64 0, .int .i64 0, .int .i64 0, .bool false, .int .i64 0] 47
  generalize w.alloc (.cells #[.int .i64 0, .int .i64 0, .int .i64 0, .int .i64 0, .bool false, .int .i64 0] 47) = W0 at hS0 ⊢
  generalize w.heap.size = B at hS0 ⊢
  have r0 : HdRow W0 r c mo kind xs := hS0.get (j + 1) hj
  refine (hdHas_out i W0 r0 hk).mono ?_
  rintro e w1 ⟨rfl, rfl⟩
  have hlt : B < w1.heap.size := (boxI B #[.int .i64 0, .int .i64 0, .int .i64 0, .int .i64 0, .bool false, .int .i64 0] 47).old w1 (hS0.get 0 rfl) B (by simp [boxI])
  have hne : ¬ B = w1.heap.size := by omega
  have hne' : ¬ w1.heap.size = B := by omega
  have hS1 := hS0.box #[.int .i64 0, .int .i64 0, .int .i64 0, .int .i64 0, .bool false, .int .i64 0] 47
  have b0 : (w1.alloc (.cells #[.int .i64 0, .int .i64 0, .int .i64 0, .int .i64 0, .bool false, .int .i64 0] 47)).cell? ⟨B, 0, none⟩ = some (.int .i64 0) := hS1.cell 1 rfl 0
  have b1 : (w1.alloc (.cells #[.int .i64 0, .int .i64 0, .int .i64 0, .int .i64 0, .bool false, .int .i64 0] 47)).cell? ⟨B, 1, none⟩ = some (.int .i64 0) := hS1.cell 1 rfl 1
  have b2 : (w1.alloc (.cells #[.int .i64 0, .int .i64 0, .int .i64 0, .int .i64 0, .bool false, .int .i64 0] 47)).cell? ⟨B, 2, none⟩ = some (.int .i64 0) := hS1.cell 1 rfl 2
  have b3 : (w1.alloc (.cells #[.int .i64 0, .int .i64 0, .int .i64 0, .int .i64 0, .bool false, .int .i64 0] 47)).cell? ⟨B, 3, none⟩ = some (.int .i64 0) := hS1.cell 1 rfl 3
  have b4 : (w1.alloc (.cells #[.int .i64 0, .int .i64 0, .int .i64 0, .int .i64 0, .bool false, .int .i64 0] 47)).cell? ⟨B, 4, none⟩ = some (.bool false) := hS1.cell 1 rfl 4
  have b5 : (w1.alloc (.cells #[.int .i64 0, .int .i64 0, .int .i64 0, .int .i64 0, .bool false, .int .i64 0] 47)).cell? ⟨B, 5, none⟩ = some (.int .i64 0) := hS1.cell 1 rfl 5
  have f0 : (w1.alloc (.cells #[.int .i64 0, .int .i64 0, .int .i64 0, .int .i64 0, .bool false, .int .i64 0] 47)).frozen? ⟨B, 0, none⟩ = false := hS1.frozen 1 rfl 0
  have f1 : (w1.alloc (.cells #[.int .i64 0, .int .i64 0, .int .i64 0, .int .i64 0, .bool false, .int .i64 0] 47)).frozen? ⟨B, 1, none⟩ = false := hS1.frozen 1 rfl 1
  have f2 : (w1.alloc (.cells #[.int .i64 0, .int .i64 0, .int .i64 0, .int .i64 0, .bool false, .int .i64 0] 47)).frozen? ⟨B, 2, none⟩ = false := hS1.frozen 1 rfl 2
  have f3 : (w1.alloc (.cells #[.int .i64 0, .int .i64 0, .int .i64 0, .int .i64 0, .bool false, .int .i64 0] 47)).frozen? ⟨B, 3, none⟩ = false := hS1.frozen 1 rfl 3
  have f4 : (w1.alloc (.cells #[.int .i64 0, .int .i64 0, .int .i64 0, .int .i64 0, .bool false, .int .i64 0] 47)).frozen? ⟨B, 4, none⟩ = false := hS1.frozen 1 rfl 4
  have f5 : (w1.alloc (.cells #[.int .i64 0, .int .i64 0, .int .i64 0, .int .i64 0, .bool false, .int .i64 0] 47)).frozen? ⟨B, 5, none⟩ = false := hS1.frozen 1 rfl 5
  have HS : Hid (∀ u0 u1 u2 u3 u4 u5 : Value, St o its (((((((w1.alloc (.cells #[.int .i64 0, .int .i64 0, .int .i64 0, .int .i64 0, .bool false, .int .i64 0] 47)).setCell ⟨B, 0, none⟩ (u0)).setCell ⟨B, 1, none⟩ (u1)).setCell ⟨B, 2, none⟩ (u2)).setCell ⟨B, 3, none⟩ (u3)).setCell ⟨B, 4, none⟩ (u4)).setCell ⟨B, 5, none⟩ (u5))) := fun u0 u1 u2 u3 u4 u5 => ((((((hS1.write 1 rfl 0 u0).write 1 rfl 1 u1).write 1 rfl 2 u2).write 1 rfl 3 u3).write 1 rfl 4 u4).write 1 rfl 5 u5).pop.pop
  clear r0 hS0 hS1 h hlt hk
  go_wp2
  exact bodyPost_ret (v := .tuple #[.agg #[.int .i64 0, .int .i64 0, .int .i64 0, .int .i64 0, .bool false, .int .i64 0], .int .i64 2]) (by simp [results, Try.results100, go_sem, hne, hne', b0, b1, b2, b3, b4, b5]) rfl ⟨rfl, HS.out _ _ _ _ _ _⟩

end Go.Proofs.Ytajfjkhbimehbaa
