/- Rows of Gt: Load. -/
import Derived.Test.YtajfjkhbimehbaaGt
import Derived.Test.YtajfjkhbimehbaaNote
namespace Go.Proofs.Ytajfjkhbimehbaa
open Go.RowKit
set_option linter.unusedVariables false
set_option linter.unusedSimpArgs false
attribute [local go_sem ↓] Go.wp_at_zero Go.wp_at_succ


set_option maxRecDepth 100000 in
set_option maxHeartbeats 1000000 in
theorem gtLoad_st {o w : World} {its : List It} (h : St o its w) (i j : Nat) {r c : Nat} {mo : Option Nat} {s : Mt} {v : Value} {kind : Int} {xs : List Gt} (hi : its[i]? = some (meterI 115 mo s v)) (hj : its[j]? = some (gtRowI r c mo kind xs)) (hij : i ≠ j)
    {n : Nat} (hw : s.within n) (hn : n ≤ 4611686018427) (k : Nat) (hk : k < xs.length) :
    Calls Try.prog 98 #[.pointer (some ⟨r, 0, none⟩), .int .i64 k] w fun e w' => e = .returned (.tuple #[xs[k].val, .int .i64 0]) ∧ ∃ v', St o (its.set i (meterI 115 mo (s.note kind k 1 true) v')) w' := by
  generalize hx : xs[k] = x
  obtain ⟨xn, xo⟩ := x
  simp only [Gt.val]
  have HX : Hid (xs[k] = ⟨xn, xo⟩) := hx
  clear hx
  have i0 : (0 : Int) ≤ (k : Int) := Int.natCast_nonneg _
  have i1 : (k : Int) < (xs.length : Int) := by omega
  go_enter Try.func98, Try.ntmps98
  go_wp2_with fail
  have hS0 := h.box #[.int .i64 0, .int .i64 0] 51
  generalize w.alloc (.cells #[.int .i64 0, .int .i64 0] 51) = W0 at hS0 ⊢
  generalize w.heap.size = B at hS0 ⊢
  have r0 : GtRow W0 r c mo kind xs := hS0.get (j + 1) hj
  have hle : (xs.length : Int) ≤ 4096 := by have := r0.small; omega
  have hnote : Calls Try.prog 75 #[mptr mo, .int .i64 kind, .int .i64 k, .int .i64 1, .bool true] W0.drew fun e w' => e = .returned (.tuple #[]) ∧ ∃ v', St o (boxI B #[.int .i64 0, .int .i64 0] 51 :: its.set i (meterI 115 mo (s.note kind k 1 true) v')) w' :=
    note_st hS0.drew (i + 1) hi hw hn kind k 1 true
  have e0 : W0.cell? ⟨r, 0, none⟩ = some (mptr mo) := cell_of_heap r0.row
  have e1 : W0.cell? ⟨r, 1, none⟩ = some (.int .i64 kind) := cell_of_heap r0.row
  refine (gtHas_in k W0 r0 hk).mono ?_
  rintro e w1 ⟨rfl, rfl⟩
  clear r0 hS0 h
  go_wp2_with fail
  go_region_held3 (fun w' => w'.cell? ⟨r, 0, none⟩ = some (mptr mo) ∧ w'.cell? ⟨r, 1, none⟩ = some (.int .i64 kind)) (first | go_keep | exact ⟨cell_of_heap q.out.row, cell_of_heap q.out.row⟩)
    (first | (go_at_call 75; refine hnote.mono ?_; rintro e w' ⟨rfl, v', hS⟩; have q : Hid (GtRow w' r c mo kind xs) := hS.get (j + 1) (set_other hj hij)))
  have e2 : w'.cell? ⟨r, 2, none⟩ = some (.slice (some ⟨c, 0, none⟩) xs.length xs.length) := cell_of_heap q.out.row
  have d := q.out.cell k hk
  rw [HX.out] at d
  simp only at d
  obtain ⟨d0, d1⟩ := d
  have b0 : w'.cell? ⟨B, 0, none⟩ = some (.int .i64 0) := hS.cell 0 rfl 0
  have b1 : w'.cell? ⟨B, 1, none⟩ = some (.int .i64 0) := hS.cell 0 rfl 1
  have f0 : w'.frozen? ⟨B, 0, none⟩ = false := hS.frozen 0 rfl 0
  have f1 : w'.frozen? ⟨B, 1, none⟩ = false := hS.frozen 0 rfl 1
  have ne : ¬ c = B := hS.ne (j + 1) 0 (set_other hj hij) rfl (by omega) (by simp [gtRowI]) (by simp [boxI])
  have HS : Hid (∀ u0 u1 : Value, St o (its.set i (meterI 115 mo (s.note kind k 1 true) v')) ((w'.setCell ⟨B, 0, none⟩ (u0)).setCell ⟨B, 1, none⟩ (u1))) := fun u0 u1 => ((hS.write 0 rfl 0 u0).write 0 rfl 1 u1).pop
  clear q hnote hS
  go_wp2
  exact bodyPost_ret (v := .tuple #[.agg #[.int .i64 xn, .int .i64 xo], .int .i64 0]) (by simp [results, Try.results98, go_sem, b0, b1]) rfl ⟨rfl, v', HS.out _ _⟩


set_option maxRecDepth 100000 in
set_option maxHeartbeats 1000000 in
theorem gtLoad_out {o w : World} {its : List It} (h : St o its w) (j : Nat) {r c : Nat} {mo : Option Nat} {kind : Int} {xs : List Gt} (hj : its[j]? = some (gtRowI r c mo kind xs)) (i : Int) (hk : ¬ (0 ≤ i ∧ i < xs.length)) :
    Calls Try.prog 98 #[.pointer (some ⟨r, 0, none⟩), .int .i64 i] w fun e w' => e = .returned (.tuple #[.agg #[.int .i64 0, .int .i64 0], .int .i64 2]) ∧ St o its w' := by
  go_enter Try.func98, Try.ntmps98
  go_wp2_with fail
  have hS0 := h.box #[.int .i64 0, .int .i64 0] 51
  generalize w.alloc (.cells #[.int .i64 0, .int .i64 0] 51) = W0 at hS0 ⊢
  generalize w.heap.size = B at hS0 ⊢
  have r0 : GtRow W0 r c mo kind xs := hS0.get (j + 1) hj
  refine (gtHas_out i W0 r0 hk).mono ?_
  rintro e w1 ⟨rfl, rfl⟩
  have hlt : B < w1.heap.size := (boxI B #[.int .i64 0, .int .i64 0] 51).old w1 (hS0.get 0 rfl) B (by simp [boxI])
  have hne : ¬ B = w1.heap.size := by omega
  have hne' : ¬ w1.heap.size = B := by omega
  have hS1 := hS0.box #[.int .i64 0, .int .i64 0] 51
  have b0 : (w1.alloc (.cells #[.int .i64 0, .int .i64 0] 51)).cell? ⟨B, 0, none⟩ = some (.int .i64 0) := hS1.cell 1 rfl 0
  have b1 : (w1.alloc (.cells #[.int .i64 0, .int .i64 0] 51)).cell? ⟨B, 1, none⟩ = some (.int .i64 0) := hS1.cell 1 rfl 1
  have f0 : (w1.alloc (.cells #[.int .i64 0, .int .i64 0] 51)).frozen? ⟨B, 0, none⟩ = false := hS1.frozen 1 rfl 0
  have f1 : (w1.alloc (.cells #[.int .i64 0, .int .i64 0] 51)).frozen? ⟨B, 1, none⟩ = false := hS1.frozen 1 rfl 1
  have HS : Hid (∀ u0 u1 : Value, St o its (((w1.alloc (.cells #[.int .i64 0, .int .i64 0] 51)).setCell ⟨B, 0, none⟩ (u0)).setCell ⟨B, 1, none⟩ (u1))) := fun u0 u1 => ((hS1.write 1 rfl 0 u0).write 1 rfl 1 u1).pop.pop
  clear r0 hS0 hS1 h hlt hk
  go_wp2
  exact bodyPost_ret (v := .tuple #[.agg #[.int .i64 0, .int .i64 0], .int .i64 2]) (by simp [results, Try.results98, go_sem, hne, hne', b0, b1]) rfl ⟨rfl, HS.out _ _⟩

end Go.Proofs.Ytajfjkhbimehbaa
