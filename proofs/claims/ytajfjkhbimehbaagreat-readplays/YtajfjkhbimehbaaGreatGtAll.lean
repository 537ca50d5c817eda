/- Rows of Gt: Load. Rows of Gt: Trade. Rows of Gt: All. -/
import Derived.Test.YtajfjkhbimehbaaGreatGt
import Derived.Test.YtajfjkhbimehbaaGreatNote
namespace Go.Proofs.YtajfjkhbimehbaaGreat
open Go.RowKit
set_option linter.unusedVariables false
set_option linter.unusedSimpArgs false
attribute [local go_sem ↓] Go.wp_at_zero Go.wp_at_succ


set_option maxRecDepth 100000 in
set_option maxHeartbeats 1000000 in
theorem gtLoad_st {o w : World} {its : List It} (h : St o its w) (i j : Nat) {r c : Nat} {mo : Option Nat} {s : Mt} {v : Value} {kind : Int} {xs : List Gt} (hi : its[i]? = some (meterI 109 mo s v)) (hj : its[j]? = some (gtRowI r c mo kind xs)) (hij : i ≠ j)
    {n : Nat} (hw : s.within n) (hn : n ≤ 4611686018427) (k : Nat) (hk : k < xs.length) :
    Calls Tryz.prog 134 #[.pointer (some ⟨r, 0, none⟩), .int .i64 k] w fun e w' => e = .returned (.tuple #[xs[k].val, .int .i64 0]) ∧ ∃ v', St o (its.set i (meterI 109 mo (s.note kind k 1 true) v')) w' := by
  generalize hx : xs[k] = x
  obtain ⟨xn, xo⟩ := x
  simp only [Gt.val]
  have HX : Hid (xs[k] = ⟨xn, xo⟩) := hx
  clear hx
  have i0 : (0 : Int) ≤ (k : Int) := Int.natCast_nonneg _
  have i1 : (k : Int) < (xs.length : Int) := by omega
  go_enter Tryz.func134, Tryz.ntmps134
  go_wp2_with fail
  have hS0 := h.box #[.int .i64 0, .int .i64 0] 88
  generalize w.alloc (.cells #[.int .i64 0, .int .i64 0] 88) = W0 at hS0 ⊢
  generalize w.heap.size = B at hS0 ⊢
  have r0 : GtRow W0 r c mo kind xs := hS0.get (j + 1) hj
  have hle : (xs.length : Int) ≤ 4096 := by have := r0.small; omega
  have hnote : Calls Tryz.prog 111 #[mptr mo, .int .i64 kind, .int .i64 k, .int .i64 1, .bool true] W0.drew fun e w' => e = .returned (.tuple #[]) ∧ ∃ v', St o (boxI B #[.int .i64 0, .int .i64 0] 88 :: its.set i (meterI 109 mo (s.note kind k 1 true) v')) w' :=
    note_st hS0.drew (i + 1) hi hw hn kind k 1 true
  have e0 : W0.cell? ⟨r, 0, none⟩ = some (mptr mo) := cell_of_heap r0.row
  have e1 : W0.cell? ⟨r, 1, none⟩ = some (.int .i64 kind) := cell_of_heap r0.row
  refine (gtHas_in k W0 r0 hk).mono ?_
  rintro e w1 ⟨rfl, rfl⟩
  clear r0 hS0 h
  go_wp2_with fail
  go_region_held3 (fun w' => w'.cell? ⟨r, 0, none⟩ = some (mptr mo) ∧ w'.cell? ⟨r, 1, none⟩ = some (.int .i64 kind)) (first | go_keep | exact ⟨cell_of_heap q.out.row, cell_of_heap q.out.row⟩)
    (first | (go_at_call 111; refine hnote.mono ?_; rintro e w' ⟨rfl, v', hS⟩; have q : Hid (GtRow w' r c mo kind xs) := hS.get (j + 1) (set_other hj hij)))
  have e2 : w'.cell? ⟨r, 2, none⟩ = some (.slice (some ⟨c, 0, none⟩) xs.length xs.length) := cell_of_heap q.out.row
  have d := q.out.cell k hk
  rw [HX.out] at d
  simp only at d
  obtain ⟨d0, d1⟩ := d
  have b0 : w'.cell? ⟨B, 0, none⟩ = some (.int .i64 0) := hS.cell 0 rfl 0
  have b1 : w'.cell? ⟨B, 1, none⟩ = some (.int .i64 0) := hS.cell 0 rfl 1
  have f0 : w'.frozen? ⟨B, 0, none⟩ = false := hS.frozen 0 rfl 0
  have f1 : w'.frozen? ⟨B, 1, none⟩ = false := hS.frozen 0 rfl 1
  have ne : ¬ c = B := hS.ne (j + 1) 0 (set_other hj hij) rfl (by omega) (by simp [gtRowI]) (by simp [boxI])
  have HS : Hid (∀ u0 u1 : Value, St o (its.set i (meterI 109 mo (s.note kind k 1 true) v')) ((w'.setCell ⟨B, 0, none⟩ (u0)).setCell ⟨B, 1, none⟩ (u1))) := fun u0 u1 => ((hS.write 0 rfl 0 u0).write 0 rfl 1 u1).pop
  clear q hnote hS
  go_wp2
  exact bodyPost_ret (v := .tuple #[.agg #[.int .i64 xn, .int .i64 xo], .int .i64 0]) (by simp [results, Tryz.results134, go_sem, b0, b1]) rfl ⟨rfl, v', HS.out _ _⟩


set_option maxRecDepth 100000 in
set_option maxHeartbeats 1000000 in
theorem gtLoad_out {o w : World} {its : List It} (h : St o its w) (j : Nat) {r c : Nat} {mo : Option Nat} {kind : Int} {xs : List Gt} (hj : its[j]? = some (gtRowI r c mo kind xs)) (i : Int) (hk : ¬ (0 ≤ i ∧ i < xs.length)) :
    Calls Tryz.prog 134 #[.pointer (some ⟨r, 0, none⟩), .int .i64 i] w fun e w' => e = .returned (.tuple #[.agg #[.int .i64 0, .int .i64 0], .int .i64 2]) ∧ St o its w' := by
  go_enter Tryz.func134, Tryz.ntmps134
  go_wp2_with fail
  have hS0 := h.box #[.int .i64 0, .int .i64 0] 88
  generalize w.alloc (.cells #[.int .i64 0, .int .i64 0] 88) = W0 at hS0 ⊢
  generalize w.heap.size = B at hS0 ⊢
  have r0 : GtRow W0 r c mo kind xs := hS0.get (j + 1) hj
  refine (gtHas_out i W0 r0 hk).mono ?_
  rintro e w1 ⟨rfl, rfl⟩
  have hlt : B < w1.heap.size := (boxI B #[.int .i64 0, .int .i64 0] 88).old w1 (hS0.get 0 rfl) B (by simp [boxI])
  have hne : ¬ B = w1.heap.size := by omega
  have hne' : ¬ w1.heap.size = B := by omega
  have hS1 := hS0.box #[.int .i64 0, .int .i64 0] 88
  have b0 : (w1.alloc (.cells #[.int .i64 0, .int .i64 0] 88)).cell? ⟨B, 0, none⟩ = some (.int .i64 0) := hS1.cell 1 rfl 0
  have b1 : (w1.alloc (.cells #[.int .i64 0, .int .i64 0] 88)).cell? ⟨B, 1, none⟩ = some (.int .i64 0) := hS1.cell 1 rfl 1
  have f0 : (w1.alloc (.cells #[.int .i64 0, .int .i64 0] 88)).frozen? ⟨B, 0, none⟩ = false := hS1.frozen 1 rfl 0
  have f1 : (w1.alloc (.cells #[.int .i64 0, .int .i64 0] 88)).frozen? ⟨B, 1, none⟩ = false := hS1.frozen 1 rfl 1
  have HS : Hid (∀ u0 u1 : Value, St o its (((w1.alloc (.cells #[.int .i64 0, .int .i64 0] 88)).setCell ⟨B, 0, none⟩ (u0)).setCell ⟨B, 1, none⟩ (u1))) := fun u0 u1 => ((hS1.write 1 rfl 0 u0).write 1 rfl 1 u1).pop.pop
  clear r0 hS0 hS1 h hlt hk
  go_wp2
  exact bodyPost_ret (v := .tuple #[.agg #[.int .i64 0, .int .i64 0], .int .i64 2]) (by simp [results, Tryz.results134, go_sem, hne, hne', b0, b1]) rfl ⟨rfl, HS.out _ _⟩

end Go.Proofs.YtajfjkhbimehbaaGreat

namespace Go.Proofs.YtajfjkhbimehbaaGreat
open Go.RowKit
set_option linter.unusedVariables false
set_option linter.unusedSimpArgs false
attribute [local go_sem ↓] Go.wp_at_zero Go.wp_at_succ


set_option maxRecDepth 100000 in
set_option maxHeartbeats 1000000 in
theorem gtTrade_hit {o w : World} {its : List It} (h : St o its w) (i j : Nat) {r c : Nat} {mo : Option Nat} {s : Mt} {v : Value} {kind : Int} {xs : List Gt} (hi : its[i]? = some (meterI 109 mo s v)) (hj : its[j]? = some (gtRowI r c mo kind xs)) (hij : i ≠ j)
    {n : Nat} (hw : s.within n) (hn : n ≤ 4611686018427) (k : Nat) (hk : k < xs.length) (a b : Gt) (hb : xs[k].eq a = true) :
    Calls Tryz.prog 113 #[.pointer (some ⟨r, 0, none⟩), .int .i64 k, a.val, b.val] w fun e w' => e = .returned (.tuple #[xs[k].val, .bool true, .int .i64 0]) ∧ ∃ v', St o ((its.set i (meterI 109 mo (s.note kind k 3 true) v')).set j (gtRowI r c mo kind (xs.set k b))) w' := by
  generalize hx : xs[k] = x at hb ⊢
  have hsame : ∀ W, Calls Tryz.prog 128 #[x.val, a.val] W fun e w' => e = .returned (.bool true) ∧ Kept (fun _ => False) W w' := fun W => hb ▸ gtSame x a W
  clear hb
  obtain ⟨xn, xo⟩ := x
  obtain ⟨an, ao⟩ := a
  obtain ⟨bn, bo⟩ := b
  simp only [Gt.val] at hsame ⊢
  have HX : Hid (xs[k] = ⟨xn, xo⟩) := hx
  clear hx
  have i0 : (0 : Int) ≤ (k : Int) := Int.natCast_nonneg _
  have i1 : (k : Int) < (xs.length : Int) := by omega
  go_enter Tryz.func113, Tryz.ntmps113
  go_wp2_with fail
  have hS0 := ((h.box #[.int .i64 an, .int .i64 ao] 88).box #[.int .i64 bn, .int .i64 bo] 88).box #[.int .i64 0, .int .i64 0] 88
  simp only [alloc_size] at hS0
  generalize ((w.alloc (.cells #[.int .i64 an, .int .i64 ao] 88)).alloc (.cells #[.int .i64 bn, .int .i64 bo] 88)).alloc (.cells #[.int .i64 0, .int .i64 0] 88) = W0 at hS0 ⊢
  generalize w.heap.size = B at hS0 ⊢
  have r0 : GtRow W0 r c mo kind xs := hS0.get (j + 3) hj
  have hle : (xs.length : Int) ≤ 4096 := by have := r0.small; omega
  refine (gtHas_in k W0 r0 hk).mono ?_
  rintro e w1 ⟨rfl, rfl⟩
  have d := r0.cell k hk
  rw [HX.out] at d
  simp only at d
  obtain ⟨d0, d1⟩ := d
  have e2 : w1.cell? ⟨r, 2, none⟩ = some (.slice (some ⟨c, 0, none⟩) xs.length xs.length) := cell_of_heap r0.row
  have q0 : w1.cell? ⟨B, 0, none⟩ = some (.int .i64 an) := hS0.cell 2 rfl 0
  have q1 : w1.cell? ⟨B, 1, none⟩ = some (.int .i64 ao) := hS0.cell 2 rfl 1
  have hlt : B < w1.heap.size := hS0.all _ (by simp) |> fun p => (boxI B #[.int .i64 an, .int .i64 ao] 88).old w1 p B (by simp [boxI])
  have hlc : c < w1.heap.size := lt_of_heap r0.cells
  have hne1 : ¬ B = w1.heap.size := by omega
  have hne2 : ¬ c = w1.heap.size := by omega
  go_wp2_with fail
  have hS4 := hS0.box #[.int .i64 xn, .int .i64 xo] 88
  generalize w1.alloc (.cells #[.int .i64 xn, .int .i64 xo] 88) = w2 at hS4 ⊢
  clear d0 d1 e2 q0 q1 hlt hlc hne1 hne2 r0 hS0 h
  generalize w1.heap.size = H at hS4 ⊢
  refine (hsame w2).mono ?_
  rintro e w3 ⟨rfl, k5⟩
  have hS5 := hS4.calm k5
  clear k5 hS4 hsame
  have r3 : GtRow w3 r c mo kind xs := hS5.get (j + 4) hj
  have hnote : Calls Tryz.prog 111 #[mptr mo, .int .i64 kind, .int .i64 k, .int .i64 3, .bool true] w3.drew fun e w' => e = .returned (.tuple #[]) ∧ ∃ v', St o (boxI H #[.int .i64 xn, .int .i64 xo] 88 :: boxI (B + 1 + 1) #[.int .i64 0, .int .i64 0] 88 :: boxI (B + 1) #[.int .i64 bn, .int .i64 bo] 88 :: boxI B #[.int .i64 an, .int .i64 ao] 88 :: its.set i (meterI 109 mo (s.note kind k 3 true) v')) w' :=
    note_st hS5.drew (i + 4) hi hw hn kind k 3 true
  have e0 : w3.cell? ⟨r, 0, none⟩ = some (mptr mo) := cell_of_heap r3.row
  have e1 : w3.cell? ⟨r, 1, none⟩ = some (.int .i64 kind) := cell_of_heap r3.row
  clear r3 hS5
  go_wp2_with fail
  go_region_held3 (fun w' => w'.cell? ⟨r, 0, none⟩ = some (mptr mo) ∧ w'.cell? ⟨r, 1, none⟩ = some (.int .i64 kind)) (first | go_keep | exact ⟨cell_of_heap q.out.row, cell_of_heap q.out.row⟩)
    (first | (go_at_call 111; refine hnote.mono ?_; rintro e w' ⟨rfl, v', hS⟩; have q : Hid (GtRow w' r c mo kind xs) := hS.get (j + 4) (set_other hj hij)))
  have z0 : w'.cell? ⟨H, 0, none⟩ = some (.int .i64 xn) := hS.cell 0 rfl 0
  have z1 : w'.cell? ⟨H, 1, none⟩ = some (.int .i64 xo) := hS.cell 0 rfl 1
  have y0 : w'.cell? ⟨B + 1 + 1, 0, none⟩ = some (.int .i64 0) := hS.cell 1 rfl 0
  have y1 : w'.cell? ⟨B + 1 + 1, 1, none⟩ = some (.int .i64 0) := hS.cell 1 rfl 1
  have v0 : w'.frozen? ⟨B + 1 + 1, 0, none⟩ = false := hS.frozen 1 rfl 0
  have v1 : w'.frozen? ⟨B + 1 + 1, 1, none⟩ = false := hS.frozen 1 rfl 1
  have e2 : w'.cell? ⟨r, 2, none⟩ = some (.slice (some ⟨c, 0, none⟩) xs.length xs.length) := cell_of_heap q.out.row
  have d := q.out.cell k hk
  obtain ⟨d0, d1⟩ := d
  have b0 : w'.cell? ⟨B + 1, 0, none⟩ = some (.int .i64 bn) := hS.cell 2 rfl 0
  have b1 : w'.cell? ⟨B + 1, 1, none⟩ = some (.int .i64 bo) := hS.cell 2 rfl 1
  have l0 : w'.frozen? ⟨c, k * 2, none⟩ = false := frozen_of_heap q.out.cells
  have l1 : w'.frozen? ⟨c, k * 2 + 1, none⟩ = false := frozen_of_heap q.out.cells
  have n1 : ¬ c = B + 1 := hS.ne (j + 4) 2 (set_other hj hij) rfl (by omega) (by simp [gtRowI]) (by simp [boxI])
  have n2 : ¬ c = B + 1 + 1 := hS.ne (j + 4) 1 (set_other hj hij) rfl (by omega) (by simp [gtRowI]) (by simp [boxI])
  have n3 : ¬ B + 1 = c := fun e => n1 e.symm
  have n4 : ¬ B + 1 + 1 = c := fun e => n2 e.symm
  have n5 : ¬ H = c := hS.ne 0 (j + 4) rfl (set_other hj hij) (by omega) (by simp [boxI]) (by simp [gtRowI])
  have n6 : ¬ H = B + 1 + 1 := hS.ne 0 1 rfl rfl (by omega) (by simp [boxI]) (by simp [boxI])
  have n7 : ¬ r = c := q.out.rc
  have hT := hS.gtStored (j + 4) (set_other hj hij) k hk ⟨bn, bo⟩
  have HS : Hid (∀ u0 u1 : Value, St o ((its.set i (meterI 109 mo (s.note kind k 3 true) v')).set j (gtRowI r c mo kind (xs.set k ⟨bn, bo⟩))) ((((w'.setCell ⟨c, k * 2, none⟩ (.int .i64 bn)).setCell ⟨c, k * 2 + 1, none⟩ (.int .i64 bo)).setCell ⟨B + 1 + 1, 0, none⟩ (u0)).setCell ⟨B + 1 + 1, 1, none⟩ (u1))) := fun u0 u1 => ((hT.write 1 rfl 0 u0).write 1 rfl 1 u1).pop.pop.pop.pop
  clear q hnote hS hT
  go_wp2_with fail
  go_region
  all_goals
    go_wp2
    exact bodyPost_ret (v := .tuple #[.agg #[.int .i64 xn, .int .i64 xo], .bool true, .int .i64 0]) (by simp [results, Tryz.results113, go_sem, y0, y1, n1, n2, n3, n4, n5, n6]) rfl ⟨rfl, v', by first | exact (HS.out _ _).drew | exact HS.out _ _ | exact (HS.out _ _).drew.drew⟩


set_option maxRecDepth 100000 in
set_option maxHeartbeats 1000000 in
theorem gtTrade_miss {o w : World} {its : List It} (h : St o its w) (i j : Nat) {r c : Nat} {mo : Option Nat} {s : Mt} {v : Value} {kind : Int} {xs : List Gt} (hi : its[i]? = some (meterI 109 mo s v)) (hj : its[j]? = some (gtRowI r c mo kind xs)) (hij : i ≠ j)
    {n : Nat} (hw : s.within n) (hn : n ≤ 4611686018427) (k : Nat) (hk : k < xs.length) (a b : Gt) (hb : xs[k].eq a = false) :
    Calls Tryz.prog 113 #[.pointer (some ⟨r, 0, none⟩), .int .i64 k, a.val, b.val] w fun e w' => e = .returned (.tuple #[xs[k].val, .bool false, .int .i64 0]) ∧ ∃ v', St o (its.set i (meterI 109 mo (s.note kind k 3 false) v')) w' := by
  generalize hx : xs[k] = x at hb ⊢
  have hsame : ∀ W, Calls Tryz.prog 128 #[x.val, a.val] W fun e w' => e = .returned (.bool false) ∧ Kept (fun _ => False) W w' := fun W => hb ▸ gtSame x a W
  clear hb
  obtain ⟨xn, xo⟩ := x
  obtain ⟨an, ao⟩ := a
  obtain ⟨bn, bo⟩ := b
  simp only [Gt.val] at hsame ⊢
  have HX : Hid (xs[k] = ⟨xn, xo⟩) := hx
  clear hx
  have i0 : (0 : Int) ≤ (k : Int) := Int.natCast_nonneg _
  have i1 : (k : Int) < (xs.length : Int) := by omega
  go_enter Tryz.func113, Tryz.ntmps113
  go_wp2_with fail
  have hS0 := ((h.box #[.int .i64 an, .int .i64 ao] 88).box #[.int .i64 bn, .int .i64 bo] 88).box #[.int .i64 0, .int .i64 0] 88
  simp only [alloc_size] at hS0
  generalize ((w.alloc (.cells #[.int .i64 an, .int .i64 ao] 88)).alloc (.cells #[.int .i64 bn, .int .i64 bo] 88)).alloc (.cells #[.int .i64 0, .int .i64 0] 88) = W0 at hS0 ⊢
  generalize w.heap.size = B at hS0 ⊢
  have r0 : GtRow W0 r c mo kind xs := hS0.get (j + 3) hj
  have hle : (xs.length : Int) ≤ 4096 := by have := r0.small; omega
  refine (gtHas_in k W0 r0 hk).mono ?_
  rintro e w1 ⟨rfl, rfl⟩
  have d := r0.cell k hk
  rw [HX.out] at d
  simp only at d
  obtain ⟨d0, d1⟩ := d
  have e2 : w1.cell? ⟨r, 2, none⟩ = some (.slice (some ⟨c, 0, none⟩) xs.length xs.length) := cell_of_heap r0.row
  have q0 : w1.cell? ⟨B, 0, none⟩ = some (.int .i64 an) := hS0.cell 2 rfl 0
  have q1 : w1.cell? ⟨B, 1, none⟩ = some (.int .i64 ao) := hS0.cell 2 rfl 1
  have hlt : B < w1.heap.size := hS0.all _ (by simp) |> fun p => (boxI B #[.int .i64 an, .int .i64 ao] 88).old w1 p B (by simp [boxI])
  have hlc : c < w1.heap.size := lt_of_heap r0.cells
  have hne1 : ¬ B = w1.heap.size := by omega
  have hne2 : ¬ c = w1.heap.size := by omega
  go_wp2_with fail
  have hS4 := hS0.box #[.int .i64 xn, .int .i64 xo] 88
  generalize w1.alloc (.cells #[.int .i64 xn, .int .i64 xo] 88) = w2 at hS4 ⊢
  clear d0 d1 e2 q0 q1 hlt hlc hne1 hne2 r0 hS0 h
  generalize w1.heap.size = H at hS4 ⊢
  refine (hsame w2).mono ?_
  rintro e w3 ⟨rfl, k5⟩
  have hS5 := hS4.calm k5
  clear k5 hS4 hsame
  have r3 : GtRow w3 r c mo kind xs := hS5.get (j + 4) hj
  have hnote : Calls Tryz.prog 111 #[mptr mo, .int .i64 kind, .int .i64 k, .int .i64 3, .bool false] w3.drew fun e w' => e = .returned (.tuple #[]) ∧ ∃ v', St o (boxI H #[.int .i64 xn, .int .i64 xo] 88 :: boxI (B + 1 + 1) #[.int .i64 0, .int .i64 0] 88 :: boxI (B + 1) #[.int .i64 bn, .int .i64 bo] 88 :: boxI B #[.int .i64 an, .int .i64 ao] 88 :: its.set i (meterI 109 mo (s.note kind k 3 false) v')) w' :=
    note_st hS5.drew (i + 4) hi hw hn kind k 3 false
  have e0 : w3.cell? ⟨r, 0, none⟩ = some (mptr mo) := cell_of_heap r3.row
  have e1 : w3.cell? ⟨r, 1, none⟩ = some (.int .i64 kind) := cell_of_heap r3.row
  clear r3 hS5
  go_wp2_with fail
  go_region_held3 (fun w' => w'.cell? ⟨r, 0, none⟩ = some (mptr mo) ∧ w'.cell? ⟨r, 1, none⟩ = some (.int .i64 kind)) (first | go_keep | exact ⟨cell_of_heap q.out.row, cell_of_heap q.out.row⟩)
    (first | (go_at_call 111; refine hnote.mono ?_; rintro e w' ⟨rfl, v', hS⟩; have q : Hid (GtRow w' r c mo kind xs) := hS.get (j + 4) (set_other hj hij)))
  have z0 : w'.cell? ⟨H, 0, none⟩ = some (.int .i64 xn) := hS.cell 0 rfl 0
  have z1 : w'.cell? ⟨H, 1, none⟩ = some (.int .i64 xo) := hS.cell 0 rfl 1
  have y0 : w'.cell? ⟨B + 1 + 1, 0, none⟩ = some (.int .i64 0) := hS.cell 1 rfl 0
  have y1 : w'.cell? ⟨B + 1 + 1, 1, none⟩ = some (.int .i64 0) := hS.cell 1 rfl 1
  have v0 : w'.frozen? ⟨B + 1 + 1, 0, none⟩ = false := hS.frozen 1 rfl 0
  have v1 : w'.frozen? ⟨B + 1 + 1, 1, none⟩ = false := hS.frozen 1 rfl 1
  have n6 : ¬ H = B + 1 + 1 := hS.ne 0 1 rfl rfl (by omega) (by simp [boxI]) (by simp [boxI])
  have HS : Hid (∀ u0 u1 : Value, St o (its.set i (meterI 109 mo (s.note kind k 3 false) v')) ((w'.setCell ⟨B + 1 + 1, 0, none⟩ (u0)).setCell ⟨B + 1 + 1, 1, none⟩ (u1))) := fun u0 u1 => ((hS.write 1 rfl 0 u0).write 1 rfl 1 u1).pop.pop.pop.pop
  clear q hnote hS
  go_wp2
  exact bodyPost_ret (v := .tuple #[.agg #[.int .i64 xn, .int .i64 xo], .bool false, .int .i64 0]) (by simp [results, Tryz.results113, go_sem, y0, y1, n6]) rfl ⟨rfl, v', HS.out _ _⟩


set_option maxRecDepth 100000 in
set_option maxHeartbeats 1000000 in
theorem gtTrade_out {o w : World} {its : List It} (h : St o its w) (j : Nat) {r c : Nat} {mo : Option Nat} {kind : Int} {xs : List Gt} (hj : its[j]? = some (gtRowI r c mo kind xs)) (i : Int) (hk : ¬ (0 ≤ i ∧ i < xs.length)) (a b : Gt) :
    Calls Tryz.prog 113 #[.pointer (some ⟨r, 0, none⟩), .int .i64 i, a.val, b.val] w fun e w' => e = .returned (.tuple #[.agg #[.int .i64 0, .int .i64 0], .bool false, .int .i64 2]) ∧ St o its w' := by
  obtain ⟨an, ao⟩ := a
  obtain ⟨bn, bo⟩ := b
  simp only [Gt.val]
  go_enter Tryz.func113, Tryz.ntmps113
  go_wp2_with fail
  have hS0 := ((h.box #[.int .i64 an, .int .i64 ao] 88).box #[.int .i64 bn, .int .i64 bo] 88).box #[.int .i64 0, .int .i64 0] 88
  simp only [alloc_size] at hS0
  generalize ((w.alloc (.cells #[.int .i64 an, .int .i64 ao] 88)).alloc (.cells #[.int .i64 bn, .int .i64 bo] 88)).alloc (.cells #[.int .i64 0, .int .i64 0] 88) = W0 at hS0 ⊢
  generalize w.heap.size + 1 + 1 = B at hS0 ⊢
  generalize w.heap.size + 1 = B1 at hS0 ⊢
  generalize w.heap.size = B2 at hS0 ⊢
  have r0 : GtRow W0 r c mo kind xs := hS0.get (j + 3) hj
  refine (gtHas_out i W0 r0 hk).mono ?_
  rintro e w1 ⟨rfl, rfl⟩
  have hlt : B < w1.heap.size := (boxI B #[.int .i64 0, .int .i64 0] 88).old w1 (hS0.get 0 rfl) B (by simp [boxI])
  have hne : ¬ B = w1.heap.size := by omega
  have hne' : ¬ w1.heap.size = B := by omega
  have hS1 := hS0.box #[.int .i64 0, .int .i64 0] 88
  have b0 : (w1.alloc (.cells #[.int .i64 0, .int .i64 0] 88)).cell? ⟨B, 0, none⟩ = some (.int .i64 0) := hS1.cell 1 rfl 0
  have b1 : (w1.alloc (.cells #[.int .i64 0, .int .i64 0] 88)).cell? ⟨B, 1, none⟩ = some (.int .i64 0) := hS1.cell 1 rfl 1
  have f0 : (w1.alloc (.cells #[.int .i64 0, .int .i64 0] 88)).frozen? ⟨B, 0, none⟩ = false := hS1.frozen 1 rfl 0
  have f1 : (w1.alloc (.cells #[.int .i64 0, .int .i64 0] 88)).frozen? ⟨B, 1, none⟩ = false := hS1.frozen 1 rfl 1
  have HS : Hid (∀ u0 u1 : Value, St o its (((w1.alloc (.cells #[.int .i64 0, .int .i64 0] 88)).setCell ⟨B, 0, none⟩ (u0)).setCell ⟨B, 1, none⟩ (u1))) := fun u0 u1 => ((hS1.write 1 rfl 0 u0).write 1 rfl 1 u1).pop.pop.pop.pop
  clear r0 hS0 hS1 h hlt hk
  go_wp2
  exact bodyPost_ret (v := .tuple #[.agg #[.int .i64 0, .int .i64 0], .bool false, .int .i64 2]) (by simp [results, Tryz.results113, go_sem, hne, hne', b0, b1]) rfl ⟨rfl, HS.out _ _⟩

end Go.Proofs.YtajfjkhbimehbaaGreat

namespace Go.Proofs.YtajfjkhbimehbaaGreat
open Go.RowKit
set_option linter.unusedVariables false
set_option linter.unusedSimpArgs false
attribute [local go_sem ↓] Go.wp_at_zero Go.wp_at_succ


set_option maxRecDepth 100000 in
set_option maxHeartbeats 1000000 in
theorem gtAll_st {o w : World} {its : List It} (h : St o its w) (j : Nat) {r c : Nat} {mo : Option Nat} {kind : Int} {xs : List Gt} (hj : its[j]? = some (gtRowI r c mo kind xs)) :
    Calls Tryz.prog 112 #[.pointer (some ⟨r, 0, none⟩)] w fun e w' => ∃ v', e = .returned v' ∧ St o (ownI 88 2 v' xs.length (gtCells xs) :: its) w' := by
  obtain ⟨i0, hi0, hz0, hz1, hz2⟩ := info_parts Tryz.infoGt
  have hr : GtRow w r c mo kind xs := h.get j hj
  have hE : ∀ a n c w, (binOp .eql 174 (.slice a n c) (.slice none 0 0)).run Tryz.prog w = .ok (.bool a.isNone) w := fun a n c w => Lib.run_eql_slice_nil w 174 88 a n c 0 0 Tryz.underlying174
  have c2 : w.cell? ⟨r, 2, none⟩ = some (.slice (some ⟨c, 0, none⟩) xs.length xs.length) := cell_of_heap hr.row
  have hcl : Calls Tryz.prog 126 #[.slice (some ⟨c, 0, none⟩) xs.length xs.length] w fun e w' => ∃ v', e = .returned v' ∧ w'.ownsRow w.heap.size 88 2 v' xs.length (gtCells xs) ∧ Kept (fun _ => False) w w' := by
    have hcells : ∀ j u, (gtCells xs)[j]? = some u → (w.alloc (.cells #[] 88)).cell? ((⟨c, 0, none⟩ : Addr).add j) = some u := by
      have h2 : (w.alloc (.cells #[] 88)).heap[c]? = some (.cells (gtCells xs).toArray 88 (0, 0)) := (Below.heap_alloc w _ c (lt_of_heap hr.cells)).trans hr.cells
      intro j u hu
      exact World.news_of_block (cs := (gtCells xs).toArray) h2 j u (by simpa using hu)
    have hsm := hr.small
    have hlen := gtCells_length xs
    have h1 := gtCells_one xs
    generalize gtCells xs = TC at *
    clear c2 hr h hj
    go_enter Tryz.func126, Tryz.ntmps126
    go_wp2_with (at_builtin; refine wpList_append_own_at _ rfl (.tmp 5) (.tmp 6) 174 rfl w.heap.size 88 i0 _ 2 16 Tryz.underlying174 hi0 hz0 hz1 hz2 rfl (by omega) (.slice (some ⟨w.heap.size, 0, none⟩) 0 0) 0 [] rfl (World.ownsRow_made w #[] 0 (Nat.le_refl _) (Nat.zero_le _) rfl) ⟨c, 0, none⟩ xs.length xs.length TC rfl hlen hcells h1 (by unfold maxLen; omega) (by omega) (by simp) ?_; intro v' w1 hown' hgrow hnil hat)
    go_ret
    refine ⟨_, rfl, by simpa using hown', ((Kept.refl _ w).alloc _).grown hgrow (fun k e => ?_)⟩
    right
    simp [Value.ownBlock] at e
    omega
  have hS : Hid (∀ v' w', w'.ownsRow w.heap.size 88 2 v' xs.length (gtCells xs) → Kept (fun _ => False) w w' → St o (ownI 88 2 v' xs.length (gtCells xs) :: its) w') := fun v' w' p k => h.own k p
  clear hr h hj
  generalize gtCells xs = TC at *
  go_enter Tryz.func112, Tryz.ntmps112
  go_wp2_with (go_at_call 126; refine hcl.mono ?_; rintro e w' ⟨v', rfl, ho', hk⟩)
  go_ret
  exact ⟨_, rfl, hS.out _ _ ho' hk⟩

end Go.Proofs.YtajfjkhbimehbaaGreat
