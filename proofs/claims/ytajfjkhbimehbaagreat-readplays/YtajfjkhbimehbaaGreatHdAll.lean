/- Rows of Hd: Load. Rows of Hd: Trade. Trades of heads (see HdTrade). Rows of Hd: All. -/
import Derived.Test.YtajfjkhbimehbaaGreatHd
import Derived.Test.YtajfjkhbimehbaaGreatNote
namespace Go.Proofs.YtajfjkhbimehbaaGreat
open Go.RowKit
set_option linter.unusedVariables false
set_option linter.unusedSimpArgs false
attribute [local go_sem ↓] Go.wp_at_zero Go.wp_at_succ


set_option maxRecDepth 100000 in
set_option maxHeartbeats 1000000 in
theorem hdLoad_st {o w : World} {its : List It} (h : St o its w) (i j : Nat) {r c : Nat} {mo : Option Nat} {s : Mt} {v : Value} {kind : Int} {xs : List Hd} (hi : its[i]? = some (meterI 109 mo s v)) (hj : its[j]? = some (hdRowI r c mo kind xs)) (hij : i ≠ j)
    {n : Nat} (hw : s.within n) (hn : n ≤ 4611686018427) (k : Nat) (hk : k < xs.length) :
    Calls Tryz.prog 138 #[.pointer (some ⟨r, 0, none⟩), .int .i64 k] w fun e w' => e = .returned (.tuple #[xs[k].val, .int .i64 0]) ∧ ∃ v', St o (its.set i (meterI 109 mo (s.note kind k 1 true) v')) w' := by
  generalize hx : xs[k] = x
  obtain ⟨xgn, xsa, xsp, xth, xdm, xwy⟩ := x
  simp only [Hd.val]
  have HX : Hid (xs[k] = ⟨xgn, xsa, xsp, xth, xdm, xwy⟩) := hx
  clear hx
  have i0 : (0 : Int) ≤ (k : Int) := Int.natCast_nonneg _
  have i1 : (k : Int) < (xs.length : Int) := by omega
  go_enter Tryz.func138, Tryz.ntmps138
  go_wp2_with fail
  have hS0 := h.box #[.int .i64 0, .int .i64 0, .int .i64 0, .int .i64 0, .bool false, .int .i64 0] 105
  generalize w.alloc (.cells #[.int .i64 0, .int .i64 0, .int .i64 0, .int .i64 0, .bool false, .int .i64 0] 105) = W0 at hS0 ⊢
  generalize w.heap.size = B at hS0 ⊢
  have r0 : HdRow W0 r c mo kind xs := hS0.get (j + 1) hj
  have hle : (xs.length : Int) ≤ 4096 := by have := r0.small; omega
  have hnote : Calls Tryz.prog 111 #[mptr mo, .int .i64 kind, .int .i64 k, .int .i64 1, .bool true] W0.drew fun e w' => e = .returned (.tuple #[]) ∧ ∃ v', St o (boxI B #[.int .i64 0, .int .i64 0, .int .i64 0, .int .i64 0, .bool false, .int .i64 0] 105 :: its.set i (meterI 109 mo (s.note kind k 1 true) v')) w' :=
    note_st hS0.drew (i + 1) hi hw hn kind k 1 true
  have e0 : W0.cell? ⟨r, 0, none⟩ = some (mptr mo) := cell_of_heap r0.row
  have e1 : W0.cell? ⟨r, 1, none⟩ = some (.int .i64 kind) := cell_of_heap r0.row
  refine (hdHas_in k W0 r0 hk).mono ?_
  rintro e w1 ⟨rfl, rfl⟩
  clear r0 hS0 h
  go_wp2_with fail
  go_region_held3 (fun w' => w'.cell? ⟨r, 0, none⟩ = some (mptr mo) ∧ w'.cell? ⟨r, 1, none⟩ = some (.int .i64 kind)) (first | go_keep | exact ⟨cell_of_heap q.out.row, cell_of_heap q.out.row⟩)
    (first | (go_at_call 111; refine hnote.mono ?_; rintro e w' ⟨rfl, v', hS⟩; have q : Hid (HdRow w' r c mo kind xs) := hS.get (j + 1) (set_other hj hij)))
  have e2 : w'.cell? ⟨r, 2, none⟩ = some (.slice (some ⟨c, 0, none⟩) xs.length xs.length) := cell_of_heap q.out.row
  have d := q.out.cell k hk
  rw [HX.out] at d
  simp only at d
  obtain ⟨d0, d1, d2, d3, d4, d5⟩ := d
  have b0 : w'.cell? ⟨B, 0, none⟩ = some (.int .i64 0) := hS.cell 0 rfl 0
  have b1 : w'.cell? ⟨B, 1, none⟩ = some (.int .i64 0) := hS.cell 0 rfl 1
  have b2 : w'.cell? ⟨B, 2, none⟩ = some (.int .i64 0) := hS.cell 0 rfl 2
  have b3 : w'.cell? ⟨B, 3, none⟩ = some (.int .i64 0) := hS.cell 0 rfl 3
  have b4 : w'.cell? ⟨B, 4, none⟩ = some (.bool false) := hS.cell 0 rfl 4
  have b5 : w'.cell? ⟨B, 5, none⟩ = some (.int .i64 0) := hS.cell 0 rfl 5
  have f0 : w'.frozen? ⟨B, 0, none⟩ = false := hS.frozen 0 rfl 0
  have f1 : w'.frozen? ⟨B, 1, none⟩ = false := hS.frozen 0 rfl 1
  have f2 : w'.frozen? ⟨B, 2, none⟩ = false := hS.frozen 0 rfl 2
  have f3 : w'.frozen? ⟨B, 3, none⟩ = false := hS.frozen 0 rfl 3
  have f4 : w'.frozen? ⟨B, 4, none⟩ = false := hS.frozen 0 rfl 4
  have f5 : w'.frozen? ⟨B, 5, none⟩ = false := hS.frozen 0 rfl 5
  have ne : ¬ c = B := hS.ne (j + 1) 0 (set_other hj hij) rfl (by omega) (by simp [hdRowI]) (by simp [boxI])
  have HS : Hid (∀ u0 u1 u2 u3 u4 u5 : Value, St o (its.set i (meterI 109 mo (s.note kind k 1 true) v')) ((((((w'.setCell ⟨B, 0, none⟩ (u0)).setCell ⟨B, 1, none⟩ (u1)).setCell ⟨B, 2, none⟩ (u2)).setCell ⟨B, 3, none⟩ (u3)).setCell ⟨B, 4, none⟩ (u4)).setCell ⟨B, 5, none⟩ (u5))) := fun u0 u1 u2 u3 u4 u5 => ((((((hS.write 0 rfl 0 u0).write 0 rfl 1 u1).write 0 rfl 2 u2).write 0 rfl 3 u3).write 0 rfl 4 u4).write 0 rfl 5 u5).pop
  clear q hnote hS
  go_wp2
  exact bodyPost_ret (v := .tuple #[.agg #[.int .i64 xgn, .int .i64 xsa, .int .i64 xsp, .int .i64 xth, .bool xdm, .int .i64 xwy], .int .i64 0]) (by simp [results, Tryz.results138, go_sem, b0, b1, b2, b3, b4, b5]) rfl ⟨rfl, v', HS.out _ _ _ _ _ _⟩


set_option maxRecDepth 100000 in
set_option maxHeartbeats 1000000 in
theorem hdLoad_out {o w : World} {its : List It} (h : St o its w) (j : Nat) {r c : Nat} {mo : Option Nat} {kind : Int} {xs : List Hd} (hj : its[j]? = some (hdRowI r c mo kind xs)) (i : Int) (hk : ¬ (0 ≤ i ∧ i < xs.length)) :
    Calls Tryz.prog 138 #[.pointer (some ⟨r, 0, none⟩), .int .i64 i] w fun e w' => e = .returned (.tuple #[.agg #[.int .i64 0, .int .i64 0, .int .i64 0, .int .i64 0, .bool false, .int .i64 0], .int .i64 2]) ∧ St o its w' := by
  go_enter Tryz.func138, Tryz.ntmps138
  go_wp2_with fail
  have hS0 := h.box #[.int .i64 0, .int .i64 0, .int .i64 0, .int .i64 0, .bool false, .int .i64 0] 105
  generalize w.alloc (.cells #[.int .i64 0, .int .i64 0, .int .i64 0, .int .i64 0, .bool false, .int .i64 0] 105) = W0 at hS0 ⊢
  generalize w.heap.size = B at hS0 ⊢
  have r0 : HdRow W0 r c mo kind xs := hS0.get (j + 1) hj
  refine (hdHas_out i W0 r0 hk).mono ?_
  rintro e w1 ⟨rfl, rfl⟩
  have hlt : B < w1.heap.size := (boxI B #[.int .i64 0, .int .i64 0, .int .i64 0, .int .i64 0, .bool false, .int .i64 0] 105).old w1 (hS0.get 0 rfl) B (by simp [boxI])
  have hne : ¬ B = w1.heap.size := by omega
  have hne' : ¬ w1.heap.size = B := by omega
  have hS1 := hS0.box #[.int .i64 0, .int .i64 0, .int .i64 0, .int .i64 0, .bool false, .int .i64 0] 105
  have b0 : (w1.alloc (.cells #[.int .i64 0, .int .i64 0, .int .i64 0, .int .i64 0, .bool false, .int .i64 0] 105)).cell? ⟨B, 0, none⟩ = some (.int .i64 0) := hS1.cell 1 rfl 0
  have b1 : (w1.alloc (.cells #[.int .i64 0, .int .i64 0, .int .i64 0, .int .i64 0, .bool false, .int .i64 0] 105)).cell? ⟨B, 1, none⟩ = some (.int .i64 0) := hS1.cell 1 rfl 1
  have b2 : (w1.alloc (.cells #[.int .i64 0, .int .i64 0, .int .i64 0, .int .i64 0, .bool false, .int .i64 0] 105)).cell? ⟨B, 2, none⟩ = some (.int .i64 0) := hS1.cell 1 rfl 2
  have b3 : (w1.alloc (.cells #[.int .i64 0, .int .i64 0, .int .i64 0, .int .i64 0, .bool false, .int .i64 0] 105)).cell? ⟨B, 3, none⟩ = some (.int .i64 0) := hS1.cell 1 rfl 3
  have b4 : (w1.alloc (.cells #[.int .i64 0, .int .i64 0, .int .i64 0, .int .i64 0, .bool false, .int .i64 0] 105)).cell? ⟨B, 4, none⟩ = some (.bool false) := hS1.cell 1 rfl 4
  have b5 : (w1.alloc (.cells #[.int .i64 0, .int .i64 0, .int .i64 0, .int .i64 0, .bool false, .int .i64 0] 105)).cell? ⟨B, 5, none⟩ = some (.int .i64 0) := hS1.cell 1 rfl 5
  have f0 : (w1.alloc (.cells #[.int .i64 0, .int .i64 0, .int .i64 0, .int .i64 0, .bool false, .int .i64 0] 105)).frozen? ⟨B, 0, none⟩ = false := hS1.frozen 1 rfl 0
  have f1 : (w1.alloc (.cells #[.int .i64 0, .int .i64 0, .int .i64 0, .int .i64 0, .bool false, .int .i64 0] 105)).frozen? ⟨B, 1, none⟩ = false := hS1.frozen 1 rfl 1
  have f2 : (w1.alloc (.cells #[.int .i64 0, .int .i64 0, .int .i64 0, .int .i64 0, .bool false, .int .i64 0] 105)).frozen? ⟨B, 2, none⟩ = false := hS1.frozen 1 rfl 2
  have f3 : (w1.alloc (.cells #[.int .i64 0, .int .i64 0, .int .i64 0, .int .i64 0, .bool false, .int .i64 0] 105)).frozen? ⟨B, 3, none⟩ = false := hS1.frozen 1 rfl 3
  have f4 : (w1.alloc (.cells #[.int .i64 0, .int .i64 0, .int .i64 0, .int .i64 0, .bool false, .int .i64 0] 105)).frozen? ⟨B, 4, none⟩ = false := hS1.frozen 1 rfl 4
  have f5 : (w1.alloc (.cells #[.int .i64 0, .int .i64 0, .int .i64 0, .int .i64 0, .bool false, .int .i64 0] 105)).frozen? ⟨B, 5, none⟩ = false := hS1.frozen 1 rfl 5
  have HS : Hid (∀ u0 u1 u2 u3 u4 u5 : Value, St o its (((((((w1.alloc (.cells #[.int .i64 0, .int .i64 0, .int .i64 0, .int .i64 0, .bool false, .int .i64 0] 105)).setCell ⟨B, 0, none⟩ (u0)).setCell ⟨B, 1, none⟩ (u1)).setCell ⟨B, 2, none⟩ (u2)).setCell ⟨B, 3, none⟩ (u3)).setCell ⟨B, 4, none⟩ (u4)).setCell ⟨B, 5, none⟩ (u5))) := fun u0 u1 u2 u3 u4 u5 => ((((((hS1.write 1 rfl 0 u0).write 1 rfl 1 u1).write 1 rfl 2 u2).write 1 rfl 3 u3).write 1 rfl 4 u4).write 1 rfl 5 u5).pop.pop
  clear r0 hS0 hS1 h hlt hk
  go_wp2
  exact bodyPost_ret (v := .tuple #[.agg #[.int .i64 0, .int .i64 0, .int .i64 0, .int .i64 0, .bool false, .int .i64 0], .int .i64 2]) (by simp [results, Tryz.results138, go_sem, hne, hne', b0, b1, b2, b3, b4, b5]) rfl ⟨rfl, HS.out _ _ _ _ _ _⟩

end Go.Proofs.YtajfjkhbimehbaaGreat

namespace Go.Proofs.YtajfjkhbimehbaaGreat
open Go.RowKit
set_option linter.unusedVariables false
set_option linter.unusedSimpArgs false
attribute [local go_sem ↓] Go.wp_at_zero Go.wp_at_succ


set_option maxRecDepth 100000 in
set_option maxHeartbeats 1000000 in
theorem hdTrade_hit {o w : World} {its : List It} (h : St o its w) (i j : Nat) {r c : Nat} {mo : Option Nat} {s : Mt} {v : Value} {kind : Int} {xs : List Hd} (hi : its[i]? = some (meterI 109 mo s v)) (hj : its[j]? = some (hdRowI r c mo kind xs)) (hij : i ≠ j)
    {n : Nat} (hw : s.within n) (hn : n ≤ 4611686018427) (k : Nat) (hk : k < xs.length) (a b : Hd) (hb : xs[k].eq a = true) :
    Calls Tryz.prog 116 #[.pointer (some ⟨r, 0, none⟩), .int .i64 k, a.val, b.val] w fun e w' => e = .returned (.tuple #[xs[k].val, .bool true, .int .i64 0]) ∧ ∃ v', St o ((its.set i (meterI 109 mo (s.note kind k 3 true) v')).set j (hdRowI r c mo kind (xs.set k b))) w' := by
  generalize hx : xs[k] = x at hb ⊢
  have hsame : ∀ W, Calls Tryz.prog 131 #[x.val, a.val] W fun e w' => e = .returned (.bool true) ∧ Kept (fun _ => False) W w' := fun W => hb ▸ hdSame x a W
  clear hb
  obtain ⟨xgn, xsa, xsp, xth, xdm, xwy⟩ := x
  obtain ⟨agn, asa, asp, ath, adm, awy⟩ := a
  obtain ⟨bgn, bsa, bsp, bth, bdm, bwy⟩ := b
  simp only [Hd.val] at hsame ⊢
  have HX : Hid (xs[k] = ⟨xgn, xsa, xsp, xth, xdm, xwy⟩) := hx
  clear hx
  have i0 : (0 : Int) ≤ (k : Int) := Int.natCast_nonneg _
  have i1 : (k : Int) < (xs.length : Int) := by omega
  go_enter Tryz.func116, Tryz.ntmps116
  go_wp2_with fail
  have hS0 := ((h.box #[.int .i64 agn, .int .i64 asa, .int .i64 asp, .int .i64 ath, .bool adm, .int .i64 awy] 105).box #[.int .i64 bgn, .int .i64 bsa, .int .i64 bsp, .int .i64 bth, .bool bdm, .int .i64 bwy] 105).box #[.int .i64 0, .int .i64 0, .int .i64 0, .int .i64 0, .bool false, .int .i64 0] 105
  simp only [alloc_size] at hS0
  generalize ((w.alloc (.cells #[.int .i64 agn, .int .i64 asa, .int .i64 asp, .int .i64 ath, .bool adm, .int .i64 awy] 105)).alloc (.cells #[.int .i64 bgn, .int .i64 bsa, .int .i64 bsp, .int .i64 bth, .bool bdm, .int .i64 bwy] 105)).alloc (.cells #[.int .i64 0, .int .i64 0, .int .i64 0, .int .i64 0, .bool false, .int .i64 0] 105) = W0 at hS0 ⊢
  generalize w.heap.size = B at hS0 ⊢
  have r0 : HdRow W0 r c mo kind xs := hS0.get (j + 3) hj
  have hle : (xs.length : Int) ≤ 4096 := by have := r0.small; omega
  refine (hdHas_in k W0 r0 hk).mono ?_
  rintro e w1 ⟨rfl, rfl⟩
  have d := r0.cell k hk
  rw [HX.out] at d
  simp only at d
  obtain ⟨d0, d1, d2, d3, d4, d5⟩ := d
  have e2 : w1.cell? ⟨r, 2, none⟩ = some (.slice (some ⟨c, 0, none⟩) xs.length xs.length) := cell_of_heap r0.row
  have q0 : w1.cell? ⟨B, 0, none⟩ = some (.int .i64 agn) := hS0.cell 2 rfl 0
  have q1 : w1.cell? ⟨B, 1, none⟩ = some (.int .i64 asa) := hS0.cell 2 rfl 1
  have q2 : w1.cell? ⟨B, 2, none⟩ = some (.int .i64 asp) := hS0.cell 2 rfl 2
  have q3 : w1.cell? ⟨B, 3, none⟩ = some (.int .i64 ath) := hS0.cell 2 rfl 3
  have q4 : w1.cell? ⟨B, 4, none⟩ = some (.bool adm) := hS0.cell 2 rfl 4
  have q5 : w1.cell? ⟨B, 5, none⟩ = some (.int .i64 awy) := hS0.cell 2 rfl 5
  have hlt : B < w1.heap.size := hS0.all _ (by simp) |> fun p => (boxI B #[.int .i64 agn, .int .i64 asa, .int .i64 asp, .int .i64 ath, .bool adm, .int .i64 awy] 105).old w1 p B (by simp [boxI])
  have hlc : c < w1.heap.size := lt_of_heap r0.cells
  have hne1 : ¬ B = w1.heap.size := by omega
  have hne2 : ¬ c = w1.heap.size := by omega
  go_wp2_with fail
  have hS4 := hS0.box #[.int .i64 xgn, .int .i64 xsa, .int .i64 xsp, .int .i64 xth, .bool xdm, .int .i64 xwy] 105
  generalize w1.alloc (.cells #[.int .i64 xgn, .int .i64 xsa, .int .i64 xsp, .int .i64 xth, .bool xdm, .int .i64 xwy] 105) = w2 at hS4 ⊢
  clear d0 d1 d2 d3 d4 d5 e2 q0 q1 q2 q3 q4 q5 hlt hlc hne1 hne2 r0 hS0 h
  generalize w1.heap.size = H at hS4 ⊢
  refine (hsame w2).mono ?_
  rintro e w3 ⟨rfl, k5⟩
  have hS5 := hS4.calm k5
  clear k5 hS4 hsame
  have r3 : HdRow w3 r c mo kind xs := hS5.get (j + 4) hj
  have hnote : Calls Tryz.prog 111 #[mptr mo, .int .i64 kind, .int .i64 k, .int .i64 3, .bool true] w3.drew fun e w' => e = .returned (.tuple #[]) ∧ ∃ v', St o (boxI H #[.int .i64 xgn, .int .i64 xsa, .int .i64 xsp, .int .i64 xth, .bool xdm, .int .i64 xwy] 105 :: boxI (B + 1 + 1) #[.int .i64 0, .int .i64 0, .int .i64 0, .int .i64 0, .bool false, .int .i64 0] 105 :: boxI (B + 1) #[.int .i64 bgn, .int .i64 bsa, .int .i64 bsp, .int .i64 bth, .bool bdm, .int .i64 bwy] 105 :: boxI B #[.int .i64 agn, .int .i64 asa, .int .i64 asp, .int .i64 ath, .bool adm, .int .i64 awy] 105 :: its.set i (meterI 109 mo (s.note kind k 3 true) v')) w' :=
    note_st hS5.drew (i + 4) hi hw hn kind k 3 true
  have e0 : w3.cell? ⟨r, 0, none⟩ = some (mptr mo) := cell_of_heap r3.row
  have e1 : w3.cell? ⟨r, 1, none⟩ = some (.int .i64 kind) := cell_of_heap r3.row
  clear r3 hS5
  go_wp2_with fail
  go_region_held3 (fun w' => w'.cell? ⟨r, 0, none⟩ = some (mptr mo) ∧ w'.cell? ⟨r, 1, none⟩ = some (.int .i64 kind)) (first | go_keep | exact ⟨cell_of_heap q.out.row, cell_of_heap q.out.row⟩)
    (first | (go_at_call 111; refine hnote.mono ?_; rintro e w' ⟨rfl, v', hS⟩; have q : Hid (HdRow w' r c mo kind xs) := hS.get (j + 4) (set_other hj hij)))
  have z0 : w'.cell? ⟨H, 0, none⟩ = some (.int .i64 xgn) := hS.cell 0 rfl 0
  have z1 : w'.cell? ⟨H, 1, none⟩ = some (.int .i64 xsa) := hS.cell 0 rfl 1
  have z2 : w'.cell? ⟨H, 2, none⟩ = some (.int .i64 xsp) := hS.cell 0 rfl 2
  have z3 : w'.cell? ⟨H, 3, none⟩ = some (.int .i64 xth) := hS.cell 0 rfl 3
  have z4 : w'.cell? ⟨H, 4, none⟩ = some (.bool xdm) := hS.cell 0 rfl 4
  have z5 : w'.cell? ⟨H, 5, none⟩ = some (.int .i64 xwy) := hS.cell 0 rfl 5
  have y0 : w'.cell? ⟨B + 1 + 1, 0, none⟩ = some (.int .i64 0) := hS.cell 1 rfl 0
  have y1 : w'.cell? ⟨B + 1 + 1, 1, none⟩ = some (.int .i64 0) := hS.cell 1 rfl 1
  have y2 : w'.cell? ⟨B + 1 + 1, 2, none⟩ = some (.int .i64 0) := hS.cell 1 rfl 2
  have y3 : w'.cell? ⟨B + 1 + 1, 3, none⟩ = some (.int .i64 0) := hS.cell 1 rfl 3
  have y4 : w'.cell? ⟨B + 1 + 1, 4, none⟩ = some (.bool false) := hS.cell 1 rfl 4
  have y5 : w'.cell? ⟨B + 1 + 1, 5, none⟩ = some (.int .i64 0) := hS.cell 1 rfl 5
  have v0 : w'.frozen? ⟨B + 1 + 1, 0, none⟩ = false := hS.frozen 1 rfl 0
  have v1 : w'.frozen? ⟨B + 1 + 1, 1, none⟩ = false := hS.frozen 1 rfl 1
  have v2 : w'.frozen? ⟨B + 1 + 1, 2, none⟩ = false := hS.frozen 1 rfl 2
  have v3 : w'.frozen? ⟨B + 1 + 1, 3, none⟩ = false := hS.frozen 1 rfl 3
  have v4 : w'.frozen? ⟨B + 1 + 1, 4, none⟩ = false := hS.frozen 1 rfl 4
  have v5 : w'.frozen? ⟨B + 1 + 1, 5, none⟩ = false := hS.frozen 1 rfl 5
  have e2 : w'.cell? ⟨r, 2, none⟩ = some (.slice (some ⟨c, 0, none⟩) xs.length xs.length) := cell_of_heap q.out.row
  have d := q.out.cell k hk
  obtain ⟨d0, d1, d2, d3, d4, d5⟩ := d
  have b0 : w'.cell? ⟨B + 1, 0, none⟩ = some (.int .i64 bgn) := hS.cell 2 rfl 0
  have b1 : w'.cell? ⟨B + 1, 1, none⟩ = some (.int .i64 bsa) := hS.cell 2 rfl 1
  have b2 : w'.cell? ⟨B + 1, 2, none⟩ = some (.int .i64 bsp) := hS.cell 2 rfl 2
  have b3 : w'.cell? ⟨B + 1, 3, none⟩ = some (.int .i64 bth) := hS.cell 2 rfl 3
  have b4 : w'.cell? ⟨B + 1, 4, none⟩ = some (.bool bdm) := hS.cell 2 rfl 4
  have b5 : w'.cell? ⟨B + 1, 5, none⟩ = some (.int .i64 bwy) := hS.cell 2 rfl 5
  have l0 : w'.frozen? ⟨c, k * 6, none⟩ = false := frozen_of_heap q.out.cells
  have l1 : w'.frozen? ⟨c, k * 6 + 1, none⟩ = false := frozen_of_heap q.out.cells
  have l2 : w'.frozen? ⟨c, k * 6 + 2, none⟩ = false := frozen_of_heap q.out.cells
  have l3 : w'.frozen? ⟨c, k * 6 + 3, none⟩ = false := frozen_of_heap q.out.cells
  have l4 : w'.frozen? ⟨c, k * 6 + 4, none⟩ = false := frozen_of_heap q.out.cells
  have l5 : w'.frozen? ⟨c, k * 6 + 5, none⟩ = false := frozen_of_heap q.out.cells
  have n1 : ¬ c = B + 1 := hS.ne (j + 4) 2 (set_other hj hij) rfl (by omega) (by simp [hdRowI]) (by simp [boxI])
  have n2 : ¬ c = B + 1 + 1 := hS.ne (j + 4) 1 (set_other hj hij) rfl (by omega) (by simp [hdRowI]) (by simp [boxI])
  have n3 : ¬ B + 1 = c := fun e => n1 e.symm
  have n4 : ¬ B + 1 + 1 = c := fun e => n2 e.symm
  have n5 : ¬ H = c := hS.ne 0 (j + 4) rfl (set_other hj hij) (by omega) (by simp [boxI]) (by simp [hdRowI])
  have n6 : ¬ H = B + 1 + 1 := hS.ne 0 1 rfl rfl (by omega) (by simp [boxI]) (by simp [boxI])
  have n7 : ¬ r = c := q.out.rc
  have hT := hS.hdStored (j + 4) (set_other hj hij) k hk ⟨bgn, bsa, bsp, bth, bdm, bwy⟩
  have HS : Hid (∀ u0 u1 u2 u3 u4 u5 : Value, St o ((its.set i (meterI 109 mo (s.note kind k 3 true) v')).set j (hdRowI r c mo kind (xs.set k ⟨bgn, bsa, bsp, bth, bdm, bwy⟩))) ((((((((((((w'.setCell ⟨c, k * 6, none⟩ (.int .i64 bgn)).setCell ⟨c, k * 6 + 1, none⟩ (.int .i64 bsa)).setCell ⟨c, k * 6 + 2, none⟩ (.int .i64 bsp)).setCell ⟨c, k * 6 + 3, none⟩ (.int .i64 bth)).setCell ⟨c, k * 6 + 4, none⟩ (.bool bdm)).setCell ⟨c, k * 6 + 5, none⟩ (.int .i64 bwy)).setCell ⟨B + 1 + 1, 0, none⟩ (u0)).setCell ⟨B + 1 + 1, 1, none⟩ (u1)).setCell ⟨B + 1 + 1, 2, none⟩ (u2)).setCell ⟨B + 1 + 1, 3, none⟩ (u3)).setCell ⟨B + 1 + 1, 4, none⟩ (u4)).setCell ⟨B + 1 + 1, 5, none⟩ (u5))) := fun u0 u1 u2 u3 u4 u5 => ((((((hT.write 1 rfl 0 u0).write 1 rfl 1 u1).write 1 rfl 2 u2).write 1 rfl 3 u3).write 1 rfl 4 u4).write 1 rfl 5 u5).pop.pop.pop.pop
  clear q hnote hS hT
  go_wp2_with fail
  go_region
  all_goals
    go_wp2
    exact bodyPost_ret (v := .tuple #[.agg #[.int .i64 xgn, .int .i64 xsa, .int .i64 xsp, .int .i64 xth, .bool xdm, .int .i64 xwy], .bool true, .int .i64 0]) (by simp [results, Tryz.results116, go_sem, y0, y1, y2, y3, y4, y5, n1, n2, n3, n4, n5, n6]) rfl ⟨rfl, v', by first | exact (HS.out _ _ _ _ _ _).drew | exact HS.out _ _ _ _ _ _ | exact (HS.out _ _ _ _ _ _).drew.drew⟩


set_option maxRecDepth 100000 in
set_option maxHeartbeats 1000000 in
theorem hdTrade_miss {o w : World} {its : List It} (h : St o its w) (i j : Nat) {r c : Nat} {mo : Option Nat} {s : Mt} {v : Value} {kind : Int} {xs : List Hd} (hi : its[i]? = some (meterI 109 mo s v)) (hj : its[j]? = some (hdRowI r c mo kind xs)) (hij : i ≠ j)
    {n : Nat} (hw : s.within n) (hn : n ≤ 4611686018427) (k : Nat) (hk : k < xs.length) (a b : Hd) (hb : xs[k].eq a = false) :
    Calls Tryz.prog 116 #[.pointer (some ⟨r, 0, none⟩), .int .i64 k, a.val, b.val] w fun e w' => e = .returned (.tuple #[xs[k].val, .bool false, .int .i64 0]) ∧ ∃ v', St o (its.set i (meterI 109 mo (s.note kind k 3 false) v')) w' := by
  generalize hx : xs[k] = x at hb ⊢
  have hsame : ∀ W, Calls Tryz.prog 131 #[x.val, a.val] W fun e w' => e = .returned (.bool false) ∧ Kept (fun _ => False) W w' := fun W => hb ▸ hdSame x a W
  clear hb
  obtain ⟨xgn, xsa, xsp, xth, xdm, xwy⟩ := x
  obtain ⟨agn, asa, asp, ath, adm, awy⟩ := a
  obtain ⟨bgn, bsa, bsp, bth, bdm, bwy⟩ := b
  simp only [Hd.val] at hsame ⊢
  have HX : Hid (xs[k] = ⟨xgn, xsa, xsp, xth, xdm, xwy⟩) := hx
  clear hx
  have i0 : (0 : Int) ≤ (k : Int) := Int.natCast_nonneg _
  have i1 : (k : Int) < (xs.length : Int) := by omega
  go_enter Tryz.func116, Tryz.ntmps116
  go_wp2_with fail
  have hS0 := ((h.box #[.int .i64 agn, .int .i64 asa, .int .i64 asp, .int .i64 ath, .bool adm, .int .i64 awy] 105).box #[.int .i64 bgn, .int .i64 bsa, .int .i64 bsp, .int .i64 bth, .bool bdm, .int .i64 bwy] 105).box #[.int .i64 0, .int .i64 0, .int .i64 0, .int .i64 0, .bool false, .int .i64 0] 105
  simp only [alloc_size] at hS0
  generalize ((w.alloc (.cells #[.int .i64 agn, .int .i64 asa, .int .i64 asp, .int .i64 ath, .bool adm, .int .i64 awy] 105)).alloc (.cells #[.int .i64 bgn, .int .i64 bsa, .int .i64 bsp, .int .i64 bth, .bool bdm, .int .i64 bwy] 105)).alloc (.cells #[.int .i64 0, .int .i64 0, .int .i64 0, .int .i64 0, .bool false, .int .i64 0] 105) = W0 at hS0 ⊢
  generalize w.heap.size = B at hS0 ⊢
  have r0 : HdRow W0 r c mo kind xs := hS0.get (j + 3) hj
  have hle : (xs.length : Int) ≤ 4096 := by have := r0.small; omega
  refine (hdHas_in k W0 r0 hk).mono ?_
  rintro e w1 ⟨rfl, rfl⟩
  have d := r0.cell k hk
  rw [HX.out] at d
  simp only at d
  obtain ⟨d0, d1, d2, d3, d4, d5⟩ := d
  have e2 : w1.cell? ⟨r, 2, none⟩ = some (.slice (some ⟨c, 0, none⟩) xs.length xs.length) := cell_of_heap r0.row
  have q0 : w1.cell? ⟨B, 0, none⟩ = some (.int .i64 agn) := hS0.cell 2 rfl 0
  have q1 : w1.cell? ⟨B, 1, none⟩ = some (.int .i64 asa) := hS0.cell 2 rfl 1
  have q2 : w1.cell? ⟨B, 2, none⟩ = some (.int .i64 asp) := hS0.cell 2 rfl 2
  have q3 : w1.cell? ⟨B, 3, none⟩ = some (.int .i64 ath) := hS0.cell 2 rfl 3
  have q4 : w1.cell? ⟨B, 4, none⟩ = some (.bool adm) := hS0.cell 2 rfl 4
  have q5 : w1.cell? ⟨B, 5, none⟩ = some (.int .i64 awy) := hS0.cell 2 rfl 5
  have hlt : B < w1.heap.size := hS0.all _ (by simp) |> fun p => (boxI B #[.int .i64 agn, .int .i64 asa, .int .i64 asp, .int .i64 ath, .bool adm, .int .i64 awy] 105).old w1 p B (by simp [boxI])
  have hlc : c < w1.heap.size := lt_of_heap r0.cells
  have hne1 : ¬ B = w1.heap.size := by omega
  have hne2 : ¬ c = w1.heap.size := by omega
  go_wp2_with fail
  have hS4 := hS0.box #[.int .i64 xgn, .int .i64 xsa, .int .i64 xsp, .int .i64 xth, .bool xdm, .int .i64 xwy] 105
  generalize w1.alloc (.cells #[.int .i64 xgn, .int .i64 xsa, .int .i64 xsp, .int .i64 xth, .bool xdm, .int .i64 xwy] 105) = w2 at hS4 ⊢
  clear d0 d1 d2 d3 d4 d5 e2 q0 q1 q2 q3 q4 q5 hlt hlc hne1 hne2 r0 hS0 h
  generalize w1.heap.size = H at hS4 ⊢
  refine (hsame w2).mono ?_
  rintro e w3 ⟨rfl, k5⟩
  have hS5 := hS4.calm k5
  clear k5 hS4 hsame
  have r3 : HdRow w3 r c mo kind xs := hS5.get (j + 4) hj
  have hnote : Calls Tryz.prog 111 #[mptr mo, .int .i64 kind, .int .i64 k, .int .i64 3, .bool false] w3.drew fun e w' => e = .returned (.tuple #[]) ∧ ∃ v', St o (boxI H #[.int .i64 xgn, .int .i64 xsa, .int .i64 xsp, .int .i64 xth, .bool xdm, .int .i64 xwy] 105 :: boxI (B + 1 + 1) #[.int .i64 0, .int .i64 0, .int .i64 0, .int .i64 0, .bool false, .int .i64 0] 105 :: boxI (B + 1) #[.int .i64 bgn, .int .i64 bsa, .int .i64 bsp, .int .i64 bth, .bool bdm, .int .i64 bwy] 105 :: boxI B #[.int .i64 agn, .int .i64 asa, .int .i64 asp, .int .i64 ath, .bool adm, .int .i64 awy] 105 :: its.set i (meterI 109 mo (s.note kind k 3 false) v')) w' :=
    note_st hS5.drew (i + 4) hi hw hn kind k 3 false
  have e0 : w3.cell? ⟨r, 0, none⟩ = some (mptr mo) := cell_of_heap r3.row
  have e1 : w3.cell? ⟨r, 1, none⟩ = some (.int .i64 kind) := cell_of_heap r3.row
  clear r3 hS5
  go_wp2_with fail
  go_region_held3 (fun w' => w'.cell? ⟨r, 0, none⟩ = some (mptr mo) ∧ w'.cell? ⟨r, 1, none⟩ = some (.int .i64 kind)) (first | go_keep | exact ⟨cell_of_heap q.out.row, cell_of_heap q.out.row⟩)
    (first | (go_at_call 111; refine hnote.mono ?_; rintro e w' ⟨rfl, v', hS⟩; have q : Hid (HdRow w' r c mo kind xs) := hS.get (j + 4) (set_other hj hij)))
  have z0 : w'.cell? ⟨H, 0, none⟩ = some (.int .i64 xgn) := hS.cell 0 rfl 0
  have z1 : w'.cell? ⟨H, 1, none⟩ = some (.int .i64 xsa) := hS.cell 0 rfl 1
  have z2 : w'.cell? ⟨H, 2, none⟩ = some (.int .i64 xsp) := hS.cell 0 rfl 2
  have z3 : w'.cell? ⟨H, 3, none⟩ = some (.int .i64 xth) := hS.cell 0 rfl 3
  have z4 : w'.cell? ⟨H, 4, none⟩ = some (.bool xdm) := hS.cell 0 rfl 4
  have z5 : w'.cell? ⟨H, 5, none⟩ = some (.int .i64 xwy) := hS.cell 0 rfl 5
  have y0 : w'.cell? ⟨B + 1 + 1, 0, none⟩ = some (.int .i64 0) := hS.cell 1 rfl 0
  have y1 : w'.cell? ⟨B + 1 + 1, 1, none⟩ = some (.int .i64 0) := hS.cell 1 rfl 1
  have y2 : w'.cell? ⟨B + 1 + 1, 2, none⟩ = some (.int .i64 0) := hS.cell 1 rfl 2
  have y3 : w'.cell? ⟨B + 1 + 1, 3, none⟩ = some (.int .i64 0) := hS.cell 1 rfl 3
  have y4 : w'.cell? ⟨B + 1 + 1, 4, none⟩ = some (.bool false) := hS.cell 1 rfl 4
  have y5 : w'.cell? ⟨B + 1 + 1, 5, none⟩ = some (.int .i64 0) := hS.cell 1 rfl 5
  have v0 : w'.frozen? ⟨B + 1 + 1, 0, none⟩ = false := hS.frozen 1 rfl 0
  have v1 : w'.frozen? ⟨B + 1 + 1, 1, none⟩ = false := hS.frozen 1 rfl 1
  have v2 : w'.frozen? ⟨B + 1 + 1, 2, none⟩ = false := hS.frozen 1 rfl 2
  have v3 : w'.frozen? ⟨B + 1 + 1, 3, none⟩ = false := hS.frozen 1 rfl 3
  have v4 : w'.frozen? ⟨B + 1 + 1, 4, none⟩ = false := hS.frozen 1 rfl 4
  have v5 : w'.frozen? ⟨B + 1 + 1, 5, none⟩ = false := hS.frozen 1 rfl 5
  have n6 : ¬ H = B + 1 + 1 := hS.ne 0 1 rfl rfl (by omega) (by simp [boxI]) (by simp [boxI])
  have HS : Hid (∀ u0 u1 u2 u3 u4 u5 : Value, St o (its.set i (meterI 109 mo (s.note kind k 3 false) v')) ((((((w'.setCell ⟨B + 1 + 1, 0, none⟩ (u0)).setCell ⟨B + 1 + 1, 1, none⟩ (u1)).setCell ⟨B + 1 + 1, 2, none⟩ (u2)).setCell ⟨B + 1 + 1, 3, none⟩ (u3)).setCell ⟨B + 1 + 1, 4, none⟩ (u4)).setCell ⟨B + 1 + 1, 5, none⟩ (u5))) := fun u0 u1 u2 u3 u4 u5 => ((((((hS.write 1 rfl 0 u0).write 1 rfl 1 u1).write 1 rfl 2 u2).write 1 rfl 3 u3).write 1 rfl 4 u4).write 1 rfl 5 u5).pop.pop.pop.pop
  clear q hnote hS
  go_wp2
  exact bodyPost_ret (v := .tuple #[.agg #[.int .i64 xgn, .int .i64 xsa, .int .i64 xsp, .int .i64 xth, .bool xdm, .int .i64 xwy], .bool false, .int .i64 0]) (by simp [results, Tryz.results116, go_sem, y0, y1, y2, y3, y4, y5, n6]) rfl ⟨rfl, v', HS.out _ _ _ _ _ _⟩


set_option maxRecDepth 100000 in
set_option maxHeartbeats 1000000 in
theorem hdTrade_out {o w : World} {its : List It} (h : St o its w) (j : Nat) {r c : Nat} {mo : Option Nat} {kind : Int} {xs : List Hd} (hj : its[j]? = some (hdRowI r c mo kind xs)) (i : Int) (hk : ¬ (0 ≤ i ∧ i < xs.length)) (a b : Hd) :
    Calls Tryz.prog 116 #[.pointer (some ⟨r, 0, none⟩), .int .i64 i, a.val, b.val] w fun e w' => e = .returned (.tuple #[.agg #[.int .i64 0, .int .i64 0, .int .i64 0, .int .i64 0, .bool false, .int .i64 0], .bool false, .int .i64 2]) ∧ St o its w' := by
  obtain ⟨agn, asa, asp, ath, adm, awy⟩ := a
  obtain ⟨bgn, bsa, bsp, bth, bdm, bwy⟩ := b
  simp only [Hd.val]
  go_enter Tryz.func116, Tryz.ntmps116
  go_wp2_with fail
  have hS0 := ((h.box #[.int .i64 agn, .int .i64 asa, .int .i64 asp, .int .i64 ath, .bool adm, .int .i64 awy] 105).box #[.int .i64 bgn, .int .i64 bsa, .int .i64 bsp, .int .i64 bth, .bool bdm, .int .i64 bwy] 105).box #[.int .i64 0, .int .i64 0, .int .i64 0, .int .i64 0, .bool false, .int .i64 0] 105
  simp only [alloc_size] at hS0
  generalize ((w.alloc (.cells #[.int .i64 agn, .int .i64 asa, .int .i64 asp, .int .i64 ath, .bool adm, .int .i64 awy] 105)).alloc (.cells #[.int .i64 bgn, .int .i64 bsa, .int .i64 bsp, .int .i64 bth, .bool bdm, .int .i64 bwy] 105)).alloc (.cells #[.int .i64 0, .int .i64 0, .int .i64 0, .int .i64 0, .bool false, .int .i64 0] 105) = W0 at hS0 ⊢
  generalize w.heap.size + 1 + 1 = B at hS0 ⊢
  generalize w.heap.size + 1 = B1 at hS0 ⊢
  generalize w.heap.size = B2 at hS0 ⊢
  have r0 : HdRow W0 r c mo kind xs := hS0.get (j + 3) hj
  refine (hdHas_out i W0 r0 hk).mono ?_
  rintro e w1 ⟨rfl, rfl⟩
  have hlt : B < w1.heap.size := (boxI B #[.int .i64 0, .int .i64 0, .int .i64 0, .int .i64 0, .bool false, .int .i64 0] 105).old w1 (hS0.get 0 rfl) B (by simp [boxI])
  have hne : ¬ B = w1.heap.size := by omega
  have hne' : ¬ w1.heap.size = B := by omega
  have hS1 := hS0.box #[.int .i64 0, .int .i64 0, .int .i64 0, .int .i64 0, .bool false, .int .i64 0] 105
  have b0 : (w1.alloc (.cells #[.int .i64 0, .int .i64 0, .int .i64 0, .int .i64 0, .bool false, .int .i64 0] 105)).cell? ⟨B, 0, none⟩ = some (.int .i64 0) := hS1.cell 1 rfl 0
  have b1 : (w1.alloc (.cells #[.int .i64 0, .int .i64 0, .int .i64 0, .int .i64 0, .bool false, .int .i64 0] 105)).cell? ⟨B, 1, none⟩ = some (.int .i64 0) := hS1.cell 1 rfl 1
  have b2 : (w1.alloc (.cells #[.int .i64 0, .int .i64 0, .int .i64 0, .int .i64 0, .bool false, .int .i64 0] 105)).cell? ⟨B, 2, none⟩ = some (.int .i64 0) := hS1.cell 1 rfl 2
  have b3 : (w1.alloc (.cells #[.int .i64 0, .int .i64 0, .int .i64 0, .int .i64 0, .bool false, .int .i64 0] 105)).cell? ⟨B, 3, none⟩ = some (.int .i64 0) := hS1.cell 1 rfl 3
  have b4 : (w1.alloc (.cells #[.int .i64 0, .int .i64 0, .int .i64 0, .int .i64 0, .bool false, .int .i64 0] 105)).cell? ⟨B, 4, none⟩ = some (.bool false) := hS1.cell 1 rfl 4
  have b5 : (w1.alloc (.cells #[.int .i64 0, .int .i64 0, .int .i64 0, .int .i64 0, .bool false, .int .i64 0] 105)).cell? ⟨B, 5, none⟩ = some (.int .i64 0) := hS1.cell 1 rfl 5
  have f0 : (w1.alloc (.cells #[.int .i64 0, .int .i64 0, .int .i64 0, .int .i64 0, .bool false, .int .i64 0] 105)).frozen? ⟨B, 0, none⟩ = false := hS1.frozen 1 rfl 0
  have f1 : (w1.alloc (.cells #[.int .i64 0, .int .i64 0, .int .i64 0, .int .i64 0, .bool false, .int .i64 0] 105)).frozen? ⟨B, 1, none⟩ = false := hS1.frozen 1 rfl 1
  have f2 : (w1.alloc (.cells #[.int .i64 0, .int .i64 0, .int .i64 0, .int .i64 0, .bool false, .int .i64 0] 105)).frozen? ⟨B, 2, none⟩ = false := hS1.frozen 1 rfl 2
  have f3 : (w1.alloc (.cells #[.int .i64 0, .int .i64 0, .int .i64 0, .int .i64 0, .bool false, .int .i64 0] 105)).frozen? ⟨B, 3, none⟩ = false := hS1.frozen 1 rfl 3
  have f4 : (w1.alloc (.cells #[.int .i64 0, .int .i64 0, .int .i64 0, .int .i64 0, .bool false, .int .i64 0] 105)).frozen? ⟨B, 4, none⟩ = false := hS1.frozen 1 rfl 4
  have f5 : (w1.alloc (.cells #[.int .i64 0, .int .i64 0, .int .i64 0, .int .i64 0, .bool false, .int .i64 0] 105)).frozen? ⟨B, 5, none⟩ = false := hS1.frozen 1 rfl 5
  have HS : Hid (∀ u0 u1 u2 u3 u4 u5 : Value, St o its (((((((w1.alloc (.cells #[.int .i64 0, .int .i64 0, .int .i64 0, .int .i64 0, .bool false, .int .i64 0] 105)).setCell ⟨B, 0, none⟩ (u0)).setCell ⟨B, 1, none⟩ (u1)).setCell ⟨B, 2, none⟩ (u2)).setCell ⟨B, 3, none⟩ (u3)).setCell ⟨B, 4, none⟩ (u4)).setCell ⟨B, 5, none⟩ (u5))) := fun u0 u1 u2 u3 u4 u5 => ((((((hS1.write 1 rfl 0 u0).write 1 rfl 1 u1).write 1 rfl 2 u2).write 1 rfl 3 u3).write 1 rfl 4 u4).write 1 rfl 5 u5).pop.pop.pop.pop
  clear r0 hS0 hS1 h hlt hk
  go_wp2
  exact bodyPost_ret (v := .tuple #[.agg #[.int .i64 0, .int .i64 0, .int .i64 0, .int .i64 0, .bool false, .int .i64 0], .bool false, .int .i64 2]) (by simp [results, Tryz.results116, go_sem, hne, hne', b0, b1, b2, b3, b4, b5]) rfl ⟨rfl, HS.out _ _ _ _ _ _⟩

end Go.Proofs.YtajfjkhbimehbaaGreat

namespace Go.Proofs.YtajfjkhbimehbaaGreat
open Go.RowKit
set_option linter.unusedVariables false
set_option linter.unusedSimpArgs false
attribute [local go_sem ↓] Go.wp_at_zero Go.wp_at_succ


set_option maxRecDepth 100000 in
set_option maxHeartbeats 1000000 in
theorem hdAll_st {o w : World} {its : List It} (h : St o its w) (j : Nat) {r c : Nat} {mo : Option Nat} {kind : Int} {xs : List Hd} (hj : its[j]? = some (hdRowI r c mo kind xs)) :
    Calls Tryz.prog 115 #[.pointer (some ⟨r, 0, none⟩)] w fun e w' => ∃ v', e = .returned v' ∧ St o (ownI 105 6 v' xs.length (hdCells xs) :: its) w' := by
  obtain ⟨i0, hi0, hz0, hz1, hz2⟩ := info_parts Tryz.infoHd
  have hr : HdRow w r c mo kind xs := h.get j hj
  have hE : ∀ a n c w, (binOp .eql 168 (.slice a n c) (.slice none 0 0)).run Tryz.prog w = .ok (.bool a.isNone) w := fun a n c w => Lib.run_eql_slice_nil w 168 105 a n c 0 0 Tryz.underlying168
  have c2 : w.cell? ⟨r, 2, none⟩ = some (.slice (some ⟨c, 0, none⟩) xs.length xs.length) := cell_of_heap hr.row
  have hcl : Calls Tryz.prog 129 #[.slice (some ⟨c, 0, none⟩) xs.length xs.length] w fun e w' => ∃ v', e = .returned v' ∧ w'.ownsRow w.heap.size 105 6 v' xs.length (hdCells xs) ∧ Kept (fun _ => False) w w' := by
    have hcells : ∀ j u, (hdCells xs)[j]? = some u → (w.alloc (.cells #[] 105)).cell? ((⟨c, 0, none⟩ : Addr).add j) = some u := by
      have h2 : (w.alloc (.cells #[] 105)).heap[c]? = some (.cells (hdCells xs).toArray 105 (0, 0)) := (Below.heap_alloc w _ c (lt_of_heap hr.cells)).trans hr.cells
      intro j u hu
      exact World.news_of_block (cs := (hdCells xs).toArray) h2 j u (by simpa using hu)
    have hsm := hr.small
    have hlen := hdCells_length xs
    have h1 := hdCells_one xs
    generalize hdCells xs = TC at *
    clear c2 hr h hj
    go_enter Tryz.func129, Tryz.ntmps129
    go_wp2_with (at_builtin; refine wpList_append_own_at _ rfl (.tmp 5) (.tmp 6) 168 rfl w.heap.size 105 i0 _ 6 48 Tryz.underlying168 hi0 hz0 hz1 hz2 rfl (by omega) (.slice (some ⟨w.heap.size, 0, none⟩) 0 0) 0 [] rfl (World.ownsRow_made w #[] 0 (Nat.le_refl _) (Nat.zero_le _) rfl) ⟨c, 0, none⟩ xs.length xs.length TC rfl hlen hcells h1 (by unfold maxLen; omega) (by omega) (by simp) ?_; intro v' w1 hown' hgrow hnil hat)
    go_ret
    refine ⟨_, rfl, by simpa using hown', ((Kept.refl _ w).alloc _).grown hgrow (fun k e => ?_)⟩
    right
    simp [Value.ownBlock] at e
    omega
  have hS : Hid (∀ v' w', w'.ownsRow w.heap.size 105 6 v' xs.length (hdCells xs) → Kept (fun _ => False) w w' → St o (ownI 105 6 v' xs.length (hdCells xs) :: its) w') := fun v' w' p k => h.own k p
  clear hr h hj
  generalize hdCells xs = TC at *
  go_enter Tryz.func115, Tryz.ntmps115
  go_wp2_with (go_at_call 129; refine hcl.mono ?_; rintro e w' ⟨v', rfl, ho', hk⟩)
  go_ret
  exact ⟨_, rfl, hS.out _ _ ho' hk⟩

end Go.Proofs.YtajfjkhbimehbaaGreat
