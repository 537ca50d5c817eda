/- Rows of Hd: Trade. -/
import Derived.Test.YtajfjkhbimehbaaHd
import Derived.Test.YtajfjkhbimehbaaNote
namespace Go.Proofs.Ytajfjkhbimehbaa
open Go.RowKit
set_option linter.unusedVariables false
set_option linter.unusedSimpArgs false
attribute [local go_sem ↓] Go.wp_at_zero Go.wp_at_succ


set_option maxRecDepth 100000 in
set_option maxHeartbeats 1000000 in
theorem hdTrade_hit {o w : World} {its : List It} (h : St o its w) (i j : Nat) {r c : Nat} {mo : Option Nat} {s : Mt} {v : Value} {kind : Int} {xs : List Hd} (hi : its[i]? = some (meterI 115 mo s v)) (hj : its[j]? = some (hdRowI r c mo kind xs)) (hij : i ≠ j)
    {n : Nat} (hw : s.within n) (hn : n ≤ 4611686018427) (k : Nat) (hk : k < xs.length) (a b : Hd) (hb : xs[k].eq a = true) :
    Calls Try.prog 73 #[.pointer (some ⟨r, 0, none⟩), .int .i64 k, a.val, b.val] w fun e w' => e = .returned (.tuple #[xs[k].val, .bool true, .int .i64 0]) ∧ ∃ v', St o ((its.set i (meterI 115 mo (s.note kind k 3 true) v')).set j (hdRowI r c mo kind (xs.set k b))) w' := by
  generalize hx : xs[k] = x at hb ⊢
  have hsame : ∀ W, Calls Try.prog 89 #[x.val, a.val] W fun e w' => e = .returned (.bool true) ∧ Kept (fun _ => False) W w' := fun W => hb ▸ hdSame x a W
  clear hb
  obtain ⟨xgn, xsa, xsp, xth, xdm, xwy⟩ := x
  obtain ⟨agn, asa, asp, ath, adm, awy⟩ := a
  obtain ⟨bgn, bsa, bsp, bth, bdm, bwy⟩ := b
  simp only [Hd.val] at hsame ⊢
  have HX : Hid (xs[k] = ⟨xgn, xsa, xsp, xth, xdm, xwy⟩) := hx
  clear hx
  have i0 : (0 : Int) ≤ (k : Int) := Int.natCast_nonneg _
  have i1 : (k : Int) < (xs.length : Int) := by omega
  go_enter Try.func73, Try.ntmps73
  go_wp2_with fail
  have hS0 := ((h.box #[.int .i64 agn, .int .i64 asa, .int .i64 asp, .int .i64 ath, .bool adm, .int .i64 awy] 47).box #[.int .i64 bgn, .int .i64 bsa, .int .i64 bsp, .int .i64 bth, .bool bdm, .int .i64 bwy] 47).box #[.int .i64 0, .int .i64 0, .int .i64 0, .int .i64 0, .bool false, .int .i64 0] 47
  simp only [alloc_size] at hS0
  generalize ((w.alloc (.cells #[.int .i64 agn, .int .i64 asa, .int .i64 asp, .int .i64 ath, .bool adm, .int .i64 awy] 47)).alloc (.cells #[.int .i64 bgn, .int .i64 bsa, .int .i64 bsp, .int .i64 bth, .bool bdm, .int .i64 bwy] 47)).alloc (.cells #[.int .i64 0, .int .i64 0, .int .i64 0, .int .i64 0, .bool false, .int .i64 0] 47) = W0 at hS0 ⊢
  generalize w.heap.size = B at hS0 ⊢
  have r0 : HdRow W0 r c mo kind xs := hS0.get (j + 3) hj
  have hle : (xs.length : Int) ≤ 4096 := by have := r0.small; omega
  refine (hdHas_in k W0 r0 hk).mono ?_
  rintro e w1 ⟨rfl, rfl⟩
  have d := r0.cell k hk
  rw [HX.out] at d
  simp only at d
  obtain ⟨d0, d1, d2, d3, d4, d5⟩ := d
  have e2 : w1.cell? ⟨r, 2, none⟩ = some (.slice (some ⟨c, 0, none⟩) xs.length xs.length) := cell_of_heap r0.row
  have q0 : w1.cell? ⟨B, 0, none⟩ = some (.int .i64 agn) := hS0.cell 2 rfl 0
  have q1 : w1.cell? ⟨B, 1, none⟩ = some (.int .i64 asa) := hS0.cell 2 rfl 1
  have q2 : w1.cell? ⟨B, 2, none⟩ = some (.int .i64 asp) := hS0.cell 2 rfl 2
  have q3 : w1.cell? ⟨B, 3, none⟩ = some (.int .i64 ath) := hS0.cell 2 rfl 3
  have q4 : w1.cell? ⟨B, 4, none⟩ = some (.bool adm) := hS0.cell 2 rfl 4
  have q5 : w1.cell? ⟨B, 5, none⟩ = some (.int .i64 awy) := hS0.cell 2 rfl 5
  have hlt : B < w1.heap.size := hS0.all _ (by simp) |> fun p => (boxI B #[.int .i64 agn, .int .i64 asa, .int .i64 asp, .int .i64 ath, .bool adm, .int .i64 awy] 47).old w1 p B (by simp [boxI])
  have hlc : c < w1.heap.size := lt_of_heap r0.cells
  have hne1 : ¬ B = w1.heap.size := by omega
  have hne2 : ¬ c = w1.heap.size := by omega
  go_wp2_with fail
  have hS4 := hS0.box #[.int .i64 xgn, .int .i64 xsa, .int .i64 xsp, .int .i64 xth, .bool xdm, .int .i64 xwy] 47
  generalize w1.alloc (.cells #[.int .i64 xgn, .int .i64 xsa, .int .i64 xsp, .int .i64 xth, .bool xdm, .int .i64 xwy] 47) = w2 at hS4 ⊢
  clear d0 d1 d2 d3 d4 d5 e2 q0 q1 q2 q3 q4 q5 hlt hlc hne1 hne2 r0 hS0 h
  generalize w1.heap.size = H at hS4 ⊢
  refine (hsame w2).mono ?_
  rintro e w3 ⟨rfl, k5⟩
  have hS5 := hS4.calm k5
  clear k5 hS4 hsame
  have r3 : HdRow w3 r c mo kind xs := hS5.get (j + 4) hj
  have hnote : Calls Try.prog 75 #[mptr mo, .int .i64 kind, .int .i64 k, .int .i64 3, .bool true] w3.drew fun e w' => e = .returned (.tuple #[]) ∧ ∃ v', St o (boxI H #[.int .i64 xgn, .int .i64 xsa, .int .i64 xsp, .int .i64 xth, .bool xdm, .int .i64 xwy] 47 :: boxI (B + 1 + 1) #[.int .i64 0, .int .i64 0, .int .i64 0, .int .i64 0, .bool false, .int .i64 0] 47 :: boxI (B + 1) #[.int .i64 bgn, .int .i64 bsa, .int .i64 bsp, .int .i64 bth, .bool bdm, .int .i64 bwy] 47 :: boxI B #[.int .i64 agn, .int .i64 asa, .int .i64 asp, .int .i64 ath, .bool adm, .int .i64 awy] 47 :: its.set i (meterI 115 mo (s.note kind k 3 true) v')) w' :=
    note_st hS5.drew (i + 4) hi hw hn kind k 3 true
  have e0 : w3.cell? ⟨r, 0, none⟩ = some (mptr mo) := cell_of_heap r3.row
  have e1 : w3.cell? ⟨r, 1, none⟩ = some (.int .i64 kind) := cell_of_heap r3.row
  clear r3 hS5
  go_wp2_with fail
  go_region_held3 (fun w' => w'.cell? ⟨r, 0, none⟩ = some (mptr mo) ∧ w'.cell? ⟨r, 1, none⟩ = some (.int .i64 kind)) (first | go_keep | exact ⟨cell_of_heap q.out.row, cell_of_heap q.out.row⟩)
    (first | (go_at_call 75; refine hnote.mono ?_; rintro e w' ⟨rfl, v', hS⟩; have q : Hid (HdRow w' r c mo kind xs) := hS.get (j + 4) (set_other hj hij)))
  have z0 : w'.cell? ⟨H, 0, none⟩ = some (.int .i64 xgn) := hS.cell 0 rfl 0
  have z1 : w'.cell? ⟨H, 1, none⟩ = some (.int .i64 xsa) := hS.cell 0 rfl 1
  have z2 : w'.cell? ⟨H, 2, none⟩ = some (.int .i64 xsp) := hS.cell 0 rfl 2
  have z3 : w'.cell? ⟨H, 3, none⟩ = some (.int .i64 xth) := hS.cell 0 rfl 3
  have z4 : w'.cell? ⟨H, 4, none⟩ = some (.bool xdm) := hS.cell 0 rfl 4
  have z5 : w'.cell? ⟨H, 5, none⟩ = some (.int .i64 xwy) := hS.cell 0 rfl 5
  have y0 : w'.cell? ⟨B + 1 + 1, 0, none⟩ = some (.int .i64 0) := hS.cell 1 rfl 0
  have y1 : w'.cell? ⟨B + 1 + 1, 1, none⟩ = some (.int .i64 0) := hS.cell 1 rfl 1
  have y2 : w'.cell? ⟨B + 1 + 1, 2, none⟩ = some (.int .i64 0) := hS.cell 1 rfl 2
  have y3 : w'.cell? ⟨B + 1 + 1, 3, none⟩ = some (.int .i64 0) := hS.cell 1 rfl 3
  have y4 : w'.cell? ⟨B + 1 + 1, 4, none⟩ = some (.bool false) := hS.cell 1 rfl 4
  have y5 : w'.cell? ⟨B + 1 + 1, 5, none⟩ = some (.int .i64 0) := hS.cell 1 rfl 5
  have v0 : w'.frozen? ⟨B + 1 + 1, 0, none⟩ = false := hS.frozen 1 rfl 0
  have v1 : w'.frozen? ⟨B + 1 + 1, 1, none⟩ = false := hS.frozen 1 rfl 1
  have v2 : w'.frozen? ⟨B + 1 + 1, 2, none⟩ = false := hS.frozen 1 rfl 2
  have v3 : w'.frozen? ⟨B + 1 + 1, 3, none⟩ = false := hS.frozen 1 rfl 3
  have v4 : w'.frozen? ⟨B + 1 + 1, 4, none⟩ = false := hS.frozen 1 rfl 4
  have v5 : w'.frozen? ⟨B + 1 + 1, 5, none⟩ = false := hS.frozen 1 rfl 5
  have e2 : w'.cell? ⟨r, 2, none⟩ = some (.slice (some ⟨c, 0, none⟩) xs.length xs.length) := cell_of_heap q.out.row
  have d := q.out.cell k hk
  obtain ⟨d0, d1, d2, d3, d4, d5⟩ := d
  have b0 : w'.cell? ⟨B + 1, 0, none⟩ = some (.int .i64 bgn) := hS.cell 2 rfl 0
  have b1 : w'.cell? ⟨B + 1, 1, none⟩ = some (.int .i64 bsa) := hS.cell 2 rfl 1
  have b2 : w'.cell? ⟨B + 1, 2, none⟩ = some (.int .i64 bsp) := hS.cell 2 rfl 2
  have b3 : w'.cell? ⟨B + 1, 3, none⟩ = some (.int .i64 bth) := hS.cell 2 rfl 3
  have b4 : w'.cell? ⟨B + 1, 4, none⟩ = some (.bool bdm) := hS.cell 2 rfl 4
  have b5 : w'.cell? ⟨B + 1, 5, none⟩ = some (.int .i64 bwy) := hS.cell 2 rfl 5
  have l0 : w'.frozen? ⟨c, k * 6, none⟩ = false := frozen_of_heap q.out.cells
  have l1 : w'.frozen? ⟨c, k * 6 + 1, none⟩ = false := frozen_of_heap q.out.cells
  have l2 : w'.frozen? ⟨c, k * 6 + 2, none⟩ = false := frozen_of_heap q.out.cells
  have l3 : w'.frozen? ⟨c, k * 6 + 3, none⟩ = false := frozen_of_heap q.out.cells
  have l4 : w'.frozen? ⟨c, k * 6 + 4, none⟩ = false := frozen_of_heap q.out.cells
  have l5 : w'.frozen? ⟨c, k * 6 + 5, none⟩ = false := frozen_of_heap q.out.cells
  have n1 : ¬ c = B + 1 := hS.ne (j + 4) 2 (set_other hj hij) rfl (by omega) (by simp [hdRowI]) (by simp [boxI])
  have n2 : ¬ c = B + 1 + 1 := hS.ne (j + 4) 1 (set_other hj hij) rfl (by omega) (by simp [hdRowI]) (by simp [boxI])
  have n3 : ¬ B + 1 = c := fun e => n1 e.symm
  have n4 : ¬ B + 1 + 1 = c := fun e => n2 e.symm
  have n5 : ¬ H = c := hS.ne 0 (j + 4) rfl (set_other hj hij) (by omega) (by simp [boxI]) (by simp [hdRowI])
  have n6 : ¬ H = B + 1 + 1 := hS.ne 0 1 rfl rfl (by omega) (by simp [boxI]) (by simp [boxI])
  have n7 : ¬ r = c := q.out.rc
  have hT := hS.hdStored (j + 4) (set_other hj hij) k hk ⟨bgn, bsa, bsp, bth, bdm, bwy⟩
  have HS : Hid (∀ u0 u1 u2 u3 u4 u5 : Value, St o ((its.set i (meterI 115 mo (s.note kind k 3 true) v')).set j (hdRowI r c mo kind (xs.set k ⟨bgn, bsa, bsp, bth, bdm, bwy⟩))) ((((((((((((w'.setCell ⟨c, k * 6, none⟩ (.int .i64 bgn)).setCell ⟨c, k * 6 + 1, none⟩ (.int .i64 bsa)).setCell ⟨c, k * 6 + 2, none⟩ (.int .i64 bsp)).setCell ⟨c, k * 6 + 3, none⟩ (.int .i64 bth)).setCell ⟨c, k * 6 + 4, none⟩ (.bool bdm)).setCell ⟨c, k * 6 + 5, none⟩ (.int .i64 bwy)).setCell ⟨B + 1 + 1, 0, none⟩ (u0)).setCell ⟨B + 1 + 1, 1, none⟩ (u1)).setCell ⟨B + 1 + 1, 2, none⟩ (u2)).setCell ⟨B + 1 + 1, 3, none⟩ (u3)).setCell ⟨B + 1 + 1, 4, none⟩ (u4)).setCell ⟨B + 1 + 1, 5, none⟩ (u5))) := fun u0 u1 u2 u3 u4 u5 => ((((((hT.write 1 rfl 0 u0).write 1 rfl 1 u1).write 1 rfl 2 u2).write 1 rfl 3 u3).write 1 rfl 4 u4).write 1 rfl 5 u5).pop.pop.pop.pop
  clear q hnote hS hT
  go_wp2_with fail
  go_region
  all_goals
    go_wp2
    exact bodyPost_ret (v := .tuple #[.agg #[.int .i64 xgn, .int .i64 xsa, .int .i64 xsp, .int .i64 xth, .bool xdm, .int .i64 xwy], .bool true, .int .i64 0]) (by simp [results, Try.results73, go_sem, y0, y1, y2, y3, y4, y5, n1, n2, n3, n4, n5, n6]) rfl ⟨rfl, v', by first | exact (HS.out _ _ _ _ _ _).drew | exact HS.out _ _ _ _ _ _ | exact (HS.out _ _ _ _ _ _).drew.drew⟩


set_option maxRecDepth 100000 in
set_option maxHeartbeats 1000000 in
theorem hdTrade_miss {o w : World} {its : List It} (h : St o its w) (i j : Nat) {r c : Nat} {mo : Option Nat} {s : Mt} {v : Value} {kind : Int} {xs : List Hd} (hi : its[i]? = some (meterI 115 mo s v)) (hj : its[j]? = some (hdRowI r c mo kind xs)) (hij : i ≠ j)
    {n : Nat} (hw : s.within n) (hn : n ≤ 4611686018427) (k : Nat) (hk : k < xs.length) (a b : Hd) (hb : xs[k].eq a = false) :
    Calls Try.prog 73 #[.pointer (some ⟨r, 0, none⟩), .int .i64 k, a.val, b.val] w fun e w' => e = .returned (.tuple #[xs[k].val, .bool false, .int .i64 0]) ∧ ∃ v', St o (its.set i (meterI 115 mo (s.note kind k 3 false) v')) w' := by
  generalize hx : xs[k] = x at hb ⊢
  have hsame : ∀ W, Calls Try.prog 89 #[x.val, a.val] W fun e w' => e = .returned (.bool false) ∧ Kept (fun _ => False) W w' := fun W => hb ▸ hdSame x a W
  clear hb
  obtain ⟨xgn, xsa, xsp, xth, xdm, xwy⟩ := x
  obtain ⟨agn, asa, asp, ath, adm, awy⟩ := a
  obtain ⟨bgn, bsa, bsp, bth, bdm, bwy⟩ := b
  simp only [Hd.val] at hsame ⊢
  have HX : Hid (xs[k] = ⟨xgn, xsa, xsp, xth, xdm, xwy⟩) := hx
  clear hx
  have i0 : (0 : Int) ≤ (k : Int) := Int.natCast_nonneg _
  have i1 : (k : Int) < (xs.length : Int) := by omega
  go_enter Try.func73, Try.ntmps73
  go_wp2_with fail
  have hS0 := ((h.box #[.int .i64 agn, .int .i64 asa, .int .i64 asp, .int .i64 ath, .bool adm, .int .i64 awy] 47).box #[.int .i64 bgn, .int .i64 bsa, .int .i64 bsp, .int .i64 bth, .bool bdm, .int .i64 bwy] 47).box #[.int .i64 0, .int .i64 0, .int .i64 0, .int .i64 0, .bool false, .int .i64 0] 47
  simp only [alloc_size] at hS0
  generalize ((w.alloc (.cells #[.int .i64 agn, .int .i64 asa, .int .i64 asp, .int .i64 ath, .bool adm, .int .i64 awy] 47)).alloc (.cells #[.int .i64 bgn, .int .i64 bsa, .int .i64 bsp, .int .i64 bth, .bool bdm, .int .i64 bwy] 47)).alloc (.cells #[.int .i64 0, .int .i64 0, .int .i64 0, .int .i64 0, .bool false, .int .i64 0] 47) = W0 at hS0 ⊢
  generalize w.heap.size = B at hS0 ⊢
  have r0 : HdRow W0 r c mo kind xs := hS0.get (j + 3) hj
  have hle : (xs.length : Int) ≤ 4096 := by have := r0.small; omega
  refine (hdHas_in k W0 r0 hk).mono ?_
  rintro e w1 ⟨rfl, rfl⟩
  have d := r0.cell k hk
  rw [HX.out] at d
  simp only at d
  obtain ⟨d0, d1, d2, d3, d4, d5⟩ := d
  have e2 : w1.cell? ⟨r, 2, none⟩ = some (.slice (some ⟨c, 0, none⟩) xs.length xs.length) := cell_of_heap r0.row
  have q0 : w1.cell? ⟨B, 0, none⟩ = some (.int .i64 agn) := hS0.cell 2 rfl 0
  have q1 : w1.cell? ⟨B, 1, none⟩ = some (.int .i64 asa) := hS0.cell 2 rfl 1
  have q2 : w1.cell? ⟨B, 2, none⟩ = some (.int .i64 asp) := hS0.cell 2 rfl 2
  have q3 : w1.cell? ⟨B, 3, none⟩ = some (.int .i64 ath) := hS0.cell 2 rfl 3
  have q4 : w1.cell? ⟨B, 4, none⟩ = some (.bool adm) := hS0.cell 2 rfl 4
  have q5 : w1.cell? ⟨B, 5, none⟩ = some (.int .i64 awy) := hS0.cell 2 rfl 5
  have hlt : B < w1.heap.size := hS0.all _ (by simp) |> fun p => (boxI B #[.int .i64 agn, .int .i64 asa, .int .i64 asp, .int .i64 ath, .bool adm, .int .i64 awy] 47).old w1 p B (by simp [boxI])
  have hlc : c < w1.heap.size := lt_of_heap r0.cells
  have hne1 : ¬ B = w1.heap.size := by omega
  have hne2 : ¬ c = w1.heap.size := by omega
  go_wp2_with fail
  have hS4 := hS0.box #[.int .i64 xgn, .int .i64 xsa, .int .i64 xsp, .int .i64 xth, .bool xdm, .int .i64 xwy] 47
  generalize w1.alloc (.cells #[.int .i64 xgn, .int .i64 xsa, .int .i64 xsp, .int .i64 xth, .bool xdm, .int .i64 xwy] 47) = w2 at hS4 ⊢
  clear d0 d1 d2 d3 d4 d5 e2 q0 q1 q2 q3 q4 q5 hlt hlc hne1 hne2 r0 hS0 h
  generalize w1.heap.size = H at hS4 ⊢
  refine (hsame w2).mono ?_
  rintro e w3 ⟨rfl, k5⟩
  have hS5 := hS4.calm k5
  clear k5 hS4 hsame
  have r3 : HdRow w3 r c mo kind xs := hS5.get (j + 4) hj
  have hnote : Calls Try.prog 75 #[mptr mo, .int .i64 kind, .int .i64 k, .int .i64 3, .bool false] w3.drew fun e w' => e = .returned (.tuple #[]) ∧ ∃ v', St o (boxI H #[.int .i64 xgn, .int .i64 xsa, .int .i64 xsp, .int .i64 xth, .bool xdm, .int .i64 xwy] 47 :: boxI (B + 1 + 1) #[.int .i64 0, .int .i64 0, .int .i64 0, .int .i64 0, .bool false, .int .i64 0] 47 :: boxI (B + 1) #[.int .i64 bgn, .int .i64 bsa, .int .i64 bsp, .int .i64 bth, .bool bdm, .int .i64 bwy] 47 :: boxI B #[.int .i64 agn, .int .i64 asa, .int .i64 asp, .int .i64 ath, .bool adm, .int .i64 awy] 47 :: its.set i (meterI 115 mo (s.note kind k 3 false) v')) w' :=
    note_st hS5.drew (i + 4) hi hw hn kind k 3 false
  have e0 : w3.cell? ⟨r, 0, none⟩ = some (mptr mo) := cell_of_heap r3.row
  have e1 : w3.cell? ⟨r, 1, none⟩ = some (.int .i64 kind) := cell_of_heap r3.row
  clear r3 hS5
  go_wp2_with fail
  go_region_held3 (fun w' => w'.cell? ⟨r, 0, none⟩ = some (mptr mo) ∧ w'.cell? ⟨r, 1, none⟩ = some (.int .i64 kind)) (first | go_keep | exact ⟨cell_of_heap q.out.row, cell_of_heap q.out.row⟩)
    (first | (go_at_call 75; refine hnote.mono ?_; rintro e w' ⟨rfl, v', hS⟩; have q : Hid (HdRow w' r c mo kind xs) := hS.get (j + 4) (set_other hj hij)))
  have z0 : w'.cell? ⟨H, 0, none⟩ = some (.int .i64 xgn) := hS.cell 0 rfl 0
  have z1 : w'.cell? ⟨H, 1, none⟩ = some (.int .i64 xsa) := hS.cell 0 rfl 1
  have z2 : w'.cell? ⟨H, 2, none⟩ = some (.int .i64 xsp) := hS.cell 0 rfl 2
  have z3 : w'.cell? ⟨H, 3, none⟩ = some (.int .i64 xth) := hS.cell 0 rfl 3
  have z4 : w'.cell? ⟨H, 4, none⟩ = some (.bool xdm) := hS.cell 0 rfl 4
  have z5 : w'.cell? ⟨H, 5, none⟩ = some (.int .i64 xwy) := hS.cell 0 rfl 5
  have y0 : w'.cell? ⟨B + 1 + 1, 0, none⟩ = some (.int .i64 0) := hS.cell 1 rfl 0
  have y1 : w'.cell? ⟨B + 1 + 1, 1, none⟩ = some (.int .i64 0) := hS.cell 1 rfl 1
  have y2 : w'.cell? ⟨B + 1 + 1, 2, none⟩ = some (.int .i64 0) := hS.cell 1 rfl 2
  have y3 : w'.cell? ⟨B + 1 + 1, 3, none⟩ = some (.int .i64 0) := hS.cell 1 rfl 3
  have y4 : w'.cell? ⟨B + 1 + 1, 4, none⟩ = some (.bool false) := hS.cell 1 rfl 4
  have y5 : w'.cell? ⟨B + 1 + 1, 5, none⟩ = some (.int .i64 0) := hS.cell 1 rfl 5
  have v0 : w'.frozen? ⟨B + 1 + 1, 0, none⟩ = false := hS.frozen 1 rfl 0
  have v1 : w'.frozen? ⟨B + 1 + 1, 1, none⟩ = false := hS.frozen 1 rfl 1
  have v2 : w'.frozen? ⟨B + 1 + 1, 2, none⟩ = false := hS.frozen 1 rfl 2
  have v3 : w'.frozen? ⟨B + 1 + 1, 3, none⟩ = false := hS.frozen 1 rfl 3
  have v4 : w'.frozen? ⟨B + 1 + 1, 4, none⟩ = false := hS.frozen 1 rfl 4
  have v5 : w'.frozen? ⟨B + 1 + 1, 5, none⟩ = false := hS.frozen 1 rfl 5
  have n6 : ¬ H = B + 1 + 1 := hS.ne 0 1 rfl rfl (by omega) (by simp [boxI]) (by simp [boxI])
  have HS : Hid (∀ u0 u1 u2 u3 u4 u5 : Value, St o (its.set i (meterI 115 mo (s.note kind k 3 false) v')) ((((((w'.setCell ⟨B + 1 + 1, 0, none⟩ (u0)).setCell ⟨B + 1 + 1, 1, none⟩ (u1)).setCell ⟨B + 1 + 1, 2, none⟩ (u2)).setCell ⟨B + 1 + 1, 3, none⟩ (u3)).setCell ⟨B + 1 + 1, 4, none⟩ (u4)).setCell ⟨B + 1 + 1, 5, none⟩ (u5))) := fun u0 u1 u2 u3 u4 u5 => ((((((hS.write 1 rfl 0 u0).write 1 rfl 1 u1).write 1 rfl 2 u2).write 1 rfl 3 u3).write 1 rfl 4 u4).write 1 rfl 5 u5).pop.pop.pop.pop
  clear q hnote hS
  go_wp2
  exact bodyPost_ret (v := .tuple #[.agg #[.int .i64 xgn, .int .i64 xsa, .int .i64 xsp, .int .i64 xth, .bool xdm, .int .i64 xwy], .bool false, .int .i64 0]) (by simp [results, Try.results73, go_sem, y0, y1, y2, y3, y4, y5, n6]) rfl ⟨rfl, v', HS.out _ _ _ _ _ _⟩


set_option maxRecDepth 100000 in
set_option maxHeartbeats 1000000 in
theorem hdTrade_out {o w : World} {its : List It} (h : St o its w) (j : Nat) {r c : Nat} {mo : Option Nat} {kind : Int} {xs : List Hd} (hj : its[j]? = some (hdRowI r c mo kind xs)) (i : Int) (hk : ¬ (0 ≤ i ∧ i < xs.length)) (a b : Hd) :
    Calls Try.prog 73 #[.pointer (some ⟨r, 0, none⟩), .int .i64 i, a.val, b.val] w fun e w' => e = .returned (.tuple #[.agg #[.int .i64 0, .int .i64 0, .int .i64 0, .int .i64 0, .bool false, .int .i64 0], .bool false, .int .i64 2]) ∧ St o its w' := by
  obtain ⟨agn, asa, asp, ath, adm, awy⟩ := a
  obtain ⟨bgn, bsa, bsp, bth, bdm, bwy⟩ := b
  simp only [Hd.val]
  go_enter Try.func73, Try.ntmps73
  go_wp2_with fail
  have hS0 := ((h.box #[.int .i64 agn, .int .i64 asa, .int .i64 asp, .int .i64 ath, .bool adm, .int .i64 awy] 47).box #[.int .i64 bgn, .int .i64 bsa, .int .i64 bsp, .int .i64 bth, .bool bdm, .int .i64 bwy] 47).box #[.int .i64 0, .int .i64 0, .int .i64 0, .int .i64 0, .bool false, .int .i64 0] 47
  simp only [alloc_size] at hS0
  generalize ((w.alloc (.cells #[.int .i64 agn, .int .i64 asa, .int .i64 asp, .int .i64 ath, .bool adm, .int .i64 awy] 47)).alloc (.cells #[.int .i64 bgn, .int .i64 bsa, .int .i64 bsp, .int .i64 bth, .bool bdm, .int .i64 bwy] 47)).alloc (.cells #[.int .i64 0, .int .i64 0, .int .i64 0, .int .i64 0, .bool false, .int .i64 0] 47) = W0 at hS0 ⊢
  generalize w.heap.size + 1 + 1 = B at hS0 ⊢
  generalize w.heap.size + 1 = B1 at hS0 ⊢
  generalize w.heap.size = B2 at hS0 ⊢
  have r0 : HdRow W0 r c mo kind xs := hS0.get (j + 3) hj
  refine (hdHas_out i W0 r0 hk).mono ?_
  rintro e w1 ⟨rfl, rfl⟩
  have hlt : B < w1.heap.size := (boxI B #[.int .i64 0, .int .i64 0, .int .i64 0, .int .i64 0, .bool false, .int .i64 0] 47).old w1 (hS0.get 0 rfl) B (by simp [boxI])
  have hne : ¬ B = w1.heap.size := by omega
  have hne' : ¬ w1.heap.size = B := by omega
  have hS1 := hS0.box #[.int .i64 0, .int .i64 0, .int .i64 0, .int .i64 0, .bool false, .int .i64 0] 47
  have b0 : (w1.alloc (.cells #[.int .i64 0, .int .i64 0, .int .i64 0, .int .i64 0, .bool false, .int .i64 0] 47)).cell? ⟨B, 0, none⟩ = some (.int .i64 0) := hS1.cell 1 rfl 0
  have b1 : (w1.alloc (.cells #[.int .i64 0, .int .i64 0, .int .i64 0, .int .i64 0, .bool false, .int .i64 0] 47)).cell? ⟨B, 1, none⟩ = some (.int .i64 0) := hS1.cell 1 rfl 1
  have b2 : (w1.alloc (.cells #[.int .i64 0, .int .i64 0, .int .i64 0, .int .i64 0, .bool false, .int .i64 0] 47)).cell? ⟨B, 2, none⟩ = some (.int .i64 0) := hS1.cell 1 rfl 2
  have b3 : (w1.alloc (.cells #[.int .i64 0, .int .i64 0, .int .i64 0, .int .i64 0, .bool false, .int .i64 0] 47)).cell? ⟨B, 3, none⟩ = some (.int .i64 0) := hS1.cell 1 rfl 3
  have b4 : (w1.alloc (.cells #[.int .i64 0, .int .i64 0, .int .i64 0, .int .i64 0, .bool false, .int .i64 0] 47)).cell? ⟨B, 4, none⟩ = some (.bool false) := hS1.cell 1 rfl 4
  have b5 : (w1.alloc (.cells #[.int .i64 0, .int .i64 0, .int .i64 0, .int .i64 0, .bool false, .int .i64 0] 47)).cell? ⟨B, 5, none⟩ = some (.int .i64 0) := hS1.cell 1 rfl 5
  have f0 : (w1.alloc (.cells #[.int .i64 0, .int .i64 0, .int .i64 0, .int .i64 0, .bool false, .int .i64 0] 47)).frozen? ⟨B, 0, none⟩ = false := hS1.frozen 1 rfl 0
  have f1 : (w1.alloc (.cells #[.int .i64 0, .int .i64 0, .int .i64 0, .int .i64 0, .bool false, .int .i64 0] 47)).frozen? ⟨B, 1, none⟩ = false := hS1.frozen 1 rfl 1
  have f2 : (w1.alloc (.cells #[.int .i64 0, .int .i64 0, .int .i64 0, .int .i64 0, .bool false, .int .i64 0] 47)).frozen? ⟨B, 2, none⟩ = false := hS1.frozen 1 rfl 2
  have f3 : (w1.alloc (.cells #[.int .i64 0, .int .i64 0, .int .i64 0, .int .i64 0, .bool false, .int .i64 0] 47)).frozen? ⟨B, 3, none⟩ = false := hS1.frozen 1 rfl 3
  have f4 : (w1.alloc (.cells #[.int .i64 0, .int .i64 0, .int .i64 0, .int .i64 0, .bool false, .int .i64 0] 47)).frozen? ⟨B, 4, none⟩ = false := hS1.frozen 1 rfl 4
  have f5 : (w1.alloc (.cells #[.int .i64 0, .int .i64 0, .int .i64 0, .int .i64 0, .bool false, .int .i64 0] 47)).frozen? ⟨B, 5, none⟩ = false := hS1.frozen 1 rfl 5
  have HS : Hid (∀ u0 u1 u2 u3 u4 u5 : Value, St o its (((((((w1.alloc (.cells #[.int .i64 0, .int .i64 0, .int .i64 0, .int .i64 0, .bool false, .int .i64 0] 47)).setCell ⟨B, 0, none⟩ (u0)).setCell ⟨B, 1, none⟩ (u1)).setCell ⟨B, 2, none⟩ (u2)).setCell ⟨B, 3, none⟩ (u3)).setCell ⟨B, 4, none⟩ (u4)).setCell ⟨B, 5, none⟩ (u5))) := fun u0 u1 u2 u3 u4 u5 => ((((((hS1.write 1 rfl 0 u0).write 1 rfl 1 u1).write 1 rfl 2 u2).write 1 rfl 3 u3).write 1 rfl 4 u4).write 1 rfl 5 u5).pop.pop.pop.pop
  clear r0 hS0 hS1 h hlt hk
  go_wp2
  exact bodyPost_ret (v := .tuple #[.agg #[.int .i64 0, .int .i64 0, .int .i64 0, .int .i64 0, .bool false, .int .i64 0], .bool false, .int .i64 2]) (by simp [results, Try.results73, go_sem, hne, hne', b0, b1, b2, b3, b4, b5]) rfl ⟨rfl, HS.out _ _ _ _ _ _⟩

end Go.Proofs.Ytajfjkhbimehbaa
