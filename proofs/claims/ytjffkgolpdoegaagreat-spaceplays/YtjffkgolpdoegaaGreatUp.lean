/- The document's examples of a space. -/
import Derived.Test.YtjffkgolpdoegaaGreatSpE
namespace Go.Proofs.YtjffkgolpdoegaaGreat
open Go.RowKit
set_option linter.unusedVariables false
set_option linter.unusedSimpArgs false
attribute [local go_sem ↓] Go.wp_at_zero Go.wp_at_succ

def smallC : Cfg := ⟨2, 1, 8, 1, 0, 0⟩
theorem small_any (w : World) : Calls Tryz.prog 21 #[] w fun e w' => e = .returned (.agg #[.int .i64 2, .int .i64 1, .int .i64 8, .int .i64 1, .int .i64 0, .int .i64 0]) ∧ Kept (fun _ => False) w w' := by
  have h := (St.nil w).box #[.int .i64 0, .int .i64 0, .int .i64 0, .int .i64 0, .int .i64 0, .int .i64 0] 23
  go_enter Tryz.func21, Tryz.ntmps21
  go_upto_region 1 with fail
  generalize w.alloc (.cells #[.int .i64 0, .int .i64 0, .int .i64 0, .int .i64 0, .int .i64 0, .int .i64 0] 23) = W0 at *
  generalize hB : w.heap.size = B at *
  have b0 : W0.cell? ⟨B, 0, none⟩ = some (.int .i64 0) := h.cell 0 rfl 0
  have b1 : W0.cell? ⟨B, 1, none⟩ = some (.int .i64 0) := h.cell 0 rfl 1
  have b2 : W0.cell? ⟨B, 2, none⟩ = some (.int .i64 0) := h.cell 0 rfl 2
  have b3 : W0.cell? ⟨B, 3, none⟩ = some (.int .i64 0) := h.cell 0 rfl 3
  have b4 : W0.cell? ⟨B, 4, none⟩ = some (.int .i64 0) := h.cell 0 rfl 4
  have b5 : W0.cell? ⟨B, 5, none⟩ = some (.int .i64 0) := h.cell 0 rfl 5
  have f0 : W0.frozen? ⟨B, 0, none⟩ = false := h.frozen 0 rfl 0
  have f1 : W0.frozen? ⟨B, 1, none⟩ = false := h.frozen 0 rfl 1
  have f2 : W0.frozen? ⟨B, 2, none⟩ = false := h.frozen 0 rfl 2
  have f3 : W0.frozen? ⟨B, 3, none⟩ = false := h.frozen 0 rfl 3
  have f4 : W0.frozen? ⟨B, 4, none⟩ = false := h.frozen 0 rfl 4
  have f5 : W0.frozen? ⟨B, 5, none⟩ = false := h.frozen 0 rfl 5
  have HS : Hid (∀ u0 u1 u2 u3 u4 u5, Kept (fun _ => False) w ((((((W0.setCell ⟨B, 0, none⟩ u0).setCell ⟨B, 1, none⟩ u1).setCell ⟨B, 2, none⟩ u2).setCell ⟨B, 3, none⟩ u3).setCell ⟨B, 4, none⟩ u4).setCell ⟨B, 5, none⟩ u5)) := fun u0 u1 u2 u3 u4 u5 => ((((((h.write 0 rfl 0 u0).write 0 rfl 1 u1).write 0 rfl 2 u2).write 0 rfl 3 u3).write 0 rfl 4 u4).write 0 rfl 5 u5).same
  clear h hB
  go_wp2
  exact bodyPost_ret (v := .agg #[.int .i64 2, .int .i64 1, .int .i64 8, .int .i64 1, .int .i64 0, .int .i64 0]) (by simp [results, Tryz.results21, go_sem, b0, b1, b2, b3, b4, b5]) rfl ⟨rfl, HS.out _ _ _ _ _ _⟩

theorem eqEvUp (w : World) : (binOp .eql 39 (.agg #[.int .i64 2, .int .i64 1, .int .i64 0, .int .i64 0, .int .i64 0, .int .i64 0, .bool false, .int .i64 0, .int .i64 0, .int .i64 0]) (.agg #[.int .i64 2, .int .i64 1, .int .i64 0, .int .i64 0, .int .i64 0, .int .i64 0, .bool false, .int .i64 0, .int .i64 0, .int .i64 0])).run Tryz.prog w = .ok (.bool true) w := by kernel_rfl

set_option maxRecDepth 100000 in
set_option maxHeartbeats 4000000 in
theorem up_any (w : World) : Calls Tryz.prog 4 #[] w fun e w' => e = .returned (.bool true) ∧ Kept (fun _ => False) w w' := by
  go_enter Tryz.func4, Tryz.ntmps4
  go_wp2_with fail
  refine (small_any _).mono ?_
  rintro e w1 ⟨rfl, k1⟩
  have s1 := (St.nil w).calm k1
  clear k1
  have hq : Calls Tryz.prog 5 #[.agg #[.int .i64 2, .int .i64 1, .int .i64 8, .int .i64 1, .int .i64 0, .int .i64 0]] w1 _ := spNew_st s1 smallC rfl
  clear s1
  go_wp2_with fail
  refine hq.mono ?_
  rintro e w2 ⟨A, rfl, s2⟩
  clear hq
  unfold spp
  have hq : Calls Tryz.prog 5 #[.agg #[.int .i64 2, .int .i64 1, .int .i64 8, .int .i64 0, .int .i64 0, .int .i64 0]] w2 _ := spNew_out ⟨2, 1, 8, 0, 0, 0⟩ rfl w2
  go_wp2_with fail
  refine hq.mono ?_
  rintro e w3 ⟨rfl, k3⟩
  have s3 := s2.calm k3
  clear s2 k3 hq
  have s4 := s3.box #[.int .i64 5] 2
  have ok0 := SSt.ok_zero smallC rfl 0
  have hnum : NumsIn (w3.alloc (.cells #[.int .i64 5] 2)) (some ⟨w3.heap.size, 0, none⟩) 1 [5] := by
    refine ⟨rfl, fun _ => ⟨_, _, rfl, fun j hj => ?_⟩⟩
    have : j = 0 := by omega
    subst this
    exact s4.cell 0 rfl 0
  have hq := spFill (lc := 1) s4 1 rfl ok0 (by omega) hnum (by omega)
  clear s3 s4 hnum
  unfold spp at hq
  go_wp2_with fail
  refine hq.mono ?_
  rintro e w5 ⟨rfl, s5'⟩
  rw [show fillErr (SSt.zero smallC).xs [5] = 0 from rfl]
  have s5 := St.tail [_] s5'
  clear s5' hq
  have ok1 : ((SSt.zero smallC).fill [5]).ok smallC 1 := ok0.fill [5]
  have hq := spTurn (its := [spI A smallC ((SSt.zero smallC).fill [5]) (.slice none 0 0) (.slice none 0 0)]) s5 0 rfl ok1 (by omega) 3
  clear s5
  unfold spp at hq
  go_wp2_with fail
  refine hq.mono ?_
  rintro e w6 ⟨rfl, s6⟩
  clear hq
  have ok2 : (((SSt.zero smallC).fill [5]).turn 3).ok smallC 2 := ok1.turn 3
  have hq := spLoad (its := [spI A smallC (((SSt.zero smallC).fill [5]).turn 3) (.slice none 0 0) (.slice none 0 0)]) s6 0 rfl ok2 (by omega) 0
  have e1 : loadR (((SSt.zero smallC).fill [5]).turn 3).xs 0 = 5 := rfl
  have e2 : loadE (((SSt.zero smallC).fill [5]).turn 3).xs 0 = 0 := rfl
  rw [e1, e2] at hq
  clear s6 e1 e2
  unfold spp at hq
  go_wp2_with fail
  refine hq.mono ?_
  rintro e w7 ⟨rfl, v7, s7⟩
  clear hq
  have ok3 : ((((SSt.zero smallC).fill [5]).turn 3).load 0).ok smallC 3 := ok2.load 0
  have hs : St w [spI A smallC ((((SSt.zero smallC).fill [5]).turn 3).load 0) v7 (.slice none 0 0)] w7 := s7
  clear s7 ok0 ok1 ok2
  have hg := spGate hs 0 rfl
  have ht := spSlots hs 0 rfl
  unfold spp at hg ht
  go_wp2_with (first | (go_at_call 7; refine hg.mono ?_; rintro e wq ⟨rfl, rfl⟩) | (go_at_call 8; refine ht.mono ?_; rintro e wq ⟨rfl, rfl⟩))
  have hq := spTake hs 0 rfl ok3 (by omega) 3
  have e1 : takeR ((((SSt.zero smallC).fill [5]).turn 3).load 0).x 3 = 1 := rfl
  have e2 : takeE ((((SSt.zero smallC).fill [5]).turn 3).load 0).x 3 = 0 := rfl
  rw [e1, e2] at hq
  clear hs e1 e2 hg ht
  refine hq.mono ?_
  rintro e w8 ⟨rfl, v8, s8'⟩
  clear hq
  have ok4 : (((((SSt.zero smallC).fill [5]).turn 3).load 0).take 3).ok smallC 4 := ok3.take 3
  have s8 : St w [spI A smallC (((((SSt.zero smallC).fill [5]).turn 3).load 0).take 3) v8 (.slice none 0 0)] w8 := s8'
  clear s8' ok3
  have hq := spView s8 0 rfl ok4.wl ok4.h1 ok4.h8
  have e1 : (((((SSt.zero smallC).fill [5]).turn 3).load 0).take 3).x.n = 1 := rfl
  have e2 : (((((SSt.zero smallC).fill [5]).turn 3).load 0).take 3).x.o = 3 := rfl
  rw [e1, e2] at hq
  clear s8 e1 e2
  unfold spp at hq
  go_wp2_with fail
  refine hq.mono ?_
  rintro e w9 ⟨va, vs, rfl, s9'⟩
  clear hq
  have s9 : St w (ownI 2 1 va 2 [.int .i64 5, .int .i64 0] :: spI A smallC (((((SSt.zero smallC).fill [5]).turn 3).load 0).take 3) v8 (.slice none 0 0) :: []) w9 := St.drop1 s9'
  have o9 : w9.ownsRow 0 2 1 va 2 [.int .i64 5, .int .i64 0] := s9.get 0 rfl
  obtain ⟨q, ca, rfl, _, _⟩ := o9.form (by simp)
  obtain ⟨ps, cs, rfl⟩ := own_form (n := 1) (s9'.get 1 rfl)
  clear s9' o9
  have s10 := s9.box #[.slice (some ⟨q, 0, none⟩) 2 ca, .int .i64 1, .int .i64 3, .slice ps 1 cs] 66
  clear s9
  go_upto_region 12 with fail
  generalize w9.alloc (.cells #[.slice (some ⟨q, 0, none⟩) 2 ca, .int .i64 1, .int .i64 3, .slice ps 1 cs] 66) = w10 at *
  generalize w9.heap.size = V at *
  have hq : Calls Tryz.prog 26 #[.pointer (some ⟨A.sp, 0, none⟩), .agg #[.int .i64 2, .int .i64 99, .int .i64 0, .int .i64 0, .int .i64 0, .int .i64 0, .bool false, .int .i64 0, .int .i64 0, .int .i64 0]] w10 _ := spNote s10 2 rfl (by have := ok4.el; omega) ⟨2, 99, 0, 0, 0, 0, false, 0, 0, 0⟩
  clear s10
  go_wp2_with fail
  refine hq.mono ?_
  rintro e w11 ⟨rfl, u', s11'⟩
  clear hq
  have s11 : St w [boxI V #[.slice (some ⟨q, 0, none⟩) 2 ca, .int .i64 1, .int .i64 3, .slice ps 1 cs] 66, ownI 2 1 (.slice (some ⟨q, 0, none⟩) 2 ca) 2 [.int .i64 5, .int .i64 0], spI A smallC ((((((SSt.zero smallC).fill [5]).turn 3).load 0).take 3).noted ⟨2, 99, 0, 0, 0, 0, false, 0, 0, 0⟩) v8 u'] w11 := s11'
  clear s11' ok4
  have hq := spEvents s11 2 rfl (show (1 + 1) * 80 ≤ 140737488355328 by omega)
  unfold spp at hq
  clear s11
  go_wp2_with fail
  refine hq.mono ?_
  rintro e w12 ⟨vl, rfl, s12'⟩
  clear hq
  have s12 : St w [ownI 39 10 vl 1 [.int .i64 2, .int .i64 1, .int .i64 0, .int .i64 0, .int .i64 0, .int .i64 0, .bool false, .int .i64 0, .int .i64 0, .int .i64 0], boxI V #[.slice (some ⟨q, 0, none⟩) 2 ca, .int .i64 1, .int .i64 3, .slice ps 1 cs] 66, ownI 2 1 (.slice (some ⟨q, 0, none⟩) 2 ca) 2 [.int .i64 5, .int .i64 0], spI A smallC ((((((SSt.zero smallC).fill [5]).turn 3).load 0).take 3).noted ⟨2, 99, 0, 0, 0, 0, false, 0, 0, 0⟩) v8 u'] w12 := s12'
  clear s12'
  have o12 : w12.ownsRow 0 39 10 vl 1 [.int .i64 2, .int .i64 1, .int .i64 0, .int .i64 0, .int .i64 0, .int .i64 0, .bool false, .int .i64 0, .int .i64 0, .int .i64 0] := s12.get 0 rfl
  have o2 : w12.ownsRow 0 2 1 (.slice (some ⟨q, 0, none⟩) 2 ca) 2 [.int .i64 5, .int .i64 0] := s12.get 2 rfl
  obtain ⟨p, cl, rfl, _, _⟩ := o12.form (by simp)
  have a0 : w12.cell? ⟨q, 0, none⟩ = some (.int .i64 5) := o2.cellAt 0 (by simp)
  have l0 : w12.cell? ⟨p, 0, none⟩ = some (.int .i64 2) := o12.cellAt 0 (by simp)
  have l1 : w12.cell? ⟨p, 1, none⟩ = some (.int .i64 1) := o12.cellAt 1 (by simp)
  have l2 : w12.cell? ⟨p, 2, none⟩ = some (.int .i64 0) := o12.cellAt 2 (by simp)
  have l3 : w12.cell? ⟨p, 3, none⟩ = some (.int .i64 0) := o12.cellAt 3 (by simp)
  have l4 : w12.cell? ⟨p, 4, none⟩ = some (.int .i64 0) := o12.cellAt 4 (by simp)
  have l5 : w12.cell? ⟨p, 5, none⟩ = some (.int .i64 0) := o12.cellAt 5 (by simp)
  have l6 : w12.cell? ⟨p, 6, none⟩ = some (.bool false) := o12.cellAt 6 (by simp)
  have l7 : w12.cell? ⟨p, 7, none⟩ = some (.int .i64 0) := o12.cellAt 7 (by simp)
  have l8 : w12.cell? ⟨p, 8, none⟩ = some (.int .i64 0) := o12.cellAt 8 (by simp)
  have l9 : w12.cell? ⟨p, 9, none⟩ = some (.int .i64 0) := o12.cellAt 9 (by simp)
  have b0 : w12.cell? ⟨V, 0, none⟩ = some (.slice (some ⟨q, 0, none⟩) 2 ca) := s12.cell 1 rfl 0
  have b1 : w12.cell? ⟨V, 1, none⟩ = some (.int .i64 1) := s12.cell 1 rfl 1
  have b2 : w12.cell? ⟨V, 2, none⟩ = some (.int .i64 3) := s12.cell 1 rfl 2
  have m0 : w12.cell? ⟨A.sp, 0, none⟩ = some (.pointer (some ⟨A.m, 0, none⟩)) := spCell s12 3 rfl 0
  have hst : Calls Tryz.prog 10 #[.pointer (some ⟨A.sp, 0, none⟩)] w12 fun e w' => e = .returned (.int .i64 1) ∧ w' = w12 := spStep s12 3 rfl
  have hdn : Calls Tryz.prog 11 #[.pointer (some ⟨A.m, 0, none⟩)] w12 fun e w' => e = .returned (.int .i64 2) ∧ w' = w12 := spDone s12 3 rfl
  have HK : Hid (Kept (fun _ => False) w w12) := s12.same
  have hee := eqEvUp w12
  clear s12 o2 o12
  go_wp2_with (first | (go_at_call 10; refine hst.mono ?_; rintro e wq ⟨rfl, rfl⟩) | (go_at_call 11; refine hdn.mono ?_; rintro e wq ⟨rfl, rfl⟩))
  go_ret
  exact ⟨rfl, HK.out⟩
end Go.Proofs.YtjffkgolpdoegaaGreat
