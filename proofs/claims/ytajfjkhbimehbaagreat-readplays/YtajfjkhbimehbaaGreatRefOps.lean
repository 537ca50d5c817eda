/- The document's calls on heads: Claim, Ready, Doom, Free: the same as the code's. -/
import Derived.Test.YtajfjkhbimehbaaGreatRefTab
namespace Go.Proofs.YtajfjkhbimehbaaGreat
open Go.RowKit
set_option linter.unusedVariables false
set_option linter.unusedSimpArgs false
attribute [local go_sem ↓] Go.wp_at_zero Go.wp_at_succ

set_option maxRecDepth 100000 in
set_option maxHeartbeats 2000000 in
theorem refClaim_st {o w : World} {its : List It} (h : St o its w) (i j : Nat) {y g x : Nat} {s : Mt} {v : Value} {hs : List Hd} {ws : List Int} (hi : its[i]? = some (meterI 67 (some x) s v)) (hj : its[j]? = some (refI y g x hs ws)) (hij : i ≠ j)
    {n N : Nat} (hw : s.within n) (hn : n ≤ 4611686018427) (hok : HsOk hs N) (hN : N ≤ 4611686018427387904) (k th : Int) :
    Calls Tryz.prog 50 #[.pointer (some ⟨y, 0, none⟩), .int .i64 k, .int .i64 th] w fun e w' => e = .returned (.tuple #[.int .i64 (claimR hs k th), .int .i64 ((claimOp th).E hs k)]) ∧
      ∃ v', St o ((its.set i (meterI 67 (some x) ((claimOp th).S s hs k) v')).set j (refI y g x ((claimOp th).H hs k) ws)) w' := by
  cases ht : isTh th
  · have hS : Hid (St o ((its.set i (meterI 67 (some x) s v)).set j (refI y g x hs ws)) w) := keep_all h hi hj
    have hth : Calls Tryz.prog 90 #[.int .i64 th] w fun e w' => e = .returned (.bool false) ∧ w' = w := ht ▸ refThread_any th w
    have e1 : (claimOp th).E hs k = 1 := by simp [HOp.E, claimOp, ht]
    have e2 : (claimOp th).S s hs k = s := by simp [HOp.S, claimOp, ht]
    have e3 : (claimOp th).H hs k = hs := by simp [HOp.H, claimOp, ht]
    have e4 : claimR hs k th = 0 := by simp [claimR, ht]
    rw [e1, e2, e3, e4]

    clear h
    go_enter Tryz.func50, Tryz.ntmps50
    go_wp2_with (go_at_call 90; refine hth.mono ?_; rintro e w' ⟨rfl, rfl⟩)
    go_ret2
    exact ⟨rfl, v, hS.out⟩
  have hth : Calls Tryz.prog 90 #[.int .i64 th] w fun e w' => e = .returned (.bool true) ∧ w' = w := ht ▸ refThread_any th w
  have hthere := refThere h j hj k
  rcases headAt_cases hs k with ⟨m, hm, rfl, hx⟩ | ⟨hk, hx⟩
  · have hT : hasSlot hs.length (m : Int) = true := (hasSlot_iff _ _).2 ⟨by omega, by omega⟩
    rw [hT] at hthere
    have i0 : (0 : Int) ≤ (m : Int) := Int.natCast_nonneg _
    have i1 : (m : Int) < (hs.length : Int) := by omega
    have p0 : RefTab w y g x hs ws := h.get j hj
    have hl8 : (hs.length : Int) ≤ 8 := by have := p0.n8; omega
    have c1 : w.cell? ⟨y, 1, none⟩ = some (.slice (some ⟨g, 0, none⟩) hs.length hs.length) := cell_of_heap p0.tab
    obtain ⟨d0, d1, d2, d3, d4, d5, _, _⟩ := p0.cell hm
    have hX := hok _ (List.getElem_mem hm)
    have xg0 := hX.g0
    have xg1 := hX.g1
    have HM : Hid (hs[m] = hs[m]) := rfl
    generalize hs[m] = X at d0 d1 d2 d3 d4 d5 hx xg0 xg1 hX
    obtain ⟨xgn, xsa, xsp, xth, xdm, xwy⟩ := X
    simp only at d0 d1 d2 d3 d4 d5 xg0 xg1
    clear hX HM p0
    have hS1 := h.box #[.int .i64 xgn, .int .i64 xsa, .int .i64 xsp, .int .i64 xth, .bool xdm, .int .i64 xwy] 105
    have hnote : ∀ ok, Calls Tryz.prog 83 #[.pointer (some ⟨y, 0, none⟩), .int .i64 3, .int .i64 m, .int .i64 3, .bool ok] (w.alloc (.cells #[.int .i64 xgn, .int .i64 xsa, .int .i64 xsp, .int .i64 xth, .bool xdm, .int .i64 xwy] 105)) fun e w' => e = .returned (.tuple #[]) ∧ ∃ v', St o (boxI w.heap.size #[.int .i64 xgn, .int .i64 xsa, .int .i64 xsp, .int .i64 xth, .bool xdm, .int .i64 xwy] 105 :: its.set i (meterI 67 (some x) (s.note 3 m 3 ok) v')) w' := fun ok => refTnote hS1 (i + 1) (j + 1) hi hj hw hn 3 m 3 ok
    clear hS1 h
    by_cases h0 : xsa = 0
    · subst h0
      have q1 : ((0 : Int) == 0) = true := rfl
      have e1 : (claimOp th).E hs (m : Int) = 0 := by simp [HOp.E, claimOp, ht, hx]
      have e2 : (claimOp th).S s hs (m : Int) = s.note 3 m 3 true := by simp [HOp.S, claimOp, ht, hx]
      have e3 : (claimOp th).H hs (m : Int) = hs.set m ⟨xgn + 1, 1, 0, th, false, 0⟩ := by simp [HOp.H, claimOp, ht, hx]
      have e4 : claimR hs (m : Int) th = xgn + 1 := by simp [claimR, ht, hx]
      rw [e1, e2, e3, e4]
      go_enter Tryz.func50, Tryz.ntmps50
      go_wp2_with (first | (go_at_call 90; refine hth.mono ?_; rintro e w' ⟨rfl, rfl⟩) | (go_at_call 82; refine hthere.mono ?_; rintro e w' ⟨rfl, rfl⟩))
      generalize w'.alloc (.cells #[.int .i64 xgn, .int .i64 0, .int .i64 xsp, .int .i64 xth, .bool xdm, .int .i64 xwy] 105) = W0 at *
      generalize w'.heap.size = B at *
      refine (hnote true).mono ?_
      rintro e w1 ⟨rfl, v', hS⟩
      have hjj : (its.set i (meterI 67 (some x) (s.note 3 m 3 true) v'))[j]? = some (refI y g x hs ws) := set_other hj hij
      have p1 : RefTab w1 y g x hs ws := hS.get (j + 1) hjj
      have e1' : w1.cell? ⟨y, 1, none⟩ = some (.slice (some ⟨g, 0, none⟩) hs.length hs.length) := cell_of_heap p1.tab
      obtain ⟨t0, t1, t2, t3, t4, t5, _, _⟩ := p1.cell hm
      have b0 : w1.cell? ⟨B, 0, none⟩ = some (.int .i64 xgn) := hS.cell 0 rfl 0
      have l0 : w1.frozen? ⟨g, m * 8, none⟩ = false := frozen_of_heap p1.cells
      have fb0 : w1.frozen? ⟨B, 0, none⟩ = false := hS.frozen 0 rfl 0
      have b1 : w1.cell? ⟨B, 1, none⟩ = some (.int .i64 0) := hS.cell 0 rfl 1
      have l1 : w1.frozen? ⟨g, m * 8 + 1, none⟩ = false := frozen_of_heap p1.cells
      have fb1 : w1.frozen? ⟨B, 1, none⟩ = false := hS.frozen 0 rfl 1
      have b2 : w1.cell? ⟨B, 2, none⟩ = some (.int .i64 xsp) := hS.cell 0 rfl 2
      have l2 : w1.frozen? ⟨g, m * 8 + 2, none⟩ = false := frozen_of_heap p1.cells
      have fb2 : w1.frozen? ⟨B, 2, none⟩ = false := hS.frozen 0 rfl 2
      have b3 : w1.cell? ⟨B, 3, none⟩ = some (.int .i64 xth) := hS.cell 0 rfl 3
      have l3 : w1.frozen? ⟨g, m * 8 + 3, none⟩ = false := frozen_of_heap p1.cells
      have fb3 : w1.frozen? ⟨B, 3, none⟩ = false := hS.frozen 0 rfl 3
      have b4 : w1.cell? ⟨B, 4, none⟩ = some (.bool xdm) := hS.cell 0 rfl 4
      have l4 : w1.frozen? ⟨g, m * 8 + 4, none⟩ = false := frozen_of_heap p1.cells
      have fb4 : w1.frozen? ⟨B, 4, none⟩ = false := hS.frozen 0 rfl 4
      have b5 : w1.cell? ⟨B, 5, none⟩ = some (.int .i64 xwy) := hS.cell 0 rfl 5
      have l5 : w1.frozen? ⟨g, m * 8 + 5, none⟩ = false := frozen_of_heap p1.cells
      have fb5 : w1.frozen? ⟨B, 5, none⟩ = false := hS.frozen 0 rfl 5
      have n1 : ¬ g = B := hS.ne (j + 1) 0 hjj rfl (by omega) (by simp [refI]) (by simp [boxI])
      have n2 : ¬ B = g := fun e => n1 e.symm
      have n3 : ¬ y = g := p1.yg
      have n4 : ¬ y = B := hS.ne (j + 1) 0 hjj rfl (by omega) (by simp [refI]) (by simp [boxI])
      have n5 : ¬ B = y := fun e => n4 e.symm
      have HS : Hid (St o ((its.set i (meterI 67 (some x) (s.note 3 m 3 true) v')).set j (refI y g x (hs.set m ⟨(xgn + 1), 1, 0, th, false, 0⟩) ws)) ((((((w1.setCell ⟨g, m * 8, none⟩ (.int .i64 (xgn + 1))).setCell ⟨g, m * 8 + 1, none⟩ (.int .i64 1)).setCell ⟨g, m * 8 + 2, none⟩ (.int .i64 0)).setCell ⟨g, m * 8 + 3, none⟩ (.int .i64 th)).setCell ⟨g, m * 8 + 4, none⟩ (.bool false)).setCell ⟨g, m * 8 + 5, none⟩ (.int .i64 0))) := (St.refHead hS (j + 1) hjj hm ⟨(xgn + 1), 1, 0, th, false, 0⟩).pop
      clear hS hnote hthere p1 hjj
      go_wp2_with fail
      go_region
      all_goals
        go_wp2
        go_ret2
        exact ⟨rfl, v', by first | exact HS.out.drew | exact HS.out⟩
    · have h0' : (xsa == 0) = false := by simpa using h0
      have h1' : (xsa != 0) = true := by simpa using h0
      have e1 : (claimOp th).E hs (m : Int) = 5 := by simp [HOp.E, claimOp, ht, hx, h0, h0']
      have e2 : (claimOp th).S s hs (m : Int) = s.note 3 m 3 false := by simp [HOp.S, claimOp, ht, hx, h0, h0']
      have e3 : (claimOp th).H hs (m : Int) = hs := by simp [HOp.H, claimOp, ht, hx, h0, h0']
      have e4 : claimR hs (m : Int) th = 0 := by simp [claimR, ht, hx, h0, h0']
      rw [e1, e2, e3, e4]
      clear h0
      go_enter Tryz.func50, Tryz.ntmps50
      go_wp2_with (first | (go_at_call 90; refine hth.mono ?_; rintro e w' ⟨rfl, rfl⟩) | (go_at_call 82; refine hthere.mono ?_; rintro e w' ⟨rfl, rfl⟩))
      generalize w'.alloc (.cells #[.int .i64 xgn, .int .i64 xsa, .int .i64 xsp, .int .i64 xth, .bool xdm, .int .i64 xwy] 105) = W0 at *
      generalize w'.heap.size = B at *
      refine (hnote false).mono ?_
      rintro e w1 ⟨rfl, v', hS⟩
      have b0 : w1.cell? ⟨B, 0, none⟩ = some (.int .i64 xgn) := hS.cell 0 rfl 0
      have b1 : w1.cell? ⟨B, 1, none⟩ = some (.int .i64 xsa) := hS.cell 0 rfl 1
      have HS : Hid _ := hS.pop
      clear hS hnote hthere
      go_wp2
      go_ret2
      refine ⟨rfl, v', ?_⟩
      rw [set_back (set_other hj hij)]
      exact HS.out
  · have hT : hasSlot hs.length k = false := by
      cases hq : hasSlot hs.length k
      · rfl
      · exact absurd ((hasSlot_iff _ _).1 hq) hk
    rw [hT] at hthere
    have hS : Hid (St o ((its.set i (meterI 67 (some x) s v)).set j (refI y g x hs ws)) w) := keep_all h hi hj
    have e1 : (claimOp th).E hs k = 2 := by simp [HOp.E, claimOp, ht, hx]
    have e2 : (claimOp th).S s hs k = s := by simp [HOp.S, claimOp, ht, hx]
    have e3 : (claimOp th).H hs k = hs := by simp [HOp.H, claimOp, ht, hx]
    have e4 : claimR hs k th = 0 := by simp [claimR, ht, hx]
    rw [e1, e2, e3, e4]

    clear h
    go_enter Tryz.func50, Tryz.ntmps50
    go_wp2_with (first | (go_at_call 90; refine hth.mono ?_; rintro e w' ⟨rfl, rfl⟩) | (go_at_call 82; refine hthere.mono ?_; rintro e w' ⟨rfl, rfl⟩))
    go_ret2
    exact ⟨rfl, v, hS.out⟩

set_option maxRecDepth 100000 in
set_option maxHeartbeats 2000000 in
theorem refReady_st {o w : World} {its : List It} (h : St o its w) (i j : Nat) {y g x : Nat} {s : Mt} {v : Value} {hs : List Hd} {ws : List Int} (hi : its[i]? = some (meterI 67 (some x) s v)) (hj : its[j]? = some (refI y g x hs ws)) (hij : i ≠ j)
    {n N : Nat} (hw : s.within n) (hn : n ≤ 4611686018427) (hok : HsOk hs N) (hN : N ≤ 4611686018427387904) (k gn p : Int) :
    Calls Tryz.prog 52 #[.pointer (some ⟨y, 0, none⟩), .int .i64 k, .int .i64 gn, .int .i64 p] w fun e w' => e = .returned (.int .i64 ((readyOp gn p).E hs k)) ∧
      ∃ v', St o ((its.set i (meterI 67 (some x) ((readyOp gn p).S s hs k) v')).set j (refI y g x ((readyOp gn p).H hs k) ws)) w' := by
  by_cases hp : p < 1
  · have hS : Hid (St o ((its.set i (meterI 67 (some x) s v)).set j (refI y g x hs ws)) w) := keep_all h hi hj
    have e1 : (readyOp gn p).E hs k = 1 := by simp [HOp.E, readyOp, hp]
    have e2 : (readyOp gn p).S s hs k = s := by simp [HOp.S, readyOp, hp]
    have e3 : (readyOp gn p).H hs k = hs := by simp [HOp.H, readyOp, hp]
    rw [e1, e2, e3]

    clear h
    go_enter Tryz.func52, Tryz.ntmps52
    go_wp2
    go_ret
    exact ⟨rfl, v, hS.out⟩
  have hthere := refThere h j hj k
  rcases headAt_cases hs k with ⟨m, hm, rfl, hx⟩ | ⟨hk, hx⟩
  · have hT : hasSlot hs.length (m : Int) = true := (hasSlot_iff _ _).2 ⟨by omega, by omega⟩
    rw [hT] at hthere
    have i0 : (0 : Int) ≤ (m : Int) := Int.natCast_nonneg _
    have i1 : (m : Int) < (hs.length : Int) := by omega
    have p0 : RefTab w y g x hs ws := h.get j hj
    have hl8 : (hs.length : Int) ≤ 8 := by have := p0.n8; omega
    have c1 : w.cell? ⟨y, 1, none⟩ = some (.slice (some ⟨g, 0, none⟩) hs.length hs.length) := cell_of_heap p0.tab
    obtain ⟨d0, d1, d2, d3, d4, d5, _, _⟩ := p0.cell hm
    have hX := hok _ (List.getElem_mem hm)
    have xg0 := hX.g0
    have xg1 := hX.g1
    have HM : Hid (hs[m] = hs[m]) := rfl
    generalize hs[m] = X at d0 d1 d2 d3 d4 d5 hx xg0 xg1 hX
    obtain ⟨xgn, xsa, xsp, xth, xdm, xwy⟩ := X
    simp only at d0 d1 d2 d3 d4 d5 xg0 xg1
    clear hX HM p0
    have hS1 := h.box #[.int .i64 xgn, .int .i64 xsa, .int .i64 xsp, .int .i64 xth, .bool xdm, .int .i64 xwy] 105
    have hnote : ∀ ok, Calls Tryz.prog 83 #[.pointer (some ⟨y, 0, none⟩), .int .i64 3, .int .i64 m, .int .i64 3, .bool ok] (w.alloc (.cells #[.int .i64 xgn, .int .i64 xsa, .int .i64 xsp, .int .i64 xth, .bool xdm, .int .i64 xwy] 105)) fun e w' => e = .returned (.tuple #[]) ∧ ∃ v', St o (boxI w.heap.size #[.int .i64 xgn, .int .i64 xsa, .int .i64 xsp, .int .i64 xth, .bool xdm, .int .i64 xwy] 105 :: its.set i (meterI 67 (some x) (s.note 3 m 3 ok) v')) w' := fun ok => refTnote hS1 (i + 1) (j + 1) hi hj hw hn 3 m 3 ok
    clear hS1 h
    by_cases h0 : xsa = 1 ∧ xgn = gn
    · obtain ⟨rfl, rfl⟩ := h0
      have q1 : (xgn == xgn) = true := by simp
      have e1 : (readyOp xgn p).E hs (m : Int) = 0 := by simp [HOp.E, readyOp, hp, hx]
      have e2 : (readyOp xgn p).S s hs (m : Int) = s.note 3 m 3 true := by simp [HOp.S, readyOp, hp, hx]
      have e3 : (readyOp xgn p).H hs (m : Int) = hs.set m ⟨xgn, 2, p, xth, xdm, xwy⟩ := by simp [HOp.H, readyOp, hp, hx]
      rw [e1, e2, e3]
      go_enter Tryz.func52, Tryz.ntmps52
      go_wp2_with (go_at_call 82; refine hthere.mono ?_; rintro e w' ⟨rfl, rfl⟩)
      generalize w'.alloc (.cells #[.int .i64 xgn, .int .i64 1, .int .i64 xsp, .int .i64 xth, .bool xdm, .int .i64 xwy] 105) = W0 at *
      generalize w'.heap.size = B at *
      refine (hnote true).mono ?_
      rintro e w1 ⟨rfl, v', hS⟩
      have hjj : (its.set i (meterI 67 (some x) (s.note 3 m 3 true) v'))[j]? = some (refI y g x hs ws) := set_other hj hij
      have p1 : RefTab w1 y g x hs ws := hS.get (j + 1) hjj
      have e1' : w1.cell? ⟨y, 1, none⟩ = some (.slice (some ⟨g, 0, none⟩) hs.length hs.length) := cell_of_heap p1.tab
      obtain ⟨t0, t1, t2, t3, t4, t5, _, _⟩ := p1.cell hm
      have b0 : w1.cell? ⟨B, 0, none⟩ = some (.int .i64 xgn) := hS.cell 0 rfl 0
      have l0 : w1.frozen? ⟨g, m * 8, none⟩ = false := frozen_of_heap p1.cells
      have fb0 : w1.frozen? ⟨B, 0, none⟩ = false := hS.frozen 0 rfl 0
      have b1 : w1.cell? ⟨B, 1, none⟩ = some (.int .i64 1) := hS.cell 0 rfl 1
      have l1 : w1.frozen? ⟨g, m * 8 + 1, none⟩ = false := frozen_of_heap p1.cells
      have fb1 : w1.frozen? ⟨B, 1, none⟩ = false := hS.frozen 0 rfl 1
      have b2 : w1.cell? ⟨B, 2, none⟩ = some (.int .i64 xsp) := hS.cell 0 rfl 2
      have l2 : w1.frozen? ⟨g, m * 8 + 2, none⟩ = false := frozen_of_heap p1.cells
      have fb2 : w1.frozen? ⟨B, 2, none⟩ = false := hS.frozen 0 rfl 2
      have b3 : w1.cell? ⟨B, 3, none⟩ = some (.int .i64 xth) := hS.cell 0 rfl 3
      have l3 : w1.frozen? ⟨g, m * 8 + 3, none⟩ = false := frozen_of_heap p1.cells
      have fb3 : w1.frozen? ⟨B, 3, none⟩ = false := hS.frozen 0 rfl 3
      have b4 : w1.cell? ⟨B, 4, none⟩ = some (.bool xdm) := hS.cell 0 rfl 4
      have l4 : w1.frozen? ⟨g, m * 8 + 4, none⟩ = false := frozen_of_heap p1.cells
      have fb4 : w1.frozen? ⟨B, 4, none⟩ = false := hS.frozen 0 rfl 4
      have b5 : w1.cell? ⟨B, 5, none⟩ = some (.int .i64 xwy) := hS.cell 0 rfl 5
      have l5 : w1.frozen? ⟨g, m * 8 + 5, none⟩ = false := frozen_of_heap p1.cells
      have fb5 : w1.frozen? ⟨B, 5, none⟩ = false := hS.frozen 0 rfl 5
      have n1 : ¬ g = B := hS.ne (j + 1) 0 hjj rfl (by omega) (by simp [refI]) (by simp [boxI])
      have n2 : ¬ B = g := fun e => n1 e.symm
      have n3 : ¬ y = g := p1.yg
      have n4 : ¬ y = B := hS.ne (j + 1) 0 hjj rfl (by omega) (by simp [refI]) (by simp [boxI])
      have n5 : ¬ B = y := fun e => n4 e.symm
      have HS : Hid (St o ((its.set i (meterI 67 (some x) (s.note 3 m 3 true) v')).set j (refI y g x (hs.set m ⟨xgn, 2, p, xth, xdm, xwy⟩) ws)) ((((((((w1.setCell ⟨B, 1, none⟩ (.int .i64 2)).setCell ⟨B, 2, none⟩ (.int .i64 p)).setCell ⟨g, m * 8, none⟩ (.int .i64 xgn)).setCell ⟨g, m * 8 + 1, none⟩ (.int .i64 2)).setCell ⟨g, m * 8 + 2, none⟩ (.int .i64 p)).setCell ⟨g, m * 8 + 3, none⟩ (.int .i64 xth)).setCell ⟨g, m * 8 + 4, none⟩ (.bool xdm)).setCell ⟨g, m * 8 + 5, none⟩ (.int .i64 xwy))) := (St.refHead ((hS.write 0 rfl 1 (.int .i64 2)).write 0 rfl 2 (.int .i64 p)) (j + 1) hjj hm ⟨xgn, 2, p, xth, xdm, xwy⟩).pop
      clear hS hnote hthere p1 hjj
      go_wp2_with fail
      go_region
      all_goals
        go_wp2
        go_ret
        exact ⟨rfl, v', by first | exact HS.out.drew | exact HS.out⟩
    · have hnk : (readyOp gn p).ok ⟨xgn, xsa, xsp, xth, xdm, xwy⟩ = false := by simp [readyOp]; exact fun h1 h2 => h0 ⟨h1, h2⟩
      have e1 : (readyOp gn p).E hs (m : Int) = 4 := by simp only [HOp.E, hx, hnk]; simp [readyOp, hp]
      have e2 : (readyOp gn p).S s hs (m : Int) = s.note 3 m 3 false := by simp only [HOp.S, hx, hnk]; simp [readyOp, hp]
      have e3 : (readyOp gn p).H hs (m : Int) = hs := by simp only [HOp.H, hx, hnk]; simp [readyOp, hp]
      rw [e1, e2, e3]
      clear hnk e1 e2 e3
      by_cases h1 : xsa = 1
      · have h2 : (xgn == gn) = false := by simp; exact fun e => h0 ⟨h1, e⟩
        subst h1
        clear h0
        go_enter Tryz.func52, Tryz.ntmps52
        go_wp2_with (go_at_call 82; refine hthere.mono ?_; rintro e w' ⟨rfl, rfl⟩)
        generalize w'.alloc (.cells #[.int .i64 xgn, .int .i64 1, .int .i64 xsp, .int .i64 xth, .bool xdm, .int .i64 xwy] 105) = W0 at *
        generalize w'.heap.size = B at *
        refine (hnote false).mono ?_
        rintro e w1 ⟨rfl, v', hS⟩
        have b0 : w1.cell? ⟨B, 0, none⟩ = some (.int .i64 xgn) := hS.cell 0 rfl 0
        have b1 : w1.cell? ⟨B, 1, none⟩ = some (.int .i64 1) := hS.cell 0 rfl 1
        have HS : Hid _ := hS.pop
        clear hS hnote hthere
        go_wp2
        go_ret
        refine ⟨rfl, v', ?_⟩
        rw [set_back (set_other hj hij)]
        exact HS.out
      · have h2 : (xsa == 1) = false := by simpa using h1
        clear h0 h1
        go_enter Tryz.func52, Tryz.ntmps52
        go_wp2_with (go_at_call 82; refine hthere.mono ?_; rintro e w' ⟨rfl, rfl⟩)
        generalize w'.alloc (.cells #[.int .i64 xgn, .int .i64 xsa, .int .i64 xsp, .int .i64 xth, .bool xdm, .int .i64 xwy] 105) = W0 at *
        generalize w'.heap.size = B at *
        refine (hnote false).mono ?_
        rintro e w1 ⟨rfl, v', hS⟩
        have b0 : w1.cell? ⟨B, 0, none⟩ = some (.int .i64 xgn) := hS.cell 0 rfl 0
        have b1 : w1.cell? ⟨B, 1, none⟩ = some (.int .i64 xsa) := hS.cell 0 rfl 1
        have HS : Hid _ := hS.pop
        clear hS hnote hthere
        go_wp2
        go_ret
        refine ⟨rfl, v', ?_⟩
        rw [set_back (set_other hj hij)]
        exact HS.out
  · have hT : hasSlot hs.length k = false := by
      cases hq : hasSlot hs.length k
      · rfl
      · exact absurd ((hasSlot_iff _ _).1 hq) hk
    rw [hT] at hthere
    have hS : Hid (St o ((its.set i (meterI 67 (some x) s v)).set j (refI y g x hs ws)) w) := keep_all h hi hj
    have e1 : (readyOp gn p).E hs k = 2 := by simp [HOp.E, readyOp, hp, hx]
    have e2 : (readyOp gn p).S s hs k = s := by simp [HOp.S, readyOp, hp, hx]
    have e3 : (readyOp gn p).H hs k = hs := by simp [HOp.H, readyOp, hp, hx]
    rw [e1, e2, e3]

    clear h
    go_enter Tryz.func52, Tryz.ntmps52
    go_wp2_with (go_at_call 82; refine hthere.mono ?_; rintro e w' ⟨rfl, rfl⟩)
    go_ret
    exact ⟨rfl, v, hS.out⟩

set_option maxRecDepth 100000 in
set_option maxHeartbeats 2000000 in
theorem refDoom_st {o w : World} {its : List It} (h : St o its w) (i j : Nat) {y g x : Nat} {s : Mt} {v : Value} {hs : List Hd} {ws : List Int} (hi : its[i]? = some (meterI 67 (some x) s v)) (hj : its[j]? = some (refI y g x hs ws)) (hij : i ≠ j)
    {n N : Nat} (hw : s.within n) (hn : n ≤ 4611686018427) (hok : HsOk hs N) (hN : N ≤ 4611686018427387904) (k gn th : Int) :
    Calls Tryz.prog 54 #[.pointer (some ⟨y, 0, none⟩), .int .i64 k, .int .i64 gn, .int .i64 th] w fun e w' => e = .returned (.int .i64 ((doomOp gn th).E hs k)) ∧
      ∃ v', St o ((its.set i (meterI 67 (some x) ((doomOp gn th).S s hs k) v')).set j (refI y g x ((doomOp gn th).H hs k) ws)) w' := by
  cases ht : isTh th
  · have hS : Hid (St o ((its.set i (meterI 67 (some x) s v)).set j (refI y g x hs ws)) w) := keep_all h hi hj
    have hth : Calls Tryz.prog 90 #[.int .i64 th] w fun e w' => e = .returned (.bool false) ∧ w' = w := ht ▸ refThread_any th w
    have e1 : (doomOp gn th).E hs k = 1 := by simp [HOp.E, doomOp, ht]
    have e2 : (doomOp gn th).S s hs k = s := by simp [HOp.S, doomOp, ht]
    have e3 : (doomOp gn th).H hs k = hs := by simp [HOp.H, doomOp, ht]
    rw [e1, e2, e3]

    clear h
    go_enter Tryz.func54, Tryz.ntmps54
    go_wp2_with (go_at_call 90; refine hth.mono ?_; rintro e w' ⟨rfl, rfl⟩)
    go_ret
    exact ⟨rfl, v, hS.out⟩
  have hth : Calls Tryz.prog 90 #[.int .i64 th] w fun e w' => e = .returned (.bool true) ∧ w' = w := ht ▸ refThread_any th w
  have hthere := refThere h j hj k
  rcases headAt_cases hs k with ⟨m, hm, rfl, hx⟩ | ⟨hk, hx⟩
  · have hT : hasSlot hs.length (m : Int) = true := (hasSlot_iff _ _).2 ⟨by omega, by omega⟩
    rw [hT] at hthere
    have i0 : (0 : Int) ≤ (m : Int) := Int.natCast_nonneg _
    have i1 : (m : Int) < (hs.length : Int) := by omega
    have p0 : RefTab w y g x hs ws := h.get j hj
    have hl8 : (hs.length : Int) ≤ 8 := by have := p0.n8; omega
    have c1 : w.cell? ⟨y, 1, none⟩ = some (.slice (some ⟨g, 0, none⟩) hs.length hs.length) := cell_of_heap p0.tab
    obtain ⟨d0, d1, d2, d3, d4, d5, _, _⟩ := p0.cell hm
    have hX := hok _ (List.getElem_mem hm)
    have xg0 := hX.g0
    have xg1 := hX.g1
    have HM : Hid (hs[m] = hs[m]) := rfl
    generalize hs[m] = X at d0 d1 d2 d3 d4 d5 hx xg0 xg1 hX
    obtain ⟨xgn, xsa, xsp, xth, xdm, xwy⟩ := X
    simp only at d0 d1 d2 d3 d4 d5 xg0 xg1
    clear hX HM p0
    have hS1 := h.box #[.int .i64 xgn, .int .i64 xsa, .int .i64 xsp, .int .i64 xth, .bool xdm, .int .i64 xwy] 105
    have hnote : ∀ ok, Calls Tryz.prog 83 #[.pointer (some ⟨y, 0, none⟩), .int .i64 3, .int .i64 m, .int .i64 3, .bool ok] (w.alloc (.cells #[.int .i64 xgn, .int .i64 xsa, .int .i64 xsp, .int .i64 xth, .bool xdm, .int .i64 xwy] 105)) fun e w' => e = .returned (.tuple #[]) ∧ ∃ v', St o (boxI w.heap.size #[.int .i64 xgn, .int .i64 xsa, .int .i64 xsp, .int .i64 xth, .bool xdm, .int .i64 xwy] 105 :: its.set i (meterI 67 (some x) (s.note 3 m 3 ok) v')) w' := fun ok => refTnote hS1 (i + 1) (j + 1) hi hj hw hn 3 m 3 ok
    clear hS1 h
    by_cases h0 : xsa = 2 ∧ xgn = gn
    · obtain ⟨rfl, rfl⟩ := h0
      have q1 : (xgn == xgn) = true := by simp
      cases xdm
      · have e1 : (doomOp xgn th).E hs (m : Int) = 0 := by simp [HOp.E, doomOp, ht, hx]
        have e2 : (doomOp xgn th).S s hs (m : Int) = s.note 3 m 3 true := by simp [HOp.S, doomOp, ht, hx]
        have e3 : (doomOp xgn th).H hs (m : Int) = hs.set m ⟨xgn, 2, xsp, xth, true, th⟩ := by simp [HOp.H, doomOp, ht, hx]
        rw [e1, e2, e3]

        go_enter Tryz.func54, Tryz.ntmps54
        go_wp2_with (first | (go_at_call 90; refine hth.mono ?_; rintro e w' ⟨rfl, rfl⟩) | (go_at_call 82; refine hthere.mono ?_; rintro e w' ⟨rfl, rfl⟩))
        generalize w'.alloc (.cells #[.int .i64 xgn, .int .i64 2, .int .i64 xsp, .int .i64 xth, .bool false, .int .i64 xwy] 105) = W0 at *
        generalize w'.heap.size = B at *
        refine (hnote true).mono ?_
        rintro e w1 ⟨rfl, v', hS⟩
        have hjj : (its.set i (meterI 67 (some x) (s.note 3 m 3 true) v'))[j]? = some (refI y g x hs ws) := set_other hj hij
        have p1 : RefTab w1 y g x hs ws := hS.get (j + 1) hjj
        have e1' : w1.cell? ⟨y, 1, none⟩ = some (.slice (some ⟨g, 0, none⟩) hs.length hs.length) := cell_of_heap p1.tab
        obtain ⟨t0, t1, t2, t3, t4, t5, _, _⟩ := p1.cell hm
        have b0 : w1.cell? ⟨B, 0, none⟩ = some (.int .i64 xgn) := hS.cell 0 rfl 0
        have l0 : w1.frozen? ⟨g, m * 8, none⟩ = false := frozen_of_heap p1.cells
        have fb0 : w1.frozen? ⟨B, 0, none⟩ = false := hS.frozen 0 rfl 0
        have b1 : w1.cell? ⟨B, 1, none⟩ = some (.int .i64 2) := hS.cell 0 rfl 1
        have l1 : w1.frozen? ⟨g, m * 8 + 1, none⟩ = false := frozen_of_heap p1.cells
        have fb1 : w1.frozen? ⟨B, 1, none⟩ = false := hS.frozen 0 rfl 1
        have b2 : w1.cell? ⟨B, 2, none⟩ = some (.int .i64 xsp) := hS.cell 0 rfl 2
        have l2 : w1.frozen? ⟨g, m * 8 + 2, none⟩ = false := frozen_of_heap p1.cells
        have fb2 : w1.frozen? ⟨B, 2, none⟩ = false := hS.frozen 0 rfl 2
        have b3 : w1.cell? ⟨B, 3, none⟩ = some (.int .i64 xth) := hS.cell 0 rfl 3
        have l3 : w1.frozen? ⟨g, m * 8 + 3, none⟩ = false := frozen_of_heap p1.cells
        have fb3 : w1.frozen? ⟨B, 3, none⟩ = false := hS.frozen 0 rfl 3
        have b4 : w1.cell? ⟨B, 4, none⟩ = some (.bool false) := hS.cell 0 rfl 4
        have l4 : w1.frozen? ⟨g, m * 8 + 4, none⟩ = false := frozen_of_heap p1.cells
        have fb4 : w1.frozen? ⟨B, 4, none⟩ = false := hS.frozen 0 rfl 4
        have b5 : w1.cell? ⟨B, 5, none⟩ = some (.int .i64 xwy) := hS.cell 0 rfl 5
        have l5 : w1.frozen? ⟨g, m * 8 + 5, none⟩ = false := frozen_of_heap p1.cells
        have fb5 : w1.frozen? ⟨B, 5, none⟩ = false := hS.frozen 0 rfl 5
        have n1 : ¬ g = B := hS.ne (j + 1) 0 hjj rfl (by omega) (by simp [refI]) (by simp [boxI])
        have n2 : ¬ B = g := fun e => n1 e.symm
        have n3 : ¬ y = g := p1.yg
        have n4 : ¬ y = B := hS.ne (j + 1) 0 hjj rfl (by omega) (by simp [refI]) (by simp [boxI])
        have n5 : ¬ B = y := fun e => n4 e.symm
        have HS : Hid (St o ((its.set i (meterI 67 (some x) (s.note 3 m 3 true) v')).set j (refI y g x (hs.set m ⟨xgn, 2, xsp, xth, true, th⟩) ws)) ((((((((w1.setCell ⟨B, 4, none⟩ (.bool true)).setCell ⟨B, 5, none⟩ (.int .i64 th)).setCell ⟨g, m * 8, none⟩ (.int .i64 xgn)).setCell ⟨g, m * 8 + 1, none⟩ (.int .i64 2)).setCell ⟨g, m * 8 + 2, none⟩ (.int .i64 xsp)).setCell ⟨g, m * 8 + 3, none⟩ (.int .i64 xth)).setCell ⟨g, m * 8 + 4, none⟩ (.bool true)).setCell ⟨g, m * 8 + 5, none⟩ (.int .i64 th))) := (St.refHead ((hS.write 0 rfl 4 (.bool true)).write 0 rfl 5 (.int .i64 th)) (j + 1) hjj hm ⟨xgn, 2, xsp, xth, true, th⟩).pop
        clear hS hnote hthere p1 hjj
        go_wp2_with fail
        go_region
        all_goals
          go_wp2
          go_ret
          exact ⟨rfl, v', by first | exact HS.out.drew | exact HS.out⟩
      · have hsame : hs.set m ⟨xgn, 2, xsp, xth, true, xwy⟩ = hs := by
          apply List.ext_getElem?
          intro jj
          rw [List.getElem?_set]
          by_cases e : m = jj
          · subst e
            rw [headAt_in hm] at hx
            simp [hm, Option.some.inj hx]
          · simp [e]
        have e1 : (doomOp xgn th).E hs (m : Int) = 0 := by simp [HOp.E, doomOp, ht, hx]
        have e2 : (doomOp xgn th).S s hs (m : Int) = s.note 3 m 3 true := by simp [HOp.S, doomOp, ht, hx]
        have e3 : (doomOp xgn th).H hs (m : Int) = hs.set m ⟨xgn, 2, xsp, xth, true, xwy⟩ := by simp [HOp.H, doomOp, ht, hx]
        rw [e1, e2, e3]
        rw [hsame]
        clear hsame

        go_enter Tryz.func54, Tryz.ntmps54
        go_wp2_with (first | (go_at_call 90; refine hth.mono ?_; rintro e w' ⟨rfl, rfl⟩) | (go_at_call 82; refine hthere.mono ?_; rintro e w' ⟨rfl, rfl⟩))
        generalize w'.alloc (.cells #[.int .i64 xgn, .int .i64 2, .int .i64 xsp, .int .i64 xth, .bool true, .int .i64 xwy] 105) = W0 at *
        generalize w'.heap.size = B at *
        refine (hnote true).mono ?_
        rintro e w1 ⟨rfl, v', hS⟩
        have b4 : w1.cell? ⟨B, 4, none⟩ = some (.bool true) := hS.cell 0 rfl 4
        have HS : Hid _ := hS.pop
        clear hS hnote hthere
        go_wp2
        go_ret
        refine ⟨rfl, v', ?_⟩
        rw [set_back (set_other hj hij)]
        exact HS.out
    · have hnk : (doomOp gn th).ok ⟨xgn, xsa, xsp, xth, xdm, xwy⟩ = false := by simp [doomOp]; exact fun h1 h2 => h0 ⟨h1, h2⟩
      have e1 : (doomOp gn th).E hs (m : Int) = 4 := by simp only [HOp.E, hx, hnk]; simp [doomOp, ht]
      have e2 : (doomOp gn th).S s hs (m : Int) = s.note 3 m 3 false := by simp only [HOp.S, hx, hnk]; simp [doomOp, ht]
      have e3 : (doomOp gn th).H hs (m : Int) = hs := by simp only [HOp.H, hx, hnk]; simp [doomOp, ht]
      rw [e1, e2, e3]
      clear hnk e1 e2 e3
      by_cases h1 : xsa = 2
      · have h2 : (xgn == gn) = false := by simp; exact fun e => h0 ⟨h1, e⟩
        subst h1
        clear h0
        go_enter Tryz.func54, Tryz.ntmps54
        go_wp2_with (first | (go_at_call 90; refine hth.mono ?_; rintro e w' ⟨rfl, rfl⟩) | (go_at_call 82; refine hthere.mono ?_; rintro e w' ⟨rfl, rfl⟩))
        generalize w'.alloc (.cells #[.int .i64 xgn, .int .i64 2, .int .i64 xsp, .int .i64 xth, .bool xdm, .int .i64 xwy] 105) = W0 at *
        generalize w'.heap.size = B at *
        refine (hnote false).mono ?_
        rintro e w1 ⟨rfl, v', hS⟩
        have b0 : w1.cell? ⟨B, 0, none⟩ = some (.int .i64 xgn) := hS.cell 0 rfl 0
        have b1 : w1.cell? ⟨B, 1, none⟩ = some (.int .i64 2) := hS.cell 0 rfl 1
        have HS : Hid _ := hS.pop
        clear hS hnote hthere
        go_wp2
        go_ret
        refine ⟨rfl, v', ?_⟩
        rw [set_back (set_other hj hij)]
        exact HS.out
      · have h2 : (xsa == 2) = false := by simpa using h1
        clear h0 h1
        go_enter Tryz.func54, Tryz.ntmps54
        go_wp2_with (first | (go_at_call 90; refine hth.mono ?_; rintro e w' ⟨rfl, rfl⟩) | (go_at_call 82; refine hthere.mono ?_; rintro e w' ⟨rfl, rfl⟩))
        generalize w'.alloc (.cells #[.int .i64 xgn, .int .i64 xsa, .int .i64 xsp, .int .i64 xth, .bool xdm, .int .i64 xwy] 105) = W0 at *
        generalize w'.heap.size = B at *
        refine (hnote false).mono ?_
        rintro e w1 ⟨rfl, v', hS⟩
        have b0 : w1.cell? ⟨B, 0, none⟩ = some (.int .i64 xgn) := hS.cell 0 rfl 0
        have b1 : w1.cell? ⟨B, 1, none⟩ = some (.int .i64 xsa) := hS.cell 0 rfl 1
        have HS : Hid _ := hS.pop
        clear hS hnote hthere
        go_wp2
        go_ret
        refine ⟨rfl, v', ?_⟩
        rw [set_back (set_other hj hij)]
        exact HS.out
  · have hT : hasSlot hs.length k = false := by
      cases hq : hasSlot hs.length k
      · rfl
      · exact absurd ((hasSlot_iff _ _).1 hq) hk
    rw [hT] at hthere
    have hS : Hid (St o ((its.set i (meterI 67 (some x) s v)).set j (refI y g x hs ws)) w) := keep_all h hi hj
    have e1 : (doomOp gn th).E hs k = 2 := by simp [HOp.E, doomOp, ht, hx]
    have e2 : (doomOp gn th).S s hs k = s := by simp [HOp.S, doomOp, ht, hx]
    have e3 : (doomOp gn th).H hs k = hs := by simp [HOp.H, doomOp, ht, hx]
    rw [e1, e2, e3]

    clear h
    go_enter Tryz.func54, Tryz.ntmps54
    go_wp2_with (first | (go_at_call 90; refine hth.mono ?_; rintro e w' ⟨rfl, rfl⟩) | (go_at_call 82; refine hthere.mono ?_; rintro e w' ⟨rfl, rfl⟩))
    go_ret
    exact ⟨rfl, v, hS.out⟩

set_option maxRecDepth 100000 in
set_option maxHeartbeats 2000000 in
theorem refFree_st {o w : World} {its : List It} (h : St o its w) (i j : Nat) {y g x : Nat} {s : Mt} {v : Value} {hs : List Hd} {ws : List Int} (hi : its[i]? = some (meterI 67 (some x) s v)) (hj : its[j]? = some (refI y g x hs ws)) (hij : i ≠ j)
    {n N : Nat} (hw : s.within n) (hn : n ≤ 4611686018427) (hok : HsOk hs N) (hN : N ≤ 4611686018427387904) (k gn : Int) :
    Calls Tryz.prog 56 #[.pointer (some ⟨y, 0, none⟩), .int .i64 k, .int .i64 gn] w fun e w' => e = .returned (.int .i64 ((freeOp gn).E hs k)) ∧
      ∃ v', St o ((its.set i (meterI 67 (some x) ((freeOp gn).S s hs k) v')).set j (refI y g x ((freeOp gn).H hs k) ws)) w' := by
  have hthere := refThere h j hj k
  rcases headAt_cases hs k with ⟨m, hm, rfl, hx⟩ | ⟨hk, hx⟩
  · have hT : hasSlot hs.length (m : Int) = true := (hasSlot_iff _ _).2 ⟨by omega, by omega⟩
    rw [hT] at hthere
    have i0 : (0 : Int) ≤ (m : Int) := Int.natCast_nonneg _
    have i1 : (m : Int) < (hs.length : Int) := by omega
    have p0 : RefTab w y g x hs ws := h.get j hj
    have hl8 : (hs.length : Int) ≤ 8 := by have := p0.n8; omega
    have c1 : w.cell? ⟨y, 1, none⟩ = some (.slice (some ⟨g, 0, none⟩) hs.length hs.length) := cell_of_heap p0.tab
    obtain ⟨d0, d1, d2, d3, d4, d5, _, _⟩ := p0.cell hm
    have hX := hok _ (List.getElem_mem hm)
    have xg0 := hX.g0
    have xg1 := hX.g1
    have HM : Hid (hs[m] = hs[m]) := rfl
    generalize hs[m] = X at d0 d1 d2 d3 d4 d5 hx xg0 xg1 hX
    obtain ⟨xgn, xsa, xsp, xth, xdm, xwy⟩ := X
    simp only at d0 d1 d2 d3 d4 d5 xg0 xg1
    clear hX HM p0
    have hS1 := h.box #[.int .i64 xgn, .int .i64 xsa, .int .i64 xsp, .int .i64 xth, .bool xdm, .int .i64 xwy] 105
    have hnote : ∀ ok, Calls Tryz.prog 83 #[.pointer (some ⟨y, 0, none⟩), .int .i64 3, .int .i64 m, .int .i64 3, .bool ok] (w.alloc (.cells #[.int .i64 xgn, .int .i64 xsa, .int .i64 xsp, .int .i64 xth, .bool xdm, .int .i64 xwy] 105)) fun e w' => e = .returned (.tuple #[]) ∧ ∃ v', St o (boxI w.heap.size #[.int .i64 xgn, .int .i64 xsa, .int .i64 xsp, .int .i64 xth, .bool xdm, .int .i64 xwy] 105 :: its.set i (meterI 67 (some x) (s.note 3 m 3 ok) v')) w' := fun ok => refTnote hS1 (i + 1) (j + 1) hi hj hw hn 3 m 3 ok
    clear hS1 h
    by_cases h0 : xsa = 0
    · subst h0
      have e1 : (freeOp gn).E hs (m : Int) = 4 := by simp [HOp.E, freeOp, hx]
      have e2 : (freeOp gn).S s hs (m : Int) = s.note 3 m 3 false := by simp [HOp.S, freeOp, hx]
      have e3 : (freeOp gn).H hs (m : Int) = hs := by simp [HOp.H, freeOp, hx]
      rw [e1, e2, e3]
      clear e1 e2 e3

      go_enter Tryz.func56, Tryz.ntmps56
      go_wp2_with (go_at_call 82; refine hthere.mono ?_; rintro e w' ⟨rfl, rfl⟩)
      generalize w'.alloc (.cells #[.int .i64 xgn, .int .i64 0, .int .i64 xsp, .int .i64 xth, .bool xdm, .int .i64 xwy] 105) = W0 at *
      generalize w'.heap.size = B at *
      refine (hnote false).mono ?_
      rintro e w1 ⟨rfl, v', hS⟩
      have b0 : w1.cell? ⟨B, 0, none⟩ = some (.int .i64 xgn) := hS.cell 0 rfl 0
      have b1 : w1.cell? ⟨B, 1, none⟩ = some (.int .i64 0) := hS.cell 0 rfl 1
      have HS : Hid _ := hS.pop
      clear hS hnote hthere
      go_wp2
      go_ret
      refine ⟨rfl, v', ?_⟩
      rw [set_back (set_other hj hij)]
      exact HS.out
    · have h0' : (xsa != 0) = true := by simpa using h0
      have h00 : (xsa == 0) = false := by simpa using h0
      by_cases h1 : xgn = gn
      · subst h1
        have q1 : (xgn == xgn) = true := by simp
        have e1 : (freeOp xgn).E hs (m : Int) = 0 := by simp [HOp.E, freeOp, hx, h0, h00]
        have e2 : (freeOp xgn).S s hs (m : Int) = s.note 3 m 3 true := by simp [HOp.S, freeOp, hx, h0, h00]
        have e3 : (freeOp xgn).H hs (m : Int) = hs.set m ⟨xgn, 0, 0, 0, false, 0⟩ := by simp [HOp.H, freeOp, hx, h0, h00]
        rw [e1, e2, e3]
        clear h0

        go_enter Tryz.func56, Tryz.ntmps56
        go_wp2_with (go_at_call 82; refine hthere.mono ?_; rintro e w' ⟨rfl, rfl⟩)
        generalize w'.alloc (.cells #[.int .i64 xgn, .int .i64 xsa, .int .i64 xsp, .int .i64 xth, .bool xdm, .int .i64 xwy] 105) = W0 at *
        generalize w'.heap.size = B at *
        refine (hnote true).mono ?_
        rintro e w1 ⟨rfl, v', hS⟩
        have hjj : (its.set i (meterI 67 (some x) (s.note 3 m 3 true) v'))[j]? = some (refI y g x hs ws) := set_other hj hij
        have p1 : RefTab w1 y g x hs ws := hS.get (j + 1) hjj
        have e1' : w1.cell? ⟨y, 1, none⟩ = some (.slice (some ⟨g, 0, none⟩) hs.length hs.length) := cell_of_heap p1.tab
        obtain ⟨t0, t1, t2, t3, t4, t5, _, _⟩ := p1.cell hm
        have b0 : w1.cell? ⟨B, 0, none⟩ = some (.int .i64 xgn) := hS.cell 0 rfl 0
        have l0 : w1.frozen? ⟨g, m * 8, none⟩ = false := frozen_of_heap p1.cells
        have fb0 : w1.frozen? ⟨B, 0, none⟩ = false := hS.frozen 0 rfl 0
        have b1 : w1.cell? ⟨B, 1, none⟩ = some (.int .i64 xsa) := hS.cell 0 rfl 1
        have l1 : w1.frozen? ⟨g, m * 8 + 1, none⟩ = false := frozen_of_heap p1.cells
        have fb1 : w1.frozen? ⟨B, 1, none⟩ = false := hS.frozen 0 rfl 1
        have b2 : w1.cell? ⟨B, 2, none⟩ = some (.int .i64 xsp) := hS.cell 0 rfl 2
        have l2 : w1.frozen? ⟨g, m * 8 + 2, none⟩ = false := frozen_of_heap p1.cells
        have fb2 : w1.frozen? ⟨B, 2, none⟩ = false := hS.frozen 0 rfl 2
        have b3 : w1.cell? ⟨B, 3, none⟩ = some (.int .i64 xth) := hS.cell 0 rfl 3
        have l3 : w1.frozen? ⟨g, m * 8 + 3, none⟩ = false := frozen_of_heap p1.cells
        have fb3 : w1.frozen? ⟨B, 3, none⟩ = false := hS.frozen 0 rfl 3
        have b4 : w1.cell? ⟨B, 4, none⟩ = some (.bool xdm) := hS.cell 0 rfl 4
        have l4 : w1.frozen? ⟨g, m * 8 + 4, none⟩ = false := frozen_of_heap p1.cells
        have fb4 : w1.frozen? ⟨B, 4, none⟩ = false := hS.frozen 0 rfl 4
        have b5 : w1.cell? ⟨B, 5, none⟩ = some (.int .i64 xwy) := hS.cell 0 rfl 5
        have l5 : w1.frozen? ⟨g, m * 8 + 5, none⟩ = false := frozen_of_heap p1.cells
        have fb5 : w1.frozen? ⟨B, 5, none⟩ = false := hS.frozen 0 rfl 5
        have n1 : ¬ g = B := hS.ne (j + 1) 0 hjj rfl (by omega) (by simp [refI]) (by simp [boxI])
        have n2 : ¬ B = g := fun e => n1 e.symm
        have n3 : ¬ y = g := p1.yg
        have n4 : ¬ y = B := hS.ne (j + 1) 0 hjj rfl (by omega) (by simp [refI]) (by simp [boxI])
        have n5 : ¬ B = y := fun e => n4 e.symm
        have HS : Hid (St o ((its.set i (meterI 67 (some x) (s.note 3 m 3 true) v')).set j (refI y g x (hs.set m ⟨xgn, 0, 0, 0, false, 0⟩) ws)) ((((((w1.setCell ⟨g, m * 8, none⟩ (.int .i64 xgn)).setCell ⟨g, m * 8 + 1, none⟩ (.int .i64 0)).setCell ⟨g, m * 8 + 2, none⟩ (.int .i64 0)).setCell ⟨g, m * 8 + 3, none⟩ (.int .i64 0)).setCell ⟨g, m * 8 + 4, none⟩ (.bool false)).setCell ⟨g, m * 8 + 5, none⟩ (.int .i64 0))) := (St.refHead hS (j + 1) hjj hm ⟨xgn, 0, 0, 0, false, 0⟩).pop
        clear hS hnote hthere p1 hjj
        go_wp2
        go_ret
        exact ⟨rfl, v', HS.out⟩
      · have h2 : (xgn == gn) = false := by simpa using h1
        have e1 : (freeOp gn).E hs (m : Int) = 4 := by simp [HOp.E, freeOp, hx, h2]
        have e2 : (freeOp gn).S s hs (m : Int) = s.note 3 m 3 false := by simp [HOp.S, freeOp, hx, h2]
        have e3 : (freeOp gn).H hs (m : Int) = hs := by simp [HOp.H, freeOp, hx, h2]
        rw [e1, e2, e3]
        clear e1 e2 e3 h0 h1

        go_enter Tryz.func56, Tryz.ntmps56
        go_wp2_with (go_at_call 82; refine hthere.mono ?_; rintro e w' ⟨rfl, rfl⟩)
        generalize w'.alloc (.cells #[.int .i64 xgn, .int .i64 xsa, .int .i64 xsp, .int .i64 xth, .bool xdm, .int .i64 xwy] 105) = W0 at *
        generalize w'.heap.size = B at *
        refine (hnote false).mono ?_
        rintro e w1 ⟨rfl, v', hS⟩
        have b0 : w1.cell? ⟨B, 0, none⟩ = some (.int .i64 xgn) := hS.cell 0 rfl 0
        have b1 : w1.cell? ⟨B, 1, none⟩ = some (.int .i64 xsa) := hS.cell 0 rfl 1
        have HS : Hid _ := hS.pop
        clear hS hnote hthere
        go_wp2
        go_ret
        refine ⟨rfl, v', ?_⟩
        rw [set_back (set_other hj hij)]
        exact HS.out
  · have hT : hasSlot hs.length k = false := by
      cases hq : hasSlot hs.length k
      · rfl
      · exact absurd ((hasSlot_iff _ _).1 hq) hk
    rw [hT] at hthere
    have hS : Hid (St o ((its.set i (meterI 67 (some x) s v)).set j (refI y g x hs ws)) w) := keep_all h hi hj
    have e1 : (freeOp gn).E hs k = 2 := by simp [HOp.E, freeOp, hx]
    have e2 : (freeOp gn).S s hs k = s := by simp [HOp.S, freeOp, hx]
    have e3 : (freeOp gn).H hs k = hs := by simp [HOp.H, freeOp, hx]
    rw [e1, e2, e3]

    clear h
    go_enter Tryz.func56, Tryz.ntmps56
    go_wp2_with (go_at_call 82; refine hthere.mono ?_; rintro e w' ⟨rfl, rfl⟩)
    go_ret
    exact ⟨rfl, v, hS.out⟩

end Go.Proofs.YtajfjkhbimehbaaGreat

