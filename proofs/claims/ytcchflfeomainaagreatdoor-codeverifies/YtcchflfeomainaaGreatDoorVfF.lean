/- Verify. -/
import Derived.Test.YtcchflfeomainaaGreatDoorVfE
namespace Go.Proofs.YtcchflfeomainaaGreatDoor
open Go.RowKit
set_option linter.unusedVariables false
set_option linter.unusedSimpArgs false
attribute [local go_sem ↓] Go.wp_at_zero Go.wp_at_succ

theorem spCells_at (l : List Spt) (j : Nat) (hj : j < l.length) : (spCells l)[j * 4]? = some (.int .i64 (l.getD j Spt.zero).p) ∧ (spCells l)[j * 4 + 1]? = some (.int .i64 (l.getD j Spt.zero).s.d) ∧ (spCells l)[j * 4 + 2]? = some (.bool (l.getD j Spt.zero).s.i) ∧ (spCells l)[j * 4 + 3]? = some (.int .i64 (l.getD j Spt.zero).s.b) := by
  induction l generalizing j with
  | nil => simp at hj
  | cons x l ih =>
    cases j with
    | zero => exact ⟨rfl, rfl, rfl, rfl⟩
    | succ j =>
      have h := ih j (by simpa using hj)
      have e1 : (j + 1) * 4 = j * 4 + 1 + 1 + 1 + 1 := by omega
      rw [e1]
      refine ⟨by simpa [spCells, Spt.cells] using h.1, by simpa [spCells, Spt.cells] using h.2.1, by simpa [spCells, Spt.cells] using h.2.2.1, by simpa [spCells, Spt.cells] using h.2.2.2⟩
theorem runV_step (L : List Ins) (k : Nat) (V : Vst) : runV L (k + 1) V = stepV L (runV L k V) := by
  rw [runV_add L k 1 V]
  rfl
set_option maxRecDepth 100000 in
set_option maxHeartbeats 4000000 in
theorem Verify_any (la : Option Addr) (n lc : Nat) (l : List Ins) (w : World) (hL : IIn w la n l) :
    Calls Tryz.prog 18 #[.slice la n lc] w fun e w' => e = .returned (.tuple #[.int .i64 (verifyM l).1, .int .i64 (verifyM l).2]) ∧ Kept (fun _ => False) w w' := by
  have k0 := kept_alloc w (.cells tabC 57)
  have hT : TabAt 57 w.heap.size (w.alloc (.cells tabC 57)) := heap_alloc_new _ _
  have hq := check_any w.heap.size la n lc l _ hT (hL.kept k0)
  have sT := (St.nil w).box tabC 57
  by_cases hc : (checkM l).1 = 0
  · obtain ⟨hn1, hn2, hn3⟩ := checkM_all hc
    have HLk := hid (Lok.of hc)
    have HC := hid hc
    have HN : Hid (n = l.length) := hL.1
    have HI : Hid (∀ W, Kept (fun _ => False) (w.alloc (.cells tabC 57)) W → St w [boxI w.heap.size tabC 57] W ∧ IIn W la n l) := fun W k => ⟨sT.calm k, hL.kept (k0.trans k (fun _ _ f => f))⟩
    rw [hc] at hq
    have HVV : Hid (∀ k, (runV (withHalt l) k (firstV (l.length + 1))).todo = [] → verifyM l = leastM (runV (withHalt l) k (firstV (l.length + 1)))) := fun k h => verify_run hc h
    generalize (checkM l).2 = c2 at *
    generalize verifyM l = RR at *
    clear hL hT k0 hc hn3 sT
    go_enter Tryz.func18, Tryz.ntmps18
    go_wp2_with (first | (go_at_call 27; refine (table_any _).mono ?_; rintro e w1 ⟨rfl, rfl⟩) | (go_at_call 26; refine hq.mono ?_; rintro e w2 ⟨rfl, k1⟩))
    obtain ⟨s2, i2⟩ := HI.out _ k1
    have hnw := newWalk_st w.heap.size la n lc l s2 i2 (by have := HN.out; omega) (by have := HN.out; omega)
    clear HI k1 s2 i2 hq
    refine hnw.mono ?_
    clear hnw
    rintro e w3 ⟨A, hA, rfl, s3⟩
    have hn : n = l.length := HN.out
    have hln : (withHalt l).length = n + 1 := by rw [hn]; simp [withHalt]
    have ok3 : Vok (withHalt l).length ⟨List.replicate ((n + 1) * 1122) false, List.replicate (n + 1) 0, List.replicate (n + 1) 0, []⟩ := by
      rw [hln]
      refine ⟨by simp, by simp, by simp, fun x hx => (by cases hx), by simp, fun c hc => ?_⟩
      rw [List.eq_of_mem_replicate hc]
      simp
    have hco := come_st s3 ok3 HLk.out.m (p := 0) (s := ⟨0, false, 0⟩) HLk.out.pos ⟨Nat.zero_le _, Nat.zero_le _⟩
    have HF : Hid (comeM 0 ⟨0, false, 0⟩ ⟨List.replicate ((n + 1) * 1122) false, List.replicate (n + 1) 0, List.replicate (n + 1) 0, []⟩ = firstV (l.length + 1)) := by show _ = _; rw [← hn]; rfl
    have HO := hid (ok3.come (p := 0) (s := ⟨0, false, 0⟩) HLk.out.pos ⟨Nat.zero_le _, Nat.zero_le _⟩)
    rw [HF.out] at hco
    unfold Sst.val at hco
    clear s3 ok3 hn hln
    have HO1 : Hid (Vok (withHalt l).length (firstV (l.length + 1))) := by rw [← HF.out]; exact HO.out
    clear HO HF
    go_wp2_with (first | (go_at_call 30; refine hco.mono ?_; rintro e w4 ⟨rfl, vt4, s4⟩; replace s4 := hid s4))
    clear hco
    generalize w.heap.size = bt at *
    go_loopw [] (fun wr => ∃ (k : Nat) (vt : Value), St w (wkL A (withHalt l) vt (runV (withHalt l) k (firstV (l.length + 1)))) wr ∧ Vok (withHalt l).length (runV (withHalt l) k (firstV (l.length + 1)))) (fun wr => wkMu A wr)
    case atStart => exact ⟨0, vt4, s4.out, HO1.out⟩
    case round =>
      clear s4 HO1
      obtain ⟨k, vt, hst, hok⟩ := hrel
      have HV3 := HVV.out k
      have HStep : Hid (runV (withHalt l) (k + 1) (firstV (l.length + 1)) = stepV (withHalt l) (runV (withHalt l) k (firstV (l.length + 1)))) := runV_step _ _ _
      have hok2 := hok.step HLk.out
      rw [← HStep.out] at hok2
      have hmu := wkMu_eq hst
      have hmu2 := fun (h : (runV (withHalt l) k (firstV (l.length + 1))).todo ≠ []) => stepV_mu (L := withHalt l) h
      generalize hV2 : runV (withHalt l) (k + 1) (firstV (l.length + 1)) = V2 at *
      have HV2 := hid hV2
      clear hV2
      generalize runV (withHalt l) k (firstV (l.length + 1)) = V at *
      have c3 : wr.cell? ⟨A.k, 3, none⟩ = some vt := hst.cell 0 rfl 3
      rcases List.eq_nil_or_concat V.todo with h0 | ⟨D, x, hD⟩
      · have HR := hid (HV3 h0)
        have hle := least_st hst hok HLk.out.pos HLk.out.m
        have ho : wr.ownsRow 0 70 4 vt V.todo.length (spCells V.todo) := hst.get 6 rfl
        rw [h0] at ho
        obtain ⟨va, vc, rfl⟩ := wk_form ho
        have HK := hid hst.same
        clear hst hok hok2 hmu hmu2 ho HV3 HStep HV2 h0
        generalize leastM V = LL at *
        go_wp2_with (go_at_call 32; refine hle.mono ?_; rintro e w5 ⟨rfl, rfl⟩)
        go_ret2
        exact ⟨by rw [HR.out]; rfl, HK.out⟩
      · rw [List.concat_eq_append] at hD
        have hne : V.todo ≠ [] := by rw [hD]; simp
        have HM := hid (hmu2 hne)
        have HMU := hid hmu
        have hlast : V.todo.getLastD Spt.zero = x := by rw [hD]; simp
        have hdrop : V.todo.dropLast = D := by rw [hD]; simp
        have hstepE : stepV (withHalt l) V = leaveM (withHalt l) x { V with todo := D } := by unfold stepV; rw [if_neg hne, hlast, hdrop]
        have hxm := hok.t x (by rw [hD]; simp)
        have okD : Vok (withHalt l).length { V with todo := D } := ⟨hok.s, hok.c, hok.w, fun y hy => hok.t y (by rw [hD]; simp [hy]), by have := hok.tl; rw [hD] at this; simp at this ⊢; omega, hok.cb⟩
        have ho : wr.ownsRow 0 70 4 vt V.todo.length (spCells V.todo) := hst.get 6 rfl
        have hlen : V.todo.length = D.length + 1 := by rw [hD]; simp
        have hdl : D.length ≤ 449922 := by have := hok.tl; have := HLk.out.m; omega
        obtain ⟨gt, ct, rfl⟩ : ∃ gt ct, vt = .slice (some ⟨gt, 0, none⟩) V.todo.length ct := by
          rcases ho.2 with ⟨h1, h2⟩ | ⟨g, cap, cur, h1, _⟩
          · omega
          · exact ⟨g, cap, h1⟩
        have hcap : V.todo.length ≤ ct := by
          rcases ho.2 with ⟨h1, _⟩ | ⟨g, cap, cur, h1, _, _, h2, _⟩
          · cases h1
          · simp only [Value.slice.injEq] at h1; omega
        have hcell := fun k (hk : k < V.todo.length * 4) => ho.cellAt k hk
        obtain ⟨y0, y1, y2, y3⟩ := spCells_at V.todo D.length (by omega)
        have hgx : V.todo.getD D.length Spt.zero = x := by rw [hD]; simp
        rw [hgx] at y0 y1 y2 y3
        have d0 := (hcell (D.length * 4) (by omega)).trans y0
        have d1 := (hcell (D.length * 4 + 1) (by omega)).trans y1
        have d2 := (hcell (D.length * 4 + 2) (by omega)).trans y2
        have d3 := (hcell (D.length * 4 + 3) (by omega)).trans y3
        have pcut := own_cutV ho (m := D.length) (by omega)
        have ecut : (spCells V.todo).take (D.length * 4) = spCells D := by
          rw [hD, spCells_append, List.take_append_of_le_length (by rw [spCells_length]; exact Nat.le_refl _), List.take_of_length_le (by rw [spCells_length]; exact Nat.le_refl _)]
        rw [ecut] at pcut
        have sc := hst.set 6 (A' := ownI 70 4 (.slice (some ⟨gt, 0, none⟩) D.length ct) D.length (spCells D)) rfl (Kept.refl _ wr) pcut (own_nodup (.slice (some ⟨gt, 0, none⟩) D.length ct)) (fun b hb => .inl hb)
        have sw := (sc.write 0 rfl 3 (.slice (some ⟨gt, 0, none⟩) D.length ct))
        have sx : St w (boxI wr.heap.size #[.int .i64 x.p, .int .i64 x.s.d, .bool x.s.i, .int .i64 x.s.b] 70 :: wkL A (withHalt l) (.slice (some ⟨gt, 0, none⟩) D.length ct) { V with todo := D }) ((wr.setCell ⟨A.k, 3, none⟩ (.slice (some ⟨gt, 0, none⟩) D.length ct)).alloc (.cells #[.int .i64 x.p, .int .i64 x.s.d, .bool x.s.i, .int .i64 x.s.b] 70)) := by
          have h9 := sw.box #[.int .i64 x.p, .int .i64 x.s.d, .bool x.s.i, .int .i64 x.s.b] 70
          rw [size_setCell] at h9
          exact h9
        have f3 : wr.frozen? ⟨A.k, 3, none⟩ = false := hst.frozen 0 rfl 3
        have HSX := hid sx
        have OKD := hid okD
        have HSE := hid hstepE
        rw [hlen] at c3 hcap
        have b1 : (0 : Int) ≤ (D.length : Int) := Int.natCast_nonneg _
        have b2 : (D.length : Int) + 1 ≤ (ct : Int) := by omega
        have b3 : (D.length : Int) ≤ (ct : Int) := by omega
        have b4 : (D.length : Int) < (D.length : Int) + 1 := by omega
        have b5 : (D.length : Int) ≤ 449922 := by omega
        have b6 : (0 : Int) < (D.length : Int) + 1 := by omega
        have b7 : (D.length : Int) + 1 - 1 = D.length := by omega
        have hklt := World.block_lt_of_cell? wr _ c3
        simp only at hklt
        have g3 : ∀ ob, (wr.alloc ob).cell? ⟨A.k, 3, none⟩ = some (.slice (some ⟨gt, 0, none⟩) (D.length + 1) ct) := fun ob => by rw [World.cell?_of_block (Below.heap_alloc wr ob A.k hklt)]; exact c3
        have g4 : ∀ ob t, (wr.alloc (.cells ob t)).frozen? ⟨A.k, 3, none⟩ = false := fun ob t => by rw [frozen?_alloc_cells]; exact f3
        have HXM := hid hxm
        generalize D.length = dn at *
        clear hst hok sc sw sx okD hstepE ho hlen hcell y0 y1 y2 y3 pcut ecut hmu hmu2 HV3 hlast hdrop hne hgx hxm
        go_upto_region 11 with fail
        have sx := HSX.out
        clear HSX d0 d1 d2 d3 g3 g4 c3 f3
        generalize (wr.setCell ⟨A.k, 3, none⟩ (.slice (some ⟨gt, 0, none⟩) dn ct)).alloc (.cells #[.int .i64 x.p, .int .i64 x.s.d, .bool x.s.i, .int .i64 x.s.b] 70) = w6 at *
        generalize wr.heap.size = M at *
        have e0 : w6.cell? ⟨M, 0, none⟩ = some (.int .i64 x.p) := sx.cell 0 rfl 0
        have e1 : w6.cell? ⟨M, 1, none⟩ = some (.int .i64 x.s.d) := sx.cell 0 rfl 1
        have e2 : w6.cell? ⟨M, 2, none⟩ = some (.bool x.s.i) := sx.cell 0 rfl 2
        have e3 : w6.cell? ⟨M, 3, none⟩ = some (.int .i64 x.s.b) := sx.cell 0 rfl 3
        have hlv := leave_st HLk.out sx.pop OKD.out (x := x) HXM.out.1 HXM.out.2
        rw [← HSE.out, ← HStep.out] at hlv
        clear sx
        go_wp2_with (go_at_call 31; refine hlv.mono ?_; rintro e w7 ⟨rfl, vt7, s7⟩; replace s7 := hid s7)
        go_roundw
        case rel => exact ⟨k + 1, vt7, by rw [HV2.out]; exact s7.out, by rw [HV2.out]; exact hok2⟩
        case measure => rw [wkMu_eq s7.out, HMU.out, HStep.out]; exact HM.out
  · have e : verifyM l = checkM l := by unfold verifyM; rw [if_neg hc]
    rw [e]
    have hcn : ((checkM l).1 != 0) = true := by simpa using hc
    generalize (checkM l).1 = c1 at *
    generalize (checkM l).2 = c2 at *
    clear hL hT hc e sT
    go_enter Tryz.func18, Tryz.ntmps18
    go_wp2_with (first | (go_at_call 27; refine (table_any _).mono ?_; rintro e w1 ⟨rfl, rfl⟩) | (go_at_call 26; refine hq.mono ?_; rintro e w2 ⟨rfl, k1⟩))
    go_ret2
    exact ⟨rfl, k0.trans k1 (fun _ _ f => f)⟩
end Go.Proofs.YtcchflfeomainaaGreatDoor
