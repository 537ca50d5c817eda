/- The document's Check: the time. -/
import Derived.Test.YtnmlnjljmikmpaaRh
import Derived.Test.YtnmlnjljmikmpaaSa
namespace Go.Proofs.Ytnmlnjljmikmpaa
open Go.RowKit Go.Shelf
set_option linter.unusedVariables false
set_option linter.unusedSimpArgs false
attribute [local go_sem ↓] Go.wp_at_zero Go.wp_at_succ

theorem pick_nextR {l : List Sy} {o : List Int} {j : Nat} {x : Int} (h : o[j]? = some x) : pick l (o.take (j + 1)) = pick l (o.take j) ++ [l.getD x.toNat Sy.zero] := by
  unfold pick
  rw [List.take_add_one, h, List.map_append]
  rfl
/-- The time so far, by the greatest begin. -/
theorem late_step {l : List Sy} {o : List Int} {j : Nat} {x : Int} (h : o[j]? = some x) (hno : lateAt minI (pick l (o.take j)) 0 = none) :
    lateAt minI (pick l (o.take (j + 1))) 0 = if (l.getD x.toNat Sy.zero).en ≠ 0 ∧ (l.getD x.toNat Sy.zero).en < lateG minI (pick l (o.take j)) then some (0 + (pick l (o.take j)).length) else none := by
  rw [pick_nextR h, lateAt_append, hno]
  simp only [lateAt]
theorem lateG_step {l : List Sy} {o : List Int} {j : Nat} {x : Int} (h : o[j]? = some x) :
    lateG minI (pick l (o.take (j + 1))) = if (l.getD x.toNat Sy.zero).bg > lateG minI (pick l (o.take j)) then (l.getD x.toNat Sy.zero).bg else lateG minI (pick l (o.take j)) := by
  rw [pick_nextR h, lateG_append]
  rfl
theorem late_front {l : List Sy} {o : List Int} {j i : Nat} (h : lateAt minI (pick l (o.take j)) 0 = some i) : lateAt minI (pick l o) 0 = some i := by
  have e : pick l o = pick l (o.take j) ++ pick l (o.drop j) := by
    unfold pick
    rw [← List.map_append, List.take_append_drop]
  rw [e, lateAt_append, h]
theorem read_front {l : List Sy} {o : List Int} {j i : Nat} {m : Mem} (h : readBad m (pick l (o.take j)) 0 = some i) : readBad m (pick l o) 0 = some i := by
  have e : pick l o = pick l (o.take j) ++ pick l (o.drop j) := by
    unfold pick
    rw [← List.map_append, List.take_append_drop]
  rw [e, readBad_append, h]
theorem read_step {l : List Sy} {o : List Int} {j : Nat} {x : Int} {m : Mem} (h : o[j]? = some x) (hno : readBad m (pick l (o.take j)) 0 = none) :
    readBad m (pick l (o.take (j + 1))) 0 = if okS (memB m (pick l (o.take j))) (l.getD x.toNat Sy.zero) = true then none else some (0 + (pick l (o.take j)).length) := by
  rw [pick_nextR h, readBad_append, hno]
  simp only [readBad]
theorem memB_step {l : List Sy} {o : List Int} {j : Nat} {x : Int} {m : Mem} (h : o[j]? = some x) : memB m (pick l (o.take (j + 1))) = leaves (memB m (pick l (o.take j))) (l.getD x.toNat Sy.zero) := by
  rw [pick_nextR h, memB_append]
  rfl
theorem pick_len (l : List Sy) {o : List Int} {j : Nat} (h : j ≤ o.length) : (pick l (o.take j)).length = j := by
  unfold pick
  rw [List.length_map, List.length_take]
  omega
def sumW (l : List Sy) : Nat := (l.map fun s => (wrM s.ms).length).sum
theorem sumW_step {l : List Sy} {o : List Int} {j : Nat} {x : Int} (h : o[j]? = some x) : sumW (pick l (o.take (j + 1))) = sumW (pick l (o.take j)) + (wrM (l.getD x.toNat Sy.zero).ms).length := by
  rw [pick_nextR h]
  simp [sumW]
theorem leavesL_len' (s : Sy) : (leavesL s).length ≤ (wrM s.ms).length := by
  unfold leavesL
  split
  · exact Nat.le_refl _
  · simp
set_option maxRecDepth 100000 in
set_option maxHeartbeats 8000000 in
theorem rCheck_any {w : World} {sa la oa : Option Addr} {sn sc n lc k oc : Nat} {start o : List Int} {L : List Sm} (hs : RIn iC w sa sn start) (hl : LIn w la n L) (ho : RIn iC w oa k o) (hn : n ≤ 1466015503701) (hk : (k : Int) ≤ 9223372036854775807) (hsn : (sn : Int) ≤ 9223372036854775807) (hR : ∀ m ∈ L, RngS m.s)
    (hB : ∀ j, sumW (pick (smS L) (o.take j)) < 2932031007317) :
    Calls Try.prog 14 #[.slice sa sn sc, .slice la n lc, .slice oa k oc] w fun e w' => e = .returned (.tuple #[.int .i64 (chk start (smS L) o).1, .int .i64 (chk start (smS L) o).2]) ∧ Kept (fun _ => False) w w' := by
  have HE := hid (fun W (kk : Kept (fun _ => False) w W) => (rEvery_any (w := W) (lc := oc) (ho.kept kk) n hn hk))
  have HS0 := hid hs
  have HL0 := hid hl
  have HI0 := hid ho
  have hE := HE.out w (Kept.refl _ w)
  by_cases hev : eachOnce o n
  · have hd : decide (eachOnce o n) = true := by simpa using hev
    rw [hd] at hE
    clear hs hl ho hd HE
    go_enter Try.func14, Try.ntmps14
    go_upto_region 7 with (go_at_call 33; refine hE.mono ?_; rintro e w1 ⟨rfl, hk1⟩; have HK1 := hid hk1; clear hk1)
    clear hE
    have hln : (smS L).length = n := by simp only [smS, List.length_map]; exact HL0.out.1.1.symm
    have HLT : Hid (∀ i, lateAt minI (pick (smS L) o) 0 = some i → chk start (smS L) o = (221, (i : Int))) := hid (fun i h => by unfold chk; rw [hln, if_pos hev, h])
    have HRD : Hid (∀ i, lateAt minI (pick (smS L) o) 0 = none → readBad (startM start) (pick (smS L) o) 0 = some i → chk start (smS L) o = (222, (i : Int))) := hid (fun i h h2 => by unfold chk; rw [hln, if_pos hev, h, h2])
    have HOKK : Hid (lateAt minI (pick (smS L) o) 0 = none → readBad (startM start) (pick (smS L) o) 0 = none → chk start (smS L) o = (0, 0)) := hid (fun h h2 => by unfold chk; rw [hln, if_pos hev, h, h2])
    have HEV := hid hev
    clear hev hln
    go_loopw [9, 10] (fun gv kv wr => ∃ (j : Nat) (g : Int), kv = .int .i64 j ∧ gv = .int .i64 g ∧ j ≤ k ∧ lateAt minI (pick (smS L) (o.take j)) 0 = none ∧ (j = 0 ∨ g = lateG minI (pick (smS L) (o.take j))) ∧ Kept (fun _ => False) w wr) (fun _ kv _ => k - (intOf kv).toNat)
    case atStart => exact ⟨0, 0, rfl, rfl, Nat.zero_le _, rfl, .inl rfl, HK1.out⟩
    case round =>
      clear HK1
      obtain ⟨j, g, rfl, rfl, hj, hno, hg, hkr⟩ := hrel
      by_cases hlt : j < k
      · have hlt' : (j : Int) < (k : Int) := by omega
        have hj0 : (0 : Int) ≤ (j : Int) := by omega
        have HJ : Hid (j + 1 ≤ k ∧ k - (j + 1) < k - j) := hid ⟨by omega, by omega⟩
        have hol : o.length = k := HI0.out.1.symm
        obtain ⟨xi, hxi⟩ : ∃ x, o[j]? = some x := ⟨_, List.getElem?_eq_getElem (by omega)⟩
        have hxr := HEV.out.2.1 xi (List.mem_of_getElem? hxi)
        obtain ⟨x, rfl⟩ : ∃ x : Nat, xi = (x : Int) := ⟨xi.toNat, by omega⟩
        have hx0 : (0 : Int) ≤ (x : Int) := by omega
        have hx1 : (x : Int) < (n : Int) := hxr.2
        obtain ⟨mm, hmm⟩ : ∃ m, L[x]? = some m := ⟨_, List.getElem?_eq_getElem (by have := HL0.out.1.1; omega)⟩
        have hrng := hR mm (List.mem_of_getElem? hmm)
        obtain ⟨lg, loff, rfl⟩ := HL0.out.1.addr (by omega)
        obtain ⟨og, ooff, rfl⟩ := HI0.out.addr (by omega)
        have hl1 := late_step hxi hno
        have hl2 := lateG_step (l := smS L) hxi
        rw [pick_len (smS L) (by omega)] at hl1
        rw [show ((x : Int)).toNat = x by omega, smS_at hmm] at hl1 hl2
        obtain ⟨⟨z0, z1, z2, z3, z4, z5, z6, z7, z8, ms⟩, ma, mc⟩ := mm
        simp only at hl1 hl2 hrng
        obtain ⟨a0, a1, a2, a3, a4, a5, a6, a7, a8, a9⟩ := story_cells HL0.out hkr hmm
        have q0 := (HI0.out.kept hkr).at (k := 1) (fun _ => rfl) hxi 0 _ rfl
        rw [Nat.mul_one, Nat.add_zero] at q0
        have s5 := ((St.nil w).calm hkr).box #[.int .i64 z0, .int .i64 z1, .int .i64 z2, .int .i64 z3, .int .i64 z4, .int .i64 z5, .int .i64 z6, .int .i64 z7, .int .i64 z8, .slice ma ms.length mc] 44
        generalize hw5 : wr.alloc (.cells #[.int .i64 z0, .int .i64 z1, .int .i64 z2, .int .i64 z3, .int .i64 z4, .int .i64 z5, .int .i64 z6, .int .i64 z7, .int .i64 z8, .slice ma ms.length mc] 44) = w5 at *
        generalize hX : wr.heap.size = X at *
        have HK5 := hid s5.same
        have c2 := s5.cell 0 rfl 2
        have c3 := s5.cell 0 rfl 3
        go_upto_region 9 with (simp only [hw5, hX])
        clear a0 a1 a2 a3 a4 a5 a6 a7 a8 a9 q0 hw5 hX s5
        by_cases hlate : 0 < j ∧ z3 ≠ 0 ∧ z3 < g
        · have t0 : decide ((0 : Int) < (j : Int)) = true := by simp; omega
          have t0n : decide (0 < j) = true := by simp; omega
          have t1 : (z3 != 0) = true := by simp; omega
          have t2 : decide (z3 < g) = true := by simp; omega
          have HC : Hid (chk start (smS L) o = (221, (j : Int))) := hid (HLT.out j (late_front (j := j + 1) (by
            rw [hl1, if_pos (by rcases hg with hg | hg; · omega
                                · rw [← hg]; exact hlate.2), Nat.zero_add])))
          clear hlate hl1 hl2 hrng hno hg hxi hmm hkr hj hlt hxr
          go_wp2
          go_ret2
          exact ⟨by rw [HC.out]; rfl, HK5.out⟩
        · have hn1 : lateAt minI (pick (smS L) (o.take (j + 1))) 0 = none := by
            rw [hl1, if_neg]
            rintro ⟨h1, h2⟩
            rcases hg with hg | hg
            · subst hg
              have : minI ≤ z3 := hrng.1
              rw [show lateG minI (pick (smS L) (o.take 0)) = minI from rfl] at h2
              unfold minI at this h2
              omega
            · exact hlate ⟨by
                rcases Nat.eq_zero_or_pos j with h0 | h0
                · subst h0
                  have : minI ≤ z3 := hrng.1
                  rw [show lateG minI (pick (smS L) (o.take 0)) = minI from rfl] at h2
                  unfold minI at this h2
                  omega
                · exact h0, h1, by rw [hg]; exact h2⟩
          have HN1 := hid hn1
          have hz : 0 < j → (z3 != 0) = false ∨ ((z3 != 0) = true ∧ decide (z3 < g) = false) := fun h0 => by
            by_cases h1 : z3 = 0
            · exact .inl (by simp [h1])
            · exact .inr ⟨by simp [h1], by simp; omega⟩
          have hcb : ∃ g', lateG minI (pick (smS L) (o.take (j + 1))) = g' ∧ ((j = 0 ∧ g' = z2) ∨ (0 < j ∧ decide (g < z2) = true ∧ g' = z2) ∨ (0 < j ∧ decide (g < z2) = false ∧ g' = g)) := by
            refine ⟨_, rfl, ?_⟩
            rw [hl2]
            by_cases h0 : j = 0
            · subst h0
              refine .inl ⟨rfl, ?_⟩
              have : minI ≤ z2 := hrng.2
              rw [show lateG minI (pick (smS L) (o.take 0)) = minI from rfl]
              unfold minI at this ⊢
              split <;> omega
            · rcases hg with hg | hg
              · exact absurd hg h0
              · rw [← hg]
                by_cases h1 : g < z2
                · exact .inr (.inl ⟨by omega, by simpa using h1, if_pos h1⟩)
                · exact .inr (.inr ⟨by omega, by simpa using h1, if_neg h1⟩)
          obtain ⟨g', hg', hcb⟩ := hcb
          have HG := hid hg'
          clear hlate hl1 hl2 hrng hno hg hxi hmm hkr hlt hxr hn1 hg' hj
          rcases hcb with ⟨rfl, rfl⟩ | ⟨h0, hb, rfl⟩ | ⟨h0, hb, rfl⟩
          · clear hz
            go_wp2
            go_roundw
            case rel => exact ⟨1, _, by simp, rfl, HJ.out.1, HN1.out, .inr HG.out.symm, HK5.out⟩
            case measure => have := HJ.out.2; simp [intOf]; omega
          all_goals
            have hz := hz h0
            have t0 : decide ((0 : Int) < (j : Int)) = true := by simp; omega
            have t0n : decide (0 < j) = true := by simp; omega
            have t5 : ((j : Int) == 0) = false := by simp; omega
            have t5n : (j == 0) = false := by simp; omega
            have t6 : ¬ j = 0 := by omega
            clear h0
            rcases hz with h1 | ⟨h1, h2⟩
            all_goals
              go_wp2
              go_roundw
            all_goals first
              | exact ⟨j + 1, _, by simp, rfl, HJ.out.1, HN1.out, .inr HG.out.symm, HK5.out⟩
              | (have := HJ.out.2; simp [intOf]; omega)
      · have hlt' : ¬ (j : Int) < (k : Int) := by omega
        have e : o.take j = o := List.take_of_length_le (by have := HI0.out.1; omega)
        rw [e] at hno
        have HNO := hid hno
        have HK6 := hid hkr
        clear hno hg hkr hj hlt e
        have s1 := ((St.nil w).calm HK6.out).box #[.slice sa sn sc, .slice none 0 0] 73
        generalize hw2 : wr.alloc (.cells #[.slice sa sn sc, .slice none 0 0] 73) = w2 at *
        generalize hBX : wr.heap.size = B at *
        have HS2 := hid (r_nil pC 86 2 s1)
        have HBB := hid hB
        clear s1
        go_upto_region 15 with (simp only [hw2, hBX])
        clear hw2 hBX HK6
        go_loopw [13] (fun iv wr2 => ∃ (j : Nat) (ps : List Pr) (v : Value), iv = .int .i64 j ∧ j ≤ k ∧ Uq ps ∧ ps.length ≤ sumW (pick (smS L) (o.take j)) ∧ memO start (ovP ps) = memB (startM start) (pick (smS L) (o.take j)) ∧ readBad (startM start) (pick (smS L) (o.take j)) 0 = none ∧ St w [lstR pC 86 2 v ps, boxI B #[.slice sa sn sc, v] 73] wr2) (fun iv _ => k - (intOf iv).toNat)
        case atStart => exact ⟨0, [], _, rfl, Nat.zero_le _, Uq.nil, Nat.zero_le _, rfl, rfl, HS2.out⟩
        case round =>
          clear HS2
          obtain ⟨j, ps, v, rfl, hj, huq, hpl, hmem, hrd, hst⟩ := hrel
          by_cases hlt : j < k
          · have hlt' : (j : Int) < (k : Int) := by omega
            have hj0 : (0 : Int) ≤ (j : Int) := by omega
            have HJ : Hid (j + 1 ≤ k ∧ k - (j + 1) < k - j) := hid ⟨by omega, by omega⟩
            have hol : o.length = k := HI0.out.1.symm
            obtain ⟨xi, hxi⟩ : ∃ x, o[j]? = some x := ⟨_, List.getElem?_eq_getElem (by omega)⟩
            have hxr := HEV.out.2.1 xi (List.mem_of_getElem? hxi)
            obtain ⟨x, rfl⟩ : ∃ x : Nat, xi = (x : Int) := ⟨xi.toNat, by omega⟩
            have hx0 : (0 : Int) ≤ (x : Int) := by omega
            have hx1 : (x : Int) < (n : Int) := hxr.2
            obtain ⟨mm, hmm⟩ : ∃ m, L[x]? = some m := ⟨_, List.getElem?_eq_getElem (by have := HL0.out.1.1; omega)⟩
            have hsin := HL0.out.2 mm (List.mem_of_getElem? hmm)
            obtain ⟨lg, loff, rfl⟩ := HL0.out.1.addr (by omega)
            obtain ⟨og, ooff, rfl⟩ := HI0.out.addr (by omega)
            obtain ⟨va, vc, rfl⟩ := r_form hst 0 rfl rfl (fun _ => rfl)
            have h1 := read_step (m := startM start) hxi hrd
            have h2 := memB_step (l := smS L) (m := startM start) hxi
            have h3 := sumW_step (l := smS L) hxi
            rw [pick_len (smS L) (by omega), ← hmem] at h1
            rw [← hmem] at h2
            rw [show ((x : Int)).toNat = x by omega, smS_at hmm] at h1 h2 h3
            have hbn := HBB.out (j + 1)
            have hX := rExpl_any (w := wr) (sc := sc) (lc := vc) (m := mm) (HS0.out.kept hst.same) (st_rin (f := pC) hst 0 rfl rfl (fun _ => rfl)) huq (hst.cell 1 rfl 0) (hst.cell 1 rfl 1) (hsin.kept hst.same) hsn (by omega)
            have HLV := hid (fun W (hs : St w [lstR pC 86 2 (.slice va ps.length vc) ps, boxI B #[.slice sa sn sc, .slice va ps.length vc] 73] W) => rLeaves_any (R := []) hs hsin (by omega))
            have hlv := uq_putL (leavesL mm.s) ps huq
            have hlen : (putL ps (leavesL mm.s)).length ≤ sumW (pick (smS L) (o.take (j + 1))) := by have h4 := putL_len (leavesL mm.s) ps; have h5 := leavesL_len' mm.s; omega
            have hm2 : memO start (ovP (putL ps (leavesL mm.s))) = memB (startM start) (pick (smS L) (o.take (j + 1))) := by rw [hlv.2 start, h2]; rfl
            have HN := hid (show Uq (putL ps (leavesL mm.s)) ∧ (putL ps (leavesL mm.s)).length ≤ sumW (pick (smS L) (o.take (j + 1))) ∧ memO start (ovP (putL ps (leavesL mm.s))) = memB (startM start) (pick (smS L) (o.take (j + 1))) from ⟨hlv.1, hlen, hm2⟩)
            have HMM := hid hmm
            have HXI := hid hxi
            have HS := hid hst
            have H1 := hid h1
            generalize okS (memO start (ovP ps)) mm.s = bb at *
            generalize putL ps (leavesL mm.s) = ps2 at *
            obtain ⟨⟨z0, z1, z2, z3, z4, z5, z6, z7, z8, ms⟩, ma, mc⟩ := mm
            obtain ⟨a0, a1, a2, a3, a4, a5, a6, a7, a8, a9⟩ := story_cells HL0.out hst.same HMM.out
            have q0 := (HI0.out.kept hst.same).at (k := 1) (fun _ => rfl) hxi 0 _ rfl
            rw [Nat.mul_one, Nat.add_zero] at q0
            unfold syV at hX HLV
            simp only at hX HLV
            clear huq hpl hmem hrd hst hxi hxr hmm hsin h1 h2 h3 hbn hlv hlen hm2 hlt hj
            go_upto_region 18 with (go_at_call 34; refine hX.mono ?_; rintro e w3 ⟨rfl, hk3⟩; have HS3 := hid (HS.out.calm hk3); clear hk3)
            clear hX HS a0 a1 a2 a3 a4 a5 a6 a7 a8 a9 q0
            cases bb with
            | false =>
              have HC : Hid (chk start (smS L) o = (222, (j : Int))) := hid (HRD.out j HNO.out (read_front (j := j + 1) (by rw [H1.out]; simp)))
              have HKF := hid HS3.out.same
              go_wp2
              go_ret2
              exact ⟨by rw [HC.out]; rfl, HKF.out⟩
            | true =>
              have HRD2 : Hid (readBad (startM start) (pick (smS L) (o.take (j + 1))) 0 = none) := hid (by rw [H1.out]; simp)
              obtain ⟨a0, a1, a2, a3, a4, a5, a6, a7, a8, a9⟩ := story_cells HL0.out HS3.out.same HMM.out
              have q0 := (HI0.out.kept HS3.out.same).at (k := 1) (fun _ => rfl) HXI.out 0 _ rfl
              rw [Nat.mul_one, Nat.add_zero] at q0
              have hLV := HLV.out w3 HS3.out
              go_wp2_with (go_at_call 35; refine hLV.mono ?_; rintro e w4 ⟨v4, rfl, hs4⟩; have HS4 := hid hs4; clear hs4)
              all_goals
                go_roundw
              all_goals first
                | exact ⟨j + 1, _, v4, by simp, HJ.out.1, HN.out.1, HN.out.2.1, HN.out.2.2, HRD2.out, HS4.out⟩
                | (have := HJ.out.2; simp [intOf]; omega)
          · have hlt' : ¬ (j : Int) < (k : Int) := by omega
            have e : o.take j = o := List.take_of_length_le (by have := HI0.out.1; omega)
            rw [e] at hrd
            have HC := hid (HOKK.out HNO.out hrd)
            have HKF := hid hst.same
            clear hst hrd hmem huq hpl hlt hj e
            go_wp2
            go_ret2
            exact ⟨by rw [HC.out]; rfl, HKF.out⟩
  · have hd : decide (eachOnce o n) = false := by simpa using hev
    rw [hd] at hE
    have hln : (smS L).length = n := hl.len
    have HC : Hid (chk start (smS L) o = (220, 0)) := hid (by unfold chk; rw [hln, if_neg hev])
    clear hs hl ho hd HE hev
    go_enter Try.func14, Try.ntmps14
    go_wp2_with (go_at_call 33; refine hE.mono ?_; rintro e w1 ⟨rfl, hk1⟩; have HK1 := hid hk1; clear hk1)
    go_ret2
    exact ⟨by rw [HC.out]; rfl, HK1.out⟩
end Go.Proofs.Ytnmlnjljmikmpaa
