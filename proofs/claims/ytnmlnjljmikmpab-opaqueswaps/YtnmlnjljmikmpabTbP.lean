/- OpaqueSwaps, walked. -/
import Derived.Test.YtnmlnjljmikmpabTbL
namespace Go.Proofs.Ytnmlnjljmikmpab
open Go.RowKit Go.Shelf
set_option linter.unusedVariables false
set_option linter.unusedSimpArgs false
attribute [local go_sem ↓] Go.wp_at_zero Go.wp_at_succ

set_option maxRecDepth 100000 in
set_option maxHeartbeats 30000000 in
theorem swaps_pos {w : World} {sa la oa : Option Addr} {sn sc n lc k oc : Nat} {start o : List Int} {L : List Sm} {which : Int} (hs : RIn iC w sa sn start) (hl : LIn w la n L) (ho : RIn iC w oa k o) (hn : n ≤ 1466015503701) (hk : (k : Int) ≤ 9223372036854775806) (hsn : (sn : Int) ≤ 9223372036854775806) (hw0 : -9223372036854775808 ≤ which) (hw1 : which ≤ 9223372036854775807) (hn2 : ¬ k < 2) (hng : ¬ which < 0) {o' : List Nat} (ho2 : o = asI o') (hch : chk start (smS L) o = (0, 0)) :
    Calls Try.prog 3 #[.slice sa sn sc, .slice la n lc, .slice oa k oc, .int .i64 which] w fun e w' => e = .returned (.bool true) ∧ Kept (fun _ => False) w w' := by
  have hup := up_any w
  have HC := hid (fun W (kk : Kept (fun _ => False) w W) => (check_any (w := W) (sc := sc) (lc := lc) (oc := oc) (hs.kept kk) (hl.kept kk) (ho.kept kk) hn (by omega) (by omega)).mono (fun e w' h => (⟨h.1, kk.trans h.2 (fun _ _ f => f)⟩ : _ ∧ Kept (fun _ => False) w w')))
  have HS0 := hid hs
  have HL0 := hid hl
  have HI0 := hid ho
  have HN := hid hn
  have hlen := hl.len
  have HKO := hid ho.1
  subst ho2
  rw [hch] at HC
  simp only at HC
  have h2 := hn2
  have hc := hch
  have t2 : decide ((k : Int) < 2) = false := by simp; omega
  have HK2 := hid h2
  have hc0 := hch
  have HC0 := hid hc0
  have hkn : k = n := by have h1 := (chk_ok.1 hc0).2; have h2 := ho.1; rw [asI_len] at h2; have h3 := hl.1.1; simp only [smS, List.length_map] at h1; omega
  have hol : o'.length = k := by have h2 := ho.1; rw [asI_len] at h2; exact h2.symm
  have hLl : L.length = n := hl.1.1.symm
  have key : ∀ z : Int, 0 ≤ z → ∃ q : Nat, q + 1 < k ∧ z.tmod ((k : Int) - 1) = (q : Int) := fun z hz => by
    refine ⟨(z.tmod ((k : Int) - 1)).toNat, ?_, ?_⟩
    · have := Int.tmod_lt_of_pos z (show (0 : Int) < (k : Int) - 1 by omega)
      have h2 := Int.tmod_nonneg ((k : Int) - 1) hz
      omega
    · have h2 := Int.tmod_nonneg ((k : Int) - 1) hz
      omega
  obtain ⟨q, hq, ek⟩ : ∃ q : Nat, q + 1 < k ∧ which.tmod ((k : Int) - 1) = (q : Int) := key which (by omega)
  have tn : decide (which < 0) = false := by simpa using hng
  clear key
  have hnz : ¬ (k : Int) - 1 = 0 := by omega
  obtain ⟨x, hx⟩ : ∃ x, o'[q]? = some x := ⟨_, List.getElem?_eq_getElem (by omega)⟩
  obtain ⟨y, hy⟩ : ∃ y, o'[q + 1]? = some y := ⟨_, List.getElem?_eq_getElem (by omega)⟩
  have hxl : x < L.length := by have := (chk_ok.1 hc0).1.lt x (List.mem_of_getElem? hx); simpa [smS] using this
  have hyl : y < L.length := by have := (chk_ok.1 hc0).1.lt y (List.mem_of_getElem? hy); simpa [smS] using this
  obtain ⟨mx, hmx⟩ : ∃ m, L[x]? = some m := ⟨_, List.getElem?_eq_getElem hxl⟩
  obtain ⟨my, hmy⟩ : ∃ m, L[y]? = some m := ⟨_, List.getElem?_eq_getElem hyl⟩
  have esp : o' = o'.take q ++ x :: y :: o'.drop (q + 2) := by
    rw [show x :: y :: o'.drop (q + 2) = o'.drop q by
      rw [List.drop_eq_getElem_cons (by omega : q < o'.length), List.drop_eq_getElem_cons (by omega : q + 1 < o'.length)]
      rw [List.getElem?_eq_getElem (by omega)] at hx hy
      simp only [Option.some.injEq] at hx hy
      rw [hx, hy], List.take_append_drop]
  have HSW : Hid (wrtM mx.s = false → wrtM my.s = false → ¬ (mx.s.en ≠ 0 ∧ mx.s.en < my.s.bg) → chk start (smS L) (asI (o'.take q ++ y :: x :: o'.drop (q + 2))) = (0, 0)) := hid (fun h1 h2 h3 => by
    rw [esp] at hc0
    refine swap_ok hc0 ?_ ?_ ?_
    · rw [smS_at hmx]; exact h1
    · rw [smS_at hmy]; exact h2
    · rw [smS_at hmx, smS_at hmy]; exact h3)
  have HW1 := hid (fun W (k : Kept (fun _ => False) w W) => writer_any mx ((hl.2 mx (List.mem_of_getElem? hmx)).kept k))
  have HW2 := hid (fun W (k : Kept (fun _ => False) w W) => writer_any my ((hl.2 my (List.mem_of_getElem? hmy)).kept k))
  have HX := hid hx
  have HY := hid hy
  have HMX := hid hmx
  have HMY := hid hmy
  have HESP := hid esp
  have HQ : Hid (q + 1 < k ∧ k = n ∧ o'.length = k ∧ L.length = n) := hid ⟨hq, hkn, hol, hLl⟩
  have hq0 : (0 : Int) ≤ (q : Int) := by omega
  have hq1 : (q : Int) + 1 < (k : Int) := by omega
  have hx0 : (0 : Int) ≤ (x : Int) := by omega
  have hx1 : (x : Int) < (n : Int) := by omega
  have hy0 : (0 : Int) ≤ (y : Int) := by omega
  have hy1 : (y : Int) < (n : Int) := by omega
  obtain ⟨g, off, rfl⟩ := hl.1.addr (by omega)
  obtain ⟨g2, off2, rfl⟩ := ho.addr (by omega)
  have HSN := hid hsn
  have HCG := hid (fun W (va : Option Addr) (vc : Nat) (os : List Nat) (kk : Kept (fun _ => False) w W) (h : RIn iC W va k (asI os)) (hc : chk start (smS L) (asI os) = (0, 0)) => (check_any (w := W) (sc := sc) (lc := lc) (oc := vc) (hs.kept kk) (hl.kept kk) h hn (by omega) (by omega)).mono (fun e w' h => (⟨by rw [h.1, hc], h.2⟩ : e = Ending.returned (.tuple #[.int .i64 0, .int .i64 0]) ∧ Kept (fun _ => False) W w')))
  have hpl : (o'.take (q + 1)).length = q + 1 := by rw [List.length_take]; omega
  have HCP := hid (fun W (va vs : Option Addr) (vc vd : Nat) (kk : Kept (fun _ => False) w W) (h : RIn iC W va (q + 1) (asI (List.range (q + 1)))) (h2 : RIn sC W vs (q + 1) ((o'.take (q + 1)).map fun x => L.getD x Sm.zero)) => (check_any (w := W) (sc := sc) (lc := vd) (oc := vc) (hs.kept kk) (show LIn W vs (q + 1) ((o'.take (q + 1)).map fun x => L.getD x Sm.zero) from ⟨h2, fun m hm => by
    obtain ⟨z, hz, rfl⟩ := List.mem_map.1 hm
    have hz2 : z < L.length := by have := (chk_ok.1 hc0).1.lt z (List.mem_of_mem_take hz); simpa [smS] using this
    rw [List.getD_eq_getElem?_getD, List.getElem?_eq_getElem hz2]
    exact (hl.2 _ (List.getElem_mem hz2)).kept kk⟩) h (by omega) (by omega) (by omega)).mono (fun e w' h => (⟨by
      have hp := part_ok hc0 (q + 1)
      rw [hpl] at hp
      rw [h.1, smS_part, hp], h.2⟩ : e = Ending.returned (.tuple #[.int .i64 0, .int .i64 0]) ∧ Kept (fun _ => False) W w')))
  clear hpl
  have hqn : (q : Int) < (n : Int) := by omega
  clear hs ho hl hn hlen hc hch hn2 h2 hc0 hx hy hxl hyl hmx hmy esp hkn hol hLl hq
  generalize wrtM mx.s = b1 at *
  generalize wrtM my.s = b2 at *
  obtain ⟨⟨z0, z1, z2, z3, z4, z5, z6, z7, z8, ms⟩, ma, mc⟩ := mx
  obtain ⟨⟨u0, u1, u2, u3, u4, u5, u6, u7, u8, ns⟩, na, nc⟩ := my
  unfold syV at HW1 HW2
  simp only at HW1 HW2 HSW
  go_enter Try.func3, Try.ntmps3
  go_upto_region 2 with (go_at_call 4; refine hup.mono ?_; rintro e w1 ⟨rfl, hk1⟩; have hC := HC.out w1 hk1; have HK1 := hid hk1; clear hk1)
  clear hup
  go_upto_region 3 with (go_at_call 5; refine hC.mono ?_; rintro e w2 ⟨rfl, hk2⟩; have HW22 := hid hk2; clear hk2)
  clear hC
  go_upto_region 8 with (simp only [ek])
  have k2' := HW22.out.trans (kept_alloc w2 (.cells #[.int .i64 z0, .int .i64 z1, .int .i64 z2, .int .i64 z3, .int .i64 z4, .int .i64 z5, .int .i64 z6, .int .i64 z7, .int .i64 z8, .slice ma ms.length mc] 31)) (fun _ _ f => f)
  obtain ⟨a0, a1, a2, a3, a4, a5, a6, a7, a8, a9⟩ := story_cells HL0.out HW22.out HMX.out
  obtain ⟨b0, b1', b2', b3, b4, b5, b6, b7, b8, b9⟩ := story_cells HL0.out k2' HMY.out
  have q0 := (HI0.out.kept HW22.out).at (k := 1) (fun _ => rfl) (j := q) (x := (x : Int)) (by have := HX.out; simp [asI, this]) 0 _ rfl
  have p0 := (HI0.out.kept k2').at (k := 1) (fun _ => rfl) (j := q + 1) (x := (y : Int)) (by have := HY.out; simp [asI, this]) 0 _ rfl
  rw [Nat.mul_one, Nat.add_zero] at q0 p0
  have aa := (((St.nil w).calm HW22.out).box #[.int .i64 z0, .int .i64 z1, .int .i64 z2, .int .i64 z3, .int .i64 z4, .int .i64 z5, .int .i64 z6, .int .i64 z7, .int .i64 z8, .slice ma ms.length mc] 31).box #[.int .i64 u0, .int .i64 u1, .int .i64 u2, .int .i64 u3, .int .i64 u4, .int .i64 u5, .int .i64 u6, .int .i64 u7, .int .i64 u8, .slice na ns.length nc] 31
  rw [alloc_size] at aa
  generalize hw3 : (w2.alloc (.cells #[.int .i64 z0, .int .i64 z1, .int .i64 z2, .int .i64 z3, .int .i64 z4, .int .i64 z5, .int .i64 z6, .int .i64 z7, .int .i64 z8, .slice ma ms.length mc] 31)).alloc (.cells #[.int .i64 u0, .int .i64 u1, .int .i64 u2, .int .i64 u3, .int .i64 u4, .int .i64 u5, .int .i64 u6, .int .i64 u7, .int .i64 u8, .slice na ns.length nc] 31) = w3 at *
  generalize hE : w2.heap.size = E at *
  have HAA := hid aa
  clear aa k2'
  go_upto_region 10 with (simp only [hw3, hE])
  clear a0 a1 a2 a3 a4 a5 a6 a7 a8 a9 b0 b1' b2' b3 b4 b5 b6 b7 b8 b9 q0 p0 hw3 hE
  obtain ⟨c0, c1, c2, c3, c4, c5, c6, c7, c8, c9⟩ := (show _ ∧ _ ∧ _ ∧ _ ∧ _ ∧ _ ∧ _ ∧ _ ∧ _ ∧ _ from ⟨HAA.out.cell 1 rfl 0, HAA.out.cell 1 rfl 1, HAA.out.cell 1 rfl 2, HAA.out.cell 1 rfl 3, HAA.out.cell 1 rfl 4, HAA.out.cell 1 rfl 5, HAA.out.cell 1 rfl 6, HAA.out.cell 1 rfl 7, HAA.out.cell 1 rfl 8, HAA.out.cell 1 rfl 9⟩)
  have hW1 := HW1.out _ HAA.out.same
  go_upto_region 11 with (go_at_call 6; refine hW1.mono ?_; rintro e w4 ⟨rfl, hk4⟩; have HS4 := hid (HAA.out.calm hk4); clear hk4)
  clear hW1 c0 c1 c2 c3 c4 c5 c6 c7 c8 c9
  obtain ⟨c0, c1, c2, c3, c4, c5, c6, c7, c8, c9⟩ := (show _ ∧ _ ∧ _ ∧ _ ∧ _ ∧ _ ∧ _ ∧ _ ∧ _ ∧ _ from ⟨HS4.out.cell 0 rfl 0, HS4.out.cell 0 rfl 1, HS4.out.cell 0 rfl 2, HS4.out.cell 0 rfl 3, HS4.out.cell 0 rfl 4, HS4.out.cell 0 rfl 5, HS4.out.cell 0 rfl 6, HS4.out.cell 0 rfl 7, HS4.out.cell 0 rfl 8, HS4.out.cell 0 rfl 9⟩)
  have hW2 := HW2.out _ HS4.out.same
  go_upto_region 12 with (go_at_call 6; refine hW2.mono ?_; rintro e w5 ⟨rfl, hk5⟩; have HS5 := hid (HS4.out.calm hk5); clear hk5)
  clear hW2 c0 c1 c2 c3 c4 c5 c6 c7 c8 c9 HAA HS4 HW1 HW2
  have ca3 := HS5.out.cell 1 rfl 3
  have cb2 := HS5.out.cell 0 rfl 2
  clear hng tn ek
  by_cases hall : b1 = false ∧ b2 = false ∧ ¬ (z3 ≠ 0 ∧ z3 < u2)
  · obtain ⟨rfl, rfl, h3⟩ := hall
    have HCK := hid (HSW.out rfl rfl h3)
    clear HSW
    have hd : (z3 != 0) = false ∨ ((z3 != 0) = true ∧ decide (z3 < u2) = false) := by
      by_cases c1 : z3 = 0
      · exact .inl (by simpa using c1)
      · exact .inr ⟨by simpa using c1, by simp; omega⟩
    have s13 := r_nil iC 3 1 HS5.out
    have HR13 := hid (HI0.out.kept HS5.out.same)
    have HS13 := hid s13
    have HZ : Hid ((([] : List Int).length + k) * 8 ≤ 140737488355328) := hid (by have := HQ.out; have := HN.out; simp; omega)
    have hatl : (o'.take q).length = q := by rw [List.length_take]; have := HQ.out; omega
    clear h3 s13
    rcases hd with d1 | ⟨d1, d2⟩
    all_goals
      go_upto_region 14 with fail
      clear ca3 cb2
      go_upto_region 15 with (at_builtin; refine wpList_appR Try.rowI HS13.out rfl _ _ rfl rfl (some ⟨g2, off2, none⟩) k oc rfl HR13.out (fun e => by cases e) HZ.out ?_; intro v6 w6 s6; rw [List.nil_append] at s6; obtain ⟨g3, cap3, rfl, k1, k2, f1, k3, f2, hs7⟩ := swap_st s6 HESP.out hatl HQ.out.2.2.1; have HS7 := hid hs7; clear s6 hs7)
      go_region
      clear k1 k2 f1 k3 f2
      have HS7 := hid HS7.out.drew
      have r7 := st_rin HS7.out 0 rfl (show k = (asI (o'.take q ++ y :: x :: o'.drop (q + 2))).length by rw [asI_len]; have h1 := congrArg List.length HESP.out; have := HQ.out; simp only [List.length_append, List.length_cons] at h1 ⊢; omega) (f := iC) (fun _ => rfl)
      have hC7 := HCG.out _ (some ⟨g3, 0, none⟩) cap3 _ HS7.out.same r7 HCK.out
      clear r7
      go_upto_region 19 with (go_at_call 5; refine hC7.mono ?_; rintro e w8 ⟨rfl, hk8⟩; have HT := hid (HS7.out.same.trans hk8 (fun _ _ f => f)); clear hk8)
      clear hC7
      go_upto_region 22 with fail
      go_loopw [20, 21, 22] (fun vs vp vi wr => ∃ j : Nat, vi = .int .i64 j ∧ j ≤ q + 1 ∧ St w [lstR iC 3 1 vp (asI (List.range j)), lstR sC 31 10 vs ((o'.take j).map fun x => L.getD x Sm.zero)] wr) (fun _ _ vi _ => q + 1 - (intOf vi).toNat)
      case atStart => exact ⟨0, rfl, Nat.zero_le _, r_nil iC 3 1 (r_nil sC 31 10 ((St.nil w).calm HT.out))⟩
      case round =>
        clear HT
        obtain ⟨j, rfl, hj, hst⟩ := hrel
        by_cases hlt : j ≤ q
        · have hlt' : (j : Int) ≤ (q : Int) := by omega
          have td : decide (j ≤ q) = true := by simpa using hlt
          have hj0 : (0 : Int) ≤ (j : Int) := by omega
          have hjk : (j : Int) < (k : Int) := by omega
          obtain ⟨z, hz⟩ : ∃ z, o'[j]? = some z := ⟨_, List.getElem?_eq_getElem (by have := HQ.out; omega)⟩
          have hzl : z < L.length := by have := (chk_ok.1 HC0.out).1.lt z (List.mem_of_getElem? hz); simpa [smS] using this
          have hz0 : (0 : Int) ≤ (z : Int) := by omega
          have hz1 : (z : Int) < (n : Int) := by have := HQ.out; omega
          obtain ⟨mz, hmz⟩ : ∃ m, L[z]? = some m := ⟨_, List.getElem?_eq_getElem hzl⟩
          have eT : ((o'.take (j + 1)).map fun x => L.getD x Sm.zero) = ((o'.take j).map fun x => L.getD x Sm.zero) ++ [mz] := by
            rw [List.take_add_one, hz, List.map_append]
            simp [List.getD_eq_getElem?_getD, hmz]
          have HET := hid eT
          obtain ⟨⟨y0, y1, y2, y3, y4, y5, y6, y7, y8, zs⟩, za, zc⟩ := mz
          obtain ⟨a0, a1, a2, a3, a4, a5, a6, a7, a8, a9⟩ := story_cells HL0.out hst.same hmz
          have q0 := (HI0.out.kept hst.same).at (k := 1) (fun _ => rfl) (j := j) (x := (z : Int)) (by simp [asI, hz]) 0 _ rfl
          rw [Nat.mul_one, Nat.add_zero] at q0
          have HJ : Hid (j + 1 ≤ q + 1 ∧ q + 1 - (j + 1) < q + 1 - j) := hid ⟨by omega, by omega⟩
          have HZ1 : Hid ((((o'.take j).map fun x => L.getD x Sm.zero).length + 1) * 96 ≤ 140737488355328) := hid (by rw [List.length_map, List.length_take]; have := HQ.out; have := HN.out; omega)
          have HZ2 : Hid (((asI (List.range j)).length + 1) * 8 ≤ 140737488355328) := hid (by rw [asI_len, List.length_range]; have := HQ.out; have := HN.out; omega)
          have hsw := hst.perm (List.Perm.swap _ _ _)
          have HBX := hid (r_box (f := sC) (k := 10) sC_len 31 hsw (⟨⟨y0, y1, y2, y3, y4, y5, y6, y7, y8, zs⟩, za, zc⟩ : Sm) #[.int .i64 y0, .int .i64 y1, .int .i64 y2, .int .i64 y3, .int .i64 y4, .int .i64 y5, .int .i64 y6, .int .i64 y7, .int .i64 y8, .slice za zs.length zc] rfl)
          have HSX := hid (hsw.calm (kept_alloc wr (.cells #[.int .i64 y0, .int .i64 y1, .int .i64 y2, .int .i64 y3, .int .i64 y4, .int .i64 y5, .int .i64 y6, .int .i64 y7, .int .i64 y8, .slice za zs.length zc] 31)))
          have hbs := buildSv wr y0 y1 y2 y3 y4 y5 y6 y7 y8 za zs.length zc
          clear hst hsw hz hzl hmz eT hlt hj
          go_upto_region 25 with (first | simp only [hbs] | (at_builtin; refine wpList_appR Try.rowS HSX.out rfl _ _ rfl rfl _ 1 1 rfl HBX.out (by simp) HZ1.out ?_; intro v6 w6 s6; have HS6 := hid (s6.perm (List.Perm.swap _ _ _)); clear s6))
          clear HBX HSX hbs a0 a1 a2 a3 a4 a5 a6 a7 a8 a9 q0
          have t2 := HS6.out.alloc (.cells #[.int .i64 (j : Int)] 3)
          have HRR := hid (r_box (f := iC) (k := 1) (fun _ => rfl) 3 HS6.out (j : Int) _ rfl)
          have hbs := buildI1 w6 (j : Int)
          have HT2 := hid t2
          clear t2
          go_wp2_with (first | simp only [hbs] | (at_builtin; refine wpList_appR Try.rowI HT2.out rfl _ _ rfl rfl (some ⟨(w6).heap.size, 0, none⟩) 1 1 rfl HRR.out (fun e => by cases e) HZ2.out ?_; intro v7 w7 s7; have HEND := hid s7; clear s7))
          go_roundw
          case rel => exact ⟨j + 1, by simp, HJ.out.1, by have := HEND.out; rw [HET.out, List.range_succ, asI, List.map_append]; exact this⟩
          case measure => have := HJ.out.2; simp [intOf]; omega
        · have hlt' : ¬ (j : Int) ≤ (q : Int) := by omega
          have td : decide (j ≤ q) = false := by simpa using hlt
          obtain rfl : j = q + 1 := by omega
          have e1 : (asI (List.range (q + 1))).length = q + 1 := by rw [asI_len, List.length_range]
          have e2 : ((o'.take (q + 1)).map fun x => L.getD x Sm.zero).length = q + 1 := by rw [List.length_map, List.length_take]; have := HQ.out; omega
          obtain ⟨pa, pc, rfl⟩ := r_form hst 0 rfl rfl (fun _ => rfl)
          obtain ⟨sb, sd, rfl⟩ := r_form hst 1 rfl rfl sC_len
          have R1 := st_rin hst 0 rfl rfl (f := iC) (fun _ => rfl)
          have R2 := st_rin hst 1 rfl rfl (f := sC) sC_len
          rw [e1] at R1
          rw [e2] at R2
          rw [e1, e2]
          have hCP := HCP.out wr pa sb pc sd hst.same R1 R2
          have HK9 := hid hst.same
          clear hst R1 R2 e1 e2 hlt hj
          go_wp2_with (go_at_call 5; refine hCP.mono ?_; rintro e w9 ⟨rfl, hk9⟩; have HKE := hid (HK9.out.trans hk9 (fun _ _ f => f)); clear hk9)
          go_ret
          exact ⟨rfl, HKE.out⟩
  · have hq2 : b1 = true ∨ (b1 = false ∧ b2 = true) ∨ (b1 = false ∧ b2 = false ∧ (z3 != 0) = true ∧ decide (z3 < u2) = true) := by
      cases b1
      · cases b2
        · refine .inr (.inr ⟨rfl, rfl, ?_⟩)
          simpa using hall
        · exact .inr (.inl ⟨rfl, rfl⟩)
      · exact .inl rfl
    clear hall HSW
    have HT := hid HS5.out.same
    rcases hq2 with rfl | ⟨rfl, rfl⟩ | ⟨rfl, rfl, d1, d2⟩
    all_goals
      go_upto_region 19 with fail
      clear ca3 cb2
      go_upto_region 22 with fail
      go_loopw [20, 21, 22] (fun vs vp vi wr => ∃ j : Nat, vi = .int .i64 j ∧ j ≤ q + 1 ∧ St w [lstR iC 3 1 vp (asI (List.range j)), lstR sC 31 10 vs ((o'.take j).map fun x => L.getD x Sm.zero)] wr) (fun _ _ vi _ => q + 1 - (intOf vi).toNat)
      case atStart => exact ⟨0, rfl, Nat.zero_le _, r_nil iC 3 1 (r_nil sC 31 10 ((St.nil w).calm HT.out))⟩
      case round =>
        clear HT
        obtain ⟨j, rfl, hj, hst⟩ := hrel
        by_cases hlt : j ≤ q
        · have hlt' : (j : Int) ≤ (q : Int) := by omega
          have td : decide (j ≤ q) = true := by simpa using hlt
          have hj0 : (0 : Int) ≤ (j : Int) := by omega
          have hjk : (j : Int) < (k : Int) := by omega
          obtain ⟨z, hz⟩ : ∃ z, o'[j]? = some z := ⟨_, List.getElem?_eq_getElem (by have := HQ.out; omega)⟩
          have hzl : z < L.length := by have := (chk_ok.1 HC0.out).1.lt z (List.mem_of_getElem? hz); simpa [smS] using this
          have hz0 : (0 : Int) ≤ (z : Int) := by omega
          have hz1 : (z : Int) < (n : Int) := by have := HQ.out; omega
          obtain ⟨mz, hmz⟩ : ∃ m, L[z]? = some m := ⟨_, List.getElem?_eq_getElem hzl⟩
          have eT : ((o'.take (j + 1)).map fun x => L.getD x Sm.zero) = ((o'.take j).map fun x => L.getD x Sm.zero) ++ [mz] := by
            rw [List.take_add_one, hz, List.map_append]
            simp [List.getD_eq_getElem?_getD, hmz]
          have HET := hid eT
          obtain ⟨⟨y0, y1, y2, y3, y4, y5, y6, y7, y8, zs⟩, za, zc⟩ := mz
          obtain ⟨a0, a1, a2, a3, a4, a5, a6, a7, a8, a9⟩ := story_cells HL0.out hst.same hmz
          have q0 := (HI0.out.kept hst.same).at (k := 1) (fun _ => rfl) (j := j) (x := (z : Int)) (by simp [asI, hz]) 0 _ rfl
          rw [Nat.mul_one, Nat.add_zero] at q0
          have HJ : Hid (j + 1 ≤ q + 1 ∧ q + 1 - (j + 1) < q + 1 - j) := hid ⟨by omega, by omega⟩
          have HZ1 : Hid ((((o'.take j).map fun x => L.getD x Sm.zero).length + 1) * 96 ≤ 140737488355328) := hid (by rw [List.length_map, List.length_take]; have := HQ.out; have := HN.out; omega)
          have HZ2 : Hid (((asI (List.range j)).length + 1) * 8 ≤ 140737488355328) := hid (by rw [asI_len, List.length_range]; have := HQ.out; have := HN.out; omega)
          have hsw := hst.perm (List.Perm.swap _ _ _)
          have HBX := hid (r_box (f := sC) (k := 10) sC_len 31 hsw (⟨⟨y0, y1, y2, y3, y4, y5, y6, y7, y8, zs⟩, za, zc⟩ : Sm) #[.int .i64 y0, .int .i64 y1, .int .i64 y2, .int .i64 y3, .int .i64 y4, .int .i64 y5, .int .i64 y6, .int .i64 y7, .int .i64 y8, .slice za zs.length zc] rfl)
          have HSX := hid (hsw.calm (kept_alloc wr (.cells #[.int .i64 y0, .int .i64 y1, .int .i64 y2, .int .i64 y3, .int .i64 y4, .int .i64 y5, .int .i64 y6, .int .i64 y7, .int .i64 y8, .slice za zs.length zc] 31)))
          have hbs := buildSv wr y0 y1 y2 y3 y4 y5 y6 y7 y8 za zs.length zc
          clear hst hsw hz hzl hmz eT hlt hj
          go_upto_region 25 with (first | simp only [hbs] | (at_builtin; refine wpList_appR Try.rowS HSX.out rfl _ _ rfl rfl _ 1 1 rfl HBX.out (by simp) HZ1.out ?_; intro v6 w6 s6; have HS6 := hid (s6.perm (List.Perm.swap _ _ _)); clear s6))
          clear HBX HSX hbs a0 a1 a2 a3 a4 a5 a6 a7 a8 a9 q0
          have t2 := HS6.out.alloc (.cells #[.int .i64 (j : Int)] 3)
          have HRR := hid (r_box (f := iC) (k := 1) (fun _ => rfl) 3 HS6.out (j : Int) _ rfl)
          have hbs := buildI1 w6 (j : Int)
          have HT2 := hid t2
          clear t2
          go_wp2_with (first | simp only [hbs] | (at_builtin; refine wpList_appR Try.rowI HT2.out rfl _ _ rfl rfl (some ⟨(w6).heap.size, 0, none⟩) 1 1 rfl HRR.out (fun e => by cases e) HZ2.out ?_; intro v7 w7 s7; have HEND := hid s7; clear s7))
          go_roundw
          case rel => exact ⟨j + 1, by simp, HJ.out.1, by have := HEND.out; rw [HET.out, List.range_succ, asI, List.map_append]; exact this⟩
          case measure => have := HJ.out.2; simp [intOf]; omega
        · have hlt' : ¬ (j : Int) ≤ (q : Int) := by omega
          have td : decide (j ≤ q) = false := by simpa using hlt
          obtain rfl : j = q + 1 := by omega
          have e1 : (asI (List.range (q + 1))).length = q + 1 := by rw [asI_len, List.length_range]
          have e2 : ((o'.take (q + 1)).map fun x => L.getD x Sm.zero).length = q + 1 := by rw [List.length_map, List.length_take]; have := HQ.out; omega
          obtain ⟨pa, pc, rfl⟩ := r_form hst 0 rfl rfl (fun _ => rfl)
          obtain ⟨sb, sd, rfl⟩ := r_form hst 1 rfl rfl sC_len
          have R1 := st_rin hst 0 rfl rfl (f := iC) (fun _ => rfl)
          have R2 := st_rin hst 1 rfl rfl (f := sC) sC_len
          rw [e1] at R1
          rw [e2] at R2
          rw [e1, e2]
          have hCP := HCP.out wr pa sb pc sd hst.same R1 R2
          have HK9 := hid hst.same
          clear hst R1 R2 e1 e2 hlt hj
          go_wp2_with (go_at_call 5; refine hCP.mono ?_; rintro e w9 ⟨rfl, hk9⟩; have HKE := hid (HK9.out.trans hk9 (fun _ _ f => f)); clear hk9)
          go_ret
          exact ⟨rfl, HKE.out⟩
end Go.Proofs.Ytnmlnjljmikmpab
