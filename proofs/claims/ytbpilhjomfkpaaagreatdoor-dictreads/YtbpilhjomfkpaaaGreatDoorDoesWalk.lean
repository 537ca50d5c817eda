/- DictDoes, walked. -/
import Derived.Test.YtbpilhjomfkpaaaGreatDoorRdA
import Derived.Test.YtbpilhjomfkpaaaGreatDoorAr
namespace Go.Proofs.YtbpilhjomfkpaaaGreatDoor
open Go.RowKit
set_option linter.unusedVariables false
set_option linter.unusedSimpArgs false
attribute [local go_sem ↓] Go.wp_at_zero Go.wp_at_succ

theorem St.join {o w2 w3 : World} {A B : List It} (a : St o A w2) (b : St w2 B w3) : St o (B ++ A) w3 := by
  have a' := a.calm b.same
  refine ⟨?_, ?_, ?_, a'.kept⟩
  · rw [List.flatMap_append, List.nodup_append]
    refine ⟨b.nodup, a.nodup, fun x hx y hy e => ?_⟩
    subst e
    obtain ⟨i, hi, hxi⟩ := List.mem_flatMap.1 hx
    obtain ⟨j, hj, hxj⟩ := List.mem_flatMap.1 hy
    have h1 := b.high i hi x hxi
    have h2 := j.old w2 (a.all j hj) x hxj
    omega
  · intro i hi
    rcases List.mem_append.1 hi with hi | hi
    · exact b.all i hi
    · exact a'.all i hi
  · intro i hi k hk
    rcases List.mem_append.1 hi with hi | hi
    · exact Nat.le_trans a.le (b.high i hi k hk)
    · exact a.high i hi k hk
theorem told_len (l : List Pr) (n : Int) (d : Dd) : (doS l n d).2.length ≤ 2 := by
  unfold doS
  repeat' split
  all_goals simp
theorem st_xinD {o0 w : World} {its : List It} {la : Option Addr} {n lc : Nat} {zs : List Int} (h : St o0 its w) (i : Nat) (hi : its[i]? = some (ownI 2 1 (.slice la n lc) n (xC zs))) (hn : n = zs.length) : XIn w la n zs := by
  subst hn
  obtain ⟨la', lc', e, hx, _⟩ := own_xin (show w.ownsRow 0 2 1 (.slice la zs.length lc) zs.length (xC zs) from h.get i hi)
  simp only [Value.slice.injEq] at e
  obtain ⟨rfl, _, rfl⟩ := e
  exact hx
set_option maxRecDepth 100000 in
set_option maxHeartbeats 4000000 in
theorem does_walk (la : Option Addr) (m lc : Nat) (l : List Pr) (n : Int) (d : Dd) (w : World) (hE : Env w) (hC : CameE w la m lc l) (hdx : Rg d.x) : Calls Tryz.prog 6 #[.slice la m lc, .int .i64 n, d.val] w fun e w' => e = .returned (.bool true) ∧ Kept (fun _ => False) w w' := by
  obtain ⟨i0, hi0, hz0, hz1, hz2⟩ := info_parts Tryz.infoE
  obtain ⟨hX, hlc, hbig, hnil, hkr⟩ := hC
  have HX := hid hX
  have HXL := hid hX
  have HNil := hid hnil
  have hm8 : m * 16 ≤ 140737488351232 := by omega
  have s1 := (St.nil w).box #[.int .i64 d.op, .int .i64 d.a, .int .i64 d.b, .int .i64 d.x, .int .i64 d.y] 45
  have hA := awake_any _ (hE.kept s1.same)
  have HDo : Hid (∀ (W : World) (g cap : Nat), EIn W (some ⟨g, 0, none⟩) m l → Calls Tryz.prog 22 #[.slice (some ⟨g, 0, none⟩) m cap, .int .i64 n, d.val] W (DoE l n d W)) := fun W g cap hx => Do_any hx (by omega) hkr hdx
  have HRf : Hid (∀ (W : World), EIn W la m l → Calls Tryz.prog 23 #[.slice la m lc, .int .i64 n, d.val] W (rDoE l n d W)) := fun W hx => rDo_any la m lc l n d W hx hnil hlc
  have hB := fun b W => codeDict_any b W
  obtain ⟨op, a, b, x, y⟩ := d
  simp only at s1 hA
  unfold Dd.val at HDo HRf ⊢
  simp only at HDo HRf ⊢
  generalize e1 : w.alloc (.cells #[.int .i64 op, .int .i64 a, .int .i64 b, .int .i64 x, .int .i64 y] 45) = w1 at *
  generalize eM : w.heap.size = M at *
  have HS1 := hid s1
  have HML := hid hX.1
  clear hE s1 hX hnil hlc hbig
  go_enter Tryz.func6, Tryz.ntmps6
  go_upto_region 3 with (first | simp only [e1, eM] | (go_at_call 9; refine hA.mono ?_; rintro e w2 ⟨rfl, k2⟩; clear hA e1 eM))
  have s2 := HS1.out.calm k2
  have HS2 := hid s2
  have heq := eqE
  have hgd := guardE
  go_upto_region 4 with (at_builtin; refine wpList_appE_st (e_nil HS2.out) rfl (.tmp 20) (.tmp 21) rfl rfl la m lc rfl (HX.out.kept HS2.out.same) HNil.out (by have := HML.out; simp; omega) ?_; intro v3 w3 h3; have HS3 := hid h3; clear h3)
  have hb2 := fun W => buildE2 W (-777) 0 (-777) 0
  have S4 := (e_new HS3.out [(-777, 0), (-777, 0)] (by unfold maxLen; simp)).perm (List.Perm.swap _ _ _)
  have HS4' := hid S4
  have HE4 := hid (st_ein (e_new HS3.out [(-777, 0), (-777, 0)] (by unfold maxLen; simp)) 0 rfl rfl)
  clear S4
  go_upto_region 5 with (first | simp only [hb2] | (at_builtin; refine wpList_appE_st HS4'.out rfl (.tmp 23) (.tmp 26) rfl rfl _ 2 2 rfl HE4.out (by simp) (by have := HML.out; simp; omega) ?_; intro v4 w4 h4; have HS40 := hid (e_drop1 h4); clear h4))
  obtain ⟨g, cap, e4⟩ := HS40.out.form 0 rfl (by simp)
  have hlm : ([] ++ l ++ [(-777, 0), (-777, 0)] : List Pr).length = m + 2 := by have := HML.out; simp; omega
  have ho4 : w4.ownsRow 0 41 2 v4 ([] ++ l ++ [(-777, 0), (-777, 0)] : List Pr).length (eC ([] ++ l ++ [(-777, 0), (-777, 0)])) := HS40.out.get 0 rfl
  rw [hlm] at e4 ho4
  subst e4
  have s4 : St w [ownI 41 2 (.slice (some ⟨g, 0, none⟩) (m + 2) cap) (m + 2) (eC (l ++ [(-777, 0), (-777, 0)])), boxI M #[.int .i64 op, .int .i64 a, .int .i64 b, .int .i64 x, .int .i64 y] 45] w4 := by
    have := HS40.out
    unfold lstE at this
    rw [hlm] at this
    simpa using this
  have hcap : m + 2 ≤ cap := by
    rcases ho4.2 with ⟨e, _⟩ | ⟨g', c', cur, e, _, _, h1, _⟩
    · cases e
    · simp only [Value.slice.injEq] at e
      omega
  have HS4 := hid s4
  clear ho4 s4 HS4' HE4 HS40 HS3 HS2 HS1 k2 hb2 hlm
  have HEA : Hid (∀ W, Kept (fun _ => False) w4 W → EIn W (some ⟨g, 0, none⟩) (m + 2) (l ++ [(-777, 0), (-777, 0)])) := hid (fun W k => (st_ein HS4.out 0 rfl (by have := HML.out; simp; omega)).kept k)
  have HTk : Hid ((l ++ [(-777, 0), (-777, 0)]).take m = l) := hid (by have := HML.out; rw [this]; simp)
  have HXA : Hid (∀ W, Kept (fun _ => False) w4 W → EIn W (some ⟨g, 0, none⟩) m l) := hid (fun W k => by
    have := ein_head (i := m) (HEA.out W k) (by omega)
    rw [HTk.out] at this
    exact this)
  have hsl := fun W => sliceHeadE g 0 (m + 2) cap m (by omega) W
  have HC : Hid (∀ W, Kept (fun _ => False) w4 W → W.cell? ⟨M, 0, none⟩ = some (.int .i64 op) ∧ W.cell? ⟨M, 1, none⟩ = some (.int .i64 a) ∧ W.cell? ⟨M, 2, none⟩ = some (.int .i64 b) ∧ W.cell? ⟨M, 3, none⟩ = some (.int .i64 x) ∧ W.cell? ⟨M, 4, none⟩ = some (.int .i64 y)) := fun W k => ⟨(HS4.out.calm k).cell 1 rfl 0, (HS4.out.calm k).cell 1 rfl 1, (HS4.out.calm k).cell 1 rfl 2, (HS4.out.calm k).cell 1 rfl 3, (HS4.out.calm k).cell 1 rfl 4⟩
  obtain ⟨c0, c1, c2, c3, c4⟩ := HC.out _ ((Kept.refl _ w4).drew)
  have hq := HDo.out w4.drew g cap (HXA.out _ ((Kept.refl _ w4).drew))
  unfold DoE at hq
  clear HDo
  have hbd1 : (0 : Int) ≤ (m : Int) := by omega
  have hbd2 : (m : Int) ≤ (cap : Int) := by omega
  by_cases hok : okS l n ⟨op, a, b, x, y⟩ = true
  · simp only [if_pos hok] at hq
    have kq : Calls Tryz.prog 22 #[.slice (some ⟨g, 0, none⟩) m cap, .int .i64 n, .agg #[.int .i64 op, .int .i64 a, .int .i64 b, .int .i64 x, .int .i64 y]] w4.drew fun e w' => (∃ v t, e = .returned (.tuple #[v, t, .int .i64 0]) ∧ Hid (St w4 [ownI 2 1 t (doS l n ⟨op, a, b, x, y⟩).2.length (xC (doS l n ⟨op, a, b, x, y⟩).2), lstE v (doS l n ⟨op, a, b, x, y⟩).1] w')) := hq.mono fun e w' ⟨v, t, he, hs⟩ => ⟨v, t, he, hs.base (kept_drew w4)⟩
    clear hq
    go_region_with (first | simp only [hsl] | (go_at_call 22; refine kq.mono ?_; rintro e w5 ⟨v, t, rfl, HS5⟩))
    have hs5 := HS5.out
    have hdl : (doS l n ⟨op, a, b, x, y⟩).1.length ≤ l.length + 1 ∧ (doS l n ⟨op, a, b, x, y⟩).2.length ≤ 2 := ⟨doS_len l n ⟨op, a, b, x, y⟩, told_len l n ⟨op, a, b, x, y⟩⟩
    have hr := fun h => HRf.out w5 h
    unfold rDoE at hr
    generalize hdd : doS l n ⟨op, a, b, x, y⟩ = DD at *
    obtain ⟨l1, tl⟩ := DD
    simp only at hs5 hdl hr
    obtain ⟨va, vc, e1, -⟩ := own_ein (show w5.ownsRow 0 41 2 v l1.length (eC l1) from hs5.get 1 rfl)
    obtain ⟨ta, tc, e2, -⟩ := own_xin (show w5.ownsRow 0 2 1 t tl.length (xC tl) from hs5.get 0 rfl)
    subst e1 e2
    have s6 : St w [ownI 2 1 (.slice ta tl.length tc) tl.length (xC tl), lstE (.slice va l1.length vc) l1, ownI 41 2 (.slice (some ⟨g, 0, none⟩) (m + 2) cap) (m + 2) (eC (l ++ [(-777, 0), (-777, 0)])), boxI M #[.int .i64 op, .int .i64 a, .int .i64 b, .int .i64 x, .int .i64 y] 45] w5 := HS4.out.join hs5
    have k5 := hs5.same
    obtain ⟨d0, d1, d2, d3, d4⟩ := HC.out _ k5
    replace hr := hr (HX.out.kept s6.same)
    simp only [if_pos hok] at hr
    have HS6 := hid s6
    have HK5 := hid k5
    have hkl : l1.length ≤ m + 1 := by have := HML.out; omega
    have htl : tl.length ≤ 2 := hdl.2
    clear c0 c1 c2 c3 c4 kq s6 hs5 HS5 hdd k5 hok HC HRf HX HNil hdl
    go_upto_region 7 with (go_at_call 23; refine hr.mono ?_; rintro e w6 ⟨v2, t2, rfl, s7⟩)
    obtain ⟨va2, vc2, e1, -⟩ := own_ein (show w6.ownsRow 0 41 2 v2 l1.length (eC l1) from s7.get 1 rfl)
    obtain ⟨ta2, tc2, e2, -⟩ := own_xin (show w6.ownsRow 0 2 1 t2 tl.length (xC tl) from s7.get 0 rfl)
    subst e1 e2
    have s8 : St w [ownI 2 1 (.slice ta2 tl.length tc2) tl.length (xC tl), lstE (.slice va2 l1.length vc2) l1, ownI 2 1 (.slice ta tl.length tc) tl.length (xC tl), lstE (.slice va l1.length vc) l1, ownI 41 2 (.slice (some ⟨g, 0, none⟩) (m + 2) cap) (m + 2) (eC (l ++ [(-777, 0), (-777, 0)])), boxI M #[.int .i64 op, .int .i64 a, .int .i64 b, .int .i64 x, .int .i64 y] 45] w6 := HS6.out.join s7
    have hxa : EIn w6 va l1.length l1 := st_ein s8 3 rfl rfl
    have hxb : EIn w6 va2 l1.length l1 := st_ein s8 1 rfl rfl
    have hxc : XIn w6 ta tl.length tl := st_xinD s8 2 rfl rfl
    have hxd : XIn w6 ta2 tl.length tl := st_xinD s8 0 rfl rfl
    have q1 := sameE_any va va2 l1.length l1.length vc vc2 l1 l1 w6 hxa hxb (by omega)
    rw [decide_eq_true rfl] at q1
    have HQ2 : Hid (∀ W, Kept (fun _ => False) w6 W → Calls Tryz.prog 13 #[.slice ta tl.length tc, .slice ta2 tl.length tc2] W fun e w' => e = .returned (.bool true) ∧ Kept (fun _ => False) W w') := fun W k => by
      have := sameInts_any ta ta2 tl.length tl.length tc tc2 tl tl (hxc.kept k) (hxd.kept k) (by omega)
      rw [decide_eq_true rfl] at this
      exact this
    have HS8 := hid s8
    clear s7 s8 hxa hxb hxc hxd hr d0 d1 d2 d3 d4 HS6
    generalize hk1 : l1.length = k at *
    have HK1 := hid hk1
    clear hk1
    generalize tl.length = kt at *
    go_upto_region 8 with (go_at_call 19; refine q1.mono ?_; rintro e w7 ⟨rfl, k7⟩)
    have q2 := HQ2.out w7 k7
    clear q1 HQ2
    go_upto_region 9 with (go_at_call 13; refine q2.mono ?_; rintro e w8 ⟨rfl, k8⟩)
    have s9 := ((HS8.out.calm k7).calm k8).pop.pop.pop
    have HS9 := hid s9
    have HL : Hid (∀ (it : It) (W : World), St w [it, ownI 41 2 (.slice (some ⟨g, 0, none⟩) (m + 2) cap) (m + 2) (eC (l ++ [(-777, 0), (-777, 0)])), boxI M #[.int .i64 op, .int .i64 a, .int .i64 b, .int .i64 x, .int .i64 y] 45] W → EIn W (some ⟨g, 0, none⟩) m l ∧ EIn W la m l ∧ (W.cell? ⟨g, m * 2, none⟩ = some (.int .i64 (-777)) ∧ W.cell? ⟨g, m * 2 + 1, none⟩ = some (.int .i64 0)) ∧ W.cell? ⟨g, (m + 1) * 2, none⟩ = some (.int .i64 (-777)) ∧ W.cell? ⟨g, (m + 1) * 2 + 1, none⟩ = some (.int .i64 0)) := hid (fun it W hs => by
      have hml := HML.out
      have he : EIn W (some ⟨g, 0, none⟩) (m + 2) (l ++ [(-777, 0), (-777, 0)]) := st_ein hs 1 rfl (by simp; omega)
      have h1 := ein_head (i := m) he (by omega)
      rw [HTk.out] at h1
      have h2 := he.cells (j := m) (by omega)
      have h3 := he.cells (j := m + 1) (by omega)
      rw [show (l ++ [(-777, 0), (-777, 0)] : List Pr).getD m (0, 0) = (-777, 0) by rw [hml]; simp [List.getD_eq_getElem?_getD]] at h2
      rw [show (l ++ [(-777, 0), (-777, 0)] : List Pr).getD (m + 1) (0, 0) = (-777, 0) by rw [hml]; simp [List.getD_eq_getElem?_getD]] at h3
      rw [Nat.zero_add] at h2 h3
      exact ⟨h1, HXL.out.kept hs.same, h2, h3⟩)
    clear s9 q2 HS8 k7 k8 HXA HK5 HEA
    have hk63 : (k : Int) ≤ 9223372036854775807 := by omega
    go_wp2
    go_loopw [17] (fun i wr => ∃ (j : Nat) (ys : List Value), i = .int .i64 j ∧ j ≤ k ∧ St w [ownI 41 2 (.slice va k vc) k ys, ownI 41 2 (.slice (some ⟨g, 0, none⟩) (m + 2) cap) (m + 2) (eC (l ++ [(-777, 0), (-777, 0)])), boxI M #[.int .i64 op, .int .i64 a, .int .i64 b, .int .i64 x, .int .i64 y] 45] wr) (fun i _ => k - (intOf i).toNat)
    case atStart => exact ⟨0, eC l1, rfl, Nat.zero_le _, by have h := HS9.out; unfold lstE at h; rw [HK1.out] at h; exact h⟩
    case round =>
      obtain ⟨j, ys, rfl, hj, hst⟩ := hrel
      by_cases hlt : j < k
      · obtain ⟨gv, cv, e⟩ := hst.form 0 rfl (by omega)
        simp only [Value.slice.injEq, true_and] at e
        obtain ⟨rfl, rfl⟩ := e
        have hyl : ys.length = k * 2 := hst.ownCap 0 rfl
        have c1 : ∃ u, wr.cell? ⟨gv, j * 2, none⟩ = some u := ⟨_, (hst.ownCell 0 rfl (j * 2) (by omega)).trans (List.getElem?_eq_getElem (by omega))⟩
        have c2 : ∃ u, wr.cell? ⟨gv, j * 2 + 1, none⟩ = some u := ⟨_, (hst.ownCell 0 rfl (j * 2 + 1) (by omega)).trans (List.getElem?_eq_getElem (by omega))⟩
        obtain ⟨z1, c1⟩ := c1
        obtain ⟨z2, c2⟩ := c2
        have f1 := hst.ownFrozen 0 rfl (j * 2)
        have f2 := hst.ownFrozen 0 rfl (j * 2 + 1)
        have h0 : (0 : Int) ≤ (j : Int) := Int.natCast_nonneg _
        have h1 : (j : Int) < (k : Int) := by omega
        have T1 := hst.ownSet 0 rfl (j * 2) (by omega) (.int .i64 (-777))
        have T2 := T1.ownSet 0 rfl (j * 2 + 1) (by omega) (.int .i64 0)
        have HT := hid T2
        clear hst T1 T2 hyl
        go_wp2
        go_roundw
        case rel => exact ⟨j + 1, _, by simp, by omega, HT.out⟩
        case measure => simp [intOf]; omega
      · have h1 : ¬ (j : Int) < (k : Int) := by omega
        obtain ⟨ha, hb, ⟨hc, hc'⟩, hd, hd'⟩ := HL.out _ _ hst
        have q3 := sameE_any (some ⟨g, 0, none⟩) la m m cap lc l l wr ha hb (by omega)
        rw [decide_eq_true rfl] at q3
        have HK := hid hst.same
        have p0 : (0 : Int) ≤ (m : Int) := by omega
        have p1 : (m : Int) < ((m + 2 : Nat) : Int) := by omega
        have p2 : (0 : Int) ≤ (m : Int) + 1 := by omega
        have p3 : (m : Int) + 1 < ((m + 2 : Nat) : Int) := by omega
        clear hst ha hb HL
        go_upto_region 14 with (first | simp only [hsl] | (go_at_call 19; refine q3.mono ?_; rintro e w9 ⟨rfl, k9⟩))
        have c5 : w9.cell? ⟨g, m * 2, none⟩ = some (.int .i64 (-777)) := by rw [World.cell?_of_block (k9.block g (World.block_lt_of_cell? _ _ hc) (fun f => f))]; exact hc
        have c5b : w9.cell? ⟨g, m * 2 + 1, none⟩ = some (.int .i64 0) := by rw [World.cell?_of_block (k9.block g (World.block_lt_of_cell? _ _ hc') (fun f => f))]; exact hc'
        have c6 : w9.cell? ⟨g, (m + 1) * 2, none⟩ = some (.int .i64 (-777)) := by rw [World.cell?_of_block (k9.block g (World.block_lt_of_cell? _ _ hd) (fun f => f))]; exact hd
        have c6b : w9.cell? ⟨g, (m + 1) * 2 + 1, none⟩ = some (.int .i64 0) := by rw [World.cell?_of_block (k9.block g (World.block_lt_of_cell? _ _ hd') (fun f => f))]; exact hd'
        clear q3 hc hd hc' hd'
        go_wp2_with (first | simp only [heq, hgd] | (go_at_call 15; refine (hB _ _).mono ?_; rintro e w' ⟨rfl, rfl⟩))
        go_ret
        exact ⟨rfl, HK.out.trans k9 (fun _ _ f => f)⟩
  · simp only [if_neg hok] at hq
    have kq : Calls Tryz.prog 22 #[.slice (some ⟨g, 0, none⟩) m cap, .int .i64 n, .agg #[.int .i64 op, .int .i64 a, .int .i64 b, .int .i64 x, .int .i64 y]] w4.drew fun e w' => (e = .returned (.tuple #[.slice none 0 0, .slice none 0 0, .int .i64 190]) ∧ Hid (Kept (fun _ => False) w4 w')) := hq.mono fun e w' ⟨he, hs⟩ => ⟨he, (kept_drew w4).trans hs (fun _ _ f => f)⟩
    clear hq
    go_region_with (first | simp only [hsl] | (go_at_call 22; refine kq.mono ?_; rintro e w5 ⟨rfl, HK5⟩))
    obtain ⟨d0, d1, d2, d3, d4⟩ := HC.out _ HK5.out
    have hr := HRf.out w5 (HX.out.kept (HS4.out.calm HK5.out).same)
    unfold rDoE at hr
    simp only [if_neg hok] at hr
    clear c0 c1 c2 c3 c4 kq hok HC HRf HX HNil
    go_upto_region 7 with (go_at_call 23; refine hr.mono ?_; rintro e w6 ⟨rfl, k6⟩)
    have K6 := HK5.out.trans k6 (fun _ _ f => f)
    have hQ0 : ∀ W, Calls Tryz.prog 19 #[.slice none 0 0, .slice none 0 0] W fun e w' => e = .returned (.bool true) ∧ Kept (fun _ => False) W w' := fun W => by
      have := sameE_any none none 0 0 0 0 [] [] W ⟨rfl, fun h => by omega⟩ ⟨rfl, fun h => by omega⟩ (by omega)
      rw [decide_eq_true rfl] at this
      exact this
    have hQ1 : ∀ W, Calls Tryz.prog 13 #[.slice none 0 0, .slice none 0 0] W fun e w' => e = .returned (.bool true) ∧ Kept (fun _ => False) W w' := fun W => by
      have := sameInts_any (w := W) none none 0 0 0 0 [] [] ⟨rfl, fun h => by omega⟩ ⟨rfl, fun h => by omega⟩ (by omega)
      rw [decide_eq_true rfl] at this
      exact this
    clear hr d0 d1 d2 d3 d4
    go_upto_region 8 with (go_at_call 19; refine (hQ0 _).mono ?_; rintro e w7 ⟨rfl, k7⟩)
    go_upto_region 9 with (go_at_call 13; refine (hQ1 _).mono ?_; rintro e w8 ⟨rfl, k8⟩)
    have K8 := (K6.trans k7 (fun _ _ f => f)).trans k8 (fun _ _ f => f)
    have s9 := HS4.out.calm K8
    have he8 : EIn w8 (some ⟨g, 0, none⟩) (m + 2) (l ++ [(-777, 0), (-777, 0)]) := HEA.out w8 K8
    have hcd : ((w8.cell? ⟨g, m * 2, none⟩ = some (.int .i64 (-777)) ∧ w8.cell? ⟨g, m * 2 + 1, none⟩ = some (.int .i64 0)) ∧ w8.cell? ⟨g, (m + 1) * 2, none⟩ = some (.int .i64 (-777)) ∧ w8.cell? ⟨g, (m + 1) * 2 + 1, none⟩ = some (.int .i64 0)) := by
      have hml := HML.out
      have h2 := he8.cells (j := m) (by omega)
      have h3 := he8.cells (j := m + 1) (by omega)
      rw [show (l ++ [(-777, 0), (-777, 0)] : List Pr).getD m (0, 0) = (-777, 0) by rw [hml]; simp [List.getD_eq_getElem?_getD]] at h2
      rw [show (l ++ [(-777, 0), (-777, 0)] : List Pr).getD (m + 1) (0, 0) = (-777, 0) by rw [hml]; simp [List.getD_eq_getElem?_getD]] at h3
      rw [Nat.zero_add] at h2 h3
      exact ⟨h2, h3⟩
    obtain ⟨⟨hc, hc'⟩, hd, hd'⟩ := hcd
    have q3 := sameE_any (some ⟨g, 0, none⟩) la m m cap lc l l w8 (HXA.out w8 K8) (HXL.out.kept s9.same) (by omega)
    rw [decide_eq_true rfl] at q3
    have HK := hid s9.same
    have p0 : (0 : Int) ≤ (m : Int) := by omega
    have p1 : (m : Int) < ((m + 2 : Nat) : Int) := by omega
    have p2 : (0 : Int) ≤ (m : Int) + 1 := by omega
    have p3 : (m : Int) + 1 < ((m + 2 : Nat) : Int) := by omega
    clear s9 he8 K8 K6 k6 k7 k8 HXA hQ0 hQ1 HK5 HEA
    go_wp2
    go_loopw [17] (fun i wr => i = .int .i64 0 ∧ wr = w8) (fun _ _ => 0)
    case atStart => exact ⟨rfl, rfl⟩
    case round =>
      obtain ⟨rfl, rfl⟩ := hrel
      go_upto_region 14 with (first | simp only [hsl] | (go_at_call 19; refine q3.mono ?_; rintro e w9 ⟨rfl, k9⟩))
      have c5 : w9.cell? ⟨g, m * 2, none⟩ = some (.int .i64 (-777)) := by rw [World.cell?_of_block (k9.block g (World.block_lt_of_cell? _ _ hc) (fun f => f))]; exact hc
      have c5b : w9.cell? ⟨g, m * 2 + 1, none⟩ = some (.int .i64 0) := by rw [World.cell?_of_block (k9.block g (World.block_lt_of_cell? _ _ hc') (fun f => f))]; exact hc'
      have c6 : w9.cell? ⟨g, (m + 1) * 2, none⟩ = some (.int .i64 (-777)) := by rw [World.cell?_of_block (k9.block g (World.block_lt_of_cell? _ _ hd) (fun f => f))]; exact hd
      have c6b : w9.cell? ⟨g, (m + 1) * 2 + 1, none⟩ = some (.int .i64 0) := by rw [World.cell?_of_block (k9.block g (World.block_lt_of_cell? _ _ hd') (fun f => f))]; exact hd'
      clear q3 hc hd hc' hd'
      go_wp2_with (first | simp only [heq, hgd] | (go_at_call 15; refine (hB _ _).mono ?_; rintro e w' ⟨rfl, rfl⟩))
      go_ret
      exact ⟨rfl, HK.out.trans k9 (fun _ _ f => f)⟩
end Go.Proofs.YtbpilhjomfkpaaaGreatDoor
