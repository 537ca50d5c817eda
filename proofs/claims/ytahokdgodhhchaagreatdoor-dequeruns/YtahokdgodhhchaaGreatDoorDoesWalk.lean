/- DequeDoes, walked. -/
import Derived.Test.YtahokdgodhhchaaGreatDoorRdA
import Derived.Test.YtahokdgodhhchaaGreatDoorAr
namespace Go.Proofs.YtahokdgodhhchaaGreatDoor
open Go.RowKit
set_option linter.unusedVariables false
set_option linter.unusedSimpArgs false
attribute [local go_sem ↓] Go.wp_at_zero Go.wp_at_succ

theorem St.join {o w2 w3 : World} {A B : List It} (a : St o A w2) (b : St w2 B w3) : St o (B ++ A) w3 := by
  have a' := a.calm b.same
  refine ⟨?_, ?_, ?_, a'.kept⟩
  · rw [List.flatMap_append, List.nodup_append]
    refine ⟨b.nodup, a.nodup, fun x hx y hy e => ?_⟩
    subst e
    obtain ⟨i, hi, hxi⟩ := List.mem_flatMap.1 hx
    obtain ⟨j, hj, hxj⟩ := List.mem_flatMap.1 hy
    have h1 := b.high i hi x hxi
    have h2 := j.old w2 (a.all j hj) x hxj
    omega
  · intro i hi
    rcases List.mem_append.1 hi with hi | hi
    · exact b.all i hi
    · exact a'.all i hi
  · intro i hi k hk
    rcases List.mem_append.1 hi with hi | hi
    · exact Nat.le_trans a.le (b.high i hi k hk)
    · exact a.high i hi k hk
theorem doS_len (l : List Int) (n : Int) (d : Dd) : (doS l n d).1.length ≤ l.length + 1 ∧ (doS l n d).2.length ≤ 2 := by
  unfold doS
  repeat' split
  all_goals simp
  all_goals omega
theorem sliceTo (g o n lc i : Nat) (h1 : i ≤ lc) (h2 : 0 < lc) (J : Int) (hJ : J = (i : Int)) (W : World) : (Instr.slice 24 (.slice (some ⟨g, o, none⟩) n lc) none (some (.int .i64 J)) none).run Tryz.prog W = .ok (.slice (some ⟨g, o, none⟩) i lc) W := by
  subst hJ
  have e1 : (0 : Int) ≤ (i : Int) := by omega
  have e2 : (i : Int) ≤ (lc : Int) := by omega
  have e5 : ¬ lc = 0 := by omega
  have e6 : ¬ lc < i := by omega
  simp only [Instr.slice, run_underlying Tryz.underlying24, Instr.sliceBounds, Instr.sliceBound, asIntOf, go_sem]
  simp [go_sem, e1, e2, e5, e6]
set_option maxRecDepth 100000 in
set_option maxHeartbeats 4000000 in
theorem does_walk (la : Option Addr) (m lc : Nat) (l : List Int) (n : Int) (d : Dd) (w : World) (hE : Env w) (hC : CameX w la m lc l) : Calls Tryz.prog 6 #[.slice la m lc, .int .i64 n, d.val] w fun e w' => e = .returned (.bool true) ∧ Kept (fun _ => False) w w' := by
  obtain ⟨i0, hi0, hz0, hz1, hz2⟩ := info_parts Tryz.infoX
  obtain ⟨hX, hlc, hbig, hnil⟩ := hC
  have HX := hid hX
  have HXL := hid hX
  have HNil := hid hnil
  have hm8 : m * 8 ≤ 140737488351232 := by omega
  have s1 := (St.nil w).box d.cells.toArray 40
  have hA := awake_any _ (hE.kept s1.same)
  have HDo : Hid (∀ (W : World) (g cap : Nat), m ≤ cap → XIn W (some ⟨g, 0, none⟩) m l → Calls Tryz.prog 21 #[.slice (some ⟨g, 0, none⟩) m cap, .int .i64 n, d.val] W (DoE l n d W)) := fun W g cap hcap hx => Do_any (.inr ⟨g, 0, rfl⟩) hcap hx
  have HRf : Hid (∀ (W : World), XIn W la m l → Calls Tryz.prog 22 #[.slice la m lc, .int .i64 n, d.val] W (rDoE l n d W)) := fun W hx => rDo_any la m lc l n d W hx hnil
  have hB := fun b W => codeDeque_any b W
  obtain ⟨op, a, b, x, y⟩ := d
  unfold Dd.cells at s1 hA
  simp only at s1 hA
  unfold Dd.val at HDo HRf ⊢
  simp only at HDo HRf ⊢
  generalize e1 : w.alloc (.cells #[.int .i64 op, .int .i64 a, .int .i64 b, .int .i64 x, .int .i64 y] 40) = w1 at *
  generalize eM : w.heap.size = M at *
  have HS1 := hid s1
  have HML := hid hX.1
  clear hE s1 hX hnil hlc hbig
  go_enter Tryz.func6, Tryz.ntmps6
  go_upto_region 3 with (first | simp only [e1, eM] | (go_at_call 9; refine hA.mono ?_; rintro e w2 ⟨rfl, k2⟩; clear hA e1 eM))
  have s2 := HS1.out.calm k2
  have HS2 := hid s2
  go_upto_region 4 with (at_builtin; refine wpList_append_x _ rfl (.tmp 20) (.tmp 21) rfl w2.heap.size (.slice none 0 0) 0 [] rfl (World.ownsRow_nil _ _ _ _) la m lc l rfl (HX.out.kept HS2.out.same) HNil.out (by omega) (Nat.le_refl _) ?_; intro v3 w3 ho3 hg3; have HS3 := hid (HS2.out.own ((Kept.refl _ w2).grown hg3 (fun k hk => by cases hk)) ho3); clear ho3 hg3)
  have hb2 := fun W => buildX2 W (-777) (-777)
  have hown3 : w3.ownsRow 0 2 1 v3 m (xC l) := by
    have := HS3.out.get 0 rfl
    rw [Nat.zero_add] at this
    exact this
  have HO3 := hid hown3
  clear hown3
  go_upto_region 5 with (first | simp only [hb2] | (at_builtin; refine wpList_append_lies _ rfl (.tmp 23) (.tmp 24) 24 rfl 0 2 i0 _ 1 8 Tryz.underlying24 hi0 hz0 hz1 hz2 rfl (by omega) v3 m (xC l) rfl (HO3.out.alloc _) ⟨w3.heap.size, 0, none⟩ 2 2 [.int .i64 (-777), .int .i64 (-777)] rfl rfl (World.news_of_block (cs := #[.int .i64 (-777), .int .i64 (-777)]) (t := 2) (fr := (0, 0)) (heap_alloc_new w3 _)) (by simp [Value.oneCell']) (by omega) (by unfold maxLen; omega) (by omega) (Nat.zero_le _) (w3.heap.size + 1) (by simp) ?_; intro g cap w4 ho4 hg4 ha4 hl4))
  have s4 : St w [rowI g (m + 2) cap (l ++ [-777, -777]), boxI M #[.int .i64 op, .int .i64 a, .int .i64 b, .int .i64 x, .int .i64 y] 40] w4 := by
    have h3 := HS3.out
    rw [Nat.zero_add, List.nil_append] at h3
    have := h3.growAt 0 rfl ho4 hg4 ha4
    rw [show xC l ++ [.int .i64 (-777), .int .i64 (-777)] = xC (l ++ [-777, -777]) by simp [xC]] at this
    exact this
  have hcap : m + 2 ≤ cap := by
    rcases ho4.2 with ⟨e, _⟩ | ⟨g', c', cur, e, _, _, h1, _⟩
    · cases e
    · simp only [Value.slice.injEq] at e
      omega
  have HS4 := hid s4
  clear ho4 hg4 ha4 hl4 s4 HO3 HS3 HS2 HS1 k2 hb2
  have HXA : Hid (∀ W, Kept (fun _ => False) w4 W → XIn W (some ⟨g, 0, none⟩) m l) := fun W k => by
    have h9 := own_xin (show w4.ownsRow 0 2 1 (.slice (some ⟨g, 0, none⟩) (m + 2) cap) (l ++ [-777, -777]).length (xC (l ++ [-777, -777])) by
      have h8 := HS4.out.get 0 rfl
      have hh := HML.out
      have h7 : (l ++ [-777, -777]).length = m + 2 := by simp; omega
      rw [h7]
      exact h8)
    obtain ⟨la', lc', e, hx, _⟩ := h9
    simp only [Value.slice.injEq] at e
    obtain ⟨rfl, _, _⟩ := e
    have hp := hx.part 0 m (by have := HML.out; simp; omega)
    have h6 : (l ++ [-777, -777]).take m = l := by have := HML.out; rw [this]; simp
    rw [Nat.add_zero, List.drop_zero, h6] at hp
    exact hp.kept k
  have hsl := fun W => sliceTo g 0 (m + 2) cap m (by omega) (by omega) (m : Int) rfl W
  have HC : Hid (∀ W, Kept (fun _ => False) w4 W → W.cell? ⟨M, 0, none⟩ = some (.int .i64 op) ∧ W.cell? ⟨M, 1, none⟩ = some (.int .i64 a) ∧ W.cell? ⟨M, 2, none⟩ = some (.int .i64 b) ∧ W.cell? ⟨M, 3, none⟩ = some (.int .i64 x) ∧ W.cell? ⟨M, 4, none⟩ = some (.int .i64 y)) := fun W k => ⟨(HS4.out.calm k).cell 1 rfl 0, (HS4.out.calm k).cell 1 rfl 1, (HS4.out.calm k).cell 1 rfl 2, (HS4.out.calm k).cell 1 rfl 3, (HS4.out.calm k).cell 1 rfl 4⟩
  obtain ⟨c0, c1, c2, c3, c4⟩ := HC.out _ ((Kept.refl _ w4).drew)
  have hq := HDo.out w4.drew g cap (by omega) (HXA.out _ ((Kept.refl _ w4).drew))
  unfold DoE at hq
  clear HDo
  have hbd1 : (0 : Int) ≤ (m : Int) := by omega
  have hbd2 : (m : Int) ≤ (cap : Int) := by omega
  by_cases hok : okS l n ⟨op, a, b, x, y⟩ = true
  · simp only [if_pos hok] at hq
    have kq : Calls Tryz.prog 21 #[.slice (some ⟨g, 0, none⟩) m cap, .int .i64 n, .agg #[.int .i64 op, .int .i64 a, .int .i64 b, .int .i64 x, .int .i64 y]] w4.drew fun e w' => (∃ v t, e = .returned (.tuple #[v, t, .int .i64 0]) ∧ Hid (St w4 [lstI t (doS l n ⟨op, a, b, x, y⟩).2, lstI v (doS l n ⟨op, a, b, x, y⟩).1] w')) := hq.mono fun e w' ⟨v, t, he, hs⟩ => ⟨v, t, he, hs.base (kept_drew w4)⟩
    clear hq
    go_region_with (first | simp only [hsl] | (go_at_call 21; refine kq.mono ?_; rintro e w5 ⟨v, t, rfl, HS5⟩))
    have hs5 := HS5.out
    have hdl := doS_len l n ⟨op, a, b, x, y⟩
    have hr := fun h => HRf.out w5 h
    unfold rDoE at hr
    generalize hdd : doS l n ⟨op, a, b, x, y⟩ = DD at *
    obtain ⟨l1, tl⟩ := DD
    simp only at hs5 hdl hr
    obtain ⟨va, vc, e1, -⟩ := own_xin (show w5.ownsRow 0 2 1 v l1.length (xC l1) from hs5.get 1 rfl)
    obtain ⟨ta, tc, e2, -⟩ := own_xin (show w5.ownsRow 0 2 1 t tl.length (xC tl) from hs5.get 0 rfl)
    subst e1 e2
    have s6 : St w [lstI (.slice ta tl.length tc) tl, lstI (.slice va l1.length vc) l1, rowI g (m + 2) cap (l ++ [-777, -777]), boxI M #[.int .i64 op, .int .i64 a, .int .i64 b, .int .i64 x, .int .i64 y] 40] w5 := HS4.out.join hs5
    have k5 := hs5.same
    obtain ⟨d0, d1, d2, d3, d4⟩ := HC.out _ k5
    replace hr := hr (HX.out.kept s6.same)
    simp only [if_pos hok] at hr
    have HS6 := hid s6
    have HK5 := hid k5
    have hkl : l1.length ≤ m + 1 := by have := HML.out; omega
    have htl : tl.length ≤ 2 := hdl.2
    clear c0 c1 c2 c3 c4 kq s6 hs5 HS5 hdd k5 hok HC HRf HX HNil hdl
    go_upto_region 7 with (go_at_call 22; refine hr.mono ?_; rintro e w6 ⟨va2, vc2, ta2, tc2, rfl, hx1, hx2, k6⟩)
    have s8 := HS6.out.calm k6
    have hxa : XIn w6 va l1.length l1 := st_xin s8 1 rfl rfl
    have hxb : XIn w6 va2 l1.length l1 := hx1.1
    have hxc : XIn w6 ta tl.length tl := st_xin s8 0 rfl rfl
    have hxd : XIn w6 ta2 tl.length tl := hx2.1
    have q1 := same_any va va2 l1.length l1.length vc vc2 l1 l1 hxa hxb (by omega)
    rw [decide_eq_true rfl] at q1
    have HQ2 : Hid (∀ W, Kept (fun _ => False) w6 W → Calls Tryz.prog 13 #[.slice ta tl.length tc, .slice ta2 tl.length tc2] W fun e w' => e = .returned (.bool true) ∧ Kept (fun _ => False) W w') := fun W k => by
      have := same_any ta ta2 tl.length tl.length tc tc2 tl tl (hxc.kept k) (hxd.kept k) (by omega)
      rw [decide_eq_true rfl] at this
      exact this
    have HS8 := hid s8
    clear s8 hx1 hx2 hxa hxb hxc hxd hr d0 d1 d2 d3 d4 HS6 k6
    generalize hk1 : l1.length = k at *
    have HK1 := hid hk1
    clear hk1
    generalize tl.length = kt at *
    go_upto_region 8 with (go_at_call 13; refine q1.mono ?_; rintro e w7 ⟨rfl, k7⟩)
    have q2 := HQ2.out w7 k7
    clear q1 HQ2
    go_upto_region 9 with (go_at_call 13; refine q2.mono ?_; rintro e w8 ⟨rfl, k8⟩)
    have s9 := ((HS8.out.calm k7).calm k8).pop
    have HS9 := hid s9
    have HL : Hid (∀ (it : It) (W : World), St w [it, rowI g (m + 2) cap (l ++ [-777, -777]), boxI M #[.int .i64 op, .int .i64 a, .int .i64 b, .int .i64 x, .int .i64 y] 40] W → XIn W (some ⟨g, 0, none⟩) m l ∧ XIn W la m l ∧ W.cell? ⟨g, m, none⟩ = some (.int .i64 (-777)) ∧ W.cell? ⟨g, m + 1, none⟩ = some (.int .i64 (-777))) := fun it W hs => by
      have hml := HML.out
      have hcell : ∀ j, j < m + 2 → W.cell? ⟨g, j, none⟩ = some (.int .i64 ((l ++ [-777, -777]).getD j 0)) := fun j hj => by
        rw [hs.ownCell 1 rfl j (by omega)]
        exact xC_at _ j (by simp; omega)
      refine ⟨⟨hml, fun _ => ⟨g, 0, rfl, fun j hj => ?_⟩⟩, HXL.out.kept hs.same, ?_, ?_⟩
      · rw [Nat.zero_add, hcell j (by omega)]
        congr 2
        simp only [List.getD_eq_getElem?_getD]
        rw [List.getElem?_append_left (by omega)]
      · rw [hcell m (by omega)]
        congr 2
        simp [List.getD_eq_getElem?_getD, hml]
      · rw [hcell (m + 1) (by omega)]
        congr 2
        simp only [List.getD_eq_getElem?_getD]
        rw [List.getElem?_append_right (by omega), hml]
        simp
    clear s9 q2 HS8 k7 k8 HXA HK5
    have hk63 : (k : Int) ≤ 9223372036854775807 := by omega
    go_wp2
    go_loopw [17] (fun i wr => ∃ (j : Nat) (ys : List Int), i = .int .i64 j ∧ j ≤ k ∧ St w [ownI 2 1 (.slice va k vc) k (xC ys), rowI g (m + 2) cap (l ++ [-777, -777]), boxI M #[.int .i64 op, .int .i64 a, .int .i64 b, .int .i64 x, .int .i64 y] 40] wr) (fun i _ => k - (intOf i).toNat)
    case atStart => exact ⟨0, l1, rfl, Nat.zero_le _, by have h := HS9.out; unfold lstI at h; rw [HK1.out] at h; exact h⟩
    case round =>
      obtain ⟨j, ys, rfl, hj, hst⟩ := hrel
      by_cases hlt : j < k
      · obtain ⟨gv, cv, e⟩ := hst.form 0 rfl (by omega)
        simp only [Value.slice.injEq, true_and] at e
        obtain ⟨rfl, rfl⟩ := e
        have c1 := row_cell hst hlt
        have f1 := row_frozen hst j
        have h0 : (0 : Int) ≤ (j : Int) := Int.natCast_nonneg _
        have h1 : (j : Int) < (k : Int) := by omega
        have HT := hid (row_set hst hlt (-777))
        clear hst
        generalize ys.getD j 0 = zz at *
        go_wp2
        go_roundw
        case rel => exact ⟨j + 1, _, by simp, by omega, HT.out⟩
        case measure => simp [intOf]; omega
      · have h1 : ¬ (j : Int) < (k : Int) := by omega
        obtain ⟨ha, hb, hc, hd⟩ := HL.out _ _ hst
        have q3 := same_any (some ⟨g, 0, none⟩) la m m cap lc l l ha hb (by omega)
        rw [decide_eq_true rfl] at q3
        have HK := hid hst.same
        have p0 : (0 : Int) ≤ (m : Int) := by omega
        have p1 : (m : Int) < ((m + 2 : Nat) : Int) := by omega
        have p2 : (0 : Int) ≤ (m : Int) + 1 := by omega
        have p3 : (m : Int) + 1 < ((m + 2 : Nat) : Int) := by omega
        clear hst ha hb HL
        go_upto_region 14 with (first | simp only [hsl] | (go_at_call 13; refine q3.mono ?_; rintro e w9 ⟨rfl, k9⟩))
        have c5 : w9.cell? ⟨g, m, none⟩ = some (.int .i64 (-777)) := by rw [World.cell?_of_block (k9.block g (World.block_lt_of_cell? _ _ hc) (fun f => f))]; exact hc
        have c6 : w9.cell? ⟨g, m + 1, none⟩ = some (.int .i64 (-777)) := by rw [World.cell?_of_block (k9.block g (World.block_lt_of_cell? _ _ hd) (fun f => f))]; exact hd
        clear q3 hc hd
        go_wp2_with (go_at_call 15; refine (hB _ _).mono ?_; rintro e w' ⟨rfl, rfl⟩)
        go_ret
        exact ⟨rfl, HK.out.trans k9 (fun _ _ f => f)⟩
  · simp only [if_neg hok] at hq
    have kq : Calls Tryz.prog 21 #[.slice (some ⟨g, 0, none⟩) m cap, .int .i64 n, .agg #[.int .i64 op, .int .i64 a, .int .i64 b, .int .i64 x, .int .i64 y]] w4.drew fun e w' => (e = .returned (.tuple #[.slice none 0 0, .slice none 0 0, .int .i64 200]) ∧ Hid (Kept (fun _ => False) w4 w')) := hq.mono fun e w' ⟨he, hs⟩ => ⟨he, (kept_drew w4).trans hs (fun _ _ f => f)⟩
    clear hq
    go_region_with (first | simp only [hsl] | (go_at_call 21; refine kq.mono ?_; rintro e w5 ⟨rfl, HK5⟩))
    obtain ⟨d0, d1, d2, d3, d4⟩ := HC.out _ HK5.out
    have hr := HRf.out w5 (HX.out.kept (HS4.out.calm HK5.out).same)
    unfold rDoE at hr
    simp only [if_neg hok] at hr
    clear c0 c1 c2 c3 c4 kq hok HC HRf HX HNil
    go_upto_region 7 with (go_at_call 22; refine hr.mono ?_; rintro e w6 ⟨rfl, k6⟩)
    have K6 := HK5.out.trans k6 (fun _ _ f => f)
    have hQ0 : ∀ W, Calls Tryz.prog 13 #[.slice none 0 0, .slice none 0 0] W fun e w' => e = .returned (.bool true) ∧ Kept (fun _ => False) W w' := fun W => by
      have := same_any (w := W) none none 0 0 0 0 [] [] ⟨rfl, fun h => by omega⟩ ⟨rfl, fun h => by omega⟩ (by omega)
      rw [decide_eq_true rfl] at this
      exact this
    clear hr d0 d1 d2 d3 d4
    go_upto_region 8 with (go_at_call 13; refine (hQ0 _).mono ?_; rintro e w7 ⟨rfl, k7⟩)
    go_upto_region 9 with (go_at_call 13; refine (hQ0 _).mono ?_; rintro e w8 ⟨rfl, k8⟩)
    have K8 := (K6.trans k7 (fun _ _ f => f)).trans k8 (fun _ _ f => f)
    have s9 := HS4.out.calm K8
    have hcell : ∀ j, j < m + 2 → w8.cell? ⟨g, j, none⟩ = some (.int .i64 ((l ++ [-777, -777]).getD j 0)) := fun j hj => by
      have hml := HML.out
      rw [s9.ownCell 0 rfl j (by omega)]
      exact xC_at _ j (by simp; omega)
    have hc : w8.cell? ⟨g, m, none⟩ = some (.int .i64 (-777)) := by
      have hml := HML.out
      rw [hcell m (by omega)]
      congr 2
      simp [List.getD_eq_getElem?_getD, hml]
    have hd : w8.cell? ⟨g, m + 1, none⟩ = some (.int .i64 (-777)) := by
      have hml := HML.out
      rw [hcell (m + 1) (by omega)]
      congr 2
      simp only [List.getD_eq_getElem?_getD]
      rw [List.getElem?_append_right (by omega), hml]
      simp
    have q3 := same_any (some ⟨g, 0, none⟩) la m m cap lc l l (HXA.out w8 K8) (HXL.out.kept s9.same) (by omega)
    rw [decide_eq_true rfl] at q3
    have HK := hid s9.same
    have p0 : (0 : Int) ≤ (m : Int) := by omega
    have p1 : (m : Int) < ((m + 2 : Nat) : Int) := by omega
    have p2 : (0 : Int) ≤ (m : Int) + 1 := by omega
    have p3 : (m : Int) + 1 < ((m + 2 : Nat) : Int) := by omega
    clear s9 hcell K8 K6 k6 k7 k8 HXA hQ0 HK5
    go_wp2
    go_loopw [17] (fun i wr => i = .int .i64 0 ∧ wr = w8) (fun _ _ => 0)
    case atStart => exact ⟨rfl, rfl⟩
    case round =>
      obtain ⟨rfl, rfl⟩ := hrel
      go_upto_region 14 with (first | simp only [hsl] | (go_at_call 13; refine q3.mono ?_; rintro e w9 ⟨rfl, k9⟩))
      have c5 : w9.cell? ⟨g, m, none⟩ = some (.int .i64 (-777)) := by rw [World.cell?_of_block (k9.block g (World.block_lt_of_cell? _ _ hc) (fun f => f))]; exact hc
      have c6 : w9.cell? ⟨g, m + 1, none⟩ = some (.int .i64 (-777)) := by rw [World.cell?_of_block (k9.block g (World.block_lt_of_cell? _ _ hd) (fun f => f))]; exact hd
      clear q3 hc hd
      go_wp2_with (go_at_call 15; refine (hB _ _).mono ?_; rintro e w' ⟨rfl, rfl⟩)
      go_ret
      exact ⟨rfl, HK.out.trans k9 (fun _ _ f => f)⟩
end Go.Proofs.YtahokdgodhhchaaGreatDoor
