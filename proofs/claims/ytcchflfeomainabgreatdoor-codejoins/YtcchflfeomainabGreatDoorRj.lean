/- The document's Join. -/
import Derived.Test.YtcchflfeomainabGreatDoorJo
import Derived.Test.YtcchflfeomainabGreatDoorRf
namespace Go.Proofs.YtcchflfeomainabGreatDoor
open Go.RowKit
set_option linter.unusedVariables false
set_option linter.unusedSimpArgs false
attribute [local go_sem ↓] Go.wp_at_zero Go.wp_at_succ

set_option maxRecDepth 100000 in
set_option maxHeartbeats 4000000 in
theorem rJoin_any (la : Option Addr) (m mc : Nat) (ps : List Prt) (w : World) (hP : PIn w la m ps) (hm : m ≤ 6000000000000) :
    Calls Tryz.prog 9 #[.slice la m mc] w fun e w' => ∃ v, e = .returned (.tuple #[v, .int .i64 (joinE ps)]) ∧ GaveL w' v (joinR ps) ∧ Kept (fun _ => False) w w' := by
  obtain ⟨i0, hi0, hz0, hz1, hz2⟩ := info_parts Tryz.infoIn
  have HN : Hid (m = ps.length) := hP.1
  have HT : Hid (∀ W, Kept (fun _ => False) w W → PIn W la m ps) := fun W k => hP.kept k
  clear hP
  go_enter Tryz.func9, Tryz.ntmps9
  go_wp2_with fail
  go_loopw [4, 5] (fun t i wr => ∃ j s : Nat, i = .int .i64 j ∧ j ≤ m ∧ t = .int .i64 s ∧ s ≤ 800 ∧ (s ≤ 400 → s = tot (ps.take j)) ∧ (400 < s → 400 < tot (ps.take j)) ∧ chk (ps.take j) = 0 ∧ wr = w) (fun _ i _ => m - (intOf i).toNat)
  case atStart => exact ⟨0, 0, rfl, Nat.zero_le _, rfl, by omega, fun _ => rfl, fun h => by omega, rfl, rfl⟩
  case round =>
    obtain ⟨j, s, rfl, hj, rfl, hs8, hs1, hs2, hc, rfl⟩ := hrel
    have hPr := HT.out _ (Kept.refl _ _)
    have HH1 := hid hs1
    have HH2 := hid hs2
    have b1 : (0 : Int) ≤ (s : Int) := Int.natCast_nonneg _
    have b2 : (s : Int) ≤ 800 := by omega
    clear hs1 hs2
    by_cases hlt : j < m
    · have hz : j < ps.length := by have := HN.out; omega
      obtain ⟨g, o, rfl, hcell, hI⟩ := hPr.2 j hlt
      have hck := rCheck_any (ps.getD j Prt.zero).la (ps.getD j Prt.zero).l.length (ps.getD j Prt.zero).c (ps.getD j Prt.zero).l wr hI
      have h0 : (0 : Int) ≤ (j : Int) := Int.natCast_nonneg _
      have h1 : (j : Int) < (m : Int) := by omega
      have HS := hid (snocP ps j hz)
      have HSP := hid (splitP ps j hz)
      by_cases he : (checkM (ps.getD j Prt.zero).l).1 = 0
      · have hl4 := (checkM_all he).1
        have HR : Hid (tot (ps.take (j + 1)) = tot (ps.take j) + (ps.getD j Prt.zero).l.length ∧ chk (ps.take (j + 1)) = 0) := by
          constructor
          · rw [HS.out, tot_append]; simp [tot]
          · rw [HS.out, chk_append, if_pos hc, chk, if_pos he]; rfl
        rw [he] at hck
        generalize (checkM (ps.getD j Prt.zero).l).2 = c2 at *
        generalize (ps.getD j Prt.zero).l.length = pn at *
        generalize (ps.getD j Prt.zero).la = pa at *
        generalize (ps.getD j Prt.zero).c = pc at *
        have b3 : (0 : Int) ≤ (pn : Int) := Int.natCast_nonneg _
        have b4 : (pn : Int) ≤ 400 := by omega
        clear HS HSP hc he hPr hI
        by_cases hs4 : s ≤ 400
        · have t4 : (s : Int) ≤ 400 := by omega
          go_wp2_with fail
          refine hck.mono ?_
          clear hck
          rintro e w3 ⟨rfl, rfl⟩
          go_wp2
          go_roundw
          case rel => exact ⟨j + 1, s + pn, by simp, by omega, by simp, by omega, fun h => by rw [HR.out.1, ← HH1.out hs4], fun h => by rw [HR.out.1, ← HH1.out hs4]; exact h, HR.out.2, trivial⟩
          case measure => simp [intOf]; omega
        · have t4 : ¬ (s : Int) ≤ 400 := by omega
          go_wp2_with fail
          refine hck.mono ?_
          clear hck
          rintro e w3 ⟨rfl, rfl⟩
          go_wp2
          go_roundw
          case rel => exact ⟨j + 1, s, by simp, by omega, by simp, by omega, fun h => by omega, fun h => by rw [HR.out.1]; have := HH2.out h; omega, HR.out.2, trivial⟩
          case measure => simp [intOf]; omega
      · have HE : Hid (joinE ps = (checkM (ps.getD j Prt.zero).l).1 ∧ joinR ps = []) := by
          have e1 : chk ps = (checkM (ps.getD j Prt.zero).l).1 := by
            conv => lhs; rw [HSP.out]
            rw [chk_append, if_pos hc, chk, if_neg he]
          have e2 : joinE ps = (checkM (ps.getD j Prt.zero).l).1 := by unfold joinE; rw [e1, if_neg he]
          exact ⟨e2, by unfold joinR; rw [e2, if_neg he]⟩
        have te : ((checkM (ps.getD j Prt.zero).l).1 != 0) = true := by simpa using he
        generalize (checkM (ps.getD j Prt.zero).l).1 = ce at *
        generalize (checkM (ps.getD j Prt.zero).l).2 = c2 at *
        generalize (ps.getD j Prt.zero).l.length = pn at *
        generalize (ps.getD j Prt.zero).la = pa at *
        generalize (ps.getD j Prt.zero).c = pc at *
        clear HS HSP hc he hPr hI
        go_wp2_with fail
        refine hck.mono ?_
        clear hck hcell
        rintro e w3 ⟨rfl, rfl⟩
        go_wp2
        go_ret2
        refine ⟨.slice none 0 0, by rw [HE.out.1]; rfl, by rw [HE.out.2]; exact GaveL.none _, Kept.refl _ _⟩
    · have h1 : ¬ (j : Int) < (m : Int) := by omega
      have hjm : ps.take j = ps := List.take_of_length_le (by have := HN.out; omega)
      have HCk : Hid (chk ps = 0) := by show _ = _; rw [hjm] at hc; exact hc
      have hs1 := HH1.out
      have hs2 := HH2.out
      rw [hjm] at hs1 hs2
      obtain ⟨w4, h4⟩ : ∃ W, W = wr := ⟨wr, rfl⟩
      subst h4
      by_cases hbad : tot ps = 0 ∨ 400 < tot ps
      · have HE : Hid (joinE ps = 150 ∧ joinR ps = []) := by
          have e2 : joinE ps = 150 := by unfold joinE; rw [if_pos HCk.out, if_pos hbad]
          exact ⟨e2, by unfold joinR; rw [e2]; rfl⟩
        have hbs : s = 0 ∨ 400 < s := by omega
        clear hc hPr hjm HH1 HH2 hs1 hs2 hbad
        rcases hbs with rfl | hb
        · go_wp2
          go_ret2
          exact ⟨.slice none 0 0, by rw [HE.out.1]; rfl, by rw [HE.out.2]; exact GaveL.none _, Kept.refl _ _⟩
        · have t0 : ¬ (s : Int) < 1 := by omega
          have t1 : (400 : Int) < (s : Int) := by omega
          go_wp2
          go_ret2
          exact ⟨.slice none 0 0, by rw [HE.out.1]; rfl, by rw [HE.out.2]; exact GaveL.none _, Kept.refl _ _⟩
      · have HE : Hid (joinE ps = 0 ∧ joinR ps = joinP ps) := by
          have e2 : joinE ps = 0 := by unfold joinE; rw [if_pos HCk.out, if_neg hbad]
          exact ⟨e2, by unfold joinR; rw [e2]; rfl⟩
        have HP4 := hid hPr
        have HTT : Hid (∀ q, (joinP (ps.take q)).length ≤ 400) := fun q => by rw [joinP_len]; have := tot_le ps q; omega
        have HS1 : Hid (St w4 [ownI 34 2 (.slice none 0 0) (joinP (ps.take 0)).length (insCells (joinP (ps.take 0)))] w4) := (St.nil w4).own (Kept.refl _ _) (World.ownsRow_nil _ _ _ _)
        have t0 : ¬ (s : Int) < 1 := by omega
        have t1 : (s : Int) ≤ 400 := by omega
        clear hc hPr hjm hbad hs1 hs2 HH1 HH2
        go_wp2_with fail
        go_loopw [8, 9] (fun v i W => ∃ j2 : Nat, i = .int .i64 j2 ∧ j2 ≤ m ∧ St w4 [ownI 34 2 v (joinP (ps.take j2)).length (insCells (joinP (ps.take j2)))] W) (fun _ i _ => m - (intOf i).toNat)
        case atStart => exact ⟨0, rfl, Nat.zero_le _, HS1.out⟩
        case round =>
          clear HS1
          obtain ⟨j2, rfl, hj2, hst⟩ := hrel
          by_cases hlt2 : j2 < m
          · have hz : j2 < ps.length := by have := HN.out; omega
            obtain ⟨g, o, rfl, hcell, hI⟩ := (HP4.out.kept hst.same).2 j2 hlt2
            have HI : Hid (IIn w4 (ps.getD j2 Prt.zero).la (ps.getD j2 Prt.zero).l.length (ps.getD j2 Prt.zero).l) := by obtain ⟨_, _, _, _, h⟩ := HP4.out.2 j2 hlt2; exact h
            have HCell : Hid (∀ W, Kept (fun _ => False) w4 W → W.cell? ⟨g, o + j2, none⟩ = some (.slice (ps.getD j2 Prt.zero).la (ps.getD j2 Prt.zero).l.length (ps.getD j2 Prt.zero).c)) := fun W k => by
              obtain ⟨g', o', e, h, _⟩ := (HP4.out.kept k).2 j2 hlt2
              cases e
              exact h
            have hal := HTT.out j2
            have hal2 := HTT.out (j2 + 1)
            have hown := hst.get 0 rfl
            have HAcc := hid (joinP_snoc ps j2 hz)
            rw [HAcc.out] at hal2
            have hmemp : ps.getD j2 Prt.zero ∈ ps := by rw [List.getD_eq_getElem?_getD, List.getElem?_eq_getElem hz]; exact List.getElem_mem hz
            have HW := hid (checkM_all (chk_mem HCk.out _ hmemp)).2.2
            have hpl := (checkM_all (chk_mem HCk.out _ hmemp)).1
            generalize ps.getD j2 Prt.zero = p at *
            obtain ⟨pa, pc, pl⟩ := p
            simp only at HI HW HAcc hcell hal2 hpl HCell
            generalize joinP (ps.take j2) = acc at *
            obtain ⟨ma, mc2, rfl, _, hcap, _⟩ := own_iin hown
            simp only [List.length_append, List.length_map] at hal2
            have HST : Hid (St w4 [ownI 34 2 (.slice ma acc.length mc2) (acc ++ (pl.take 0).map (shiftI acc.length)).length (insCells (acc ++ (pl.take 0).map (shiftI acc.length)))] wr) := by show St _ _ _; simpa using hst
            have h02 : (0 : Int) ≤ (j2 : Int) := Int.natCast_nonneg _
            have h12 : (j2 : Int) < (m : Int) := by omega
            clear hst hown hI hmemp
            go_wp2_with fail
            clear hcell
            go_loopw [8, 11] (fun v i W => ∃ i2 : Nat, i = .int .i64 i2 ∧ i2 ≤ pl.length ∧ St w4 [ownI 34 2 v (acc ++ (pl.take i2).map (shiftI acc.length)).length (insCells (acc ++ (pl.take i2).map (shiftI acc.length)))] W) (fun _ i _ => pl.length - (intOf i).toNat)
            case atStart => exact ⟨0, rfl, Nat.zero_le _, HST.out⟩
            case round =>
              clear HST
              obtain ⟨i2, rfl, hi2, hst2⟩ := hrel
              by_cases hlt3 : i2 < pl.length
              · obtain ⟨g3, o3, rfl⟩ := HI.out.addr (by omega)
                obtain ⟨c0, c1⟩ := (HI.out.kept hst2.same).cells hlt3
                have hmem : pl.getD i2 Ins.zero ∈ pl := by rw [List.getD_eq_getElem?_getD, List.getElem?_eq_getElem hlt3]; exact List.getElem_mem hlt3
                obtain ⟨hkn, hmay⟩ := wrongAt_zero (HW.out _ hmem)
                have HX : Hid ((pl.take (i2 + 1)).map (shiftI acc.length) = (pl.take i2).map (shiftI acc.length) ++ [shiftI acc.length (pl.getD i2 Ins.zero)]) := by
                  show _ = _
                  rw [List.take_add_one, List.getD_eq_getElem?_getD, List.getElem?_eq_getElem hlt3, List.map_append]; rfl
                have hml : (acc ++ (pl.take i2).map (shiftI acc.length)).length ≤ 400 := by simp; omega
                have h03 : (0 : Int) ≤ (i2 : Int) := Int.natCast_nonneg _
                have h13 : (i2 : Int) < (pl.length : Int) := by omega
                generalize pl.getD i2 Ins.zero = x at *
                obtain ⟨xo, xa⟩ := x
                simp only at c0 c1 hkn hmay
                obtain ⟨n3, rfl, hm0, hm1⟩ := known_nat hkn
                have b0 : (0 : Int) ≤ (n3 : Int) := by omega
                have b1 : (n3 : Int) < (23 : Int) := by omega
                have hcc := HCell.out _ hst2.same
                have s4 := hst2.box #[.int .i64 n3, .int .i64 xa] 34
                have et : takesM (n3 : Int) = (rowOf (n3 : Int)).takes := by unfold takesM; rw [hkn]; rfl
                have p2 := fun W => rTakes_any (n3 : Int) W
                rw [et] at p2
                have e0 : (wr.alloc (.cells #[.int .i64 n3, .int .i64 xa] 34)).cell? ⟨wr.heap.size, 0, none⟩ = some (.int .i64 n3) := s4.cell 0 rfl 0
                have e1 : (wr.alloc (.cells #[.int .i64 n3, .int .i64 xa] 34)).cell? ⟨wr.heap.size, 1, none⟩ = some (.int .i64 xa) := s4.cell 0 rfl 1
                have ef : (wr.alloc (.cells #[.int .i64 n3, .int .i64 xa] 34)).frozen? ⟨wr.heap.size, 1, none⟩ = false := s4.frozen 0 rfl 1
                have HSh : Hid (shiftI acc.length ⟨n3, xa⟩ = if (rowOf (n3 : Int)).takes = 3 then ⟨n3, xa + acc.length⟩ else ⟨n3, xa⟩) := rfl
                have HMs : Hid (∀ y, shiftI acc.length ⟨n3, xa⟩ = y → acc ++ (pl.take (i2 + 1)).map (shiftI acc.length) = (acc ++ (pl.take i2).map (shiftI acc.length)) ++ [y]) := fun y h => by rw [HX.out, ← List.append_assoc, h]
                have HG : Hid (∀ (W : World) (y : Ins) (M : Nat), St w4 [boxI M #[.int .i64 y.op, .int .i64 y.a] 34, ownI 34 2 u8 (acc ++ (pl.take i2).map (shiftI acc.length)).length (insCells (acc ++ (pl.take i2).map (shiftI acc.length)))] W → shiftI acc.length ⟨n3, xa⟩ = y → ∀ g2 cap2 w1, w1.ownsRow 0 34 2 (.slice (some ⟨g2, 0, none⟩) ((acc ++ (pl.take i2).map (shiftI acc.length)).length + 1) cap2) ((acc ++ (pl.take i2).map (shiftI acc.length)).length + 1) (insCells (acc ++ (pl.take i2).map (shiftI acc.length)) ++ [.int .i64 y.op, .int .i64 y.a]) → (W.alloc (.cells #[.int .i64 y.op, .int .i64 y.a] 34)).grownBy w1 u8.ownBlock → (u8.ownBlock = some g2 ∨ g2 = W.heap.size + 1) → St w4 [ownI 34 2 (.slice (some ⟨g2, 0, none⟩) ((acc ++ (pl.take i2).map (shiftI acc.length)).length + 1) cap2) (acc ++ (pl.take (i2 + 1)).map (shiftI acc.length)).length (insCells (acc ++ (pl.take (i2 + 1)).map (shiftI acc.length)))] w1) := by
                  intro W y M sW hy g2 cap2 w1 p1 p2 p3
                  have a1 := sW.pop.growAt 0 rfl p1 p2 p3
                  rw [HMs.out y hy, insCells_append, show (acc ++ (pl.take i2).map (shiftI acc.length) ++ [y]).length = (acc ++ (pl.take i2).map (shiftI acc.length)).length + 1 by rw [List.length_append]; rfl]
                  exact a1
                generalize acc ++ (pl.take i2).map (shiftI acc.length) = ms at *
                clear HMs HX hmem hkn HW HP4 et HCell
                by_cases h3 : (rowOf (n3 : Int)).takes = 3
                · have HSh2 : Hid (shiftI acc.length ⟨n3, xa⟩ = ⟨n3, xa + acc.length⟩) := by have := HSh.out; rw [if_pos h3] at this; exact this
                  rw [h3] at p2 hmay
                  obtain ⟨x0, x1⟩ := may_place hmay
                  have a0 : (0 : Int) ≤ (acc.length : Int) := Int.natCast_nonneg _
                  have a1 : (acc.length : Int) ≤ 400 := by omega
                  have x2 : xa ≤ 400 := by omega
                  have s5 := hst2.box #[.int .i64 n3, .int .i64 (xa + acc.length)] 34
                  have HS5 := hid s5
                  clear s4 s5 HSh hmay h3 x1
                  go_wp2_with fail
                  refine (p2 _).mono ?_
                  rintro e w6 ⟨rfl, rfl⟩
                  go_upto_region 23 with fail
                  generalize wr.alloc (.cells #[.int .i64 n3, .int .i64 (xa + acc.length)] 34) = w5 at *
                  generalize wr.heap.size = M at *
                  generalize xa + (acc.length : Int) = kv at *
                  have s5 : St w4 [boxI M #[.int .i64 n3, .int .i64 kv] 34, ownI 34 2 u8 ms.length (insCells ms)] w5 := HS5.out
                  have f0 : w5.cell? ⟨M, 0, none⟩ = some (.int .i64 n3) := s5.cell 0 rfl 0
                  have f1 : w5.cell? ⟨M, 1, none⟩ = some (.int .i64 kv) := s5.cell 0 rfl 1
                  have hown : w5.ownsRow 0 34 2 u8 ms.length (insCells ms) := s5.get 1 rfl
                  have hbs := buildIn w5 n3 kv
                  have HO := hid (HG.out w5 ⟨n3, kv⟩ M s5 HSh2.out)
                  clear s5 HG HS5 HSh2 e0 e1 ef p2 c0 c1
                  go_wp2_with (first | (at_builtin; refine wpList_append_lies _ rfl (.tmp 78) (.tmp 80) 24 rfl 0 34 i0 _ 2 16 Tryz.underlying24 hi0 hz0 hz1 hz2 rfl (by omega) u8 ms.length (insCells ms) rfl (hown.alloc _) ⟨w5.heap.size, 0, none⟩ 1 1 [.int .i64 n3, .int .i64 kv] rfl rfl (World.news_of_block (cs := #[.int .i64 n3, .int .i64 kv]) (t := 34) (fr := (0, 0)) (heap_alloc_new w5 _)) (by simp [Value.oneCell']) (by omega) (by unfold maxLen; omega) (by omega) (Nat.zero_le _) (w5.heap.size + 1) (by simp) ?_; intro g2 cap2 w8 ho8 hg8 ha8 hl8; replace ho8 := hid (HO.out _ _ _ ho8 hg8 ha8); clear hg8 ha8 hl8) | simp only [hbs])
                  go_roundw
                  case rel => exact ⟨i2 + 1, by simp, by omega, ho8.out⟩
                  case measure => simp [intOf]; omega
                · have HSh2 : Hid (shiftI acc.length ⟨n3, xa⟩ = ⟨n3, xa⟩) := by have := HSh.out; rw [if_neg h3] at this; exact this
                  generalize (rowOf (n3 : Int)).takes = tk at *
                  have t3 : (tk == 3) = false := by simpa using h3
                  have HS4 := hid s4
                  clear s4 HSh hmay h3
                  go_wp2_with fail
                  refine (p2 _).mono ?_
                  rintro e w6 ⟨rfl, rfl⟩
                  go_upto_region 23 with fail
                  generalize wr.alloc (.cells #[.int .i64 n3, .int .i64 xa] 34) = w5 at *
                  generalize wr.heap.size = M at *
                  have s5 : St w4 [boxI M #[.int .i64 n3, .int .i64 xa] 34, ownI 34 2 u8 ms.length (insCells ms)] w5 := HS4.out
                  have f0 : w5.cell? ⟨M, 0, none⟩ = some (.int .i64 n3) := s5.cell 0 rfl 0
                  have f1 : w5.cell? ⟨M, 1, none⟩ = some (.int .i64 xa) := s5.cell 0 rfl 1
                  have hown : w5.ownsRow 0 34 2 u8 ms.length (insCells ms) := s5.get 1 rfl
                  have hbs := buildIn w5 n3 xa
                  have HO := hid (HG.out w5 ⟨n3, xa⟩ M s5 HSh2.out)
                  clear s5 HG HS4 HSh2 e0 e1 ef p2 c0 c1
                  go_wp2_with (first | (at_builtin; refine wpList_append_lies _ rfl (.tmp 78) (.tmp 80) 24 rfl 0 34 i0 _ 2 16 Tryz.underlying24 hi0 hz0 hz1 hz2 rfl (by omega) u8 ms.length (insCells ms) rfl (hown.alloc _) ⟨w5.heap.size, 0, none⟩ 1 1 [.int .i64 n3, .int .i64 xa] rfl rfl (World.news_of_block (cs := #[.int .i64 n3, .int .i64 xa]) (t := 34) (fr := (0, 0)) (heap_alloc_new w5 _)) (by simp [Value.oneCell']) (by omega) (by unfold maxLen; omega) (by omega) (Nat.zero_le _) (w5.heap.size + 1) (by simp) ?_; intro g2 cap2 w8 ho8 hg8 ha8 hl8; replace ho8 := hid (HO.out _ _ _ ho8 hg8 ha8); clear hg8 ha8 hl8) | simp only [hbs])
                  go_roundw
                  case rel => exact ⟨i2 + 1, by simp, by omega, ho8.out⟩
                  case measure => simp [intOf]; omega
              · have h13 : ¬ (i2 : Int) < (pl.length : Int) := by omega
                have hcc := HCell.out _ hst2.same
                have hil : pl.take i2 = pl := List.take_of_length_le (by omega)
                rw [hil] at hst2
                have HS3 : Hid (St w4 [ownI 34 2 u8 (joinP (ps.take (j2 + 1))).length (insCells (joinP (ps.take (j2 + 1))))] wr) := by show St _ _ _; rw [HAcc.out]; exact hst2
                clear hst2 hil HW HI HAcc HCell
                go_wp2
                go_roundw
                case rel => exact ⟨j2 + 1, by simp, by omega, HS3.out⟩
                case measure => simp [intOf]; omega
          · have h12 : ¬ (j2 : Int) < (m : Int) := by omega
            have hjm2 : ps.take j2 = ps := List.take_of_length_le (by have := HN.out; omega)
            rw [hjm2] at hst
            have hown := hst.get 0 rfl
            obtain ⟨ma, mc2, rfl, hmi, _⟩ := own_iin hown
            have HF : Hid (GaveL wr (.slice ma (joinP ps).length mc2) (joinR ps) ∧ Kept (fun _ => False) w4 wr) := ⟨by rw [HE.out.2]; exact ⟨ma, mc2, rfl, hmi⟩, hst.same⟩
            clear hst hown hmi hjm2
            go_wp2
            go_ret2
            exact ⟨_, by rw [HE.out.1]; rfl, HF.out.1, HF.out.2⟩
end Go.Proofs.YtcchflfeomainabGreatDoor
