/- CodeJoins, walked. -/
import Derived.Test.YtcchflfeomainabGreatDoorRj
import Derived.Test.YtcchflfeomainabGreatDoorPa
namespace Go.Proofs.YtcchflfeomainabGreatDoor
open Go.RowKit
set_option linter.unusedVariables false
set_option linter.unusedSimpArgs false
attribute [local go_sem ↓] Go.wp_at_zero Go.wp_at_succ

theorem Tryz.infoLi : (Tryz.prog.info? 24).map (fun i => (i.zero, i.size, i.bytes)) = some (some (.slice none 0 0), 1, 24) := by kernel_rfl
theorem laidOne (W : World) (a0 : Option Addr) (n0 c0 : Nat) : (Instr.buildSlice 22 1 #[(0, .slice a0 n0 c0)]).run Tryz.prog W = .ok (.slice (some ⟨W.heap.size, 0, none⟩) 1 1) (W.alloc (.cells #[.slice a0 n0 c0] 24)) := by kernel_rfl
theorem snoc_map {ps : List Prt} {qs : List Prt} {q : Prt} {j : Nat} (hj : j < ps.length) (h : qs.map Prt.l = (ps.take j).map Prt.l) (hq : q.l = (ps.getD j Prt.zero).l) : (qs ++ [q]).map Prt.l = (ps.take (j + 1)).map Prt.l := by
  rw [snocP ps j hj, List.map_append, List.map_append, h]
  simp only [List.map_cons, List.map_nil, hq]
theorem map_at {qs ps : List Prt} (h : qs.map Prt.l = ps.map Prt.l) (j : Nat) : (qs.getD j Prt.zero).l = (ps.getD j Prt.zero).l := by
  have := congrArg (fun x => x[j]?) h
  simp only [List.getElem?_map] at this
  simp only [List.getD_eq_getElem?_getD]
  cases h1 : qs[j]? <;> cases h2 : ps[j]? <;> simp_all
/-- A list that is written over. -/
structure Ovr (o w : World) (v : Value) (n : Nat) : Prop where
  own : ∃ xs, xs.length = n * 2 ∧ w.ownsRow o.heap.size 34 2 v n xs
  same : Kept (fun _ => False) o w
set_option maxRecDepth 100000 in
set_option maxHeartbeats 1000000 in
theorem joins_walk (la : Option Addr) (m mc : Nat) (ps : List Prt) (w : World) (hE : Env w) (hP : CameP w la m ps) :
    Calls Tryz.prog 3 #[.slice la m mc] w fun e w' => e = .returned (.bool true) ∧ Kept (fun _ => False) w w' := by
  obtain ⟨i0, hi0, hz0, hz1, hz2⟩ := info_parts Tryz.infoLi
  have hU := awake_any w hE
  have HN : Hid (m = ps.length) := hP.1
  have hm24 := hP.2.1
  have HP : Hid (∀ W, Kept (fun _ => False) w W → CameP W la m ps) := fun W k => hP.kept k
  clear hE hP
  go_enter Tryz.func3, Tryz.ntmps3
  go_wp2_with fail
  refine hU.mono ?_
  clear hU
  rintro e w1 ⟨rfl, k1⟩
  have HK1 := hid k1
  have HO0 : Hid (Oat w1 w1 (.slice none 0 0) []) := ⟨(St.nil w1).own (Kept.refl _ _) (World.ownsRow_nil _ _ _ _), fun q hq => by cases hq⟩
  clear k1
  go_wp2_with fail
  go_loopw [4, 5] (fun v i W => ∃ (j : Nat) (qs : List Prt), i = .int .i64 j ∧ j ≤ m ∧ qs.length = j ∧ qs.map Prt.l = (ps.take j).map Prt.l ∧ Oat w1 W v qs) (fun _ i _ => m - (intOf i).toNat)
  case atStart => exact ⟨0, [], rfl, Nat.zero_le _, rfl, rfl, HO0.out⟩
  case round =>
    clear HO0
    obtain ⟨j, qs, rfl, hj, hql, hqm, hoa⟩ := hrel
    have HQM := hid hqm
    clear hqm
    by_cases hlt : j < m
    · have hz : j < ps.length := by have := HN.out; omega
      have K2 := HK1.out.trans hoa.st.same (fun _ _ f => f)
      obtain ⟨g, o, rfl, hcell, hcame⟩ := (HP.out _ K2).2.2 j hlt
      have HCell : Hid (∀ W, Kept (fun _ => False) w W → W.cell? ⟨g, o + j, none⟩ = some (.slice (ps.getD j Prt.zero).la (ps.getD j Prt.zero).l.length (ps.getD j Prt.zero).c)) := fun W k => by
        obtain ⟨g', o', e, h, _⟩ := (HP.out W k).2.2 j hlt
        cases e
        exact h
      have h0 : (0 : Int) ≤ (j : Int) := Int.natCast_nonneg _
      have h1 : (j : Int) < (m : Int) := by omega
      have hle := lent_any wr hcame
      have HSn : Hid (∀ q : Prt, q.l = (ps.getD j Prt.zero).l → (qs ++ [q]).map Prt.l = (ps.take (j + 1)).map Prt.l) := fun q h => snoc_map hz HQM.out h
      have hpc := hcame.2.1
      have hpr := hcame.2.2.1
      generalize ps.getD j Prt.zero = p at *
      obtain ⟨pa, pc, pl⟩ := p
      simp only at hcell hcame HCell hle HSn hpc hpr
      have HOA := hid hoa
      have HK2 := hid K2
      clear hoa K2 hcame
      go_wp2_with fail
      refine hle.mono ?_
      clear hle hcell
      rintro e w3 ⟨g3, cap3, rfl, o3, k3⟩
      have hcap := own_capV o3
      have hcell := HCell.out _ (HK2.out.trans k3 (fun _ _ f => f))
      have hoa3 := HOA.out.calm k3
      have hvb : u4.ownBlock ≠ some g3 := fun e => by
        have := ((HOA.out.st.get 0 rfl).lt g3 e).2
        omega
      have hown : w3.ownsRow 0 24 1 u4 qs.length (qCells qs) := hoa3.st.get 0 rfl
      have hbs := laidOne w3 (some ⟨g3, 0, none⟩) pl.length cap3
      have c1 : (pl.length : Int) ≤ (cap3 : Int) := by omega
      have c2 : (0 : Int) ≤ (pl.length : Int) := Int.natCast_nonneg _
      have hq8 : qs.length < m := by omega
      have HADD : Hid (∀ g2 cap2 W, W.ownsRow 0 24 1 (.slice (some ⟨g2, 0, none⟩) (qs.length + 1) cap2) (qs.length + 1) (qCells qs ++ [.slice (some ⟨g3, 0, none⟩) pl.length cap3]) → (w3.alloc (.cells #[.slice (some ⟨g3, 0, none⟩) pl.length cap3] 24)).grownBy W u4.ownBlock → (u4.ownBlock = some g2 ∨ g2 = w3.heap.size + 1) → Oat w1 W (.slice (some ⟨g2, 0, none⟩) (qs.length + 1) cap2) (qs ++ [Prt.mk (some ⟨g3, 0, none⟩) cap3 pl])) := fun g2 cap2 W p1 p2 p3 => hoa3.add (q := Prt.mk (some ⟨g3, 0, none⟩) cap3 pl) rfl hvb (own_up (own_zero o3) (fun k hk => Nat.le_trans HOA.out.st.le (o3.lt k hk).1)) p1 p2 p3
      clear hoa3 hvb HOA HCell o3 k3 hpc hpr
      go_wp2_with (first | (at_builtin; refine wpList_append_lies _ rfl (.tmp 28) (.tmp 36) 22 rfl 0 24 i0 _ 1 24 Tryz.underlying22 hi0 hz0 hz1 hz2 rfl (by omega) u4 qs.length (qCells qs) rfl (hown.alloc _) ⟨w3.heap.size, 0, none⟩ 1 1 [.slice (some ⟨g3, 0, none⟩) pl.length cap3] rfl rfl (World.news_of_block (cs := #[.slice (some ⟨g3, 0, none⟩) pl.length cap3]) (t := 24) (fr := (0, 0)) (heap_alloc_new w3 _)) (by simp [Value.oneCell']) (by omega) (by unfold maxLen; omega) (by omega) (Nat.zero_le _) (w3.heap.size + 1) (by simp) ?_; intro g2 cap2 w8 ho8 hg8 ha8 hl8; replace ho8 := hid (HADD.out _ _ _ ho8 hg8 ha8); clear hg8 ha8 hl8) | simp only [hbs])
      go_roundw
      case rel => exact ⟨j + 1, qs ++ [Prt.mk (some ⟨g3, 0, none⟩) cap3 pl], by simp, by omega, by simp [hql], HSn.out _ rfl, by have h9 := ho8.out; rw [hql] at h9; exact h9⟩
      case measure => simp [intOf]; omega
    · have h1 : ¬ (j : Int) < (m : Int) := by omega
      have hjm : ps.take j = ps := List.take_of_length_le (by have := HN.out; omega)
      have hqm := HQM.out
      rw [hjm] at hqm
      obtain ⟨oa, oc, rfl, hpin⟩ := hoa.pin
      subst hql
      obtain rfl : qs.length = m := by omega
      obtain ⟨w4, h4⟩ : ∃ W, W = wr := ⟨wr, rfl⟩
      subst h4
      have K4 := HK1.out.trans hoa.st.same (fun _ _ f => f)
      obtain ⟨hje, hjr⟩ := same_join hqm
      have qj := Join_own oa qs.length oc qs w4 hpin (by omega)
      rw [hje, hjr] at qj
      have HK4 := hid K4
      have HOA := hid hoa
      have HPI := hid hpin
      have HMA := hid (map_at hqm)
      have hlr : (joinR ps).length ≤ 400 := by
        unfold joinR
        split
        · rename_i h
          rw [joinP_len]
          unfold joinE at h
          split at h
          · split at h
            · cases h
            · omega
          · rename_i h2; exact absurd h h2
        · simp
      have HJ : Hid (∀ W, Kept (fun _ => False) w W → Calls Tryz.prog 9 #[.slice la qs.length mc] W fun e w' => ∃ v, e = .returned (.tuple #[v, .int .i64 (joinE ps)]) ∧ GaveL w' v (joinR ps) ∧ Kept (fun _ => False) W w') := fun W k => rJoin_any la qs.length mc ps W (HP.out W k).pin (by omega)
      generalize joinE ps = JE at *
      generalize joinR ps = JR at *
      clear K4 hoa hpin hqm hje hjr hjm HQM
      go_wp2_with fail
      refine qj.mono ?_
      clear qj
      rintro e w5 ⟨v5, rfl, ⟨ra, rc, rfl, o5⟩, k5⟩
      have qr := HJ.out w5 (HK4.out.trans k5 (fun _ _ f => f))
      clear HJ
      go_wp2_with fail
      refine qr.mono ?_
      clear qr
      rintro e w6 ⟨v6, rfl, ⟨rb, rd, rfl, i6⟩, k6⟩
      have o6 := own_loc (w' := w6) o5 (fun i e => k6.block i (o5.lt i e).2 (fun f => f))
      have i5 : IIn w6 ra JR.length JR := by
        obtain ⟨la', lc', e, hi, _⟩ := own_iin o6
        cases e
        exact hi
      have qs1 := same_any ra rb JR.length JR.length rc rd JR JR w6 i5 i6 (by omega)
      rw [decide_eq_true rfl] at qs1
      have HV : Hid (∀ W, Kept (fun _ => False) w6 W → Ovr w4 W (.slice ra JR.length rc) JR.length) := fun W k => ⟨⟨insCells JR, by rw [insCells_length], own_loc o6 (fun i e => k.block i (o6.lt i e).2 (fun f => f))⟩, (k5.trans k6 (fun _ _ f => f)).trans k (fun _ _ f => f)⟩
      clear i5 i6 o5 o6 k5 k6
      go_wp2_with fail
      refine qs1.mono ?_
      clear qs1
      rintro e w7 ⟨rfl, k7⟩
      have HV7 := hid (HV.out _ k7)
      clear HV k7
      generalize JR.length = R at *
      go_wp2_with fail
      go_loopw [12] (fun i W => ∃ j2 : Nat, i = .int .i64 j2 ∧ j2 ≤ R ∧ Ovr w4 W (.slice ra R rc) R) (fun i _ => R - (intOf i).toNat)
      case atStart => exact ⟨0, rfl, Nat.zero_le _, HV7.out⟩
      case round =>
        clear HV7
        obtain ⟨j2, rfl, hj2, hov⟩ := hrel
        by_cases hlt2 : j2 < R
        · obtain ⟨xs, hxl, ho⟩ := hov.own
          obtain ⟨gr, rfl⟩ : ∃ gr, ra = some ⟨gr, 0, none⟩ := by
            rcases ho.2 with ⟨e, hn⟩ | ⟨g, c, cur, e, _⟩
            · omega
            · cases e; exact ⟨_, rfl⟩
          obtain ⟨y0, d0⟩ : ∃ y, wr.cell? ⟨gr, j2 * 2, none⟩ = some y := ⟨_, by rw [ho.cellAt _ (by omega)]; exact List.getElem?_eq_getElem (by omega)⟩
          obtain ⟨y1, d1⟩ : ∃ y, wr.cell? ⟨gr, j2 * 2 + 1, none⟩ = some y := ⟨_, by rw [ho.cellAt _ (by omega)]; exact List.getElem?_eq_getElem (by omega)⟩
          have f0 : wr.frozen? ⟨gr, j2 * 2, none⟩ = false := ho.frozenAt _
          have f1 : wr.frozen? ⟨gr, j2 * 2 + 1, none⟩ = false := ho.frozenAt _
          have h02 : (0 : Int) ≤ (j2 : Int) := Int.natCast_nonneg _
          have h12 : (j2 : Int) < (R : Int) := by omega
          have HN2 : Hid (Ovr w4 ((wr.setCell ⟨gr, j2 * 2, none⟩ (.int .i64 99)).setCell ⟨gr, j2 * 2 + 1, none⟩ (.int .i64 0)) (.slice (some ⟨gr, 0, none⟩) R rc) R) := by
            have s1 := ho.stored (j2 * 2) (.int .i64 99)
            have s2 := s1.1.stored (j2 * 2 + 1) (.int .i64 0)
            have hb := (own_capV ho).2.1
            refine ⟨⟨_, by simp [hxl], s2.1⟩, ?_⟩
            exact (hov.same.setCell _ (.inr hb)).setCell _ (.inr hb)
          clear ho hov
          go_wp2_with fail
          go_roundw
          case rel => exact ⟨j2 + 1, by simp, by omega, HN2.out⟩
          case measure => simp [intOf]; omega
        · have h12 : ¬ (j2 : Int) < (R : Int) := by omega
          have HS9 := hid hov.same
          clear hov
          obtain ⟨w9, h9⟩ : ∃ W, W = wr := ⟨wr, rfl⟩
          subst h9
          go_wp2_with fail
          go_loopw [11, 13] (fun ok i W => ∃ j3 : Nat, i = .int .i64 j3 ∧ j3 ≤ qs.length ∧ ok = .bool true ∧ Kept (fun _ => False) w4 W) (fun _ i _ => qs.length - (intOf i).toNat)
          case atStart => exact ⟨0, rfl, Nat.zero_le _, rfl, HS9.out⟩
          case round =>
            clear HS9
            obtain ⟨j3, rfl, hj3, rfl, hk3⟩ := hrel
            have HK3 := hid hk3
            have tJ : (JE == JE) = true := by simp
            by_cases hlt3 : j3 < qs.length
            · obtain ⟨g, o, rfl, hcell, hcame⟩ := (HP.out _ (HK4.out.trans hk3 (fun _ _ f => f))).2.2 j3 hlt3
              obtain ⟨go, oo, rfl, hocell, _⟩ := (HPI.out.kept hk3).2 j3 hlt3
              have hmem : qs.getD j3 Prt.zero ∈ qs := by rw [List.getD_eq_getElem?_getD, List.getElem?_eq_getElem hlt3]; exact List.getElem_mem hlt3
              obtain ⟨gq, hq1, _, hq3⟩ := HOA.out.each _ hmem
              rw [hq1, HMA.out j3] at hocell
              rw [HMA.out j3] at hq3
              have hcapq := (own_capV hq3).1
              have iq := (own_front hq3 ((ps.getD j3 Prt.zero).l ++ marks) [] (by simp)).kept hk3
              generalize (qs.getD j3 Prt.zero).c = qc at *
              generalize ps.getD j3 Prt.zero = p at *
              obtain ⟨pa, pc, pl⟩ := p
              simp only at hcell hcame hocell hcapq iq
              have e3 : (pl ++ marks).length = pl.length + 3 := by simp [marks]
              rw [e3] at iq
              have hb1 : pl.length ≤ 8796093021952 := by have := hcame.2.1; have := hcame.2.2.1; omega
              have h03 : (0 : Int) ≤ (j3 : Int) := Int.natCast_nonneg _
              have h13 : (j3 : Int) < (qs.length : Int) := by omega
              have c1 : (pl.length : Int) + 3 ≤ (qc : Int) := by omega
              have c2 : (0 : Int) ≤ (pl.length : Int) := Int.natCast_nonneg _
              have c3 : (0 : Int) ≤ (pl.length : Int) + 3 := by omega
              have c4 : (pl.length : Int) ≤ 8796093021952 := by omega
              have hT : ((pl.length : Int) + 3).toNat = pl.length + 3 := by omega
              have hle := lent_any wr.drew (hcame.kept (kept_drew wr))
              have hcell2 : wr.drew.cell? ⟨g, o + j3, none⟩ = some (.slice pa pl.length pc) := hcell
              have HQ := hid (iq.kept (kept_drew wr))
              have HK3 := hid (HK3.out.trans (kept_drew wr) (fun _ _ f => f))
              clear hq1 hq3 hmem hcame hcapq iq hk3
              go_upto_region 18 with fail
              go_region
              go_wp2_with fail
              refine hle.mono ?_
              clear hle
              rintro e w11 ⟨g5, cap5, rfl, o5, k5⟩
              have i5 := own_front o5 (pl ++ marks) [] (by simp)
              rw [e3] at i5
              have q := same_any (some ⟨gq, 0, none⟩) (some ⟨g5, 0, none⟩) (pl.length + 3) (pl.length + 3) qc cap5 (pl ++ marks) (pl ++ marks) w11 (HQ.out.kept k5) i5 (by omega)
              rw [decide_eq_true rfl] at q
              have HK5 := hid (HK3.out.trans k5 (fun _ _ f => f))
              clear o5 i5 k5 HQ e3
              go_wp2_with fail
              refine q.mono ?_
              clear q
              rintro e w12 ⟨rfl, k12⟩
              have HKf := hid (HK5.out.trans k12 (fun _ _ f => f))
              clear k12 HK5 HK3
              go_wp2
              go_roundw
              case rel => exact ⟨j3 + 1, by simp, by omega, rfl, HKf.out⟩
              case measure => simp [intOf]; omega
            · have h13 : ¬ (j3 : Int) < (qs.length : Int) := by omega
              clear hk3
              go_wp2
              go_ret
              exact ⟨rfl, HK4.out.trans HK3.out (fun _ _ f => f)⟩
end Go.Proofs.YtcchflfeomainabGreatDoor
