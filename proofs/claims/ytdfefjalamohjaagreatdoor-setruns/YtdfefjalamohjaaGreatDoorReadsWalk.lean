/- SetReads, walked. -/
import Derived.Test.YtdfefjalamohjaaGreatDoorCpD
import Derived.Test.YtdfefjalamohjaaGreatDoorLyD
import Derived.Test.YtdfefjalamohjaaGreatDoorRrB
namespace Go.Proofs.YtdfefjalamohjaaGreatDoor
open Go.RowKit
set_option linter.unusedVariables false
set_option linter.unusedSimpArgs false
attribute [local go_sem ↓] Go.wp_at_zero Go.wp_at_succ

def listR (zs : List Int) (base n : Int) : List Int :=
  if fitsS base n zs.length = true then (readM ((zs.drop base.toNat).take (3 + 2 * n.toNat)) n.toNat).getD [] else []
def codeR (zs : List Int) (base n : Int) : Int :=
  if fitsS base n zs.length = true then (match readM ((zs.drop base.toNat).take (3 + 2 * n.toNat)) n.toNat with | some _ => 0 | none => 181) else 180
theorem readM_len {L ks : List Int} {n : Nat} (h : readM L n = some ks) : ks.length ≤ n := by
  unfold readM at h
  split at h
  · rename_i ho
    split at h
    · split at h
      · cases h
        unfold keysM
        rw [List.length_map]
        exact (ns_tr ho).2.2
      · cases h
    · cases h
  · cases h
theorem listR_len (zs : List Int) (base n : Int) : (listR zs base n).length ≤ 60 := by
  unfold listR
  by_cases h : fitsS base n zs.length = true
  · rw [if_pos h]
    unfold fitsS at h
    simp only [Bool.and_eq_true, decide_eq_true_eq] at h
    obtain ⟨h1, h2, h3⟩ := roomS_pos h.1
    cases hr : readM ((zs.drop base.toNat).take (3 + 2 * n.toNat)) n.toNat with
    | none => simp
    | some ks =>
      have := readM_len hr
      simp only [Option.getD_some]
      omega
  · rw [if_neg h]
    simp
theorem read_out {zs : List Int} {base n : Int} {w : World} {e : Ending} {w' : World} (h : ReadE zs base n w e w') : ∃ la lc, e = .returned (.tuple #[.slice la (listR zs base n).length lc, .int .i64 (codeR zs base n)]) ∧ St w [lstI (.slice la (listR zs base n).length lc) (listR zs base n)] w' := by
  unfold ReadE at h
  unfold listR codeR
  by_cases hf : fitsS base n zs.length = true
  · rw [if_pos hf] at h ⊢
    rw [if_pos hf]
    cases hr : readM ((zs.drop base.toNat).take (3 + 2 * n.toNat)) n.toNat with
    | none =>
      rw [hr] at h
      exact ⟨none, 0, h.1, lst_nil ((St.nil w).calm h.2)⟩
    | some ks =>
      rw [hr] at h
      obtain ⟨v, rfl, s⟩ := h
      obtain ⟨la, lc, rfl, _⟩ := own_xin (show w'.ownsRow 0 2 1 v ks.length (xC ks) from s.get 0 rfl)
      exact ⟨la, lc, rfl, s⟩
  · rw [if_neg hf] at h ⊢
    rw [if_neg hf]
    exact ⟨none, 0, h.1, lst_nil ((St.nil w).calm h.2)⟩
theorem lst_xin {o w : World} {R : List It} {la : Option Addr} {lc : Nat} {L : List Int} (h : St o (lstI (.slice la L.length lc) L :: R) w) : XIn w la L.length L := st_xin h 0 rfl rfl
set_option maxRecDepth 100000 in
set_option maxHeartbeats 16000000 in
theorem reads_walk (la : Option Addr) (m lc : Nat) (cs : List Int) (base n : Int) (lb : Option Addr) (ml ld : Nat) (l : List Int) (seed at_ x : Int) (w : World) (hE : Env w) (hC : CameX w la m lc cs) (hD : CameX w lb ml ld l) (hsd : Rg seed) (ha : Rg at_) :
    Calls Tryz.prog 5 #[.slice la m lc, .int .i64 base, .int .i64 n, .slice lb ml ld, .int .i64 seed, .int .i64 at_, .int .i64 x] w fun e w' => e = .returned (.bool true) ∧ Kept (fun _ => False) w w' := by
  have hA := awake_any w hE
  have HC := hid hC
  have HD := hid hD
  have hm8 : m * 8 ≤ 140737488351232 := by have := hC.2; omega
  have hQ := fun W => rRoom_any n W
  have HLn := hid (listR_len cs base n)
  clear hE hC hD
  go_enter Tryz.func5, Tryz.ntmps5
  go_upto_region 2 with (go_at_call 9; refine hA.mono ?_; rintro e w1 ⟨rfl, k1⟩; clear hA)
  have h2 := Copied_any la m lc cs w1 (HC.out.kept k1).1 (by omega)
  go_upto_region 3 with (go_at_call 16; refine h2.mono ?_; rintro e w2 ⟨vo, rfl, s2⟩)
  have s2' := s2.base k1
  obtain ⟨lo, co, rfl⟩ := own_slice (s2.get 0 rfl : w2.ownsRow 0 2 1 vo m (xC cs))
  have hmc : m = cs.length := HC.out.1.1
  have hxo : XIn w2 lo m cs ∧ m ≤ co := by
    obtain ⟨la', lc', e, hx, hle, _⟩ := own_xin (show w2.ownsRow 0 2 1 (.slice lo m co) cs.length (xC cs) by rw [← hmc]; exact s2.get 0 rfl)
    simp only [Value.slice.injEq] at e
    obtain ⟨rfl, _, rfl⟩ := e
    rw [← hmc] at hx
    exact ⟨hx, by omega⟩
  have HXO := hid hxo
  have HS2 := hid s2'
  have h3 := (Read_any lo m co cs base n w2 hxo.1 hxo.2 (by omega)).mono (fun e w' h => read_out h)
  clear h2 s2 s2' hxo hmc k1
  have HR2 : Hid (∀ W, XIn W la m cs → Calls Tryz.prog 18 #[.slice la m lc, .int .i64 base, .int .i64 n] W fun e w' => ∃ la lc, e = .returned (.tuple #[.slice la (listR cs base n).length lc, .int .i64 (codeR cs base n)]) ∧ St W [lstI (.slice la (listR cs base n).length lc) (listR cs base n)] w') := hid (fun W hx => (rRead_any la m lc cs base n W hx HC.out.2.1 (by omega)).mono (fun e w' h => read_out h))
  generalize listR cs base n = L at *
  generalize codeR cs base n = cd0 at *
  go_upto_region 4 with (go_at_call 17; refine h3.mono ?_; rintro e w3 ⟨la3, lc3, rfl, s3⟩)
  have h4 := HR2.out w3 ((HC.out.kept HS2.out.same).kept s3.same).1
  have HS3 := hid s3
  clear h3 s3 HR2
  go_upto_region 5 with (go_at_call 18; refine h4.mono ?_; rintro e w4 ⟨la4, lc4, rfl, s4⟩)
  have q1 := same_any la3 la4 L.length L.length lc3 lc4 L L ((lst_xin HS3.out).kept s4.same) (lst_xin s4) (by have := HLn.out; omega)
  rw [decide_eq_true rfl] at q1
  have K4 := (HS3.out.same).trans s4.same (fun _ _ f => f)
  clear h4 s4 HS3
  go_upto_region 6 with (go_at_call 13; refine q1.mono ?_; rintro e w5 ⟨rfl, k5⟩)
  have K5 := K4.trans k5 (fun _ _ f => f)
  have q2 := same_any lo la m m co lc cs cs (HXO.out.1.kept K5) ((HC.out.kept HS2.out.same).kept K5).1 (by omega)
  rw [decide_eq_true rfl] at q2
  have KW := HS2.out.same.trans K5 (fun _ _ f => f)
  clear q1 K4 k5
  go_upto_region 9 with (go_at_call 13; refine q2.mono ?_; rintro e w6 ⟨rfl, k6⟩)
  have HK6 := hid (KW.trans k6 (fun _ _ f => f))
  clear q2 k6 KW K5 HXO HS2 HLn
  by_cases hr : roomS n = 0
  · have tz : (roomS n == 0) = true := by simp [hr]
    generalize roomS n = r at *
    clear hr
    go_wp2_with (go_at_call 12; refine (hQ _).mono ?_; rintro e w' ⟨rfl, rfl⟩)
    go_ret
    exact ⟨rfl, HK6.out⟩
  · have hr0 : 0 < roomS n := by
      have : 0 ≤ roomS n := by exact (roomS_le n).1
      omega
    obtain ⟨hn1, hn2, hn3⟩ := roomS_pos hr0
    have tz : (roomS n == 0) = false := by simpa using hr
    generalize roomS n = r at *
    have hMay : (ml : Int) ≤ n ∨ n < (ml : Int) := by omega
    clear hr hr0 hn3
    rcases hMay with hle | hgt
    · have tg : decide (n < (ml : Int)) = false := decide_eq_false (by omega)
      obtain ⟨k, rfl⟩ : ∃ k : Nat, n = (k : Int) := ⟨n.toNat, by omega⟩
      have tg2 : decide (k < ml) = false := decide_eq_false (by omega)
      have hL := Lay_any lb ml ld l k seed w6 (HD.out.kept HK6.out).1 (by omega) (by omega) (by omega) hsd.1 hsd.2
      go_upto_region 12 with (first | (go_at_call 12; refine (hQ _).mono ?_; rintro e w' ⟨rfl, rfl⟩) | (go_at_call 19; refine hL.mono ?_; rintro e w7 ⟨gc, zs7, rfl, hA7, -, s7⟩))
      have hk0 : 0 < k := by omega
      have hk60 : k ≤ 60 := by omega
      have HS7 : Hid (St w [rowI gc (3 + 2 * k) (3 + 2 * k) zs7] w7) := s7.base HK6.out
      have HPick : Hid (∀ W, Calls Tryz.prog 20 #[.int .i64 at_, .int .i64 ((3 + 2 * k : Nat) : Int)] W fun e w' => (∃ q : Nat, q < 3 + 2 * k ∧ e = .returned (.int .i64 q)) ∧ w' = W) := fun W => pick_any at_ (3 + 2 * k) W (by omega) (by omega) ha.1 ha.2
      clear hL s7 hA7 tz tg tg2 hle hn1 hn2 hQ
      have hN : 3 + 2 * k ≤ 123 := by omega
      have hN0 : 0 < 3 + 2 * k := by omega
      generalize 3 + 2 * k = N at *
      go_wp2
      go_loopw [24] (fun i wr => ∃ (j : Nat) (ys : List Int), i = .int .i64 j ∧ j ≤ 2 ∧ St w [rowI gc N N ys] wr) (fun i _ => 2 - (intOf i).toNat)
      case atStart => exact ⟨0, _, rfl, by omega, HS7.out⟩
      case round =>
        clear HS7
        obtain ⟨j, ys, rfl, hj, hst⟩ := hrel
        by_cases hlt : j < 2
        · have h1 : (j : Int) < 2 := by omega
          have hyl : N = ys.length := row_len hst
          have HYL := hid hyl
          have HLn := hid (listR_len ys 0 (k : Int))
          have p1 := Copied_any (some ⟨gc, 0, none⟩) N N ys wr (row_xin hst) (by omega)
          have HST := hid hst
          clear hst hyl
          go_upto_region 16 with (go_at_call 16; refine p1.mono ?_; rintro e wa ⟨vd, rfl, sa⟩)
          obtain ⟨gd, cd, rfl⟩ := sa.form 0 rfl (by omega)
          have hsa := HST.out.calm sa.same
          have p2 := (Read_any (some ⟨gc, 0, none⟩) N N ys 0 (k : Int) wa (row_xin hsa) (Nat.le_refl _) (by omega)).mono (fun e w' h => read_out h)
          have sA : St w [rowI gd N cd ys, rowI gc N N ys] wa := HST.out.join sa
          have HSA := hid sA
          have HR2 : Hid (∀ W, XIn W (some ⟨gc, 0, none⟩) N ys → Calls Tryz.prog 18 #[.slice (some ⟨gc, 0, none⟩) N N, .int .i64 0, .int .i64 (k : Int)] W fun e w' => ∃ la lc, e = .returned (.tuple #[.slice la (listR ys 0 (k : Int)).length lc, .int .i64 (codeR ys 0 (k : Int))]) ∧ St W [lstI (.slice la (listR ys 0 (k : Int)).length lc) (listR ys 0 (k : Int))] w') := hid (fun W hx => (rRead_any (some ⟨gc, 0, none⟩) N N ys 0 (k : Int) W hx (Nat.le_refl _) (by omega)).mono (fun e w' h => read_out h))
          generalize listR ys 0 (k : Int) = L2 at *
          generalize codeR ys 0 (k : Int) = cd2 at *
          clear p1 sa hsa sA HST
          go_upto_region 17 with (go_at_call 17; refine p2.mono ?_; rintro e wb ⟨ge, ce, rfl, sb⟩)
          have sB : St w [lstI (.slice ge L2.length ce) L2, rowI gd N cd ys, rowI gc N N ys] wb := HSA.out.join sb
          have hxc : ∀ {R : List It} {W : World}, St w R W → R[2]? = some (rowI gc N N ys) → XIn W (some ⟨gc, 0, none⟩) N ys := fun hs hi => ⟨HYL.out, fun _ => ⟨gc, 0, rfl, fun q hq => by rw [Nat.zero_add, hs.ownCell 2 hi q (by omega)]; exact xC_at ys q (by have := HYL.out; omega)⟩⟩
          have p3 := HR2.out wb (hxc sB rfl)
          have HSB := hid sB
          clear p2 sb sB hxc HR2 HSA
          go_upto_region 18 with (go_at_call 18; refine p3.mono ?_; rintro e wd ⟨gf, cf, rfl, sd⟩)
          have sB2 := HSB.out.calm sd.same
          have p4 := same_any ge gf L2.length L2.length ce cf L2 L2 (lst_xin sB2) (lst_xin sd) (by have := HLn.out; omega)
          rw [decide_eq_true rfl] at p4
          have HSB2 := hid sB2
          clear p3 sd sB2 HSB
          go_upto_region 21 with (go_at_call 13; refine p4.mono ?_; rintro e wf ⟨rfl, kf⟩)
          have HSF := hid (HSB2.out.calm kf)
          have hl60 : L2.length ≤ 60 := HLn.out
          clear p4 kf HSB2 HLn
          have HSF2 : Hid (∃ zz : List Int, St w [ownI 2 1 (.slice ge L2.length ce) L2.length (xC zz), rowI gd N cd ys, rowI gc N N ys] wf) := hid ⟨_, HSF.out⟩
          clear HSF
          generalize L2.length = ll at *
          go_wp2
          go_loopw [31] (fun i wr2 => ∃ (q : Nat) (zs : List Int), i = .int .i64 q ∧ q ≤ ll ∧ St w [ownI 2 1 (.slice ge ll ce) ll (xC zs), rowI gd N cd ys, rowI gc N N ys] wr2) (fun i _ => ll - (intOf i).toNat)
          case atStart => obtain ⟨zz, hz⟩ := HSF2.out; exact ⟨0, zz, rfl, Nat.zero_le _, hz⟩
          case round =>
            clear HSF2
            obtain ⟨q, zs, rfl, hq, hs2⟩ := hrel
            by_cases hlq : q < ll
            · obtain ⟨gv, cv, e⟩ := hs2.form 0 rfl (by omega)
              simp only [Value.slice.injEq, true_and] at e
              obtain ⟨rfl, rfl⟩ := e
              have c1 := row_cell hs2 hlq
              have f1 := row_frozen hs2 q
              have g0 : (0 : Int) ≤ (q : Int) := Int.natCast_nonneg _
              have g1 : (q : Int) < (ll : Int) := by omega
              have HT := hid (row_set hs2 hlq (-777))
              clear hs2
              generalize zs.getD q 0 = zq at *
              go_wp2
              go_roundw
              case rel => exact ⟨q + 1, _, by simp, by omega, HT.out⟩
              case measure => simp [intOf]; omega
            · have g1 : ¬ (q : Int) < (ll : Int) := by omega
              have hs3 := hs2.pop
              have p5 := same_any (some ⟨gc, 0, none⟩) (some ⟨gd, 0, none⟩) N N N cd ys ys (row_xin (hs3.perm (List.Perm.swap _ _ _))) (row_xin hs3) (by omega)
              rw [decide_eq_true rfl] at p5
              have HS3' := hid hs3
              clear hs2 hs3
              go_upto_region 28 with (go_at_call 13; refine p5.mono ?_; rintro e wg ⟨rfl, kg⟩)
              have sg := (HS3'.out.calm kg).pop
              clear p5 kg HS3'
              have HRW : Hid (∀ q', q' < N → wg.cell? ⟨gc, q', none⟩ = some (.int .i64 (ys.getD q' 0)) ∧ wg.frozen? ⟨gc, q', none⟩ = false ∧ wg.drew.cell? ⟨gc, q', none⟩ = some (.int .i64 (ys.getD q' 0)) ∧ wg.drew.frozen? ⟨gc, q', none⟩ = false ∧ St w [rowI gc N N (ys.set q' x)] (wg.setCell ⟨gc, q', none⟩ (.int .i64 x))) := fun q' hq' => ⟨row_cell sg hq', row_frozen sg q', row_cell sg.drew hq', row_frozen sg.drew q', row_set sg hq' x⟩
              clear sg
              go_wp2_with (go_at_call 20; refine (HPick.out _).mono ?_; rintro e w' ⟨⟨q', hq', rfl⟩, rfl⟩; obtain ⟨r1, r2, r3, r4, r5⟩ := HRW.out q' hq'; have R5 := hid r5; clear r5 HRW; have g2 : (0 : Int) ≤ (q' : Int) := Int.natCast_nonneg _; have g3 : (q' : Int) < (N : Int) := (by omega); generalize ys.getD q' 0 = zz at *)
              go_roundw
              case rel => exact ⟨j + 1, _, by simp, by omega, R5.out⟩
              case measure => simp [intOf]; omega
        · have h1 : ¬ (j : Int) < 2 := by omega
          have HK := hid hst.same
          clear hst
          go_wp2
          go_ret
          exact ⟨rfl, HK.out⟩
    · have tg : decide (n < (ml : Int)) = true := decide_eq_true hgt
      go_wp2_with (go_at_call 12; refine (hQ _).mono ?_; rintro e w' ⟨rfl, rfl⟩)
      go_ret
      exact ⟨rfl, HK6.out⟩
end Go.Proofs.YtdfefjalamohjaaGreatDoor
