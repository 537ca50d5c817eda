/- TxWaits, step by step. -/
import Derived.Test.YtnchfomoaonbkaaGreatTxX
import Derived.OrdersHeld
namespace Go.Proofs.YtnchfomoaonbkaaGreat
open Go.RowKit
set_option linter.unusedVariables false
set_option linter.unusedSimpArgs false
attribute [local go_sem ↓] Go.wp_at_zero Go.wp_at_succ
set_option maxRecDepth 100000 in
set_option maxHeartbeats 4000000 in
theorem waits_any (c : Cfg) {la : Option Addr} {n lc : Nat} {zs : List Int} {sa : Option Addr} {sn sc : Nat} {f : Nat → MwD} (w : World) (hl : NumsIn w la n zs) (hn : n ≤ 17592186044416) (hm : MwsAt w sa sn f) (hs : sn ≤ 1048576) :
    Calls Tryz.prog 5 #[c.val, .slice la n lc, .slice sa sn sc] w fun e w' => e = .returned (.bool true) ∧ Kept (fun _ => False) w w' := by
  have h0 := (St.nil w).box #[.int .i64 c.ce, .int .i64 c.sl, .int .i64 c.bi, .int .i64 c.ta, .int .i64 c.ba, .int .i64 c.de] 23
  have HL := hid hl
  have HM := hid hm
  have HC : Hid (∀ W, Calls Tryz.prog 30 #[.agg #[.int .i64 c.ce, .int .i64 c.sl, .int .i64 c.bi, .int .i64 c.ta, .int .i64 c.ba, .int .i64 c.de]] W fun e w' => e = .returned (.int .i64 (if c.fits then 0 else 1)) ∧ Kept (fun _ => False) W w') := fun W => check_any c W
  have HO : Hid (∀ W, c.fits = false → Calls Tryz.prog 29 #[.agg #[.int .i64 c.ce, .int .i64 c.sl, .int .i64 c.bi, .int .i64 c.ta, .int .i64 c.ba, .int .i64 c.de], .slice la n lc] W fun e w' => e = .returned (.tuple #[.pointer none, .bool false]) ∧ Kept (fun _ => False) W w') := fun W hf => gMeet_out c hf _ W
  have HE : Hid (∀ W, Kept (fun _ => False) w W → c.fits = true → Calls Tryz.prog 29 #[.agg #[.int .i64 c.ce, .int .i64 c.sl, .int .i64 c.bi, .int .i64 c.ta, .int .i64 c.ba, .int .i64 c.de], .slice la n lc] W fun e w' => ∃ G A Ps v u, e = .returned (.tuple #[.pointer (some ⟨G, 0, none⟩), .bool true]) ∧ St W (gpL c A G Ps (Gp.new c zs) v u) w') := fun W k hf => gMeet_st c hf W (hl.kept k) hn
  unfold Cfg.val
  clear hl hm
  have h1 := up_any (w.alloc (.cells #[.int .i64 c.ce, .int .i64 c.sl, .int .i64 c.bi, .int .i64 c.ta, .int .i64 c.ba, .int .i64 c.de] 23))
  go_enter Tryz.func5, Tryz.ntmps5
  go_upto_region 1 with fail
  generalize w.alloc (.cells #[.int .i64 c.ce, .int .i64 c.sl, .int .i64 c.bi, .int .i64 c.ta, .int .i64 c.ba, .int .i64 c.de] 23) = W0 at *
  generalize w.heap.size = M at *
  go_wp2_with fail
  refine h1.mono ?_
  rintro e w1 ⟨rfl, k1⟩
  have s1 := h0.calm k1
  clear h1 h0 k1
  have c0 : w1.cell? ⟨M, 0, none⟩ = some (.int .i64 c.ce) := s1.cell 0 rfl 0
  have c1 : w1.cell? ⟨M, 1, none⟩ = some (.int .i64 c.sl) := s1.cell 0 rfl 1
  have c2 : w1.cell? ⟨M, 2, none⟩ = some (.int .i64 c.bi) := s1.cell 0 rfl 2
  have c3 : w1.cell? ⟨M, 3, none⟩ = some (.int .i64 c.ta) := s1.cell 0 rfl 3
  have c4 : w1.cell? ⟨M, 4, none⟩ = some (.int .i64 c.ba) := s1.cell 0 rfl 4
  have c5 : w1.cell? ⟨M, 5, none⟩ = some (.int .i64 c.de) := s1.cell 0 rfl 5
  have HS1 := hid s1
  cases hf : c.fits with
  | false =>
    have hq := HO.out w1 hf
    have HC2 : Hid (∀ W, Calls Tryz.prog 30 #[.agg #[.int .i64 c.ce, .int .i64 c.sl, .int .i64 c.bi, .int .i64 c.ta, .int .i64 c.ba, .int .i64 c.de]] W fun e w' => e = .returned (.int .i64 1) ∧ Kept (fun _ => False) W w') := by
      have := HC.out
      rw [hf] at this
      exact this
    clear HO HE HC HL HM s1
    go_wp2_with fail
    refine hq.mono ?_
    rintro e w2 ⟨rfl, k2⟩
    have s2 := HS1.out.calm k2
    clear hq k2 c0 c1 c2 c3 c4 c5 HS1
    have c0 : w2.cell? ⟨M, 0, none⟩ = some (.int .i64 c.ce) := s2.cell 0 rfl 0
    have c1 : w2.cell? ⟨M, 1, none⟩ = some (.int .i64 c.sl) := s2.cell 0 rfl 1
    have c2 : w2.cell? ⟨M, 2, none⟩ = some (.int .i64 c.bi) := s2.cell 0 rfl 2
    have c3 : w2.cell? ⟨M, 3, none⟩ = some (.int .i64 c.ta) := s2.cell 0 rfl 3
    have c4 : w2.cell? ⟨M, 4, none⟩ = some (.int .i64 c.ba) := s2.cell 0 rfl 4
    have c5 : w2.cell? ⟨M, 5, none⟩ = some (.int .i64 c.de) := s2.cell 0 rfl 5
    have hq := HC2.out w2
    have HS2 := hid s2
    clear s2 HC2
    go_wp2_with fail
    refine hq.mono ?_
    rintro e w3 ⟨rfl, k3⟩
    have HK := hid (HS2.out.calm k3).same
    clear hq k3 HS2 c0 c1 c2 c3 c4 c5
    go_wp2
    go_ret
    exact ⟨rfl, HK.out⟩
  | true =>
    have hq := HE.out w1 s1.same hf
    have HF := hid hf
    clear HO HE HC HL s1 hf
    go_wp2_with fail
    refine hq.mono ?_
    rintro e w2 ⟨G, A, Ps0, v0, u0, rfl, s2⟩
    have HG0 : Hid (∃ Ps, (∀ j, (Ps j).T = (Ps0 j).T) ∧ GQ w c A G Ps (gsq c zs f 0) [boxI M #[.int .i64 c.ce, .int .i64 c.sl, .int .i64 c.bi, .int .i64 c.ta, .int .i64 c.ba, .int .i64 c.de] 23] w2) := ⟨Ps0, fun _ => rfl, v0, u0, fun j y e => (by cases e), HS1.out.addAll s2⟩
    have HT : Hid (∃ Ts : Nat → Nat, ∀ j, Ts j = (Ps0 j).T) := ⟨_, fun _ => rfl⟩
    obtain ⟨Ts, hTs⟩ := HT.out
    have HGQ : Hid (∃ Ps, (∀ j, (Ps j).T = Ts j) ∧ GQ w c A G Ps (gsq c zs f 0) [boxI M #[.int .i64 c.ce, .int .i64 c.sl, .int .i64 c.bi, .int .i64 c.ta, .int .i64 c.ba, .int .i64 c.de] 23] w2) := by
      obtain ⟨Ps, h1, h2⟩ := HG0.out
      exact ⟨Ps, fun j => (h1 j).trans (hTs j).symm, h2⟩
    clear hq s2 HS1 c0 c1 c2 c3 c4 c5 HG0 HT hTs

    go_wp2_with fail
    go_loopw [10, 11, 12, 13, 14, 15, 16, 36, 37, 38, 39, 40, 41, 42, 43, 44, 45, 46, 47, 48, 49, 50, 51, 52, 53, 54, 55, 56, 57, 58, 59, 60, 61, 62, 63, 64, 65, 66, 67, 68, 69, 70, 71, 72, 73, 74, 75, 76, 77, 78, 79, 80, 81, 82, 83, 84, 85, 86, 87, 88, 89, 90, 91, 92, 93, 94, 95, 96, 97, 98, 99, 100, 101, 102, 103, 104, 105, 106, 107, 108, 109, 110, 111, 112, 113, 114, 115, 116, 117, 118, 119, 120, 121, 122, 123, 124, 125, 126, 127, 128, 129, 130, 131, 132, 133, 134, 135, 136, 137, 138, 139, 140, 141, 142, 143, 144, 145, 146, 147, 148, 149, 150] (fun i _ _ _ _ _ _ _ _ _ _ _ _ _ _ _ _ _ _ _ _ _ _ _ _ _ _ _ _ _ _ _ _ _ _ _ _ _ _ _ _ _ _ _ _ _ _ _ _ _ _ _ _ _ _ _ _ _ _ _ _ _ _ _ _ _ _ _ _ _ _ _ _ _ _ _ _ _ _ _ _ _ _ _ _ _ _ _ _ _ _ _ _ _ _ _ _ _ _ _ _ _ _ _ _ _ _ _ _ _ _ _ _ _ _ _ _ _ _ _ _ _ wr => ∃ j : Nat, i = .int .i64 j ∧ j ≤ sn ∧ Hid (∃ Ps, (∀ j, (Ps j).T = Ts j) ∧ GQ w c A G Ps (gsq c zs f j) [boxI M #[.int .i64 c.ce, .int .i64 c.sl, .int .i64 c.bi, .int .i64 c.ta, .int .i64 c.ba, .int .i64 c.de] 23] wr)) (fun i _ _ _ _ _ _ _ _ _ _ _ _ _ _ _ _ _ _ _ _ _ _ _ _ _ _ _ _ _ _ _ _ _ _ _ _ _ _ _ _ _ _ _ _ _ _ _ _ _ _ _ _ _ _ _ _ _ _ _ _ _ _ _ _ _ _ _ _ _ _ _ _ _ _ _ _ _ _ _ _ _ _ _ _ _ _ _ _ _ _ _ _ _ _ _ _ _ _ _ _ _ _ _ _ _ _ _ _ _ _ _ _ _ _ _ _ _ _ _ _ _ _ => sn - (intOf i).toNat)
    case atStart => exact ⟨0, rfl, Nat.zero_le _, HGQ⟩
    case round =>
      clear HGQ
      obtain ⟨j, rfl, hj, HR⟩ := hrel
      obtain ⟨Ps, hT, gq⟩ := HR.out
      by_cases hlt : j < sn
      · have h1 : (j : Int) < (sn : Int) := by omega
        have h2 : (0 : Int) ≤ (j : Int) := by omega
        obtain ⟨b, off, rfl, hMw⟩ : ∃ b off, sa = some ⟨b, off, none⟩ ∧ ∀ i, i < sn → MwAt w b (off + i * 5) (f i) := by
          rcases HM.out with h | h
          · omega
          · exact h
        have HMW := hid hMw
        have HGt := hid ((gsq_gate HF.out zs f j).goes (gsq_ok HF.out zs f j) (f j).mv)
        have HOk : Hid (∃ n, n ≤ 800000000 ∧ (gsq c zs f j).ok c n) := ⟨_, by omega, gsq_ok HF.out zs f j⟩
        have HGk := hid (gsq_ok HF.out zs f j).z.gk
        have HGn : Hid (0 ≤ (gsq c zs f j).z.x.n ∧ (gsq c zs f j).z.x.n ≤ 800000000) := ⟨(gsq_ok HF.out zs f j).z.g0, by have := (gsq_ok HF.out zs f j).z.g1; omega⟩
        have HNext : Hid (∀ W Ps, (∀ j, (Ps j).T = Ts j) → GQ w c A G Ps ((gsq c zs f j).goes c (f j).mv) [boxI M #[.int .i64 c.ce, .int .i64 c.sl, .int .i64 c.bi, .int .i64 c.ta, .int .i64 c.ba, .int .i64 c.de] 23] W → Hid (∃ Ps, (∀ j, (Ps j).T = Ts j) ∧ GQ w c A G Ps (gsq c zs f (j + 1)) [boxI M #[.int .i64 c.ce, .int .i64 c.sl, .int .i64 c.bi, .int .i64 c.ta, .int .i64 c.ba, .int .i64 c.de] 23] W)) := fun W Ps h1 h2 => ⟨Ps, h1, h2⟩
        generalize gsq c zs f j = g at *
        have hMj := HMW.out j hlt
        generalize f j = d at *
        clear hMw
        obtain ⟨dth, dkd, dn, dce, dx⟩ := d
        obtain ⟨m, hmv⟩ : ∃ m : Mv, m = MwD.mv ⟨dth, dkd, dn, dce, dx⟩ := ⟨_, rfl⟩
        rw [← hmv] at HGt HNext
        have hkk : dth % 4 = ((m.k : Nat) : Int) := by rw [hmv]; show dth % 4 = ((dth % 4).toNat : Int); omega
        have HMV := hid hmv
        clear hmv
        have hk4 := m.k_lt
        have k4 : ((m.k : Nat) : Int) < 4 := by omega
        have k0 : (0 : Int) ≤ ((m.k : Nat) : Int) := by omega
        generalize m.k = k at *
        have hand := and3 dth
        rw [hkk] at hand
        have e0 : wr.cell? ⟨b, off + j * 5, none⟩ = some (.int .i64 dth) := (hMj.kept gq.same).c0
        have g0 : wr.cell? ⟨G, 0, none⟩ = some (.pointer (some ⟨A.sp, 0, none⟩)) := gq.sp
        have hgt := gq.gate
        have hnw := gq.now
        obtain ⟨GN, hGN⟩ : ∃ y, y = g.z.x.n := ⟨_, rfl⟩
        obtain ⟨GO, hGO⟩ : ∃ y, y = g.z.x.o := ⟨_, rfl⟩
        rw [← hGN, ← hGO] at hnw HGt
        rw [← hGN, ← hGO] at HGk
        rw [← hGN] at HGn
        obtain ⟨gn0, gn1⟩ := HGn.out
        clear hGN hGO gq
        go_wp2_with (first | (go_at_call 33; refine hgt.mono ?_; rintro e wq ⟨rfl, rfl⟩))
        refine hnw.mono ?_
        rintro e w4 ⟨rfl, gq4⟩
        clear hnw hgt e0 g0
        have gq5 := gq4.box #[.int .i64 GN, .int .i64 GO] 81
        clear gq4 HR
        go_upto_region 10 with fail
        generalize w4.alloc (.cells #[.int .i64 GN, .int .i64 GO] 81) = w5 at *
        generalize w4.heap.size = GB at *
        have hdf := gq5.defers hk4
        have t1 : w5.cell? ⟨G, 1 + k, none⟩ = some (.pointer (some ⟨Ts k, 0, none⟩)) := by rw [← hT k]; exact gq5.t hk4
        rw [hT k] at hdf
        have f0 := (hMj.kept gq5.same).c0
        have f1 := (hMj.kept gq5.same).c1
        have f2 := (hMj.kept gq5.same).c2
        have f3 := (hMj.kept gq5.same).c3
        have f4 := (hMj.kept gq5.same).c4
        simp only at f0 f1 f2 f3 f4
        obtain ⟨df0, hdf0⟩ : ∃ y, y = (g.ts k).df := ⟨_, rfl⟩
        rw [← hdf0] at hdf HGt
        obtain ⟨nn, hnn, hok⟩ := HOk.out
        have hgo := gq5.goes hok hnn m
        rw [show #[Value.int .i64 m.th, .int .i64 m.kd, .int .i64 m.n, .int .i64 m.ce, .int .i64 m.x] = #[.int .i64 dth, .int .i64 dkd, .int .i64 dn, .int .i64 dce, .int .i64 dx] by rw [HMV.out]; rfl] at hgo
        obtain ⟨g', hg'⟩ : ∃ y, y = g.goes c m := ⟨_, rfl⟩
        rw [← hg'] at hgo HGt HNext
        generalize g.ans c m = AN at *
        clear hg' hdf0 gq5 HOk hok
        go_wp2_with (first | (go_at_call 35; refine hdf.mono ?_; rintro e wq ⟨rfl, rfl⟩))
        refine hgo.mono ?_
        rintro e w6 ⟨rfl, Ps6, hT6, gq6⟩
        clear hgo hdf t1 f0 f1 f2 f3 f4
        have hT7 : ∀ j, (Ps6 j).T = Ts j := fun j => (hT6 j).trans (hT j)
        clear hT6 hT
        have H9 := HNext.out w6 Ps6 hT7 gq6.pop
        have t1 : w6.cell? ⟨G, 1 + k, none⟩ = some (.pointer (some ⟨Ts k, 0, none⟩)) := by rw [← hT7 k]; exact gq6.t hk4
        have hdf := gq6.defers hk4
        rw [hT7 k] at hdf
        have x0 : w6.cell? ⟨GB, 0, none⟩ = some (.int .i64 GN) := gq6.cell 0 rfl 0
        have x1 : w6.cell? ⟨GB, 1, none⟩ = some (.int .i64 GO) := gq6.cell 0 rfl 1
        have y3 : w6.cell? ⟨M, 3, none⟩ = some (.int .i64 c.ta) := gq6.cell 1 rfl 3
        have y5 : w6.cell? ⟨M, 5, none⟩ = some (.int .i64 c.de) := gq6.cell 1 rfl 5
        have g0 : w6.cell? ⟨G, 0, none⟩ = some (.pointer (some ⟨A.sp, 0, none⟩)) := gq6.sp
        have g1 : w6.cell? ⟨A.sp, 0, none⟩ = some (.pointer (some ⟨A.m, 0, none⟩)) := gq6.met
        have hdone := gq6.done
        have HPH := hid gq6
        obtain ⟨-, hW, hD, hdn⟩ := HGt.out
        obtain ⟨df1, hdf1⟩ : ∃ y, y = (g'.ts k).df := ⟨_, rfl⟩
        rw [← hdf1] at hdf hD hW
        obtain ⟨DN, hDN⟩ : ∃ y, y = g'.z.s.dn := ⟨_, rfl⟩
        rw [← hDN] at hdone hdn
        have HDN := hid hDN
        have HDF1 := hid hdf1
        clear hDN
        have dn1 : ¬ 1 < DN := by omega
        clear HGt hdf1 gq6 hdn
        by_cases hA : AN = 2
        · rcases hW hA with ⟨q1, q2⟩ | ⟨q1, q2, q3, q4, q5⟩
          · have b1 : (GN % 2 == 0) = false := by simp; omega
            have b2 : (GO == (k : Int) + 1) = false := by simpa using q2
            clear hW q1 q2 HPH
            subst hA
            go_upto_region 17 with (first | (go_at_call 35; refine hdf.mono ?_; rintro e wq ⟨rfl, rfl⟩))
            clear hdf t1 x0 x1
            rcases hD with hD | hD
            · have d1 : ¬ df0 < df1 := by omega
              go_wp2_with (first | (go_at_call 21; refine hdone.mono ?_; rintro e wd ⟨rfl, rfl⟩))
              clear hdone
              go_wp2_with fail
              go_roundw
              case rel => exact ⟨j + 1, by go_num, by omega, H9⟩
              case measure => simp [intOf]; omega
            · by_cases d1 : df0 < df1
              · have e2 : (c.ta != 2) = false := by simp [hD]
                clear hD
                go_wp2_with (first | (go_at_call 21; refine hdone.mono ?_; rintro e wd ⟨rfl, rfl⟩))
                clear hdone
                go_wp2_with fail
                go_roundw
                case rel => exact ⟨j + 1, by go_num, by omega, H9⟩
                case measure => simp [intOf]; omega
              · clear hD
                go_wp2_with (first | (go_at_call 21; refine hdone.mono ?_; rintro e wd ⟨rfl, rfl⟩))
                clear hdone
                go_wp2_with fail
                go_roundw
                case rel => exact ⟨j + 1, by go_num, by omega, H9⟩
                case measure => simp [intOf]; omega
          · have gm : GN % 2 = 1 := by
              rcases HGk.out with ⟨a, _⟩ | ⟨_, _, a⟩
              · omega
              · exact a
            have b1 : (GN % 2 == 0) = false := by simp; omega
            have b2 : (GO == (k : Int) + 1) = true := by simpa using q2
            have b3 : (c.ta != 2) = false := by simp [q1]
            have b4 : (GO != (k : Int) + 1) = false := by simp [q2]
            have b5 : (df1 == 0) = false := by simp; omega
            have b6 : ¬ c.de < df1 := by omega
            have hph := HPH.out.phase hk4
            rw [hT7 k, q3] at hph
            clear hW gm q1 q2 q3 q4 q5 HPH
            subst hA
            go_wp2_with (first | (go_at_call 35; refine hdf.mono ?_; rintro e wq ⟨rfl, rfl⟩))
            refine hph.mono ?_
            rintro e w7 ⟨rfl, gq7⟩
            clear hph hdf t1 x0 x1 y3 y5 g0 g1 hdone H9
            have t1 : w7.cell? ⟨G, 1 + k, none⟩ = some (.pointer (some ⟨Ts k, 0, none⟩)) := by rw [← hT7 k]; exact gq7.t hk4
            have hdq : ∀ q, Calls Tryz.prog 35 #[.pointer (some ⟨Ts k, 0, none⟩)] (w7.drewN q) fun e w' => e = .returned (.int .i64 df1) ∧ w' = w7.drewN q := by
              intro q
              have := (gq7.calm ((Kept.refl _ w7).drewN q)).defers hk4
              rw [hT7 k, ← HDF1.out] at this
              exact this
            have x1 : w7.cell? ⟨GB, 1, none⟩ = some (.int .i64 GO) := gq7.cell 0 rfl 1
            have y3 : w7.cell? ⟨M, 3, none⟩ = some (.int .i64 c.ta) := gq7.cell 1 rfl 3
            have y5 : w7.cell? ⟨M, 5, none⟩ = some (.int .i64 c.de) := gq7.cell 1 rfl 5
            have HG7 := hid gq7
            clear gq7
            go_upto_region 15 with fail
            go_quiet (first | (go_at_call 35; exact Calls.quiet_of_same (hdq _)))
            have gq8 := HG7.out.calm ((Kept.refl _ w7).drewN nq)
            clear HG7 t1 hdq x1 y3 y5
            generalize w7.drewN nq = w8 at *
            have H9 := HNext.out w8 Ps6 hT7 gq8.pop
            have y3 : w8.cell? ⟨M, 3, none⟩ = some (.int .i64 c.ta) := gq8.cell 1 rfl 3
            have g0 : w8.cell? ⟨G, 0, none⟩ = some (.pointer (some ⟨A.sp, 0, none⟩)) := gq8.sp
            have g1 : w8.cell? ⟨A.sp, 0, none⟩ = some (.pointer (some ⟨A.m, 0, none⟩)) := gq8.met
            have hdone := gq8.done
            rw [← HDN.out] at hdone
            clear gq8 HNext
            go_upto_region 17 with fail
            rcases hD with hD | hD
            · have d1 : ¬ df0 < df1 := by omega
              go_wp2_with (first | (go_at_call 21; refine hdone.mono ?_; rintro e wd ⟨rfl, rfl⟩))
              clear hdone
              go_wp2_with fail
              go_roundw
              case rel => exact ⟨j + 1, by go_num, by omega, H9⟩
              case measure => simp [intOf]; omega
            · by_cases d1 : df0 < df1
              · have e2 : (c.ta != 2) = false := by simp [hD]
                clear hD
                go_wp2_with (first | (go_at_call 21; refine hdone.mono ?_; rintro e wd ⟨rfl, rfl⟩))
                clear hdone
                go_wp2_with fail
                go_roundw
                case rel => exact ⟨j + 1, by go_num, by omega, H9⟩
                case measure => simp [intOf]; omega
              · clear hD
                go_wp2_with (first | (go_at_call 21; refine hdone.mono ?_; rintro e wd ⟨rfl, rfl⟩))
                clear hdone
                go_wp2_with fail
                go_roundw
                case rel => exact ⟨j + 1, by go_num, by omega, H9⟩
                case measure => simp [intOf]; omega
        · have b1 : (AN == 2) = false := by simpa using hA
          clear hW hA HPH
          go_upto_region 17 with (first | (go_at_call 35; refine hdf.mono ?_; rintro e wq ⟨rfl, rfl⟩))
          clear hdf t1 x0 x1
          rcases hD with hD | hD
          · have d1 : ¬ df0 < df1 := by omega
            go_wp2_with (first | (go_at_call 21; refine hdone.mono ?_; rintro e wd ⟨rfl, rfl⟩))
            clear hdone
            go_wp2_with fail
            go_roundw
            case rel => exact ⟨j + 1, by go_num, by omega, H9⟩
            case measure => simp [intOf]; omega
          · by_cases d1 : df0 < df1
            · have e2 : (c.ta != 2) = false := by simp [hD]
              clear hD
              go_wp2_with (first | (go_at_call 21; refine hdone.mono ?_; rintro e wd ⟨rfl, rfl⟩))
              clear hdone
              go_wp2_with fail
              go_roundw
              case rel => exact ⟨j + 1, by go_num, by omega, H9⟩
              case measure => simp [intOf]; omega
            · clear hD
              go_wp2_with (first | (go_at_call 21; refine hdone.mono ?_; rintro e wd ⟨rfl, rfl⟩))
              clear hdone
              go_wp2_with fail
              go_roundw
              case rel => exact ⟨j + 1, by go_num, by omega, H9⟩
              case measure => simp [intOf]; omega
      · obtain rfl : j = sn := by omega
        have hmo := (gsq_gate HF.out zs f j).mo
        have hms := gq.most
        have g0 : wr.cell? ⟨G, 0, none⟩ = some (.pointer (some ⟨A.sp, 0, none⟩)) := gq.sp
        have g1 : wr.cell? ⟨A.sp, 0, none⟩ = some (.pointer (some ⟨A.m, 0, none⟩)) := gq.met
        have HK := hid gq.same
        generalize (gsq c zs f j).z.s.mo = MO at *
        clear gq HR HM
        go_wp2_with (first | (go_at_call 28; refine hms.mono ?_; rintro e wm ⟨rfl, rfl⟩))
        go_ret
        exact ⟨rfl, HK.out⟩
    end Go.Proofs.YtnchfomoaonbkaaGreat
