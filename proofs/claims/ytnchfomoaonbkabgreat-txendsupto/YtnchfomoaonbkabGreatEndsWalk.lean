/- TxEnds, step by step. -/
import Derived.Test.YtnchfomoaonbkabGreatTxEp
import Derived.OrdersHeld
namespace Go.Proofs.YtnchfomoaonbkabGreat
open Go.RowKit
set_option linter.unusedVariables false
set_option linter.unusedSimpArgs false
attribute [local go_sem ↓] Go.wp_at_zero Go.wp_at_succ
set_option maxRecDepth 100000 in
set_option maxHeartbeats 4000000 in
theorem ends_any (c : Cfg) {la : Option Addr} {n lc : Nat} {zs : List Int} {sa : Option Addr} {sn sc : Nat} {f : Nat → MwD} (w : World) (hl : NumsIn w la n zs) (hn : n ≤ 17592186044416) (hm : MwsAt w sa sn f) (hs : sn ≤ 1048576) :
    Calls Tryz.prog 7 #[c.val, .slice la n lc, .slice sa sn sc] w fun e w' => e = .returned (.bool true) ∧ Kept (fun _ => False) w w' := by
  have h0 := (St.nil w).box #[.int .i64 c.ce, .int .i64 c.sl, .int .i64 c.bi, .int .i64 c.ta, .int .i64 c.ba, .int .i64 c.de] 29
  have HL := hid hl
  have HM := hid hm
  have HC : Hid (∀ W, Calls Tryz.prog 19 #[.agg #[.int .i64 c.ce, .int .i64 c.sl, .int .i64 c.bi, .int .i64 c.ta, .int .i64 c.ba, .int .i64 c.de]] W fun e w' => e = .returned (.int .i64 (if c.fits then 0 else 1)) ∧ Kept (fun _ => False) W w') := fun W => check_any c W
  have HO : Hid (∀ W, c.fits = false → Calls Tryz.prog 9 #[.agg #[.int .i64 c.ce, .int .i64 c.sl, .int .i64 c.bi, .int .i64 c.ta, .int .i64 c.ba, .int .i64 c.de], .slice la n lc] W fun e w' => e = .returned (.tuple #[.pointer none, .bool false]) ∧ Kept (fun _ => False) W w') := fun W hf => gMeet_out c hf _ W
  have HE : Hid (∀ W, Kept (fun _ => False) w W → c.fits = true → Calls Tryz.prog 9 #[.agg #[.int .i64 c.ce, .int .i64 c.sl, .int .i64 c.bi, .int .i64 c.ta, .int .i64 c.ba, .int .i64 c.de], .slice la n lc] W fun e w' => ∃ G A Ps v u, e = .returned (.tuple #[.pointer (some ⟨G, 0, none⟩), .bool true]) ∧ St W (gpL c A G Ps (Gp.new c zs) v u) w') := fun W k hf => gMeet_st c hf W (hl.kept k) hn
  unfold Cfg.val
  clear hl hm
  have h1 := up_any (w.alloc (.cells #[.int .i64 c.ce, .int .i64 c.sl, .int .i64 c.bi, .int .i64 c.ta, .int .i64 c.ba, .int .i64 c.de] 29))
  go_enter Tryz.func7, Tryz.ntmps7
  go_upto_region 1 with fail
  generalize w.alloc (.cells #[.int .i64 c.ce, .int .i64 c.sl, .int .i64 c.bi, .int .i64 c.ta, .int .i64 c.ba, .int .i64 c.de] 29) = W0 at *
  generalize w.heap.size = M at *
  go_wp2_with fail
  refine h1.mono ?_
  rintro e w1 ⟨rfl, k1⟩
  have s1 := h0.calm k1
  clear h1 h0 k1
  have c0 : w1.cell? ⟨M, 0, none⟩ = some (.int .i64 c.ce) := s1.cell 0 rfl 0
  have c1 : w1.cell? ⟨M, 1, none⟩ = some (.int .i64 c.sl) := s1.cell 0 rfl 1
  have c2 : w1.cell? ⟨M, 2, none⟩ = some (.int .i64 c.bi) := s1.cell 0 rfl 2
  have c3 : w1.cell? ⟨M, 3, none⟩ = some (.int .i64 c.ta) := s1.cell 0 rfl 3
  have c4 : w1.cell? ⟨M, 4, none⟩ = some (.int .i64 c.ba) := s1.cell 0 rfl 4
  have c5 : w1.cell? ⟨M, 5, none⟩ = some (.int .i64 c.de) := s1.cell 0 rfl 5
  have HS1 := hid s1
  cases hf : c.fits with
  | false =>
    have hq := HO.out w1 hf
    have HC2 : Hid (∀ W, Calls Tryz.prog 19 #[.agg #[.int .i64 c.ce, .int .i64 c.sl, .int .i64 c.bi, .int .i64 c.ta, .int .i64 c.ba, .int .i64 c.de]] W fun e w' => e = .returned (.int .i64 1) ∧ Kept (fun _ => False) W w') := by
      have := HC.out
      rw [hf] at this
      exact this
    clear HO HE HC HL HM s1
    go_wp2_with fail
    refine hq.mono ?_
    rintro e w2 ⟨rfl, k2⟩
    have s2 := HS1.out.calm k2
    clear hq k2 c0 c1 c2 c3 c4 c5 HS1
    have c0 : w2.cell? ⟨M, 0, none⟩ = some (.int .i64 c.ce) := s2.cell 0 rfl 0
    have c1 : w2.cell? ⟨M, 1, none⟩ = some (.int .i64 c.sl) := s2.cell 0 rfl 1
    have c2 : w2.cell? ⟨M, 2, none⟩ = some (.int .i64 c.bi) := s2.cell 0 rfl 2
    have c3 : w2.cell? ⟨M, 3, none⟩ = some (.int .i64 c.ta) := s2.cell 0 rfl 3
    have c4 : w2.cell? ⟨M, 4, none⟩ = some (.int .i64 c.ba) := s2.cell 0 rfl 4
    have c5 : w2.cell? ⟨M, 5, none⟩ = some (.int .i64 c.de) := s2.cell 0 rfl 5
    have hq := HC2.out w2
    have HS2 := hid s2
    clear s2 HC2
    go_wp2_with fail
    refine hq.mono ?_
    rintro e w3 ⟨rfl, k3⟩
    have HK := hid (HS2.out.calm k3).same
    clear hq k3 HS2 c0 c1 c2 c3 c4 c5
    go_wp2
    go_ret
    exact ⟨rfl, HK.out⟩
  | true =>
    have hq := HE.out w1 s1.same hf
    have HF := hid hf
    clear HO HE HC HL s1 hf
    go_wp2_with fail
    refine hq.mono ?_
    rintro e w2 ⟨G, A, Ps0, v0, u0, rfl, s2⟩
    have HG0 : Hid (∃ Ps, (∀ j, (Ps j).T = (Ps0 j).T) ∧ GQ w c A G Ps (gsq c zs f 0) [boxI M #[.int .i64 c.ce, .int .i64 c.sl, .int .i64 c.bi, .int .i64 c.ta, .int .i64 c.ba, .int .i64 c.de] 29] w2) := ⟨Ps0, fun _ => rfl, v0, u0, fun j y e => (by cases e), HS1.out.addAll s2⟩
    have HT : Hid (∃ Ts : Nat → Nat, ∀ j, Ts j = (Ps0 j).T) := ⟨_, fun _ => rfl⟩
    obtain ⟨Ts, hTs⟩ := HT.out
    have HGQ : Hid (∃ Ps, (∀ j, (Ps j).T = Ts j) ∧ GQ w c A G Ps (gsq c zs f 0) [boxI M #[.int .i64 c.ce, .int .i64 c.sl, .int .i64 c.bi, .int .i64 c.ta, .int .i64 c.ba, .int .i64 c.de] 29] w2) := by
      obtain ⟨Ps, h1, h2⟩ := HG0.out
      exact ⟨Ps, fun j => (h1 j).trans (hTs j).symm, h2⟩
    clear hq s2 HS1 c0 c1 c2 c3 c4 c5 HG0 HT hTs

    go_wp2_with fail
    go_loopw [10, 33, 34, 35, 36, 37, 38, 39, 40, 41, 42, 43, 44] (fun i _ _ _ _ _ _ _ _ _ _ _ _ wr => ∃ j : Nat, i = .int .i64 j ∧ j ≤ sn ∧ Hid (∃ Ps, (∀ j, (Ps j).T = Ts j) ∧ GQ w c A G Ps (gsq c zs f j) [boxI M #[.int .i64 c.ce, .int .i64 c.sl, .int .i64 c.bi, .int .i64 c.ta, .int .i64 c.ba, .int .i64 c.de] 29] wr)) (fun i _ _ _ _ _ _ _ _ _ _ _ _ _ => sn - (intOf i).toNat)
    case atStart => exact ⟨0, rfl, Nat.zero_le _, HGQ⟩
    case round =>
      clear HGQ
      obtain ⟨j, rfl, hj, HR⟩ := hrel
      obtain ⟨Ps, hT, gq⟩ := HR.out
      by_cases hlt : j < sn
      · have h1 : (j : Int) < (sn : Int) := by omega
        have h2 : (0 : Int) ≤ (j : Int) := by omega
        obtain ⟨b, off, rfl, hMw⟩ : ∃ b off, sa = some ⟨b, off, none⟩ ∧ ∀ i, i < sn → MwAt w b (off + i * 5) (f i) := by
          rcases HM.out with h | h
          · omega
          · exact h
        have HMW := hid hMw
        have HOk : Hid (∃ n, n ≤ 800000000 ∧ (gsq c zs f j).ok c n) := ⟨_, by omega, gsq_ok HF.out zs f j⟩
        have HNext : Hid (∀ W Ps, (∀ j, (Ps j).T = Ts j) → GQ w c A G Ps ((gsq c zs f j).goes c (f j).mv) [boxI M #[.int .i64 c.ce, .int .i64 c.sl, .int .i64 c.bi, .int .i64 c.ta, .int .i64 c.ba, .int .i64 c.de] 29] W → Hid (∃ Ps, (∀ j, (Ps j).T = Ts j) ∧ GQ w c A G Ps (gsq c zs f (j + 1)) [boxI M #[.int .i64 c.ce, .int .i64 c.sl, .int .i64 c.bi, .int .i64 c.ta, .int .i64 c.ba, .int .i64 c.de] 29] W)) := fun W Ps h1 h2 => ⟨Ps, h1, h2⟩
        generalize gsq c zs f j = g at *
        have hMj := HMW.out j hlt
        generalize f j = d at *
        clear hMw
        obtain ⟨dth, dkd, dn, dce, dx⟩ := d
        obtain ⟨m, hmv⟩ : ∃ m : Mv, m = MwD.mv ⟨dth, dkd, dn, dce, dx⟩ := ⟨_, rfl⟩
        rw [← hmv] at HNext
        have HMV := hid hmv
        clear hmv
        have f0 := (hMj.kept gq.same).c0
        have f1 := (hMj.kept gq.same).c1
        have f2 := (hMj.kept gq.same).c2
        have f3 := (hMj.kept gq.same).c3
        have f4 := (hMj.kept gq.same).c4
        simp only at f0 f1 f2 f3 f4
        obtain ⟨nn, hnn, hok⟩ := HOk.out
        have hgo := gq.goes hok hnn m
        rw [show #[Value.int .i64 m.th, .int .i64 m.kd, .int .i64 m.n, .int .i64 m.ce, .int .i64 m.x] = #[.int .i64 dth, .int .i64 dkd, .int .i64 dn, .int .i64 dce, .int .i64 dx] by rw [HMV.out]; rfl] at hgo
        obtain ⟨g', hg'⟩ : ∃ y, y = g.goes c m := ⟨_, rfl⟩
        rw [← hg'] at hgo HNext
        generalize g.ans c m = AN at *
        clear hg' gq HR HOk hok
        go_wp2_with fail
        refine hgo.mono ?_
        rintro e w6 ⟨rfl, Ps6, hT6, gq6⟩
        clear hgo f0 f1 f2 f3 f4
        have H9 := HNext.out w6 Ps6 (fun j => (hT6 j).trans (hT j)) gq6
        clear hT6 hT gq6
        go_wp2_with fail
        go_roundw
        case rel => exact ⟨j + 1, by go_num, by omega, H9⟩
        case measure => simp [intOf]; omega
      · obtain rfl : j = sn := by omega
        obtain ⟨NN, hNN⟩ : ∃ y, y = 1 + 5 * j := ⟨_, rfl⟩
        have nn1 : NN ≤ 5242881 := by omega
        have HS : Hid ((gsq c zs f j).fin c NN ∧ (gsq c zs f j).pot + 0 ≤ 304 ∧ ∃ Ps, (∀ j, (Ps j).T = Ts j) ∧ GQ w c A G Ps (gsq c zs f j) [boxI M #[.int .i64 c.ce, .int .i64 c.sl, .int .i64 c.bi, .int .i64 c.ta, .int .i64 c.ba, .int .i64 c.de] 29] wr) := ⟨by rw [hNN]; exact gsq_fin HF.out zs f j, Gp.pot_le (gsq_ok HF.out zs f j), HR.out⟩
        clear HR gq hT HM hNN
        obtain ⟨wz, hwz⟩ : ∃ y, y = wr := ⟨_, rfl⟩
        subst hwz
        generalize gsq c zs f j = g0 at *
        go_wp2_with fail
        go_loopw [11, 12, 13, 45, 46, 47, 48, 49, 50, 51, 52, 53, 54, 55, 56, 57, 58, 59, 60, 61, 62, 63, 64, 65, 66, 67, 68, 69, 70, 71, 72, 73, 74, 75] (fun i _ _ _ _ _ _ _ _ _ _ _ _ _ _ _ _ _ _ _ _ _ _ _ _ _ _ _ _ _ _ _ _ _ wr => ∃ (r : Nat) (g : Gp), i = .int .i64 r ∧ r ≤ 400 ∧ Hid ((∃ q, q ≤ NN + 20 * r ∧ g.fin c q) ∧ g.pot + r ≤ 304 ∧ ∃ Ps, (∀ j, (Ps j).T = Ts j) ∧ GQ w c A G Ps g [boxI M #[.int .i64 c.ce, .int .i64 c.sl, .int .i64 c.bi, .int .i64 c.ta, .int .i64 c.ba, .int .i64 c.de] 29] wr)) (fun i _ _ _ _ _ _ _ _ _ _ _ _ _ _ _ _ _ _ _ _ _ _ _ _ _ _ _ _ _ _ _ _ _ _ => 400 - (intOf i).toNat)
        case atStart => exact ⟨0, g0, rfl, by omega, ⟨NN, by omega, HS.out.1⟩, HS.out.2⟩
        case round =>
          clear HS
          obtain ⟨r, g, rfl, hr, HR⟩ := hrel
          obtain ⟨⟨q, hq, hfin⟩, hpot, hgq⟩ := HR.out
          have hr4 : (r : Int) < 400 := by omega
          have HI : Hid (Inn c q g 0 g false ∧ ∃ Ps, (∀ j, (Ps j).T = Ts j) ∧ GQ w c A G Ps g [boxI M #[.int .i64 c.ce, .int .i64 c.sl, .int .i64 c.bi, .int .i64 c.ta, .int .i64 c.ba, .int .i64 c.de] 29] wr) := ⟨Inn.start hfin, hgq⟩
          have HP := hid hpot
          have HQq := hid hq
          have qq : q ≤ 6000000 := by omega
          clear HR hfin hpot hgq hq
          go_wp2_with fail
          go_loopw [13, 12, 49, 50, 51, 52, 53, 54, 55, 56, 57, 58, 59, 60, 61, 62, 63, 64] (fun i bv _ _ _ _ _ _ _ _ _ _ _ _ _ _ _ _ wr => ∃ (k : Nat) (g1 : Gp) (bs : Bool), i = .int .i64 k ∧ bv = .bool bs ∧ k ≤ 4 ∧ Hid (Inn c q g k g1 bs ∧ ∃ Ps, (∀ j, (Ps j).T = Ts j) ∧ GQ w c A G Ps g1 [boxI M #[.int .i64 c.ce, .int .i64 c.sl, .int .i64 c.bi, .int .i64 c.ta, .int .i64 c.ba, .int .i64 c.de] 29] wr)) (fun i bv _ _ _ _ _ _ _ _ _ _ _ _ _ _ _ _ _ => 4 - (intOf i).toNat)
          case atStart => exact ⟨0, g, false, rfl, rfl, by omega, HI⟩
          case round =>
            clear HI
            obtain ⟨k, g1, bs, rfl, rfl, hk, HR⟩ := hrel
            obtain ⟨hinn, Ps, hT, gq⟩ := HR.out
            by_cases hk4 : k < 4
            · have k4 : ((k : Nat) : Int) < 4 := by omega
              have k0 : (0 : Int) ≤ ((k : Nat) : Int) := by omega
              have t1 : wr.cell? ⟨G, 1 + k, none⟩ = some (.pointer (some ⟨Ts k, 0, none⟩)) := by rw [← hT k]; exact gq.t hk4
              have hph := gq.phase hk4
              rw [hT k] at hph
              clear HR gq
              by_cases hp : (g1.ts k).dg.phase = 0
              · have hin2 := hid (hinn.idle hp)
                rw [hp] at hph
                clear hp hinn
                go_wp2_with fail
                refine hph.mono ?_
                rintro e w6 ⟨rfl, gq6⟩
                have H9 : Hid (Inn c q g (k + 1) g1 bs ∧ ∃ Ps, (∀ j, (Ps j).T = Ts j) ∧ GQ w c A G Ps g1 [boxI M #[.int .i64 c.ce, .int .i64 c.sl, .int .i64 c.bi, .int .i64 c.ta, .int .i64 c.ba, .int .i64 c.de] 29] w6) := ⟨hin2.out, Ps, hT, gq6⟩
                clear hph t1 hin2 gq6 hT
                go_wp2_with fail
                go_roundw
                case rel => exact ⟨k + 1, g1, bs, by go_num, rfl, by omega, H9⟩
                case measure => simp [intOf]; omega
              · have HI2 := hid (hinn.goes hk4 hp ⟨(k : Int), 0, 6, 0, 0⟩ (Mv.k_of hk4) rfl)
                have b1 : ((g1.ts k).dg.phase != 0) = true := by simpa using hp
                have HOk : Hid (∃ n, n ≤ 800000000 ∧ g1.ok c n) := by
                  obtain ⟨x, hx, hf⟩ := hinn.fin
                  exact ⟨x, by omega, hf.ok⟩
                clear hp hinn
                go_wp2_with fail
                refine hph.mono ?_
                rintro e w6 ⟨rfl, gq6⟩
                obtain ⟨nn, hnn, hok⟩ := HOk.out
                have hgo := gq6.goes hok hnn ⟨(k : Int), 0, 6, 0, 0⟩
                simp only at hgo
                clear hph t1 gq6 hok HOk
                obtain ⟨g2, hg2⟩ : ∃ y, y = g1.goes c ⟨(k : Int), 0, 6, 0, 0⟩ := ⟨_, rfl⟩
                rw [← hg2] at hgo HI2
                generalize g1.ans c ⟨(k : Int), 0, 6, 0, 0⟩ = AN at *
                clear hg2
                go_wp2_with fail
                refine hgo.mono ?_
                rintro e w7 ⟨rfl, Ps7, hT7, gq7⟩
                have H9 : Hid (Inn c q g (k + 1) g2 true ∧ ∃ Ps, (∀ j, (Ps j).T = Ts j) ∧ GQ w c A G Ps g2 [boxI M #[.int .i64 c.ce, .int .i64 c.sl, .int .i64 c.bi, .int .i64 c.ta, .int .i64 c.ba, .int .i64 c.de] 29] w7) := ⟨HI2.out, Ps7, fun j => (hT7 j).trans (hT j), gq7⟩
                clear hgo HI2 gq7 hT hT7 b1
                go_wp2_with fail
                go_roundw
                case rel => exact ⟨k + 1, g2, true, by go_num, rfl, by omega, H9⟩
                case measure => simp [intOf]; omega
            · obtain rfl : k = 4 := by omega
              cases bs with
              | false =>
                have hev := hinn.none
                have b1 : (g1.z.x.n % 2 == 0) = true := by simpa using hev
                have hnn0 : 0 ≤ g1.z.x.n ∧ g1.z.x.n ≤ 7000000 := by
                  obtain ⟨x, hx, hf⟩ := hinn.fin
                  exact ⟨hf.ok.z.g0, by have := hf.ok.z.g1; omega⟩
                have g0c : wr.cell? ⟨G, 0, none⟩ = some (.pointer (some ⟨A.sp, 0, none⟩)) := gq.sp
                have hgt := gq.gate
                have hnw := gq.now
                obtain ⟨n1, n2⟩ := hnn0
                have hfl := fun a b W => fldGt a b W
                clear hinn gq HR hev
                generalize g1.z.x.n = GN at *
                generalize g1.z.x.o = GO at *
                go_wp2_with (first | (go_at_call 23; refine hgt.mono ?_; rintro e wq ⟨rfl, rfl⟩))
                refine hnw.mono ?_
                rintro e w7 ⟨rfl, gq7⟩
                have HK := hid gq7.same
                clear hgt hnw g0c gq7
                go_wp2_with (simp only [hfl])
                go_ret
                exact ⟨by simp, HK.out⟩
              | true =>
                have H9 : Hid ((∃ x, x ≤ NN + 20 * (r + 1) ∧ g1.fin c x) ∧ g1.pot + (r + 1) ≤ 304 ∧ ∃ Ps, (∀ j, (Ps j).T = Ts j) ∧ GQ w c A G Ps g1 [boxI M #[.int .i64 c.ce, .int .i64 c.sl, .int .i64 c.bi, .int .i64 c.ta, .int .i64 c.ba, .int .i64 c.de] 29] wr) := by
                  have h1 := hinn.less
                  have h2 := HP.out
                  have h3 := HQq.out
                  obtain ⟨x, hx, hf⟩ := hinn.fin
                  exact ⟨⟨x, by omega, hf⟩, by omega, Ps, hT, gq⟩
                clear hinn gq hT HR
                go_wp2_with fail
                go_roundw
                case rel => exact ⟨r + 1, g1, by go_num, by omega, H9⟩
                case measure => simp [intOf]; omega
    end Go.Proofs.YtnchfomoaonbkabGreat
