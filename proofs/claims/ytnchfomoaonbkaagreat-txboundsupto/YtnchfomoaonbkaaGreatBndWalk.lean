/- TxBounds, step by step. -/
import Derived.Test.YtnchfomoaonbkaaGreatTxY
import Derived.OrdersHeld
namespace Go.Proofs.YtnchfomoaonbkaaGreat
open Go.RowKit
set_option linter.unusedVariables false
set_option linter.unusedSimpArgs false
attribute [local go_sem ↓] Go.wp_at_zero Go.wp_at_succ
set_option maxRecDepth 100000 in
set_option maxHeartbeats 4000000 in
theorem bounds_any (c : Cfg) {la : Option Addr} {n lc : Nat} {zs : List Int} {sa : Option Addr} {sn sc : Nat} {f : Nat → MwD} (w : World) (hl : NumsIn w la n zs) (hn : n ≤ 17592186044416) (hm : MwsAt w sa sn f) (hs : sn ≤ 1048576) :
    Calls Tryz.prog 8 #[c.val, .slice la n lc, .slice sa sn sc] w fun e w' => e = .returned (.bool true) ∧ Kept (fun _ => False) w w' := by
  have h0 := (St.nil w).box #[.int .i64 c.ce, .int .i64 c.sl, .int .i64 c.bi, .int .i64 c.ta, .int .i64 c.ba, .int .i64 c.de] 23
  have HL := hid hl
  have HM := hid hm
  have HC : Hid (∀ W, Calls Tryz.prog 30 #[.agg #[.int .i64 c.ce, .int .i64 c.sl, .int .i64 c.bi, .int .i64 c.ta, .int .i64 c.ba, .int .i64 c.de]] W fun e w' => e = .returned (.int .i64 (if c.fits then 0 else 1)) ∧ Kept (fun _ => False) W w') := fun W => check_any c W
  have HO : Hid (∀ W, c.fits = false → Calls Tryz.prog 29 #[.agg #[.int .i64 c.ce, .int .i64 c.sl, .int .i64 c.bi, .int .i64 c.ta, .int .i64 c.ba, .int .i64 c.de], .slice la n lc] W fun e w' => e = .returned (.tuple #[.pointer none, .bool false]) ∧ Kept (fun _ => False) W w') := fun W hf => gMeet_out c hf _ W
  have HE : Hid (∀ W, Kept (fun _ => False) w W → c.fits = true → Calls Tryz.prog 29 #[.agg #[.int .i64 c.ce, .int .i64 c.sl, .int .i64 c.bi, .int .i64 c.ta, .int .i64 c.ba, .int .i64 c.de], .slice la n lc] W fun e w' => ∃ G A Ps v u, e = .returned (.tuple #[.pointer (some ⟨G, 0, none⟩), .bool true]) ∧ St W (gpL c A G Ps (Gp.new c zs) v u) w') := fun W k hf => gMeet_st c hf W (hl.kept k) hn
  unfold Cfg.val
  clear hl hm
  have h1 := up_any (w.alloc (.cells #[.int .i64 c.ce, .int .i64 c.sl, .int .i64 c.bi, .int .i64 c.ta, .int .i64 c.ba, .int .i64 c.de] 23))
  go_enter Tryz.func8, Tryz.ntmps8
  go_upto_region 1 with fail
  generalize w.alloc (.cells #[.int .i64 c.ce, .int .i64 c.sl, .int .i64 c.bi, .int .i64 c.ta, .int .i64 c.ba, .int .i64 c.de] 23) = W0 at *
  generalize w.heap.size = M at *
  go_wp2_with fail
  refine h1.mono ?_
  rintro e w1 ⟨rfl, k1⟩
  have s1 := h0.calm k1
  clear h1 h0 k1
  have c0 : w1.cell? ⟨M, 0, none⟩ = some (.int .i64 c.ce) := s1.cell 0 rfl 0
  have c1 : w1.cell? ⟨M, 1, none⟩ = some (.int .i64 c.sl) := s1.cell 0 rfl 1
  have c2 : w1.cell? ⟨M, 2, none⟩ = some (.int .i64 c.bi) := s1.cell 0 rfl 2
  have c3 : w1.cell? ⟨M, 3, none⟩ = some (.int .i64 c.ta) := s1.cell 0 rfl 3
  have c4 : w1.cell? ⟨M, 4, none⟩ = some (.int .i64 c.ba) := s1.cell 0 rfl 4
  have c5 : w1.cell? ⟨M, 5, none⟩ = some (.int .i64 c.de) := s1.cell 0 rfl 5
  have HS1 := hid s1
  cases hf : c.fits with
  | false =>
    have hq := HO.out w1 hf
    have HC2 : Hid (∀ W, Calls Tryz.prog 30 #[.agg #[.int .i64 c.ce, .int .i64 c.sl, .int .i64 c.bi, .int .i64 c.ta, .int .i64 c.ba, .int .i64 c.de]] W fun e w' => e = .returned (.int .i64 1) ∧ Kept (fun _ => False) W w') := by
      have := HC.out
      rw [hf] at this
      exact this
    clear HO HE HC HL HM s1
    go_wp2_with fail
    refine hq.mono ?_
    rintro e w2 ⟨rfl, k2⟩
    have s2 := HS1.out.calm k2
    clear hq k2 c0 c1 c2 c3 c4 c5 HS1
    have c0 : w2.cell? ⟨M, 0, none⟩ = some (.int .i64 c.ce) := s2.cell 0 rfl 0
    have c1 : w2.cell? ⟨M, 1, none⟩ = some (.int .i64 c.sl) := s2.cell 0 rfl 1
    have c2 : w2.cell? ⟨M, 2, none⟩ = some (.int .i64 c.bi) := s2.cell 0 rfl 2
    have c3 : w2.cell? ⟨M, 3, none⟩ = some (.int .i64 c.ta) := s2.cell 0 rfl 3
    have c4 : w2.cell? ⟨M, 4, none⟩ = some (.int .i64 c.ba) := s2.cell 0 rfl 4
    have c5 : w2.cell? ⟨M, 5, none⟩ = some (.int .i64 c.de) := s2.cell 0 rfl 5
    have hq := HC2.out w2
    have HS2 := hid s2
    clear s2 HC2
    go_wp2_with fail
    refine hq.mono ?_
    rintro e w3 ⟨rfl, k3⟩
    have HK := hid (HS2.out.calm k3).same
    clear hq k3 HS2 c0 c1 c2 c3 c4 c5
    go_wp2
    go_ret
    exact ⟨rfl, HK.out⟩
  | true =>
    have hq := HE.out w1 s1.same hf
    have HF := hid hf
    clear HO HE HC HL s1 hf
    go_wp2_with fail
    refine hq.mono ?_
    rintro e w2 ⟨G, A, Ps0, v0, u0, rfl, s2⟩
    have HG0 : Hid (∃ Ps, (∀ j, (Ps j).T = (Ps0 j).T) ∧ GQ w c A G Ps (gsq c zs f 0) [boxI M #[.int .i64 c.ce, .int .i64 c.sl, .int .i64 c.bi, .int .i64 c.ta, .int .i64 c.ba, .int .i64 c.de] 23] w2) := ⟨Ps0, fun _ => rfl, v0, u0, fun j y e => (by cases e), HS1.out.addAll s2⟩
    have HT : Hid (∃ Ts : Nat → Nat, ∀ j, Ts j = (Ps0 j).T) := ⟨_, fun _ => rfl⟩
    obtain ⟨Ts, hTs⟩ := HT.out
    have HGQ : Hid (∃ Ps, (∀ j, (Ps j).T = Ts j) ∧ GQ w c A G Ps (gsq c zs f 0) [boxI M #[.int .i64 c.ce, .int .i64 c.sl, .int .i64 c.bi, .int .i64 c.ta, .int .i64 c.ba, .int .i64 c.de] 23] w2) := by
      obtain ⟨Ps, h1, h2⟩ := HG0.out
      exact ⟨Ps, fun j => (h1 j).trans (hTs j).symm, h2⟩
    clear hq s2 HS1 c0 c1 c2 c3 c4 c5 HG0 HT hTs

    have HG1 : Hid (∃ Ps, (∀ j, (Ps j).T = Ts j) ∧ GQ w c A G Ps (gsq c zs f 0) [boxI w2.heap.size (sB (fun _ => 0)) 96, boxI M #[.int .i64 c.ce, .int .i64 c.sl, .int .i64 c.bi, .int .i64 c.ta, .int .i64 c.ba, .int .i64 c.de] 23] (w2.alloc (.cells #[.int .i64 0, .int .i64 0, .int .i64 0, .int .i64 0] 96))) := by
      obtain ⟨Ps, h1, h2⟩ := HGQ.out
      exact ⟨Ps, h1, h2.box #[.int .i64 0, .int .i64 0, .int .i64 0, .int .i64 0] 96⟩
    clear HGQ
    go_upto_region 6 with fail
    generalize w2.alloc (.cells #[.int .i64 0, .int .i64 0, .int .i64 0, .int .i64 0] 96) = w3 at *
    generalize w2.heap.size = SB at *
    have HG2 : Hid (∃ Ps, (∀ j, (Ps j).T = Ts j) ∧ GQ w c A G Ps (gsq c zs f 0) [boxI w3.heap.size (wB (fun _ => false)) 110, boxI SB (sB (fun _ => 0)) 96, boxI M #[.int .i64 c.ce, .int .i64 c.sl, .int .i64 c.bi, .int .i64 c.ta, .int .i64 c.ba, .int .i64 c.de] 23] (w3.alloc (.cells #[.bool false, .bool false, .bool false, .bool false] 110))) := by
      obtain ⟨Ps, h1, h2⟩ := HG1.out
      exact ⟨Ps, h1, h2.box #[.bool false, .bool false, .bool false, .bool false] 110⟩
    clear HG1
    go_upto_region 7 with fail
    generalize w3.alloc (.cells #[.bool false, .bool false, .bool false, .bool false] 110) = w4 at *
    generalize w3.heap.size = WB at *
    go_wp2_with fail
    go_loopw [12, 38, 39, 40, 41, 42, 43] (fun i _ _ _ _ _ _ wr => ∃ j : Nat, i = .int .i64 j ∧ j ≤ 4 ∧ Hid (∃ Ps, (∀ j, (Ps j).T = Ts j) ∧ GQ w c A G Ps (gsq c zs f 0) [boxI WB (wB (fun _ => false)) 110, boxI SB (sB (fun q => if q < j then -1 else 0)) 96, boxI M #[.int .i64 c.ce, .int .i64 c.sl, .int .i64 c.bi, .int .i64 c.ta, .int .i64 c.ba, .int .i64 c.de] 23] wr)) (fun i _ _ _ _ _ _ _ => 4 - (intOf i).toNat)
    case atStart => exact ⟨0, rfl, by omega, HG2⟩
    case round =>
      clear HG2
      obtain ⟨j, rfl, hj, HR⟩ := hrel
      by_cases hlt : j < 4
      · have h1 : (j : Int) < 4 := by omega
        have h2 : (0 : Int) ≤ (j : Int) := by omega
        have HR2 : Hid (wr.frozen? ⟨SB, j, none⟩ = false ∧ wr.cell? ⟨SB, j, none⟩ = some (.int .i64 0) ∧ ∃ Ps, (∀ j, (Ps j).T = Ts j) ∧ GQ w c A G Ps (gsq c zs f 0) [boxI WB (wB (fun _ => false)) 110, boxI SB (sB (fun q => if q < j + 1 then -1 else 0)) 96, boxI M #[.int .i64 c.ce, .int .i64 c.sl, .int .i64 c.bi, .int .i64 c.ta, .int .i64 c.ba, .int .i64 c.de] 23] (wr.setCell ⟨SB, j, none⟩ (.int .i64 (-1)))) := by
          obtain ⟨Ps, p1, p2⟩ := HR.out
          have q := p2.write 1 rfl j (.int .i64 (-1))
          rw [sB_set _ hlt] at q
          have v := (p2.cell 1 rfl j).trans (sB_at _ hlt)
          rw [if_neg (by omega)] at v
          refine ⟨p2.frozen 1 rfl j, v, Ps, p1, ?_⟩
          have e : upd (fun q => if q < j then (-1 : Int) else 0) j (-1) = fun q => if q < j + 1 then (-1 : Int) else 0 := by
            funext q
            unfold upd
            by_cases e1 : q = j
            · rw [if_pos e1, if_pos (by omega)]
            · rw [if_neg e1]
              show (if q < j then (-1 : Int) else 0) = _
              by_cases e2 : q < j
              · rw [if_pos e2, if_pos (by omega)]
              · rw [if_neg e2, if_neg (by omega)]
          rw [e] at q
          exact q
        obtain ⟨fz, v0, H3⟩ := HR2.out
        have HR3 := hid H3
        clear H3 HR HR2
        go_wp2_with fail
        go_roundw
        case rel => exact ⟨j + 1, by go_num, by omega, HR3.out⟩
        case measure => simp [intOf]; omega
      · obtain rfl : j = 4 := by omega
        have HGQ : Hid (Bnd (gsq c zs f 0) c (fun _ => -1) (fun _ => false) ∧ ∃ Ps, (∀ j, (Ps j).T = Ts j) ∧ GQ w c A G Ps (gsq c zs f 0) [boxI WB (wB (fun _ => false)) 110, boxI SB (sB (fun _ => -1)) 96, boxI M #[.int .i64 c.ce, .int .i64 c.sl, .int .i64 c.bi, .int .i64 c.ta, .int .i64 c.ba, .int .i64 c.de] 23] wr) := ⟨Bnd_new c zs, HR.out⟩
        clear HR
        go_wp2_with fail
        go_loopw [13, 14, 15, 16, 17, 18, 44, 45, 46, 47, 48, 49, 50, 51, 52, 53, 54, 55, 56, 57, 58, 59, 60, 61, 62, 63, 64, 65, 66, 67, 68, 69, 70, 71, 72, 73, 74, 75, 76, 77, 78, 79, 80, 81, 82, 83, 84, 85, 86, 87, 88, 89, 90, 91, 92, 93, 94, 95, 96, 97, 98, 99, 100, 101, 102, 103, 104, 105, 106, 107, 108, 109, 110, 111, 112, 113, 114, 115, 116, 117, 118, 119, 120, 121, 122, 123, 124, 125, 126, 127, 128, 129, 130, 131, 132, 133, 134, 135, 136, 137, 138, 139, 140, 141, 142, 143, 144, 145, 146, 147, 148, 149, 150, 151, 152, 153, 154, 155, 156, 157, 158, 159, 160, 161, 162, 163, 164, 165, 166, 167, 168, 169, 170, 171, 172, 173, 174] (fun i _ _ _ _ _ _ _ _ _ _ _ _ _ _ _ _ _ _ _ _ _ _ _ _ _ _ _ _ _ _ _ _ _ _ _ _ _ _ _ _ _ _ _ _ _ _ _ _ _ _ _ _ _ _ _ _ _ _ _ _ _ _ _ _ _ _ _ _ _ _ _ _ _ _ _ _ _ _ _ _ _ _ _ _ _ _ _ _ _ _ _ _ _ _ _ _ _ _ _ _ _ _ _ _ _ _ _ _ _ _ _ _ _ _ _ _ _ _ _ _ _ _ _ _ _ _ _ _ _ _ _ _ _ _ _ _ wr => ∃ (j : Nat) (S : Nat → Int) (Wn : Nat → Bool), i = .int .i64 j ∧ j ≤ sn ∧ Hid (Bnd (gsq c zs f j) c S Wn ∧ ∃ Ps, (∀ j, (Ps j).T = Ts j) ∧ GQ w c A G Ps (gsq c zs f j) [boxI WB (wB Wn) 110, boxI SB (sB S) 96, boxI M #[.int .i64 c.ce, .int .i64 c.sl, .int .i64 c.bi, .int .i64 c.ta, .int .i64 c.ba, .int .i64 c.de] 23] wr)) (fun i _ _ _ _ _ _ _ _ _ _ _ _ _ _ _ _ _ _ _ _ _ _ _ _ _ _ _ _ _ _ _ _ _ _ _ _ _ _ _ _ _ _ _ _ _ _ _ _ _ _ _ _ _ _ _ _ _ _ _ _ _ _ _ _ _ _ _ _ _ _ _ _ _ _ _ _ _ _ _ _ _ _ _ _ _ _ _ _ _ _ _ _ _ _ _ _ _ _ _ _ _ _ _ _ _ _ _ _ _ _ _ _ _ _ _ _ _ _ _ _ _ _ _ _ _ _ _ _ _ _ _ _ _ _ _ _ _ => sn - (intOf i).toNat)
        case atStart => exact ⟨0, _, _, rfl, Nat.zero_le _, HGQ⟩
        case round =>
          clear HGQ
          obtain ⟨j, S, Wn, rfl, hj, HR⟩ := hrel
          obtain ⟨hbn, Ps, hT, gq⟩ := HR.out
          by_cases hlt : j < sn
          · have h1 : (j : Int) < (sn : Int) := by omega
            have h2 : (0 : Int) ≤ (j : Int) := by omega
            obtain ⟨b, off, rfl, hMw⟩ : ∃ b off, sa = some ⟨b, off, none⟩ ∧ ∀ i, i < sn → MwAt w b (off + i * 5) (f i) := by
              rcases HM.out with h | h
              · omega
              · exact h
            have HMW := hid hMw
            have HBN := hid (hbn.goes (gsq_ok HF.out zs f j) (gsq_gate HF.out zs f j) (gsq_own HF.out zs f j) (f j).mv)
            have HOk : Hid (∃ n, n ≤ 800000000 ∧ (gsq c zs f j).ok c n) := ⟨_, by omega, gsq_ok HF.out zs f j⟩
            have HOk1 : Hid (∃ n, ((gsq c zs f j).goes c (f j).mv).ok c n) := ⟨_, gsq_ok HF.out zs f (j + 1)⟩
            have HNext : Hid (∀ W Ps S Wn, (∀ j, (Ps j).T = Ts j) → Bnd ((gsq c zs f j).goes c (f j).mv) c S Wn → GQ w c A G Ps ((gsq c zs f j).goes c (f j).mv) [boxI WB (wB Wn) 110, boxI SB (sB S) 96, boxI M #[.int .i64 c.ce, .int .i64 c.sl, .int .i64 c.bi, .int .i64 c.ta, .int .i64 c.ba, .int .i64 c.de] 23] W → Hid (Bnd (gsq c zs f (j + 1)) c S Wn ∧ ∃ Ps, (∀ j, (Ps j).T = Ts j) ∧ GQ w c A G Ps (gsq c zs f (j + 1)) [boxI WB (wB Wn) 110, boxI SB (sB S) 96, boxI M #[.int .i64 c.ce, .int .i64 c.sl, .int .i64 c.bi, .int .i64 c.ta, .int .i64 c.ba, .int .i64 c.de] 23] W)) := fun W Ps S Wn h1 h3 h2 => ⟨h3, Ps, h1, h2⟩
            clear hbn
            generalize gsq c zs f j = g at *
            have hMj := HMW.out j hlt
            generalize f j = d at *
            clear hMw
            obtain ⟨dth, dkd, dn, dce, dx⟩ := d
            obtain ⟨m, hmv⟩ : ∃ m : Mv, m = MwD.mv ⟨dth, dkd, dn, dce, dx⟩ := ⟨_, rfl⟩
            rw [← hmv] at HBN HNext HOk1
            have hkk : dth % 4 = ((m.k : Nat) : Int) := by rw [hmv]; show dth % 4 = ((dth % 4).toNat : Int); omega
            have HMV := hid hmv
            clear hmv
            have hk4 := m.k_lt
            have k4 : ((m.k : Nat) : Int) < 4 := by omega
            have k0 : (0 : Int) ≤ ((m.k : Nat) : Int) := by omega
            generalize m.k = k at *
            have hand := and3 dth
            rw [hkk] at hand
            have e0 : wr.cell? ⟨b, off + j * 5, none⟩ = some (.int .i64 dth) := (hMj.kept gq.same).c0
            have g0 : wr.cell? ⟨G, 0, none⟩ = some (.pointer (some ⟨A.sp, 0, none⟩)) := gq.sp
            have hgt := gq.gate
            have hnw := gq.now
            obtain ⟨GN, hGN⟩ : ∃ y, y = g.z.x.n := ⟨_, rfl⟩
            obtain ⟨GO, hGO⟩ : ∃ y, y = g.z.x.o := ⟨_, rfl⟩
            rw [← hGN, ← hGO] at hnw
            rw [← hGO] at HBN
            clear hGN hGO gq
            go_wp2_with (first | (go_at_call 33; refine hgt.mono ?_; rintro e wq ⟨rfl, rfl⟩))
            refine hnw.mono ?_
            rintro e w4 ⟨rfl, gq4⟩
            clear hnw hgt e0 g0
            have gq5 := gq4.box #[.int .i64 GN, .int .i64 GO] 81
            clear gq4 HR
            go_upto_region 16 with fail
            generalize w4.alloc (.cells #[.int .i64 GN, .int .i64 GO] 81) = w5 at *
            generalize w4.heap.size = GB at *
            have f0 := (hMj.kept gq5.same).c0
            have f1 := (hMj.kept gq5.same).c1
            have f2 := (hMj.kept gq5.same).c2
            have f3 := (hMj.kept gq5.same).c3
            have f4 := (hMj.kept gq5.same).c4
            simp only at f0 f1 f2 f3 f4
            obtain ⟨nn, hnn, hok⟩ := HOk.out
            have hgo := gq5.goes hok hnn m
            rw [show #[Value.int .i64 m.th, .int .i64 m.kd, .int .i64 m.n, .int .i64 m.ce, .int .i64 m.x] = #[.int .i64 dth, .int .i64 dkd, .int .i64 dn, .int .i64 dce, .int .i64 dx] by rw [HMV.out]; rfl] at hgo
            obtain ⟨g', hg'⟩ : ∃ y, y = g.goes c m := ⟨_, rfl⟩
            rw [← hg'] at hgo HBN HNext
            have HOk2 : Hid (∃ n, g'.ok c n) := by rw [hg']; exact HOk1
            generalize g.ans c m = AN at *
            clear hg' gq5 HOk hok HOk1
            go_wp2_with fail
            refine hgo.mono ?_
            rintro e w6 ⟨rfl, Ps6, hT6, gq6⟩
            clear hgo f0 f1 f2 f3 f4
            have hT7 : ∀ j, (Ps6 j).T = Ts j := fun j => (hT6 j).trans (hT j)
            clear hT6 hT
            have g0 : w6.cell? ⟨G, 0, none⟩ = some (.pointer (some ⟨A.sp, 0, none⟩)) := gq6.sp
            have hgt := gq6.gate
            have hnw := gq6.now
            obtain ⟨GN1, hGN1⟩ : ∃ y, y = g'.z.x.n := ⟨_, rfl⟩
            obtain ⟨GO1, hGO1⟩ : ∃ y, y = g'.z.x.o := ⟨_, rfl⟩
            rw [← hGN1, ← hGO1] at hnw
            rw [← hGO1] at HBN
            clear hGN1 hGO1 gq6
            go_wp2_with (first | (go_at_call 33; refine hgt.mono ?_; rintro e wq ⟨rfl, rfl⟩))
            refine hnw.mono ?_
            rintro e w7 ⟨rfl, gq7⟩
            clear hnw hgt g0
            have gq8 := gq7.box #[.int .i64 GN1, .int .i64 GO1] 81
            clear gq7
            go_upto_region 18 with fail
            generalize w7.alloc (.cells #[.int .i64 GN1, .int .i64 GO1] 81) = w8 at *
            generalize w7.heap.size = GC at *
            obtain ⟨PA, hPA⟩ : ∃ y, y = (g'.ts k).dg.phase := ⟨_, rfl⟩
            have HPA := hid hPA
            obtain ⟨S1, hS1⟩ : ∃ y, y = upd S k (if 0 ≤ S k then S k + 1 else S k) := ⟨_, rfl⟩
            have HBt : Hid (GO1 = (k : Int) + 1 → GO ≠ (k : Int) + 1 → (g'.ts k).wr ≠ [] ∧ PA = 4 ∧ Bnd g' c (upd S1 k 0) (upd Wn k (decide (c.ta = 1) && !(nowAt g'.z.hs (g'.ts k).fr.sl).dm))) := by
              rw [hPA, hS1, upd_upd]
              exact HBN.out.2.2.1
            have HBi : Hid (PA = 0 → (Wn k = true → (g'.ts k).lo = 4 ∧ (g'.ts k).le = 0 ∧ (g'.ts k).lx = 0) ∧ Bnd g' c (upd S1 k (-1)) (upd Wn k false)) := by
              rw [hPA, hS1, upd_upd]
              exact HBN.out.2.2.2.1
            have HBo : Hid (¬ PA = 0 → Bnd g' c S1 Wn) := by
              rw [hPA, hS1]
              exact HBN.out.2.2.2.2
            obtain ⟨n1, n2, -, -, -⟩ := HBN.out
            clear HBN hPA
            have v0 : w8.cell? ⟨SB, k, none⟩ = some (.int .i64 (S k)) := (gq8.cell 3 rfl k).trans (sB_at S hk4)
            by_cases hs0 : 0 ≤ S k
            · have n3 := n1 hs0
              rw [if_pos hs0] at hS1
              have fz := gq8.frozen 3 rfl k
              have q1 := gq8.write 3 rfl k (.int .i64 (S k + 1))
              rw [sB_set _ hk4, ← hS1] at q1
              have q2 := (q1.cell 3 rfl k).trans (sB_at S1 hk4)
              rw [hS1, upd_same] at q2
              have n4 : ¬ 52 < S k + 1 := by omega
              clear gq8 hS1 n1
              generalize S k = SK at *
              go_upto_region 20 with fail
              clear v0 fz
              generalize w8.setCell ⟨SB, k, none⟩ (.int .i64 (SK + 1)) = w9 at *
              go_upto_region 22 with fail
              clear q2 n2 n3 n4 hs0
              obtain ⟨wz, hwz⟩ : ∃ y, y = w9 := ⟨_, rfl⟩
              subst hwz
              have gqq := q1
              clear q1
              have x1 : wz.cell? ⟨GB, 1, none⟩ = some (.int .i64 GO) := gqq.cell 1 rfl 1
              have x2 : wz.cell? ⟨GC, 1, none⟩ = some (.int .i64 GO1) := gqq.cell 0 rfl 1
              by_cases hto : GO1 = (k : Int) + 1
              · have b1 : (GO1 == (k : Int) + 1) = true := by simpa using hto
                by_cases hti : GO = (k : Int) + 1
                · have b2 : (GO != (k : Int) + 1) = false := by simp [hti]
                  clear hto
                  go_upto_region 28 with fail
                  clear x1 x2 b1 b2
                  have hph := gqq.phase hk4
                  rw [hT7 k, ← HPA.out] at hph
                  have t1 : wz.cell? ⟨G, 1 + k, none⟩ = some (.pointer (some ⟨Ts k, 0, none⟩)) := by rw [← hT7 k]; exact gqq.t hk4
                  have HQ := hid gqq
                  clear gqq
                  by_cases hi : PA = 0
                  · obtain ⟨hL, hB⟩ := HBi.out hi
                    subst hi
                    go_wp2_with fail
                    refine hph.mono ?_
                    rintro e wy ⟨rfl, gqy⟩
                    clear hph t1 HQ
                    have t1 : wy.cell? ⟨G, 1 + k, none⟩ = some (.pointer (some ⟨Ts k, 0, none⟩)) := by rw [← hT7 k]; exact gqy.t hk4
                    have v0 : wy.cell? ⟨WB, k, none⟩ = some (.bool (Wn k)) := (gqy.cell 2 rfl k).trans (wB_at Wn hk4)
                    have HUP : Hid (∀ W, GQ w c A G Ps6 g' [boxI GC #[.int .i64 GN1, .int .i64 GO1] 81, boxI GB #[.int .i64 GN, .int .i64 GO] 81, boxI WB (wB Wn) 110, boxI SB (sB S1) 96, boxI M #[.int .i64 c.ce, .int .i64 c.sl, .int .i64 c.bi, .int .i64 c.ta, .int .i64 c.ba, .int .i64 c.de] 23] W → W.frozen? ⟨SB, k, none⟩ = false ∧ (∃ y, W.cell? ⟨SB, k, none⟩ = some (.int .i64 y)) ∧ GQ w c A G Ps6 g' [boxI GC #[.int .i64 GN1, .int .i64 GO1] 81, boxI GB #[.int .i64 GN, .int .i64 GO] 81, boxI WB (wB Wn) 110, boxI SB (sB (upd S1 k (-1))) 96, boxI M #[.int .i64 c.ce, .int .i64 c.sl, .int .i64 c.bi, .int .i64 c.ta, .int .i64 c.ba, .int .i64 c.de] 23] (W.setCell ⟨SB, k, none⟩ (.int .i64 (-1)))) := by
                      intro W q
                      have q1 := q.write 3 rfl k (.int .i64 (-1))
                      rw [sB_set _ hk4] at q1
                      exact ⟨q.frozen 3 rfl k, ⟨_, (q.cell 3 rfl k).trans (sB_at S1 hk4)⟩, q1⟩
                    have HUW : Hid (∀ W, GQ w c A G Ps6 g' [boxI GC #[.int .i64 GN1, .int .i64 GO1] 81, boxI GB #[.int .i64 GN, .int .i64 GO] 81, boxI WB (wB Wn) 110, boxI SB (sB (upd S1 k (-1))) 96, boxI M #[.int .i64 c.ce, .int .i64 c.sl, .int .i64 c.bi, .int .i64 c.ta, .int .i64 c.ba, .int .i64 c.de] 23] W → W.frozen? ⟨WB, k, none⟩ = false ∧ (∃ y, W.cell? ⟨WB, k, none⟩ = some (.bool y)) ∧ GQ w c A G Ps6 g' [boxI GC #[.int .i64 GN1, .int .i64 GO1] 81, boxI GB #[.int .i64 GN, .int .i64 GO] 81, boxI WB (wB (upd Wn k false)) 110, boxI SB (sB (upd S1 k (-1))) 96, boxI M #[.int .i64 c.ce, .int .i64 c.sl, .int .i64 c.bi, .int .i64 c.ta, .int .i64 c.ba, .int .i64 c.de] 23] (W.setCell ⟨WB, k, none⟩ (.bool false))) := by
                      intro W q
                      have q1 := q.write 2 rfl k (.bool false)
                      rw [wB_set _ hk4] at q1
                      exact ⟨q.frozen 2 rfl k, ⟨_, (q.cell 2 rfl k).trans (wB_at Wn hk4)⟩, q1⟩
                    cases hw : Wn k with
                    | false =>
                      rw [hw] at v0
                      obtain ⟨z1, ⟨y0, z2⟩, z3⟩ := HUP.out wy gqy
                      clear gqy t1 hL
                      go_upto_region 32 with fail
                      clear z1 z2 v0
                      generalize wy.setCell ⟨SB, k, none⟩ (.int .i64 (-1)) = wv at *
                      obtain ⟨z1, ⟨y1, z2⟩, z4⟩ := HUW.out wv z3
                      have H9 := HNext.out _ Ps6 _ _ hT7 hB z4.pop.pop
                      clear z3 z4 hB
                      go_wp2_with fail
                      go_roundw
                      case rel => exact ⟨j + 1, upd S1 k (-1), upd Wn k false, by go_num, by omega, H9⟩
                      case measure => simp [intOf]; omega
                    | true =>
                      rw [hw] at v0
                      obtain ⟨l1, l2, l3⟩ := hL hw
                      have hla := gqy.last hk4
                      rw [hT7 k, l1, l2, l3] at hla
                      have hne := fun W => neLast W
                      clear gqy hL l1 l2 l3
                      go_wp2_with fail
                      refine hla.mono ?_
                      rintro e wx ⟨rfl, gqx⟩
                      clear hla t1 v0
                      obtain ⟨z1, ⟨y0, z2⟩, z3⟩ := HUP.out wx gqx
                      clear gqx
                      go_upto_region 32 with (simp only [hne])
                      clear z1 z2
                      generalize wx.setCell ⟨SB, k, none⟩ (.int .i64 (-1)) = wv at *
                      obtain ⟨z1, ⟨y1, z2⟩, z4⟩ := HUW.out wv z3
                      have H9 := HNext.out _ Ps6 _ _ hT7 hB z4.pop.pop
                      clear z3 z4 hB
                      go_wp2_with fail
                      go_roundw
                      case rel => exact ⟨j + 1, upd S1 k (-1), upd Wn k false, by go_num, by omega, H9⟩
                      case measure => simp [intOf]; omega
                  · have hB := HBo.out hi
                    have b9 : (PA == 0) = false := by simpa using hi
                    go_wp2_with fail
                    refine hph.mono ?_
                    rintro e wy ⟨rfl, gqy⟩
                    have H9 := HNext.out _ Ps6 _ _ hT7 hB gqy.pop.pop
                    clear hph t1 HQ gqy hB
                    go_wp2_with fail
                    go_roundw
                    case rel => exact ⟨j + 1, S1, Wn, by go_num, by omega, H9⟩
                    case measure => simp [intOf]; omega
                · have b2 : (GO != (k : Int) + 1) = true := by simpa using hti
                  obtain ⟨t2, t3, t4⟩ := HBt.out hto hti
                  clear hto hti
                  have t1 : wz.cell? ⟨G, 1 + k, none⟩ = some (.pointer (some ⟨Ts k, 0, none⟩)) := by rw [← hT7 k]; exact gqq.t hk4
                  have hsl := gqq.slot hk4
                  rw [hT7 k] at hsl
                  have HQ := hid gqq
                  clear gqq
                  go_wp2_with fail
                  refine hsl.mono ?_
                  rintro e wq ⟨rfl, nq, rfl⟩
                  have gq0 := HQ.out.calm ((Kept.refl _ wz).drewN nq)
                  clear hsl t1 x1 x2 b1 b2 HQ
                  generalize wz.drewN nq = wy at *
                  obtain ⟨nn2, hok2⟩ := HOk2.out
                  obtain ⟨SL, hSL⟩ := Int.eq_ofNat_of_zero_le (hok2.ts k hk4).s0
                  have hsn : SL < g'.z.hs.length := by have := (hok2.ts k hk4).sn; omega
                  rw [hSL]
                  rw [hSL] at t4
                  generalize (g'.ts k).fr.gn = GE at *
                  have fz := gq0.frozen 3 rfl k
                  have v0 := (gq0.cell 3 rfl k).trans (sB_at S1 hk4)
                  have q1 := gq0.write 3 rfl k (.int .i64 0)
                  rw [sB_set _ hk4] at q1
                  clear gq0
                  generalize S1 k = SK0 at v0
                  go_upto_region 25 with fail
                  clear fz v0
                  generalize wy.setCell ⟨SB, k, none⟩ (.int .i64 0) = w10 at *
                  have y3 : w10.cell? ⟨M, 3, none⟩ = some (.int .i64 c.ta) := q1.cell 4 rfl 3
                  have HWr : Hid (∀ W (b : Bool), GQ w c A G Ps6 g' [boxI GC #[.int .i64 GN1, .int .i64 GO1] 81, boxI GB #[.int .i64 GN, .int .i64 GO] 81, boxI WB (wB Wn) 110, boxI SB (sB (upd S1 k 0)) 96, boxI M #[.int .i64 c.ce, .int .i64 c.sl, .int .i64 c.bi, .int .i64 c.ta, .int .i64 c.ba, .int .i64 c.de] 23] W → GQ w c A G Ps6 g' [boxI GC #[.int .i64 GN1, .int .i64 GO1] 81, boxI GB #[.int .i64 GN, .int .i64 GO] 81, boxI WB (wB (upd Wn k b)) 110, boxI SB (sB (upd S1 k 0)) 96, boxI M #[.int .i64 c.ce, .int .i64 c.sl, .int .i64 c.bi, .int .i64 c.ta, .int .i64 c.ba, .int .i64 c.de] 23] (W.setCell ⟨WB, k, none⟩ (.bool b))) := by
                    intro W b q
                    have q2 := q.write 2 rfl k (.bool b)
                    rw [wB_set _ hk4] at q2
                    exact q2
                  by_cases hta : c.ta = 1
                  · have b3 : (c.ta == 1) = true := by simpa using hta
                    have hvw := q1.view hok2
                    have g0 : w10.cell? ⟨G, 0, none⟩ = some (.pointer (some ⟨A.sp, 0, none⟩)) := q1.sp
                    have hf2 := fun a b n m c d x y W => fieldSl a b n m c d x y W
                    clear q1
                    go_wp2_with fail
                    refine hvw.mono ?_
                    rintro e w11 ⟨qa, ca, qb, cb, rfl, q2⟩
                    clear hvw y3 g0
                    obtain ⟨-, -, -, -, d4, -⟩ := q2.slots 1 rfl hok2.z.wl hsn
                    have hdm : (nowAt g'.z.hs (SL : Int)).dm = (g'.z.hs.getD SL Hd.zero).dm := by rw [nowAt_getD (by omega) (by omega)]; rfl
                    rw [hdm] at t4
                    clear hdm
                    have hh8 : g'.z.hs.length ≤ 8 := hok2.z.h8
                    generalize (g'.z.hs.getD SL Hd.zero).dm = DM at *
                    have q3 := q2.pop.pop
                    clear q2
                    have fz := q3.frozen 2 rfl k
                    have v0 := (q3.cell 2 rfl k).trans (wB_at Wn hk4)
                    generalize Wn k = WK at v0
                    have q4 := HWr.out w11 (!DM) q3
                    have hB : Bnd g' c (upd S1 k 0) (upd Wn k (!DM)) := by
                      have := t4
                      rw [show (decide (c.ta = 1) && !DM) = !DM by simp [hta]] at this
                      exact this
                    clear t4 q3 hta
                    have e1 : (0 : Int) ≤ (SL : Int) := by omega
                    have e2 : (SL : Int) < (g'.z.hs.length : Int) := by omega
                    generalize g'.z.hs.length = HLn at *
                    go_upto_region 26 with (simp only [hf2])
                    clear fz d4 v0
                    generalize w11.setCell ⟨WB, k, none⟩ (.bool (!DM)) = w12 at *
                    obtain ⟨Wm, hWm⟩ : ∃ y, y = upd Wn k (!DM) := ⟨_, rfl⟩
                    rw [← hWm] at q4 hB
                    clear hWm
                    have hwr := q4.writes hok2 hk4
                    rw [hT7 k] at hwr
                    have t1 : w12.cell? ⟨G, 1 + k, none⟩ = some (.pointer (some ⟨Ts k, 0, none⟩)) := by rw [← hT7 k]; exact q4.t hk4
                    have b4 : (((g'.ts k).wr.length : Int) == 0) = false := by simpa using t2
                    clear q4
                    generalize (g'.ts k).wr.length = WL at *
                    go_wp2_with fail
                    refine hwr.mono ?_
                    rintro e w13 ⟨pw, rfl, q5⟩
                    clear hwr t1
                    have hph := q5.phase hk4
                    rw [hT7 k, ← HPA.out, t3] at hph
                    have t1 : w13.cell? ⟨G, 1 + k, none⟩ = some (.pointer (some ⟨Ts k, 0, none⟩)) := by rw [← hT7 k]; exact q5.t hk4
                    clear q5
                    go_wp2_with fail
                    refine hph.mono ?_
                    rintro e w14 ⟨rfl, q6⟩
                    clear hph t1
                    have hph := q6.phase hk4
                    rw [hT7 k, ← HPA.out, t3] at hph
                    have t1 : w14.cell? ⟨G, 1 + k, none⟩ = some (.pointer (some ⟨Ts k, 0, none⟩)) := by rw [← hT7 k]; exact q6.t hk4
                    clear q6
                    go_wp2_with fail
                    refine hph.mono ?_
                    rintro e w15 ⟨rfl, q7⟩
                    clear hph t1
                    have H9 := HNext.out _ Ps6 _ _ hT7 hB q7.pop.pop
                    clear q7 hB

                    go_wp2_with fail
                    go_roundw
                    case rel => exact ⟨j + 1, upd S1 k 0, Wm, by go_num, by omega, H9⟩
                    case measure => simp [intOf]; omega
                  · have b3 : (c.ta == 1) = false := by simpa using hta
                    have fz := q1.frozen 2 rfl k
                    have v0 := (q1.cell 2 rfl k).trans (wB_at Wn hk4)
                    generalize Wn k = WK at v0
                    have q4 := HWr.out w10 false q1
                    have hB : Bnd g' c (upd S1 k 0) (upd Wn k false) := by
                      have := t4
                      rw [show decide (c.ta = 1) = false by simp [hta], Bool.false_and] at this
                      exact this
                    clear t4 q1
                    go_upto_region 26 with fail
                    clear fz y3 v0
                    generalize w10.setCell ⟨WB, k, none⟩ (.bool false) = w12 at *
                    obtain ⟨Wm, hWm⟩ : ∃ y, y = upd Wn k false := ⟨_, rfl⟩
                    rw [← hWm] at q4 hB
                    clear hWm
                    have hwr := q4.writes hok2 hk4
                    rw [hT7 k] at hwr
                    have t1 : w12.cell? ⟨G, 1 + k, none⟩ = some (.pointer (some ⟨Ts k, 0, none⟩)) := by rw [← hT7 k]; exact q4.t hk4
                    have b4 : (((g'.ts k).wr.length : Int) == 0) = false := by simpa using t2
                    clear q4
                    generalize (g'.ts k).wr.length = WL at *
                    go_wp2_with fail
                    refine hwr.mono ?_
                    rintro e w13 ⟨pw, rfl, q5⟩
                    clear hwr t1
                    have hph := q5.phase hk4
                    rw [hT7 k, ← HPA.out, t3] at hph
                    have t1 : w13.cell? ⟨G, 1 + k, none⟩ = some (.pointer (some ⟨Ts k, 0, none⟩)) := by rw [← hT7 k]; exact q5.t hk4
                    clear q5
                    go_wp2_with fail
                    refine hph.mono ?_
                    rintro e w14 ⟨rfl, q6⟩
                    clear hph t1
                    have hph := q6.phase hk4
                    rw [hT7 k, ← HPA.out, t3] at hph
                    have t1 : w14.cell? ⟨G, 1 + k, none⟩ = some (.pointer (some ⟨Ts k, 0, none⟩)) := by rw [← hT7 k]; exact q6.t hk4
                    clear q6
                    go_wp2_with fail
                    refine hph.mono ?_
                    rintro e w15 ⟨rfl, q7⟩
                    clear hph t1
                    have H9 := HNext.out _ Ps6 _ _ hT7 hB q7.pop.pop
                    clear q7 hB

                    go_wp2_with fail
                    go_roundw
                    case rel => exact ⟨j + 1, upd S1 k 0, Wm, by go_num, by omega, H9⟩
                    case measure => simp [intOf]; omega
              · have b1 : (GO1 == (k : Int) + 1) = false := by simpa using hto
                clear hto
                go_upto_region 28 with fail
                clear x1 x2 b1
                have hph := gqq.phase hk4
                rw [hT7 k, ← HPA.out] at hph
                have t1 : wz.cell? ⟨G, 1 + k, none⟩ = some (.pointer (some ⟨Ts k, 0, none⟩)) := by rw [← hT7 k]; exact gqq.t hk4
                have HQ := hid gqq
                clear gqq
                by_cases hi : PA = 0
                · obtain ⟨hL, hB⟩ := HBi.out hi
                  subst hi
                  go_wp2_with fail
                  refine hph.mono ?_
                  rintro e wy ⟨rfl, gqy⟩
                  clear hph t1 HQ
                  have t1 : wy.cell? ⟨G, 1 + k, none⟩ = some (.pointer (some ⟨Ts k, 0, none⟩)) := by rw [← hT7 k]; exact gqy.t hk4
                  have v0 : wy.cell? ⟨WB, k, none⟩ = some (.bool (Wn k)) := (gqy.cell 2 rfl k).trans (wB_at Wn hk4)
                  have HUP : Hid (∀ W, GQ w c A G Ps6 g' [boxI GC #[.int .i64 GN1, .int .i64 GO1] 81, boxI GB #[.int .i64 GN, .int .i64 GO] 81, boxI WB (wB Wn) 110, boxI SB (sB S1) 96, boxI M #[.int .i64 c.ce, .int .i64 c.sl, .int .i64 c.bi, .int .i64 c.ta, .int .i64 c.ba, .int .i64 c.de] 23] W → W.frozen? ⟨SB, k, none⟩ = false ∧ (∃ y, W.cell? ⟨SB, k, none⟩ = some (.int .i64 y)) ∧ GQ w c A G Ps6 g' [boxI GC #[.int .i64 GN1, .int .i64 GO1] 81, boxI GB #[.int .i64 GN, .int .i64 GO] 81, boxI WB (wB Wn) 110, boxI SB (sB (upd S1 k (-1))) 96, boxI M #[.int .i64 c.ce, .int .i64 c.sl, .int .i64 c.bi, .int .i64 c.ta, .int .i64 c.ba, .int .i64 c.de] 23] (W.setCell ⟨SB, k, none⟩ (.int .i64 (-1)))) := by
                    intro W q
                    have q1 := q.write 3 rfl k (.int .i64 (-1))
                    rw [sB_set _ hk4] at q1
                    exact ⟨q.frozen 3 rfl k, ⟨_, (q.cell 3 rfl k).trans (sB_at S1 hk4)⟩, q1⟩
                  have HUW : Hid (∀ W, GQ w c A G Ps6 g' [boxI GC #[.int .i64 GN1, .int .i64 GO1] 81, boxI GB #[.int .i64 GN, .int .i64 GO] 81, boxI WB (wB Wn) 110, boxI SB (sB (upd S1 k (-1))) 96, boxI M #[.int .i64 c.ce, .int .i64 c.sl, .int .i64 c.bi, .int .i64 c.ta, .int .i64 c.ba, .int .i64 c.de] 23] W → W.frozen? ⟨WB, k, none⟩ = false ∧ (∃ y, W.cell? ⟨WB, k, none⟩ = some (.bool y)) ∧ GQ w c A G Ps6 g' [boxI GC #[.int .i64 GN1, .int .i64 GO1] 81, boxI GB #[.int .i64 GN, .int .i64 GO] 81, boxI WB (wB (upd Wn k false)) 110, boxI SB (sB (upd S1 k (-1))) 96, boxI M #[.int .i64 c.ce, .int .i64 c.sl, .int .i64 c.bi, .int .i64 c.ta, .int .i64 c.ba, .int .i64 c.de] 23] (W.setCell ⟨WB, k, none⟩ (.bool false))) := by
                    intro W q
                    have q1 := q.write 2 rfl k (.bool false)
                    rw [wB_set _ hk4] at q1
                    exact ⟨q.frozen 2 rfl k, ⟨_, (q.cell 2 rfl k).trans (wB_at Wn hk4)⟩, q1⟩
                  cases hw : Wn k with
                  | false =>
                    rw [hw] at v0
                    obtain ⟨z1, ⟨y0, z2⟩, z3⟩ := HUP.out wy gqy
                    clear gqy t1 hL
                    go_upto_region 32 with fail
                    clear z1 z2 v0
                    generalize wy.setCell ⟨SB, k, none⟩ (.int .i64 (-1)) = wv at *
                    obtain ⟨z1, ⟨y1, z2⟩, z4⟩ := HUW.out wv z3
                    have H9 := HNext.out _ Ps6 _ _ hT7 hB z4.pop.pop
                    clear z3 z4 hB
                    go_wp2_with fail
                    go_roundw
                    case rel => exact ⟨j + 1, upd S1 k (-1), upd Wn k false, by go_num, by omega, H9⟩
                    case measure => simp [intOf]; omega
                  | true =>
                    rw [hw] at v0
                    obtain ⟨l1, l2, l3⟩ := hL hw
                    have hla := gqy.last hk4
                    rw [hT7 k, l1, l2, l3] at hla
                    have hne := fun W => neLast W
                    clear gqy hL l1 l2 l3
                    go_wp2_with fail
                    refine hla.mono ?_
                    rintro e wx ⟨rfl, gqx⟩
                    clear hla t1 v0
                    obtain ⟨z1, ⟨y0, z2⟩, z3⟩ := HUP.out wx gqx
                    clear gqx
                    go_upto_region 32 with (simp only [hne])
                    clear z1 z2
                    generalize wx.setCell ⟨SB, k, none⟩ (.int .i64 (-1)) = wv at *
                    obtain ⟨z1, ⟨y1, z2⟩, z4⟩ := HUW.out wv z3
                    have H9 := HNext.out _ Ps6 _ _ hT7 hB z4.pop.pop
                    clear z3 z4 hB
                    go_wp2_with fail
                    go_roundw
                    case rel => exact ⟨j + 1, upd S1 k (-1), upd Wn k false, by go_num, by omega, H9⟩
                    case measure => simp [intOf]; omega
                · have hB := HBo.out hi
                  have b9 : (PA == 0) = false := by simpa using hi
                  go_wp2_with fail
                  refine hph.mono ?_
                  rintro e wy ⟨rfl, gqy⟩
                  have H9 := HNext.out _ Ps6 _ _ hT7 hB gqy.pop.pop
                  clear hph t1 HQ gqy hB
                  go_wp2_with fail
                  go_roundw
                  case rel => exact ⟨j + 1, S1, Wn, by go_num, by omega, H9⟩
                  case measure => simp [intOf]; omega
            · rw [if_neg hs0, upd_self] at hS1
              subst hS1
              clear n1
              generalize S1 k = SK at *
              go_upto_region 22 with fail
              clear v0 n2 hs0
              obtain ⟨wz, hwz⟩ : ∃ y, y = w8 := ⟨_, rfl⟩
              subst hwz
              have gqq := gq8
              clear gq8
              have x1 : wz.cell? ⟨GB, 1, none⟩ = some (.int .i64 GO) := gqq.cell 1 rfl 1
              have x2 : wz.cell? ⟨GC, 1, none⟩ = some (.int .i64 GO1) := gqq.cell 0 rfl 1
              by_cases hto : GO1 = (k : Int) + 1
              · have b1 : (GO1 == (k : Int) + 1) = true := by simpa using hto
                by_cases hti : GO = (k : Int) + 1
                · have b2 : (GO != (k : Int) + 1) = false := by simp [hti]
                  clear hto
                  go_upto_region 28 with fail
                  clear x1 x2 b1 b2
                  have hph := gqq.phase hk4
                  rw [hT7 k, ← HPA.out] at hph
                  have t1 : wz.cell? ⟨G, 1 + k, none⟩ = some (.pointer (some ⟨Ts k, 0, none⟩)) := by rw [← hT7 k]; exact gqq.t hk4
                  have HQ := hid gqq
                  clear gqq
                  by_cases hi : PA = 0
                  · obtain ⟨hL, hB⟩ := HBi.out hi
                    subst hi
                    go_wp2_with fail
                    refine hph.mono ?_
                    rintro e wy ⟨rfl, gqy⟩
                    clear hph t1 HQ
                    have t1 : wy.cell? ⟨G, 1 + k, none⟩ = some (.pointer (some ⟨Ts k, 0, none⟩)) := by rw [← hT7 k]; exact gqy.t hk4
                    have v0 : wy.cell? ⟨WB, k, none⟩ = some (.bool (Wn k)) := (gqy.cell 2 rfl k).trans (wB_at Wn hk4)
                    have HUP : Hid (∀ W, GQ w c A G Ps6 g' [boxI GC #[.int .i64 GN1, .int .i64 GO1] 81, boxI GB #[.int .i64 GN, .int .i64 GO] 81, boxI WB (wB Wn) 110, boxI SB (sB S1) 96, boxI M #[.int .i64 c.ce, .int .i64 c.sl, .int .i64 c.bi, .int .i64 c.ta, .int .i64 c.ba, .int .i64 c.de] 23] W → W.frozen? ⟨SB, k, none⟩ = false ∧ (∃ y, W.cell? ⟨SB, k, none⟩ = some (.int .i64 y)) ∧ GQ w c A G Ps6 g' [boxI GC #[.int .i64 GN1, .int .i64 GO1] 81, boxI GB #[.int .i64 GN, .int .i64 GO] 81, boxI WB (wB Wn) 110, boxI SB (sB (upd S1 k (-1))) 96, boxI M #[.int .i64 c.ce, .int .i64 c.sl, .int .i64 c.bi, .int .i64 c.ta, .int .i64 c.ba, .int .i64 c.de] 23] (W.setCell ⟨SB, k, none⟩ (.int .i64 (-1)))) := by
                      intro W q
                      have q1 := q.write 3 rfl k (.int .i64 (-1))
                      rw [sB_set _ hk4] at q1
                      exact ⟨q.frozen 3 rfl k, ⟨_, (q.cell 3 rfl k).trans (sB_at S1 hk4)⟩, q1⟩
                    have HUW : Hid (∀ W, GQ w c A G Ps6 g' [boxI GC #[.int .i64 GN1, .int .i64 GO1] 81, boxI GB #[.int .i64 GN, .int .i64 GO] 81, boxI WB (wB Wn) 110, boxI SB (sB (upd S1 k (-1))) 96, boxI M #[.int .i64 c.ce, .int .i64 c.sl, .int .i64 c.bi, .int .i64 c.ta, .int .i64 c.ba, .int .i64 c.de] 23] W → W.frozen? ⟨WB, k, none⟩ = false ∧ (∃ y, W.cell? ⟨WB, k, none⟩ = some (.bool y)) ∧ GQ w c A G Ps6 g' [boxI GC #[.int .i64 GN1, .int .i64 GO1] 81, boxI GB #[.int .i64 GN, .int .i64 GO] 81, boxI WB (wB (upd Wn k false)) 110, boxI SB (sB (upd S1 k (-1))) 96, boxI M #[.int .i64 c.ce, .int .i64 c.sl, .int .i64 c.bi, .int .i64 c.ta, .int .i64 c.ba, .int .i64 c.de] 23] (W.setCell ⟨WB, k, none⟩ (.bool false))) := by
                      intro W q
                      have q1 := q.write 2 rfl k (.bool false)
                      rw [wB_set _ hk4] at q1
                      exact ⟨q.frozen 2 rfl k, ⟨_, (q.cell 2 rfl k).trans (wB_at Wn hk4)⟩, q1⟩
                    cases hw : Wn k with
                    | false =>
                      rw [hw] at v0
                      obtain ⟨z1, ⟨y0, z2⟩, z3⟩ := HUP.out wy gqy
                      clear gqy t1 hL
                      go_upto_region 32 with fail
                      clear z1 z2 v0
                      generalize wy.setCell ⟨SB, k, none⟩ (.int .i64 (-1)) = wv at *
                      obtain ⟨z1, ⟨y1, z2⟩, z4⟩ := HUW.out wv z3
                      have H9 := HNext.out _ Ps6 _ _ hT7 hB z4.pop.pop
                      clear z3 z4 hB
                      go_wp2_with fail
                      go_roundw
                      case rel => exact ⟨j + 1, upd S1 k (-1), upd Wn k false, by go_num, by omega, H9⟩
                      case measure => simp [intOf]; omega
                    | true =>
                      rw [hw] at v0
                      obtain ⟨l1, l2, l3⟩ := hL hw
                      have hla := gqy.last hk4
                      rw [hT7 k, l1, l2, l3] at hla
                      have hne := fun W => neLast W
                      clear gqy hL l1 l2 l3
                      go_wp2_with fail
                      refine hla.mono ?_
                      rintro e wx ⟨rfl, gqx⟩
                      clear hla t1 v0
                      obtain ⟨z1, ⟨y0, z2⟩, z3⟩ := HUP.out wx gqx
                      clear gqx
                      go_upto_region 32 with (simp only [hne])
                      clear z1 z2
                      generalize wx.setCell ⟨SB, k, none⟩ (.int .i64 (-1)) = wv at *
                      obtain ⟨z1, ⟨y1, z2⟩, z4⟩ := HUW.out wv z3
                      have H9 := HNext.out _ Ps6 _ _ hT7 hB z4.pop.pop
                      clear z3 z4 hB
                      go_wp2_with fail
                      go_roundw
                      case rel => exact ⟨j + 1, upd S1 k (-1), upd Wn k false, by go_num, by omega, H9⟩
                      case measure => simp [intOf]; omega
                  · have hB := HBo.out hi
                    have b9 : (PA == 0) = false := by simpa using hi
                    go_wp2_with fail
                    refine hph.mono ?_
                    rintro e wy ⟨rfl, gqy⟩
                    have H9 := HNext.out _ Ps6 _ _ hT7 hB gqy.pop.pop
                    clear hph t1 HQ gqy hB
                    go_wp2_with fail
                    go_roundw
                    case rel => exact ⟨j + 1, S1, Wn, by go_num, by omega, H9⟩
                    case measure => simp [intOf]; omega
                · have b2 : (GO != (k : Int) + 1) = true := by simpa using hti
                  obtain ⟨t2, t3, t4⟩ := HBt.out hto hti
                  clear hto hti
                  have t1 : wz.cell? ⟨G, 1 + k, none⟩ = some (.pointer (some ⟨Ts k, 0, none⟩)) := by rw [← hT7 k]; exact gqq.t hk4
                  have hsl := gqq.slot hk4
                  rw [hT7 k] at hsl
                  have HQ := hid gqq
                  clear gqq
                  go_wp2_with fail
                  refine hsl.mono ?_
                  rintro e wq ⟨rfl, nq, rfl⟩
                  have gq0 := HQ.out.calm ((Kept.refl _ wz).drewN nq)
                  clear hsl t1 x1 x2 b1 b2 HQ
                  generalize wz.drewN nq = wy at *
                  obtain ⟨nn2, hok2⟩ := HOk2.out
                  obtain ⟨SL, hSL⟩ := Int.eq_ofNat_of_zero_le (hok2.ts k hk4).s0
                  have hsn : SL < g'.z.hs.length := by have := (hok2.ts k hk4).sn; omega
                  rw [hSL]
                  rw [hSL] at t4
                  generalize (g'.ts k).fr.gn = GE at *
                  have fz := gq0.frozen 3 rfl k
                  have v0 := (gq0.cell 3 rfl k).trans (sB_at S1 hk4)
                  have q1 := gq0.write 3 rfl k (.int .i64 0)
                  rw [sB_set _ hk4] at q1
                  clear gq0
                  generalize S1 k = SK0 at v0
                  go_upto_region 25 with fail
                  clear fz v0
                  generalize wy.setCell ⟨SB, k, none⟩ (.int .i64 0) = w10 at *
                  have y3 : w10.cell? ⟨M, 3, none⟩ = some (.int .i64 c.ta) := q1.cell 4 rfl 3
                  have HWr : Hid (∀ W (b : Bool), GQ w c A G Ps6 g' [boxI GC #[.int .i64 GN1, .int .i64 GO1] 81, boxI GB #[.int .i64 GN, .int .i64 GO] 81, boxI WB (wB Wn) 110, boxI SB (sB (upd S1 k 0)) 96, boxI M #[.int .i64 c.ce, .int .i64 c.sl, .int .i64 c.bi, .int .i64 c.ta, .int .i64 c.ba, .int .i64 c.de] 23] W → GQ w c A G Ps6 g' [boxI GC #[.int .i64 GN1, .int .i64 GO1] 81, boxI GB #[.int .i64 GN, .int .i64 GO] 81, boxI WB (wB (upd Wn k b)) 110, boxI SB (sB (upd S1 k 0)) 96, boxI M #[.int .i64 c.ce, .int .i64 c.sl, .int .i64 c.bi, .int .i64 c.ta, .int .i64 c.ba, .int .i64 c.de] 23] (W.setCell ⟨WB, k, none⟩ (.bool b))) := by
                    intro W b q
                    have q2 := q.write 2 rfl k (.bool b)
                    rw [wB_set _ hk4] at q2
                    exact q2
                  by_cases hta : c.ta = 1
                  · have b3 : (c.ta == 1) = true := by simpa using hta
                    have hvw := q1.view hok2
                    have g0 : w10.cell? ⟨G, 0, none⟩ = some (.pointer (some ⟨A.sp, 0, none⟩)) := q1.sp
                    have hf2 := fun a b n m c d x y W => fieldSl a b n m c d x y W
                    clear q1
                    go_wp2_with fail
                    refine hvw.mono ?_
                    rintro e w11 ⟨qa, ca, qb, cb, rfl, q2⟩
                    clear hvw y3 g0
                    obtain ⟨-, -, -, -, d4, -⟩ := q2.slots 1 rfl hok2.z.wl hsn
                    have hdm : (nowAt g'.z.hs (SL : Int)).dm = (g'.z.hs.getD SL Hd.zero).dm := by rw [nowAt_getD (by omega) (by omega)]; rfl
                    rw [hdm] at t4
                    clear hdm
                    have hh8 : g'.z.hs.length ≤ 8 := hok2.z.h8
                    generalize (g'.z.hs.getD SL Hd.zero).dm = DM at *
                    have q3 := q2.pop.pop
                    clear q2
                    have fz := q3.frozen 2 rfl k
                    have v0 := (q3.cell 2 rfl k).trans (wB_at Wn hk4)
                    generalize Wn k = WK at v0
                    have q4 := HWr.out w11 (!DM) q3
                    have hB : Bnd g' c (upd S1 k 0) (upd Wn k (!DM)) := by
                      have := t4
                      rw [show (decide (c.ta = 1) && !DM) = !DM by simp [hta]] at this
                      exact this
                    clear t4 q3 hta
                    have e1 : (0 : Int) ≤ (SL : Int) := by omega
                    have e2 : (SL : Int) < (g'.z.hs.length : Int) := by omega
                    generalize g'.z.hs.length = HLn at *
                    go_upto_region 26 with (simp only [hf2])
                    clear fz d4 v0
                    generalize w11.setCell ⟨WB, k, none⟩ (.bool (!DM)) = w12 at *
                    obtain ⟨Wm, hWm⟩ : ∃ y, y = upd Wn k (!DM) := ⟨_, rfl⟩
                    rw [← hWm] at q4 hB
                    clear hWm
                    have hwr := q4.writes hok2 hk4
                    rw [hT7 k] at hwr
                    have t1 : w12.cell? ⟨G, 1 + k, none⟩ = some (.pointer (some ⟨Ts k, 0, none⟩)) := by rw [← hT7 k]; exact q4.t hk4
                    have b4 : (((g'.ts k).wr.length : Int) == 0) = false := by simpa using t2
                    clear q4
                    generalize (g'.ts k).wr.length = WL at *
                    go_wp2_with fail
                    refine hwr.mono ?_
                    rintro e w13 ⟨pw, rfl, q5⟩
                    clear hwr t1
                    have hph := q5.phase hk4
                    rw [hT7 k, ← HPA.out, t3] at hph
                    have t1 : w13.cell? ⟨G, 1 + k, none⟩ = some (.pointer (some ⟨Ts k, 0, none⟩)) := by rw [← hT7 k]; exact q5.t hk4
                    clear q5
                    go_wp2_with fail
                    refine hph.mono ?_
                    rintro e w14 ⟨rfl, q6⟩
                    clear hph t1
                    have hph := q6.phase hk4
                    rw [hT7 k, ← HPA.out, t3] at hph
                    have t1 : w14.cell? ⟨G, 1 + k, none⟩ = some (.pointer (some ⟨Ts k, 0, none⟩)) := by rw [← hT7 k]; exact q6.t hk4
                    clear q6
                    go_wp2_with fail
                    refine hph.mono ?_
                    rintro e w15 ⟨rfl, q7⟩
                    clear hph t1
                    have H9 := HNext.out _ Ps6 _ _ hT7 hB q7.pop.pop
                    clear q7 hB

                    go_wp2_with fail
                    go_roundw
                    case rel => exact ⟨j + 1, upd S1 k 0, Wm, by go_num, by omega, H9⟩
                    case measure => simp [intOf]; omega
                  · have b3 : (c.ta == 1) = false := by simpa using hta
                    have fz := q1.frozen 2 rfl k
                    have v0 := (q1.cell 2 rfl k).trans (wB_at Wn hk4)
                    generalize Wn k = WK at v0
                    have q4 := HWr.out w10 false q1
                    have hB : Bnd g' c (upd S1 k 0) (upd Wn k false) := by
                      have := t4
                      rw [show decide (c.ta = 1) = false by simp [hta], Bool.false_and] at this
                      exact this
                    clear t4 q1
                    go_upto_region 26 with fail
                    clear fz y3 v0
                    generalize w10.setCell ⟨WB, k, none⟩ (.bool false) = w12 at *
                    obtain ⟨Wm, hWm⟩ : ∃ y, y = upd Wn k false := ⟨_, rfl⟩
                    rw [← hWm] at q4 hB
                    clear hWm
                    have hwr := q4.writes hok2 hk4
                    rw [hT7 k] at hwr
                    have t1 : w12.cell? ⟨G, 1 + k, none⟩ = some (.pointer (some ⟨Ts k, 0, none⟩)) := by rw [← hT7 k]; exact q4.t hk4
                    have b4 : (((g'.ts k).wr.length : Int) == 0) = false := by simpa using t2
                    clear q4
                    generalize (g'.ts k).wr.length = WL at *
                    go_wp2_with fail
                    refine hwr.mono ?_
                    rintro e w13 ⟨pw, rfl, q5⟩
                    clear hwr t1
                    have hph := q5.phase hk4
                    rw [hT7 k, ← HPA.out, t3] at hph
                    have t1 : w13.cell? ⟨G, 1 + k, none⟩ = some (.pointer (some ⟨Ts k, 0, none⟩)) := by rw [← hT7 k]; exact q5.t hk4
                    clear q5
                    go_wp2_with fail
                    refine hph.mono ?_
                    rintro e w14 ⟨rfl, q6⟩
                    clear hph t1
                    have hph := q6.phase hk4
                    rw [hT7 k, ← HPA.out, t3] at hph
                    have t1 : w14.cell? ⟨G, 1 + k, none⟩ = some (.pointer (some ⟨Ts k, 0, none⟩)) := by rw [← hT7 k]; exact q6.t hk4
                    clear q6
                    go_wp2_with fail
                    refine hph.mono ?_
                    rintro e w15 ⟨rfl, q7⟩
                    clear hph t1
                    have H9 := HNext.out _ Ps6 _ _ hT7 hB q7.pop.pop
                    clear q7 hB

                    go_wp2_with fail
                    go_roundw
                    case rel => exact ⟨j + 1, upd S1 k 0, Wm, by go_num, by omega, H9⟩
                    case measure => simp [intOf]; omega
              · have b1 : (GO1 == (k : Int) + 1) = false := by simpa using hto
                clear hto
                go_upto_region 28 with fail
                clear x1 x2 b1
                have hph := gqq.phase hk4
                rw [hT7 k, ← HPA.out] at hph
                have t1 : wz.cell? ⟨G, 1 + k, none⟩ = some (.pointer (some ⟨Ts k, 0, none⟩)) := by rw [← hT7 k]; exact gqq.t hk4
                have HQ := hid gqq
                clear gqq
                by_cases hi : PA = 0
                · obtain ⟨hL, hB⟩ := HBi.out hi
                  subst hi
                  go_wp2_with fail
                  refine hph.mono ?_
                  rintro e wy ⟨rfl, gqy⟩
                  clear hph t1 HQ
                  have t1 : wy.cell? ⟨G, 1 + k, none⟩ = some (.pointer (some ⟨Ts k, 0, none⟩)) := by rw [← hT7 k]; exact gqy.t hk4
                  have v0 : wy.cell? ⟨WB, k, none⟩ = some (.bool (Wn k)) := (gqy.cell 2 rfl k).trans (wB_at Wn hk4)
                  have HUP : Hid (∀ W, GQ w c A G Ps6 g' [boxI GC #[.int .i64 GN1, .int .i64 GO1] 81, boxI GB #[.int .i64 GN, .int .i64 GO] 81, boxI WB (wB Wn) 110, boxI SB (sB S1) 96, boxI M #[.int .i64 c.ce, .int .i64 c.sl, .int .i64 c.bi, .int .i64 c.ta, .int .i64 c.ba, .int .i64 c.de] 23] W → W.frozen? ⟨SB, k, none⟩ = false ∧ (∃ y, W.cell? ⟨SB, k, none⟩ = some (.int .i64 y)) ∧ GQ w c A G Ps6 g' [boxI GC #[.int .i64 GN1, .int .i64 GO1] 81, boxI GB #[.int .i64 GN, .int .i64 GO] 81, boxI WB (wB Wn) 110, boxI SB (sB (upd S1 k (-1))) 96, boxI M #[.int .i64 c.ce, .int .i64 c.sl, .int .i64 c.bi, .int .i64 c.ta, .int .i64 c.ba, .int .i64 c.de] 23] (W.setCell ⟨SB, k, none⟩ (.int .i64 (-1)))) := by
                    intro W q
                    have q1 := q.write 3 rfl k (.int .i64 (-1))
                    rw [sB_set _ hk4] at q1
                    exact ⟨q.frozen 3 rfl k, ⟨_, (q.cell 3 rfl k).trans (sB_at S1 hk4)⟩, q1⟩
                  have HUW : Hid (∀ W, GQ w c A G Ps6 g' [boxI GC #[.int .i64 GN1, .int .i64 GO1] 81, boxI GB #[.int .i64 GN, .int .i64 GO] 81, boxI WB (wB Wn) 110, boxI SB (sB (upd S1 k (-1))) 96, boxI M #[.int .i64 c.ce, .int .i64 c.sl, .int .i64 c.bi, .int .i64 c.ta, .int .i64 c.ba, .int .i64 c.de] 23] W → W.frozen? ⟨WB, k, none⟩ = false ∧ (∃ y, W.cell? ⟨WB, k, none⟩ = some (.bool y)) ∧ GQ w c A G Ps6 g' [boxI GC #[.int .i64 GN1, .int .i64 GO1] 81, boxI GB #[.int .i64 GN, .int .i64 GO] 81, boxI WB (wB (upd Wn k false)) 110, boxI SB (sB (upd S1 k (-1))) 96, boxI M #[.int .i64 c.ce, .int .i64 c.sl, .int .i64 c.bi, .int .i64 c.ta, .int .i64 c.ba, .int .i64 c.de] 23] (W.setCell ⟨WB, k, none⟩ (.bool false))) := by
                    intro W q
                    have q1 := q.write 2 rfl k (.bool false)
                    rw [wB_set _ hk4] at q1
                    exact ⟨q.frozen 2 rfl k, ⟨_, (q.cell 2 rfl k).trans (wB_at Wn hk4)⟩, q1⟩
                  cases hw : Wn k with
                  | false =>
                    rw [hw] at v0
                    obtain ⟨z1, ⟨y0, z2⟩, z3⟩ := HUP.out wy gqy
                    clear gqy t1 hL
                    go_upto_region 32 with fail
                    clear z1 z2 v0
                    generalize wy.setCell ⟨SB, k, none⟩ (.int .i64 (-1)) = wv at *
                    obtain ⟨z1, ⟨y1, z2⟩, z4⟩ := HUW.out wv z3
                    have H9 := HNext.out _ Ps6 _ _ hT7 hB z4.pop.pop
                    clear z3 z4 hB
                    go_wp2_with fail
                    go_roundw
                    case rel => exact ⟨j + 1, upd S1 k (-1), upd Wn k false, by go_num, by omega, H9⟩
                    case measure => simp [intOf]; omega
                  | true =>
                    rw [hw] at v0
                    obtain ⟨l1, l2, l3⟩ := hL hw
                    have hla := gqy.last hk4
                    rw [hT7 k, l1, l2, l3] at hla
                    have hne := fun W => neLast W
                    clear gqy hL l1 l2 l3
                    go_wp2_with fail
                    refine hla.mono ?_
                    rintro e wx ⟨rfl, gqx⟩
                    clear hla t1 v0
                    obtain ⟨z1, ⟨y0, z2⟩, z3⟩ := HUP.out wx gqx
                    clear gqx
                    go_upto_region 32 with (simp only [hne])
                    clear z1 z2
                    generalize wx.setCell ⟨SB, k, none⟩ (.int .i64 (-1)) = wv at *
                    obtain ⟨z1, ⟨y1, z2⟩, z4⟩ := HUW.out wv z3
                    have H9 := HNext.out _ Ps6 _ _ hT7 hB z4.pop.pop
                    clear z3 z4 hB
                    go_wp2_with fail
                    go_roundw
                    case rel => exact ⟨j + 1, upd S1 k (-1), upd Wn k false, by go_num, by omega, H9⟩
                    case measure => simp [intOf]; omega
                · have hB := HBo.out hi
                  have b9 : (PA == 0) = false := by simpa using hi
                  go_wp2_with fail
                  refine hph.mono ?_
                  rintro e wy ⟨rfl, gqy⟩
                  have H9 := HNext.out _ Ps6 _ _ hT7 hB gqy.pop.pop
                  clear hph t1 HQ gqy hB
                  go_wp2_with fail
                  go_roundw
                  case rel => exact ⟨j + 1, S1, Wn, by go_num, by omega, H9⟩
                  case measure => simp [intOf]; omega
          · obtain rfl : j = sn := by omega
            have HK := hid gq.same
            clear gq HR HM hbn
            go_wp2_with fail
            go_ret
            exact ⟨rfl, HK.out⟩
    end Go.Proofs.YtnchfomoaonbkaaGreat
