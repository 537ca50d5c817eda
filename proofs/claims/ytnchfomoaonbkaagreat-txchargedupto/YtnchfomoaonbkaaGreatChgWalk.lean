/- TxCharged, step by step. -/
import Derived.Test.YtnchfomoaonbkaaGreatTxCk
import Derived.OrdersHeld
namespace Go.Proofs.YtnchfomoaonbkaaGreat
open Go.RowKit
set_option linter.unusedVariables false
set_option linter.unusedSimpArgs false
attribute [local go_sem ↓] Go.wp_at_zero Go.wp_at_succ
set_option maxRecDepth 100000 in
set_option maxHeartbeats 4000000 in
theorem charged_any (c : Cfg) {la : Option Addr} {n lc : Nat} {zs : List Int} {sa : Option Addr} {sn sc : Nat} {f : Nat → MwD} (w : World) (hl : NumsIn w la n zs) (hn : n ≤ 17592186044416) (hm : MwsAt w sa sn f) (hs : sn ≤ 1048576) :
    Calls Tryz.prog 7 #[c.val, .slice la n lc, .slice sa sn sc] w fun e w' => e = .returned (.bool true) ∧ Kept (fun _ => False) w w' := by
  have h0 := (St.nil w).box #[.int .i64 c.ce, .int .i64 c.sl, .int .i64 c.bi, .int .i64 c.ta, .int .i64 c.ba, .int .i64 c.de] 23
  have HL := hid hl
  have HM := hid hm
  have HC : Hid (∀ W, Calls Tryz.prog 30 #[.agg #[.int .i64 c.ce, .int .i64 c.sl, .int .i64 c.bi, .int .i64 c.ta, .int .i64 c.ba, .int .i64 c.de]] W fun e w' => e = .returned (.int .i64 (if c.fits then 0 else 1)) ∧ Kept (fun _ => False) W w') := fun W => check_any c W
  have HO : Hid (∀ W, c.fits = false → Calls Tryz.prog 29 #[.agg #[.int .i64 c.ce, .int .i64 c.sl, .int .i64 c.bi, .int .i64 c.ta, .int .i64 c.ba, .int .i64 c.de], .slice la n lc] W fun e w' => e = .returned (.tuple #[.pointer none, .bool false]) ∧ Kept (fun _ => False) W w') := fun W hf => gMeet_out c hf _ W
  have HE : Hid (∀ W, Kept (fun _ => False) w W → c.fits = true → Calls Tryz.prog 29 #[.agg #[.int .i64 c.ce, .int .i64 c.sl, .int .i64 c.bi, .int .i64 c.ta, .int .i64 c.ba, .int .i64 c.de], .slice la n lc] W fun e w' => ∃ G A Ps v u, e = .returned (.tuple #[.pointer (some ⟨G, 0, none⟩), .bool true]) ∧ St W (gpL c A G Ps (Gp.new c zs) v u) w') := fun W k hf => gMeet_st c hf W (hl.kept k) hn
  unfold Cfg.val
  clear hl hm
  have h1 := up_any (w.alloc (.cells #[.int .i64 c.ce, .int .i64 c.sl, .int .i64 c.bi, .int .i64 c.ta, .int .i64 c.ba, .int .i64 c.de] 23))
  go_enter Tryz.func7, Tryz.ntmps7
  go_upto_region 1 with fail
  generalize w.alloc (.cells #[.int .i64 c.ce, .int .i64 c.sl, .int .i64 c.bi, .int .i64 c.ta, .int .i64 c.ba, .int .i64 c.de] 23) = W0 at *
  generalize w.heap.size = M at *
  go_wp2_with fail
  refine h1.mono ?_
  rintro e w1 ⟨rfl, k1⟩
  have s1 := h0.calm k1
  clear h1 h0 k1
  have c0 : w1.cell? ⟨M, 0, none⟩ = some (.int .i64 c.ce) := s1.cell 0 rfl 0
  have c1 : w1.cell? ⟨M, 1, none⟩ = some (.int .i64 c.sl) := s1.cell 0 rfl 1
  have c2 : w1.cell? ⟨M, 2, none⟩ = some (.int .i64 c.bi) := s1.cell 0 rfl 2
  have c3 : w1.cell? ⟨M, 3, none⟩ = some (.int .i64 c.ta) := s1.cell 0 rfl 3
  have c4 : w1.cell? ⟨M, 4, none⟩ = some (.int .i64 c.ba) := s1.cell 0 rfl 4
  have c5 : w1.cell? ⟨M, 5, none⟩ = some (.int .i64 c.de) := s1.cell 0 rfl 5
  have HS1 := hid s1
  cases hf : c.fits with
  | false =>
    have hq := HO.out w1 hf
    have HC2 : Hid (∀ W, Calls Tryz.prog 30 #[.agg #[.int .i64 c.ce, .int .i64 c.sl, .int .i64 c.bi, .int .i64 c.ta, .int .i64 c.ba, .int .i64 c.de]] W fun e w' => e = .returned (.int .i64 1) ∧ Kept (fun _ => False) W w') := by
      have := HC.out
      rw [hf] at this
      exact this
    clear HO HE HC HL HM s1
    go_wp2_with fail
    refine hq.mono ?_
    rintro e w2 ⟨rfl, k2⟩
    have s2 := HS1.out.calm k2
    clear hq k2 c0 c1 c2 c3 c4 c5 HS1
    have c0 : w2.cell? ⟨M, 0, none⟩ = some (.int .i64 c.ce) := s2.cell 0 rfl 0
    have c1 : w2.cell? ⟨M, 1, none⟩ = some (.int .i64 c.sl) := s2.cell 0 rfl 1
    have c2 : w2.cell? ⟨M, 2, none⟩ = some (.int .i64 c.bi) := s2.cell 0 rfl 2
    have c3 : w2.cell? ⟨M, 3, none⟩ = some (.int .i64 c.ta) := s2.cell 0 rfl 3
    have c4 : w2.cell? ⟨M, 4, none⟩ = some (.int .i64 c.ba) := s2.cell 0 rfl 4
    have c5 : w2.cell? ⟨M, 5, none⟩ = some (.int .i64 c.de) := s2.cell 0 rfl 5
    have hq := HC2.out w2
    have HS2 := hid s2
    clear s2 HC2
    go_wp2_with fail
    refine hq.mono ?_
    rintro e w3 ⟨rfl, k3⟩
    have HK := hid (HS2.out.calm k3).same
    clear hq k3 HS2 c0 c1 c2 c3 c4 c5
    go_wp2
    go_ret
    exact ⟨rfl, HK.out⟩
  | true =>
    have hq := HE.out w1 s1.same hf
    have HF := hid hf
    clear HO HE HC HL s1 hf
    go_wp2_with fail
    refine hq.mono ?_
    rintro e w2 ⟨G, A, Ps0, v0, u0, rfl, s2⟩
    have HG0 : Hid (∃ Ps, (∀ j, (Ps j).T = (Ps0 j).T) ∧ GQ w c A G Ps (gsq c zs f 0) [boxI M #[.int .i64 c.ce, .int .i64 c.sl, .int .i64 c.bi, .int .i64 c.ta, .int .i64 c.ba, .int .i64 c.de] 23] w2) := ⟨Ps0, fun _ => rfl, v0, u0, fun j y e => (by cases e), HS1.out.addAll s2⟩
    have HT : Hid (∃ Ts : Nat → Nat, ∀ j, Ts j = (Ps0 j).T) := ⟨_, fun _ => rfl⟩
    obtain ⟨Ts, hTs⟩ := HT.out
    have HGQ : Hid (∃ Ps, (∀ j, (Ps j).T = Ts j) ∧ GQ w c A G Ps (gsq c zs f 0) [boxI M #[.int .i64 c.ce, .int .i64 c.sl, .int .i64 c.bi, .int .i64 c.ta, .int .i64 c.ba, .int .i64 c.de] 23] w2) := by
      obtain ⟨Ps, h1, h2⟩ := HG0.out
      exact ⟨Ps, fun j => (h1 j).trans (hTs j).symm, h2⟩
    clear hq s2 HS1 c0 c1 c2 c3 c4 c5 HG0 HT hTs

    have HG1 : Hid (∃ Ps, (∀ j, (Ps j).T = Ts j) ∧ GQ w c A G Ps (gsq c zs f 0) [boxI w2.heap.size (cB (fun _ => 0)) 102, boxI M #[.int .i64 c.ce, .int .i64 c.sl, .int .i64 c.bi, .int .i64 c.ta, .int .i64 c.ba, .int .i64 c.de] 23] (w2.alloc (.cells #[.int .i64 0, .int .i64 0, .int .i64 0, .int .i64 0, .int .i64 0] 102))) := by
      obtain ⟨Ps, h1, h2⟩ := HGQ.out
      exact ⟨Ps, h1, h2.box #[.int .i64 0, .int .i64 0, .int .i64 0, .int .i64 0, .int .i64 0] 102⟩
    clear HGQ
    go_upto_region 6 with fail
    generalize w2.alloc (.cells #[.int .i64 0, .int .i64 0, .int .i64 0, .int .i64 0, .int .i64 0] 102) = w3 at *
    generalize w2.heap.size = FL at *
    have HG2 : Hid (∃ Ps, (∀ j, (Ps j).T = Ts j) ∧ GQ w c A G Ps (gsq c zs f 0) [boxI w3.heap.size (cB (fun _ => 0)) 102, boxI FL (cB (fun _ => 0)) 102, boxI M #[.int .i64 c.ce, .int .i64 c.sl, .int .i64 c.bi, .int .i64 c.ta, .int .i64 c.ba, .int .i64 c.de] 23] (w3.alloc (.cells #[.int .i64 0, .int .i64 0, .int .i64 0, .int .i64 0, .int .i64 0] 102))) := by
      obtain ⟨Ps, h1, h2⟩ := HG1.out
      exact ⟨Ps, h1, h2.box #[.int .i64 0, .int .i64 0, .int .i64 0, .int .i64 0, .int .i64 0] 102⟩
    clear HG1
    go_upto_region 7 with fail
    generalize w3.alloc (.cells #[.int .i64 0, .int .i64 0, .int .i64 0, .int .i64 0, .int .i64 0] 102) = w4 at *
    generalize w3.heap.size = BY at *
    have HG3 : Hid (∃ Ps, (∀ j, (Ps j).T = Ts j) ∧ GQ w c A G Ps (gsq c zs f 0) [boxI w4.heap.size (cB (fun _ => 0)) 102, boxI BY (cB (fun _ => 0)) 102, boxI FL (cB (fun _ => 0)) 102, boxI M #[.int .i64 c.ce, .int .i64 c.sl, .int .i64 c.bi, .int .i64 c.ta, .int .i64 c.ba, .int .i64 c.de] 23] (w4.alloc (.cells #[.int .i64 0, .int .i64 0, .int .i64 0, .int .i64 0, .int .i64 0] 102))) := by
      obtain ⟨Ps, h1, h2⟩ := HG2.out
      exact ⟨Ps, h1, h2.box #[.int .i64 0, .int .i64 0, .int .i64 0, .int .i64 0, .int .i64 0] 102⟩
    clear HG2
    go_upto_region 8 with fail
    generalize w4.alloc (.cells #[.int .i64 0, .int .i64 0, .int .i64 0, .int .i64 0, .int .i64 0] 102) = w5 at *
    generalize w4.heap.size = NU at *
    have HGQ : Hid (Chg (gsq c zs f 0) c (Ch3.mk (fun _ => 0) (fun _ => 0) (fun _ => 0)) ∧ ∃ Ps, (∀ j, (Ps j).T = Ts j) ∧ GQ w c A G Ps (gsq c zs f 0) [boxI FL (cB ((Ch3.mk (fun _ => 0) (fun _ => 0) (fun _ => 0))).fl) 102, boxI BY (cB ((Ch3.mk (fun _ => 0) (fun _ => 0) (fun _ => 0))).by_) 102, boxI NU (cB ((Ch3.mk (fun _ => 0) (fun _ => 0) (fun _ => 0))).nu) 102, boxI M #[.int .i64 c.ce, .int .i64 c.sl, .int .i64 c.bi, .int .i64 c.ta, .int .i64 c.ba, .int .i64 c.de] 23] w5) := by
      obtain ⟨Ps, h1, v, u, h2, h3⟩ := HG3.out
      refine ⟨Chg_new c zs, Ps, h1, v, u, h2, h3.perm ?_⟩
      refine List.Perm.append_left _ ?_
      exact (List.Perm.swap _ _ _).trans (((List.Perm.swap _ _ _).cons _).trans (List.Perm.swap _ _ _))
    clear HG3
    have HE0 : Hid ((gsq c zs f 0).z.ev.length = 0) := rfl
    go_wp2_with fail
    go_loopw [14, 13, 15, 16, 17, 18, 19, 20, 21, 22, 44, 45, 46, 47, 48, 49, 50, 51, 52, 53, 54, 55, 56, 57, 58, 59, 60, 61, 62, 63, 64, 65, 66, 67, 68, 69, 70, 71, 72, 73, 74, 75, 76, 77, 78, 79, 80, 81, 82, 83, 84, 85, 86, 87, 88, 89, 90, 91, 92, 93, 94, 95, 96, 97, 98, 99, 100, 101, 102, 103, 104, 105, 106, 107, 108, 109, 110, 111, 112, 113, 114, 115, 116, 117, 118, 119, 120, 121, 122, 123, 124, 125, 126, 127, 128, 129, 130, 131, 132, 133, 134, 135, 136, 137, 138, 139, 140, 141, 142, 143, 144, 145, 146, 147, 148, 149, 150, 151, 152, 153, 154, 155, 156, 157, 158, 159, 160, 161, 162, 163, 164, 165, 166, 167, 168, 169, 170, 171, 172, 173, 174, 175, 176, 177, 178, 179, 180, 181, 182, 183, 184, 185, 186, 187, 188, 189, 190, 191, 192, 193, 194, 195, 196, 197, 198, 199, 200, 201, 202, 203, 204, 205, 206, 207, 208, 209, 210, 211, 212, 213, 214, 215, 216, 217, 218, 219, 220, 221, 222, 223, 224, 225, 226, 227, 228, 229, 230, 231, 232, 233] (fun i sv _ _ _ _ _ _ _ _ _ _ _ _ _ _ _ _ _ _ _ _ _ _ _ _ _ _ _ _ _ _ _ _ _ _ _ _ _ _ _ _ _ _ _ _ _ _ _ _ _ _ _ _ _ _ _ _ _ _ _ _ _ _ _ _ _ _ _ _ _ _ _ _ _ _ _ _ _ _ _ _ _ _ _ _ _ _ _ _ _ _ _ _ _ _ _ _ _ _ _ _ _ _ _ _ _ _ _ _ _ _ _ _ _ _ _ _ _ _ _ _ _ _ _ _ _ _ _ _ _ _ _ _ _ _ _ _ _ _ _ _ _ _ _ _ _ _ _ _ _ _ _ _ _ _ _ _ _ _ _ _ _ _ _ _ _ _ _ _ _ _ _ _ _ _ _ _ _ _ _ _ _ _ _ _ _ _ _ _ _ _ _ _ _ _ _ _ _ _ wr => ∃ (j : Nat) (C : Ch3), i = .int .i64 j ∧ sv = .int .i64 ((gsq c zs f j).z.ev.length : Nat) ∧ j ≤ sn ∧ Hid (Chg (gsq c zs f j) c C ∧ ∃ Ps, (∀ j, (Ps j).T = Ts j) ∧ GQ w c A G Ps (gsq c zs f j) [boxI FL (cB (C).fl) 102, boxI BY (cB (C).by_) 102, boxI NU (cB (C).nu) 102, boxI M #[.int .i64 c.ce, .int .i64 c.sl, .int .i64 c.bi, .int .i64 c.ta, .int .i64 c.ba, .int .i64 c.de] 23] wr)) (fun i sv _ _ _ _ _ _ _ _ _ _ _ _ _ _ _ _ _ _ _ _ _ _ _ _ _ _ _ _ _ _ _ _ _ _ _ _ _ _ _ _ _ _ _ _ _ _ _ _ _ _ _ _ _ _ _ _ _ _ _ _ _ _ _ _ _ _ _ _ _ _ _ _ _ _ _ _ _ _ _ _ _ _ _ _ _ _ _ _ _ _ _ _ _ _ _ _ _ _ _ _ _ _ _ _ _ _ _ _ _ _ _ _ _ _ _ _ _ _ _ _ _ _ _ _ _ _ _ _ _ _ _ _ _ _ _ _ _ _ _ _ _ _ _ _ _ _ _ _ _ _ _ _ _ _ _ _ _ _ _ _ _ _ _ _ _ _ _ _ _ _ _ _ _ _ _ _ _ _ _ _ _ _ _ _ _ _ _ _ _ _ _ _ _ _ _ _ _ _ _ => sn - (intOf i).toNat)
    case atStart => exact ⟨0, (Ch3.mk (fun _ => 0) (fun _ => 0) (fun _ => 0)), rfl, by rw [HE0.out]; rfl, Nat.zero_le _, HGQ⟩
    case round =>
      clear HGQ HE0
      obtain ⟨j, C, rfl, rfl, hj, HR⟩ := hrel
      obtain ⟨hchg, Ps, hT, gq⟩ := HR.out
      by_cases hlt : j < sn
      · have h1 : (j : Int) < (sn : Int) := by omega
        have h2 : (0 : Int) ≤ (j : Int) := by omega
        obtain ⟨b, off, rfl, hMw⟩ : ∃ b off, sa = some ⟨b, off, none⟩ ∧ ∀ i, i < sn → MwAt w b (off + i * 5) (f i) := by
          rcases HM.out with h | h
          · omega
          · exact h
        have HMW := hid hMw
        have HCG := hid (hchg.goes (gsq_ok HF.out zs f j) (gsq_gate HF.out zs f j) (gsq_own HF.out zs f j) (gsq_liv HF.out zs f j) (f j).mv)
        have HNews := hid (fun s hs => hchg.news (gsq_ok HF.out zs f j) (gsq_gate HF.out zs f j) (gsq_own HF.out zs f j) (f j).mv s hs)
        have HOk : Hid (∃ n, n ≤ 800000000 ∧ (gsq c zs f j).ok c n) := ⟨_, by omega, gsq_ok HF.out zs f j⟩
        have HOk1 : Hid (∃ n, n ≤ 800000000 ∧ ((gsq c zs f j).goes c (f j).mv).ok c n) := ⟨_, by omega, gsq_ok HF.out zs f (j + 1)⟩
        have HNext : Hid (∀ W Ps C, (∀ j, (Ps j).T = Ts j) → Chg ((gsq c zs f j).goes c (f j).mv) c C → GQ w c A G Ps ((gsq c zs f j).goes c (f j).mv) [boxI FL (cB (C).fl) 102, boxI BY (cB (C).by_) 102, boxI NU (cB (C).nu) 102, boxI M #[.int .i64 c.ce, .int .i64 c.sl, .int .i64 c.bi, .int .i64 c.ta, .int .i64 c.ba, .int .i64 c.de] 23] W → Hid (Chg (gsq c zs f (j + 1)) c C ∧ ∃ Ps, (∀ j, (Ps j).T = Ts j) ∧ GQ w c A G Ps (gsq c zs f (j + 1)) [boxI FL (cB (C).fl) 102, boxI BY (cB (C).by_) 102, boxI NU (cB (C).nu) 102, boxI M #[.int .i64 c.ce, .int .i64 c.sl, .int .i64 c.bi, .int .i64 c.ta, .int .i64 c.ba, .int .i64 c.de] 23] W)) := fun W Ps C h1 h3 h2 => ⟨h3, Ps, h1, h2⟩
        have HSEEN : Hid (∀ n : Nat, n = ((gsq c zs f j).goes c (f j).mv).z.ev.length → Value.int .i64 (n : Int) = .int .i64 ((gsq c zs f (j + 1)).z.ev.length : Nat)) := fun n hn => by rw [hn]; rfl
        clear hchg
        generalize gsq c zs f j = g at *
        have hMj := HMW.out j hlt
        generalize f j = d at *
        clear hMw
        obtain ⟨dth, dkd, dn, dce, dx⟩ := d
        obtain ⟨m, hmv⟩ : ∃ m : Mv, m = MwD.mv ⟨dth, dkd, dn, dce, dx⟩ := ⟨_, rfl⟩
        rw [← hmv] at HCG HNews HNext HOk1 HSEEN
        have hkk : dth % 4 = ((m.k : Nat) : Int) := by rw [hmv]; show dth % 4 = ((dth % 4).toNat : Int); omega
        have HMV := hid hmv
        clear hmv
        have hk4 := m.k_lt
        have k4 : ((m.k : Nat) : Int) < 4 := by omega
        have k0 : (0 : Int) ≤ ((m.k : Nat) : Int) := by omega
        generalize m.k = k at *
        have hand := and3 dth
        rw [hkk] at hand
        obtain ⟨g', hg'⟩ : ∃ y, y = g.goes c m := ⟨_, rfl⟩
        rw [← hg'] at HCG HNews HNext HSEEN
        have HG' := hid hg'
        obtain ⟨nn, hnn, hok⟩ := HOk.out
        obtain ⟨nn2, hnn2, hok2⟩ : ∃ n, n ≤ 800000000 ∧ g'.ok c n := by rw [hg']; exact HOk1.out
        have HNB := hid hnn2
        have HLL : Hid (g'.z.hs.length = g.z.hs.length) := by
          have a := hok.z.hl
          have b := hok2.z.hl
          show g'.z.hs.length = g.z.hs.length
          omega
        obtain ⟨E, hE1, hE2, hE3⟩ := HCG.out
        obtain ⟨C1, hC1⟩ : ∃ y, y = dN g.z.hs g'.z.hs g.z.x.n k C g.z.hs.length := ⟨_, rfl⟩
        rw [← hC1] at hE2 hE3
        have HCC := hid hC1
        have HEL : Hid (g.z.ev.length ≤ g'.z.ev.length) := by
          show g.z.ev.length ≤ g'.z.ev.length
          rw [hE1]
          simp
        have HTK : Hid ((E.take (g'.z.ev.length - g.z.ev.length)).foldl evC C1 = E.foldl evC C1) := by
          have : g'.z.ev.length - g.z.ev.length = E.length := by rw [hE1]; simp
          show (E.take (g'.z.ev.length - g.z.ev.length)).foldl evC C1 = E.foldl evC C1
          rw [this, List.take_length]
        have HEV : Hid (∀ p, g.z.ev.length ≤ p → p < g'.z.ev.length → evOk c ((E.take (p - g.z.ev.length)).foldl evC C1) (g'.z.ev.getD p evZ) ∧ (E.take (p + 1 - g.z.ev.length)).foldl evC C1 = evC ((E.take (p - g.z.ev.length)).foldl evC C1) (g'.z.ev.getD p evZ)) := by
          intro p hp1 hp2
          have hl : p - g.z.ev.length < E.length := by rw [hE1] at hp2; simp at hp2; omega
          have := evs_at hE2 hl
          rw [show p + 1 - g.z.ev.length = p - g.z.ev.length + 1 by omega]
          have e : g'.z.ev.getD p evZ = E.getD (p - g.z.ev.length) evZ := by
            rw [hE1, List.getD_eq_getElem?_getD, List.getD_eq_getElem?_getD, List.getElem?_append_right hp1]
          rw [e]
          exact this
        have HFIN := hid hE3
        clear hg' HOk1 HOk HCG hE1 hE2 hE3 hC1 hnn2
        have e0 : wr.cell? ⟨b, off + j * 5, none⟩ = some (.int .i64 dth) := (hMj.kept gq.same).c0
        have g0 : wr.cell? ⟨G, 0, none⟩ = some (.pointer (some ⟨A.sp, 0, none⟩)) := gq.sp
        have hvw := gq.view hok
        clear gq HR
        go_wp2_with fail
        refine hvw.mono ?_
        rintro e w4 ⟨qa1, ca1, qb1, cb1, rfl, q4⟩
        clear hvw e0 g0
        have gq5 := q4.box #[.slice qa1 g.z.xs.length ca1, .int .i64 g.z.x.n, .int .i64 g.z.x.o, .slice (some ⟨qb1, 0, none⟩) g.z.hs.length cb1] 84
        clear q4
        go_upto_region 14 with fail
        generalize w4.alloc (.cells #[.slice qa1 g.z.xs.length ca1, .int .i64 g.z.x.n, .int .i64 g.z.x.o, .slice (some ⟨qb1, 0, none⟩) g.z.hs.length cb1] 84) = w5 at *
        generalize w4.heap.size = V1 at *
        have f0 := (hMj.kept gq5.same).c0
        have f1 := (hMj.kept gq5.same).c1
        have f2 := (hMj.kept gq5.same).c2
        have f3 := (hMj.kept gq5.same).c3
        have f4 := (hMj.kept gq5.same).c4
        simp only at f0 f1 f2 f3 f4
        have hgo := gq5.goes hok hnn m
        rw [show #[Value.int .i64 m.th, .int .i64 m.kd, .int .i64 m.n, .int .i64 m.ce, .int .i64 m.x] = #[.int .i64 dth, .int .i64 dkd, .int .i64 dn, .int .i64 dce, .int .i64 dx] by rw [HMV.out]; rfl, ← HG'.out] at hgo
        generalize g.ans c m = AN at *
        clear gq5
        go_wp2_with fail
        refine hgo.mono ?_
        rintro e w8 ⟨rfl, Ps6, hT6, gq8⟩
        clear hgo f0 f1 f2 f3 f4
        have hT7 : ∀ j, (Ps6 j).T = Ts j := fun j => (hT6 j).trans (hT j)
        clear hT6 hT
        have g0 : w8.cell? ⟨G, 0, none⟩ = some (.pointer (some ⟨A.sp, 0, none⟩)) := gq8.sp
        have hvw := gq8.view hok2
        clear gq8
        go_wp2_with fail
        refine hvw.mono ?_
        rintro e w9 ⟨qa2, ca2, qb2, cb2, rfl, q9⟩
        clear hvw g0
        have HQ2 := hid (q9.box #[.slice qa2 g'.z.xs.length ca2, .int .i64 g'.z.x.n, .int .i64 g'.z.x.o, .slice (some ⟨qb2, 0, none⟩) g'.z.hs.length cb2] 84)
        clear q9
        go_upto_region 16 with fail
        generalize w9.alloc (.cells #[.slice qa2 g'.z.xs.length ca2, .int .i64 g'.z.x.n, .int .i64 g'.z.x.o, .slice (some ⟨qb2, 0, none⟩) g'.z.hs.length cb2] 84) = w10 at *
        generalize w9.heap.size = V2 at *
        go_wp2_with fail
        go_loopw [18, 19, 20, 72, 73, 74, 75, 76, 77, 78, 79, 80, 81, 82, 83, 84, 85, 86, 87, 88, 89, 90, 91, 92, 93, 94, 95, 96, 97, 98, 99, 100, 101, 102, 103, 104, 105, 106, 107, 108, 109, 110, 111, 112, 113, 114, 115, 116, 117, 118, 119, 120, 121, 122, 123, 124, 125, 126, 127, 128, 129, 130, 131, 132, 133, 134, 135, 136, 137, 138, 139, 140, 141, 142, 143, 144, 145, 146] (fun i _ _ _ _ _ _ _ _ _ _ _ _ _ _ _ _ _ _ _ _ _ _ _ _ _ _ _ _ _ _ _ _ _ _ _ _ _ _ _ _ _ _ _ _ _ _ _ _ _ _ _ _ _ _ _ _ _ _ _ _ _ _ _ _ _ _ _ _ _ _ _ _ _ _ _ _ _ wr => ∃ n : Nat, i = .int .i64 n ∧ n ≤ g'.z.hs.length ∧ Hid (GQ w c A G Ps6 g' [boxI V2 #[.slice qa2 g'.z.xs.length ca2, .int .i64 g'.z.x.n, .int .i64 g'.z.x.o, .slice (some ⟨qb2, 0, none⟩) g'.z.hs.length cb2] 84, ownI 2 1 (.slice qa2 g'.z.xs.length ca2) g'.z.xs.length (clCells g'.z.xs), ownI 109 8 (.slice (some ⟨qb2, 0, none⟩) g'.z.hs.length cb2) g'.z.hs.length (slCells (slots g'.z.hs g'.z.ws)), boxI V1 #[.slice qa1 g.z.xs.length ca1, .int .i64 g.z.x.n, .int .i64 g.z.x.o, .slice (some ⟨qb1, 0, none⟩) g.z.hs.length cb1] 84, ownI 2 1 (.slice qa1 g.z.xs.length ca1) g.z.xs.length (clCells g.z.xs), ownI 109 8 (.slice (some ⟨qb1, 0, none⟩) g.z.hs.length cb1) g.z.hs.length (slCells (slots g.z.hs g.z.ws)), boxI FL (cB (dN g.z.hs g'.z.hs g.z.x.n k C n).fl) 102, boxI BY (cB (dN g.z.hs g'.z.hs g.z.x.n k C n).by_) 102, boxI NU (cB (dN g.z.hs g'.z.hs g.z.x.n k C n).nu) 102, boxI M #[.int .i64 c.ce, .int .i64 c.sl, .int .i64 c.bi, .int .i64 c.ta, .int .i64 c.ba, .int .i64 c.de] 23] wr)) (fun i _ _ _ _ _ _ _ _ _ _ _ _ _ _ _ _ _ _ _ _ _ _ _ _ _ _ _ _ _ _ _ _ _ _ _ _ _ _ _ _ _ _ _ _ _ _ _ _ _ _ _ _ _ _ _ _ _ _ _ _ _ _ _ _ _ _ _ _ _ _ _ _ _ _ _ _ _ _ => g'.z.hs.length - (intOf i).toNat)
        case atStart => exact ⟨0, rfl, Nat.zero_le _, HQ2⟩
        case round =>
          clear HQ2
          obtain ⟨n, rfl, hn, HR2⟩ := hrel
          have v3 : wr.cell? ⟨V2, 3, none⟩ = some (.slice (some ⟨qb2, 0, none⟩) g'.z.hs.length cb2) := HR2.out.cell 0 rfl 3
          by_cases hnl : n < g'.z.hs.length
          · have h3 : (n : Int) < (g'.z.hs.length : Int) := by omega
            have h4 : (0 : Int) ≤ (n : Int) := by omega
            have h8 : n < 8 := by have := hok2.z.h8; omega
            have hnl2 : n < g.z.hs.length := by have := HLL.out; omega
            have h5 : (n : Int) < (g.z.hs.length : Int) := by omega
            obtain ⟨s0, s1, s2, s3, s4, s5⟩ := HR2.out.slots 2 rfl hok2.z.wl hnl
            obtain ⟨H1, hH1⟩ : ∃ y, y = g'.z.hs.getD n Hd.zero := ⟨_, rfl⟩
            obtain ⟨H0, hH0⟩ : ∃ y, y = g.z.hs.getD n Hd.zero := ⟨_, rfl⟩
            rw [← hH1] at s0 s1 s2 s3 s4 s5
            have HH0 := hid hH0
            have HDD : Hid ((dN g.z.hs g'.z.hs g.z.x.n k C (n + 1)) = if (H1.dm && !H0.dm) = true then ⟨upd (dN g.z.hs g'.z.hs g.z.x.n k C n).fl H1.th.toNat g.z.x.n, upd (dN g.z.hs g'.z.hs g.z.x.n k C n).by_ H1.th.toNat (k + 1), upd (dN g.z.hs g'.z.hs g.z.x.n k C n).nu (k + 1) g.z.x.n⟩ else dN g.z.hs g'.z.hs g.z.x.n k C n) := by
              rw [hH1, hH0]
              rfl
            have HNW : Hid ((H1.dm && !H0.dm) = true → g.z.x.o = k + 1 ∧ H1.wy = k + 1 ∧ H0.sa = 2 ∧ H0.gn = H1.gn ∧ ∃ tt : Nat, tt < 5 ∧ tt ≠ k + 1 ∧ H1.th = tt) := by
              intro q
              rw [hH1, hH0] at q
              obtain ⟨q1, q2, q3, q4, q5, q6, ⟨jj, r1, r2, r3, r4⟩, -⟩ := HNews.out n q
              rw [hH1, hH0]
              exact ⟨q1, q2, q4, q5, jj + 1, by omega, by omega, by rw [show (g'.z.hs.getD n Hd.zero).th = (g.z.hs.getD n Hd.zero).th from q6]; exact r3⟩
            clear hH1 hH0
            obtain ⟨hgn, hsa, hsp, hth, hdm, hwy⟩ := H1
            simp only at s0 s1 s2 s3 s4 s5
            have qh := HR2.out.box #[.int .i64 hgn, .int .i64 hsa, .int .i64 hsp, .int .i64 hth, .bool hdm, .int .i64 hwy] 107
            clear HR2
            go_upto_region 20 with fail
            clear v3 s0 s1 s2 s3 s4 s5
            generalize wr.alloc (.cells #[.int .i64 hgn, .int .i64 hsa, .int .i64 hsp, .int .i64 hth, .bool hdm, .int .i64 hwy] 107) = wh at *
            generalize wr.heap.size = HB at *
            obtain ⟨o0, o1, o2, o3, o4, o5⟩ := qh.slots 6 rfl hok.z.wl hnl2
            rw [← HH0.out] at o0 o1 o2 o3 o4 o5
            have v4 : wh.cell? ⟨V1, 3, none⟩ = some (.slice (some ⟨qb1, 0, none⟩) g.z.hs.length cb1) := qh.cell 4 rfl 3
            clear HH0
            obtain ⟨ogn, osa, osp, oth, odm, owy⟩ := H0
            simp only at o0 o1 o2 o3 o4 o5 HDD HNW
            have qo := qh.box #[.int .i64 ogn, .int .i64 osa, .int .i64 osp, .int .i64 oth, .bool odm, .int .i64 owy] 107
            clear qh
            go_upto_region 21 with fail
            clear v4 o0 o1 o2 o3 o4 o5
            generalize wh.alloc (.cells #[.int .i64 ogn, .int .i64 osa, .int .i64 osp, .int .i64 oth, .bool odm, .int .i64 owy] 107) = wo at *
            generalize wh.heap.size = OB at *
            have x4 : wo.cell? ⟨HB, 4, none⟩ = some (.bool hdm) := qo.cell 1 rfl 4
            have y4 : wo.cell? ⟨OB, 4, none⟩ = some (.bool odm) := qo.cell 0 rfl 4
            have hold : (hdm && !odm) = false → Hid (GQ w c A G Ps6 g' [boxI V2 #[.slice qa2 g'.z.xs.length ca2, .int .i64 g'.z.x.n, .int .i64 g'.z.x.o, .slice (some ⟨qb2, 0, none⟩) g'.z.hs.length cb2] 84, ownI 2 1 (.slice qa2 g'.z.xs.length ca2) g'.z.xs.length (clCells g'.z.xs), ownI 109 8 (.slice (some ⟨qb2, 0, none⟩) g'.z.hs.length cb2) g'.z.hs.length (slCells (slots g'.z.hs g'.z.ws)), boxI V1 #[.slice qa1 g.z.xs.length ca1, .int .i64 g.z.x.n, .int .i64 g.z.x.o, .slice (some ⟨qb1, 0, none⟩) g.z.hs.length cb1] 84, ownI 2 1 (.slice qa1 g.z.xs.length ca1) g.z.xs.length (clCells g.z.xs), ownI 109 8 (.slice (some ⟨qb1, 0, none⟩) g.z.hs.length cb1) g.z.hs.length (slCells (slots g.z.hs g.z.ws)), boxI FL (cB (dN g.z.hs g'.z.hs g.z.x.n k C (n + 1)).fl) 102, boxI BY (cB (dN g.z.hs g'.z.hs g.z.x.n k C (n + 1)).by_) 102, boxI NU (cB (dN g.z.hs g'.z.hs g.z.x.n k C (n + 1)).nu) 102, boxI M #[.int .i64 c.ce, .int .i64 c.sl, .int .i64 c.bi, .int .i64 c.ta, .int .i64 c.ba, .int .i64 c.de] 23] wo) := by
              intro q
              have e := HDD.out
              rw [q] at e
              simp only [Bool.false_eq_true, if_false] at e
              rw [e]
              exact qo.pop.pop
            cases hdm with
            | false =>
              have HR6 := hold rfl
              clear hold HDD HNW qo
              go_wp2_with fail
              go_roundw
              case rel => exact ⟨n + 1, by go_num, by omega, HR6⟩
              case measure => simp [intOf]; omega
            | true =>
              cases odm with
              | true =>
                have HR6 := hold rfl
                clear hold HDD HNW qo
                go_wp2_with fail
                go_roundw
                case rel => exact ⟨n + 1, by go_num, by omega, HR6⟩
                case measure => simp [intOf]; omega
              | false =>
                obtain ⟨q1, q2, q3, q4, tt, t5, t6, q5⟩ := HNW.out rfl
                have e := HDD.out
                simp only [Bool.not_false, Bool.and_self, if_true] at e
                rw [q5] at e
                have et : ((tt : Nat) : Int).toNat = tt := by omega
                rw [et] at e
                have HE := hid e
                clear hold HDD HNW e et
                subst q2 q3 q4 q5
                have z0 : wo.cell? ⟨HB, 0, none⟩ = some (.int .i64 ogn) := qo.cell 1 rfl 0
                have z3 : wo.cell? ⟨HB, 3, none⟩ = some (.int .i64 (tt : Int)) := qo.cell 1 rfl 3
                have z5 : wo.cell? ⟨HB, 5, none⟩ = some (.int .i64 ((k : Int) + 1)) := qo.cell 1 rfl 5
                have p0 : wo.cell? ⟨OB, 0, none⟩ = some (.int .i64 ogn) := qo.cell 0 rfl 0
                have p1 : wo.cell? ⟨OB, 1, none⟩ = some (.int .i64 2) := qo.cell 0 rfl 1
                have g1 : wo.cell? ⟨V1, 1, none⟩ = some (.int .i64 g.z.x.n) := qo.cell 5 rfl 1
                have g2 : wo.cell? ⟨V1, 2, none⟩ = some (.int .i64 ((k : Int) + 1)) := by rw [← q1]; exact qo.cell 5 rfl 2
                have b1 : ((tt : Int) == (k : Int) + 1) = false := beq_false_of_ne (by omega)
                have t7 : (tt : Int) < 5 := by omega
                have t8 : (0 : Int) ≤ (tt : Int) := by omega
                have k5 : (k : Int) + 1 < 5 := by omega
                have k6 : (0 : Int) ≤ (k : Int) + 1 := by omega
                have u0 := (qo.cell 8 rfl tt).trans (cB_at _ t5)
                have u1 := qo.frozen 8 rfl tt
                have qa := qo.write 8 rfl tt (.int .i64 g.z.x.n)
                rw [cB_set _ t5] at qa
                clear qo q1
                generalize (dN g.z.hs g'.z.hs g.z.x.n k C n).fl tt = OLD1 at u0
                go_upto_region 25 with fail
                clear u0 u1 x4 y4 p0 p1 z0 z5 g2 b1 z3 g1
                generalize wo.setCell ⟨FL, tt, none⟩ (.int .i64 g.z.x.n) = wa at *
                have z3 : wa.cell? ⟨HB, 3, none⟩ = some (.int .i64 (tt : Int)) := qa.cell 1 rfl 3
                have u0 := (qa.cell 9 rfl tt).trans (cB_at _ t5)
                have u1 := qa.frozen 9 rfl tt
                have qb := qa.write 9 rfl tt (.int .i64 ((k : Int) + 1))
                rw [cB_set _ t5] at qb
                clear qa
                generalize (dN g.z.hs g'.z.hs g.z.x.n k C n).by_ tt = OLD2 at u0
                go_upto_region 26 with fail
                clear u0 u1 z3
                generalize wa.setCell ⟨BY, tt, none⟩ (.int .i64 ((k : Int) + 1)) = wb at *
                have hk5 : k + 1 < 5 := by omega
                have g1 : wb.cell? ⟨V1, 1, none⟩ = some (.int .i64 g.z.x.n) := qb.cell 5 rfl 1
                have u0 := (qb.cell 10 rfl (k + 1)).trans (cB_at _ hk5)
                have u1 := qb.frozen 10 rfl (k + 1)
                have qc := qb.write 10 rfl (k + 1) (.int .i64 g.z.x.n)
                rw [cB_set _ hk5] at qc
                clear qb
                have HR6 : Hid (GQ w c A G Ps6 g' [boxI V2 #[.slice qa2 g'.z.xs.length ca2, .int .i64 g'.z.x.n, .int .i64 g'.z.x.o, .slice (some ⟨qb2, 0, none⟩) g'.z.hs.length cb2] 84, ownI 2 1 (.slice qa2 g'.z.xs.length ca2) g'.z.xs.length (clCells g'.z.xs), ownI 109 8 (.slice (some ⟨qb2, 0, none⟩) g'.z.hs.length cb2) g'.z.hs.length (slCells (slots g'.z.hs g'.z.ws)), boxI V1 #[.slice qa1 g.z.xs.length ca1, .int .i64 g.z.x.n, .int .i64 g.z.x.o, .slice (some ⟨qb1, 0, none⟩) g.z.hs.length cb1] 84, ownI 2 1 (.slice qa1 g.z.xs.length ca1) g.z.xs.length (clCells g.z.xs), ownI 109 8 (.slice (some ⟨qb1, 0, none⟩) g.z.hs.length cb1) g.z.hs.length (slCells (slots g.z.hs g.z.ws)), boxI FL (cB (dN g.z.hs g'.z.hs g.z.x.n k C (n + 1)).fl) 102, boxI BY (cB (dN g.z.hs g'.z.hs g.z.x.n k C (n + 1)).by_) 102, boxI NU (cB (dN g.z.hs g'.z.hs g.z.x.n k C (n + 1)).nu) 102, boxI M #[.int .i64 c.ce, .int .i64 c.sl, .int .i64 c.bi, .int .i64 c.ta, .int .i64 c.ba, .int .i64 c.de] 23] (wb.setCell ⟨NU, k + 1, none⟩ (.int .i64 g.z.x.n))) := by
                  rw [HE.out]
                  exact qc.pop.pop
                clear qc HE
                generalize (dN g.z.hs g'.z.hs g.z.x.n k C n).nu (k + 1) = OLD3 at u0
                go_wp2_with fail
                go_roundw
                case rel => exact ⟨n + 1, by go_num, by omega, HR6⟩
                case measure => simp [intOf]; omega
          · obtain rfl : n = g'.z.hs.length := by omega
            have HC1 : Hid (GQ w c A G Ps6 g' [boxI V2 #[.slice qa2 g'.z.xs.length ca2, .int .i64 g'.z.x.n, .int .i64 g'.z.x.o, .slice (some ⟨qb2, 0, none⟩) g'.z.hs.length cb2] 84, ownI 2 1 (.slice qa2 g'.z.xs.length ca2) g'.z.xs.length (clCells g'.z.xs), ownI 109 8 (.slice (some ⟨qb2, 0, none⟩) g'.z.hs.length cb2) g'.z.hs.length (slCells (slots g'.z.hs g'.z.ws)), boxI V1 #[.slice qa1 g.z.xs.length ca1, .int .i64 g.z.x.n, .int .i64 g.z.x.o, .slice (some ⟨qb1, 0, none⟩) g.z.hs.length cb1] 84, ownI 2 1 (.slice qa1 g.z.xs.length ca1) g.z.xs.length (clCells g.z.xs), ownI 109 8 (.slice (some ⟨qb1, 0, none⟩) g.z.hs.length cb1) g.z.hs.length (slCells (slots g.z.hs g.z.ws)), boxI FL (cB (C1).fl) 102, boxI BY (cB (C1).by_) 102, boxI NU (cB (C1).nu) 102, boxI M #[.int .i64 c.ce, .int .i64 c.sl, .int .i64 c.bi, .int .i64 c.ta, .int .i64 c.ba, .int .i64 c.de] 23] wr) := by rw [HCC.out, ← dN_len HLL.out]; exact HR2.out
            clear HR2
            obtain ⟨wz, hwz⟩ : ∃ y, y = wr := ⟨_, rfl⟩
            subst hwz
            go_upto_region 27 with fail
            clear v3
            have hev := HC1.out.events (by have := hok2.z.el; have := HNB.out; omega)
            have g0 : wz.cell? ⟨G, 0, none⟩ = some (.pointer (some ⟨A.sp, 0, none⟩)) := HC1.out.sp
            clear HC1
            go_wp2_with fail
            refine hev.mono ?_
            rintro e we ⟨ve, rfl, qe0⟩
            clear hev g0
            obtain ⟨qe, ce, rfl⟩ := own_form (n := g'.z.ev.length) (qe0.get 0 rfl)
            have HQ3 : Hid (GQ w c A G Ps6 g' [ownI 104 10 (.slice qe g'.z.ev.length ce) g'.z.ev.length (evCells g'.z.ev), boxI V2 #[.slice qa2 g'.z.xs.length ca2, .int .i64 g'.z.x.n, .int .i64 g'.z.x.o, .slice (some ⟨qb2, 0, none⟩) g'.z.hs.length cb2] 84, ownI 2 1 (.slice qa2 g'.z.xs.length ca2) g'.z.xs.length (clCells g'.z.xs), ownI 109 8 (.slice (some ⟨qb2, 0, none⟩) g'.z.hs.length cb2) g'.z.hs.length (slCells (slots g'.z.hs g'.z.ws)), boxI V1 #[.slice qa1 g.z.xs.length ca1, .int .i64 g.z.x.n, .int .i64 g.z.x.o, .slice (some ⟨qb1, 0, none⟩) g.z.hs.length cb1] 84, ownI 2 1 (.slice qa1 g.z.xs.length ca1) g.z.xs.length (clCells g.z.xs), ownI 109 8 (.slice (some ⟨qb1, 0, none⟩) g.z.hs.length cb1) g.z.hs.length (slCells (slots g.z.hs g.z.ws)), boxI FL (cB (((E.take (g.z.ev.length - g.z.ev.length)).foldl evC C1)).fl) 102, boxI BY (cB (((E.take (g.z.ev.length - g.z.ev.length)).foldl evC C1)).by_) 102, boxI NU (cB (((E.take (g.z.ev.length - g.z.ev.length)).foldl evC C1)).nu) 102, boxI M #[.int .i64 c.ce, .int .i64 c.sl, .int .i64 c.bi, .int .i64 c.ta, .int .i64 c.ba, .int .i64 c.de] 23] we) := by
              rw [Nat.sub_self, List.take_zero, List.foldl_nil]
              exact qe0
            clear qe0
            go_wp2_with fail
            go_loopw [13, 22, 152, 153, 154, 155, 156, 157, 158, 159, 160, 161, 162, 163, 164, 165, 166, 167, 168, 169, 170, 171, 172, 173, 174, 175, 176, 177, 178, 179, 180, 181, 182, 183, 184, 185, 186, 187, 188, 189, 190, 191, 192, 193, 194, 195, 196, 197, 198, 199, 200, 201, 202, 203, 204, 205, 206, 207, 208, 209, 210, 211, 212, 213, 214, 215, 216, 217, 218, 219, 220, 221, 222, 223, 224, 225, 226, 227, 228, 229, 230, 231, 232, 233] (fun i _ _ _ _ _ _ _ _ _ _ _ _ _ _ _ _ _ _ _ _ _ _ _ _ _ _ _ _ _ _ _ _ _ _ _ _ _ _ _ _ _ _ _ _ _ _ _ _ _ _ _ _ _ _ _ _ _ _ _ _ _ _ _ _ _ _ _ _ _ _ _ _ _ _ _ _ _ _ _ _ _ _ _ wr => ∃ p : Nat, i = .int .i64 p ∧ g.z.ev.length ≤ p ∧ p ≤ g'.z.ev.length ∧ Hid (GQ w c A G Ps6 g' [ownI 104 10 (.slice qe g'.z.ev.length ce) g'.z.ev.length (evCells g'.z.ev), boxI V2 #[.slice qa2 g'.z.xs.length ca2, .int .i64 g'.z.x.n, .int .i64 g'.z.x.o, .slice (some ⟨qb2, 0, none⟩) g'.z.hs.length cb2] 84, ownI 2 1 (.slice qa2 g'.z.xs.length ca2) g'.z.xs.length (clCells g'.z.xs), ownI 109 8 (.slice (some ⟨qb2, 0, none⟩) g'.z.hs.length cb2) g'.z.hs.length (slCells (slots g'.z.hs g'.z.ws)), boxI V1 #[.slice qa1 g.z.xs.length ca1, .int .i64 g.z.x.n, .int .i64 g.z.x.o, .slice (some ⟨qb1, 0, none⟩) g.z.hs.length cb1] 84, ownI 2 1 (.slice qa1 g.z.xs.length ca1) g.z.xs.length (clCells g.z.xs), ownI 109 8 (.slice (some ⟨qb1, 0, none⟩) g.z.hs.length cb1) g.z.hs.length (slCells (slots g.z.hs g.z.ws)), boxI FL (cB (((E.take (p - g.z.ev.length)).foldl evC C1)).fl) 102, boxI BY (cB (((E.take (p - g.z.ev.length)).foldl evC C1)).by_) 102, boxI NU (cB (((E.take (p - g.z.ev.length)).foldl evC C1)).nu) 102, boxI M #[.int .i64 c.ce, .int .i64 c.sl, .int .i64 c.bi, .int .i64 c.ta, .int .i64 c.ba, .int .i64 c.de] 23] wr)) (fun i _ _ _ _ _ _ _ _ _ _ _ _ _ _ _ _ _ _ _ _ _ _ _ _ _ _ _ _ _ _ _ _ _ _ _ _ _ _ _ _ _ _ _ _ _ _ _ _ _ _ _ _ _ _ _ _ _ _ _ _ _ _ _ _ _ _ _ _ _ _ _ _ _ _ _ _ _ _ _ _ _ _ _ _ => g'.z.ev.length - (intOf i).toNat)
            case atStart => exact ⟨g.z.ev.length, rfl, Nat.le_refl _, HEL.out, HQ3⟩
            case round =>
              clear HQ3
              obtain ⟨p, rfl, hp1, hp2, HR3⟩ := hrel
              by_cases hpl : p < g'.z.ev.length
              · have h3 : (p : Int) < (g'.z.ev.length : Int) := by omega
                have h4 : (0 : Int) ≤ (p : Int) := by omega
                have h8 : p < 1000000000 := by have := hok2.z.el; have := HNB.out; omega
                obtain ⟨gg, cap, hv, -, -⟩ := World.ownsRow.form (show wr.ownsRow 0 _ _ _ _ _ from HR3.out.get 0 rfl) (by omega : 0 < g'.z.ev.length)
                have hq : qe = some ⟨gg, 0, none⟩ := by cases hv; rfl
                clear hv
                subst hq
                have ev := fun jx hj => HR3.out.evAt (n := 0) 0 rfl hpl jx hj
                obtain ⟨e, he⟩ : ∃ y, y = g'.z.ev.getD p evZ := ⟨_, rfl⟩
                rw [← he] at ev
                obtain ⟨x1, x2⟩ := HEV.out p hp1 hpl
                rw [← he] at x1 x2
                have e0 := ev 0 (by decide)
                have e1 := ev 1 (by decide)
                have e2 := ev 2 (by decide)
                have e3 := ev 3 (by decide)
                have e4 := ev 4 (by decide)
                have e5 := ev 5 (by decide)
                have e6 := ev 6 (by decide)
                have e7 := ev 7 (by decide)
                have e8 := ev 8 (by decide)
                have e9 := ev 9 (by decide)
                clear ev he
                obtain ⟨kd, est, eth, esp, ece, ex, eow, ega, eer, eby⟩ := e
                obtain ⟨tt, htt⟩ := Int.eq_ofNat_of_zero_le (show 0 ≤ eth by have := x1.t1; simp only at this; omega)
                subst htt
                have t5 : tt < 5 := by have := x1.t4; simp only at this; omega
                have et : ((tt : Nat) : Int).toNat = tt := by omega
                have x3 := x1.ab
                simp only [et] at x3 x2
                simp only [Ev.cells, Nat.add_zero, List.getElem?_cons_zero, List.getElem?_cons_succ] at e0 e1 e2 e3 e4 e5 e6 e7 e8 e9
                have qe1 := HR3.out.box #[.int .i64 kd, .int .i64 est, .int .i64 (tt : Int), .int .i64 esp, .int .i64 ece, .int .i64 ex, .bool eow, .int .i64 ega, .int .i64 eer, .int .i64 eby] 104
                clear HR3 x1
                go_upto_region 31 with fail
                clear e0 e1 e2 e3 e4 e5 e6 e7 e8 e9
                generalize wr.alloc (.cells #[.int .i64 kd, .int .i64 est, .int .i64 (tt : Int), .int .i64 esp, .int .i64 ece, .int .i64 ex, .bool eow, .int .i64 ega, .int .i64 eer, .int .i64 eby] 104) = wq at *
                generalize wr.heap.size = EB at *
                obtain ⟨CP, hCP⟩ : ∃ y, y = ((E.take (p - g.z.ev.length)).foldl evC C1) := ⟨_, rfl⟩
                rw [← hCP] at qe1 x2 x3
                have HX2 := hid x2
                clear hCP x2
                have hsame : evC CP ⟨kd, est, (tt : Int), esp, ece, ex, eow, ega, eer, eby⟩ = CP → Hid (GQ w c A G Ps6 g' [ownI 104 10 (.slice (some ⟨gg, 0, none⟩) g'.z.ev.length ce) g'.z.ev.length (evCells g'.z.ev), boxI V2 #[.slice qa2 g'.z.xs.length ca2, .int .i64 g'.z.x.n, .int .i64 g'.z.x.o, .slice (some ⟨qb2, 0, none⟩) g'.z.hs.length cb2] 84, ownI 2 1 (.slice qa2 g'.z.xs.length ca2) g'.z.xs.length (clCells g'.z.xs), ownI 109 8 (.slice (some ⟨qb2, 0, none⟩) g'.z.hs.length cb2) g'.z.hs.length (slCells (slots g'.z.hs g'.z.ws)), boxI V1 #[.slice qa1 g.z.xs.length ca1, .int .i64 g.z.x.n, .int .i64 g.z.x.o, .slice (some ⟨qb1, 0, none⟩) g.z.hs.length cb1] 84, ownI 2 1 (.slice qa1 g.z.xs.length ca1) g.z.xs.length (clCells g.z.xs), ownI 109 8 (.slice (some ⟨qb1, 0, none⟩) g.z.hs.length cb1) g.z.hs.length (slCells (slots g.z.hs g.z.ws)), boxI FL (cB (((E.take ((p + 1) - g.z.ev.length)).foldl evC C1)).fl) 102, boxI BY (cB (((E.take ((p + 1) - g.z.ev.length)).foldl evC C1)).by_) 102, boxI NU (cB (((E.take ((p + 1) - g.z.ev.length)).foldl evC C1)).nu) 102, boxI M #[.int .i64 c.ce, .int .i64 c.sl, .int .i64 c.bi, .int .i64 c.ta, .int .i64 c.ba, .int .i64 c.de] 23] wq) := by
                  intro q
                  rw [HX2.out, q]
                  exact qe1.pop
                have a0 : wq.cell? ⟨EB, 0, none⟩ = some (.int .i64 kd) := qe1.cell 0 rfl 0
                have a2 : wq.cell? ⟨EB, 2, none⟩ = some (.int .i64 (tt : Int)) := qe1.cell 0 rfl 2
                have a7 : wq.cell? ⟨EB, 7, none⟩ = some (.int .i64 ega) := qe1.cell 0 rfl 7
                have a8 : wq.cell? ⟨EB, 8, none⟩ = some (.int .i64 eer) := qe1.cell 0 rfl 8
                have a9 : wq.cell? ⟨EB, 9, none⟩ = some (.int .i64 eby) := qe1.cell 0 rfl 9
                have t7 : (tt : Int) < 5 := by omega
                have t8 : (0 : Int) ≤ (tt : Int) := by omega
                have uf := (qe1.cell 8 rfl tt).trans (cB_at _ t5)
                have ub := (qe1.cell 9 rfl tt).trans (cB_at _ t5)
                have un := (qe1.cell 10 rfl tt).trans (cB_at _ t5)
                have y3 : wq.cell? ⟨M, 3, none⟩ = some (.int .i64 c.ta) := qe1.cell 11 rfl 3
                by_cases k1 : kd = 1
                · subst k1
                  have fz := qe1.frozen 8 rfl tt
                  have q2 := qe1.write 8 rfl tt (.int .i64 0)
                  rw [cB_set _ t5] at q2
                  have HR6 : Hid (GQ w c A G Ps6 g' [ownI 104 10 (.slice (some ⟨gg, 0, none⟩) g'.z.ev.length ce) g'.z.ev.length (evCells g'.z.ev), boxI V2 #[.slice qa2 g'.z.xs.length ca2, .int .i64 g'.z.x.n, .int .i64 g'.z.x.o, .slice (some ⟨qb2, 0, none⟩) g'.z.hs.length cb2] 84, ownI 2 1 (.slice qa2 g'.z.xs.length ca2) g'.z.xs.length (clCells g'.z.xs), ownI 109 8 (.slice (some ⟨qb2, 0, none⟩) g'.z.hs.length cb2) g'.z.hs.length (slCells (slots g'.z.hs g'.z.ws)), boxI V1 #[.slice qa1 g.z.xs.length ca1, .int .i64 g.z.x.n, .int .i64 g.z.x.o, .slice (some ⟨qb1, 0, none⟩) g.z.hs.length cb1] 84, ownI 2 1 (.slice qa1 g.z.xs.length ca1) g.z.xs.length (clCells g.z.xs), ownI 109 8 (.slice (some ⟨qb1, 0, none⟩) g.z.hs.length cb1) g.z.hs.length (slCells (slots g.z.hs g.z.ws)), boxI FL (cB (((E.take ((p + 1) - g.z.ev.length)).foldl evC C1)).fl) 102, boxI BY (cB (((E.take ((p + 1) - g.z.ev.length)).foldl evC C1)).by_) 102, boxI NU (cB (((E.take ((p + 1) - g.z.ev.length)).foldl evC C1)).nu) 102, boxI M #[.int .i64 c.ce, .int .i64 c.sl, .int .i64 c.bi, .int .i64 c.ta, .int .i64 c.ba, .int .i64 c.de] 23] (wq.setCell ⟨FL, tt, none⟩ (.int .i64 0))) := by
                    rw [HX2.out]
                    unfold evC
                    rw [if_pos rfl, et]
                    exact q2.pop
                  clear hsame qe1 q2 x3 HX2 a7 a8 a9 ub un y3 et
                  generalize CP.fl tt = U1 at uf
                  go_wp2_with fail
                  go_roundw
                  case rel => exact ⟨p + 1, by go_num, by omega, by omega, HR6⟩
                  case measure => simp [intOf]; omega
                · by_cases k4' : kd = 4
                  · subst k4'
                    have HSQ : Hid (¬ CP.nu tt = ega → Hid (GQ w c A G Ps6 g' [ownI 104 10 (.slice (some ⟨gg, 0, none⟩) g'.z.ev.length ce) g'.z.ev.length (evCells g'.z.ev), boxI V2 #[.slice qa2 g'.z.xs.length ca2, .int .i64 g'.z.x.n, .int .i64 g'.z.x.o, .slice (some ⟨qb2, 0, none⟩) g'.z.hs.length cb2] 84, ownI 2 1 (.slice qa2 g'.z.xs.length ca2) g'.z.xs.length (clCells g'.z.xs), ownI 109 8 (.slice (some ⟨qb2, 0, none⟩) g'.z.hs.length cb2) g'.z.hs.length (slCells (slots g'.z.hs g'.z.ws)), boxI V1 #[.slice qa1 g.z.xs.length ca1, .int .i64 g.z.x.n, .int .i64 g.z.x.o, .slice (some ⟨qb1, 0, none⟩) g.z.hs.length cb1] 84, ownI 2 1 (.slice qa1 g.z.xs.length ca1) g.z.xs.length (clCells g.z.xs), ownI 109 8 (.slice (some ⟨qb1, 0, none⟩) g.z.hs.length cb1) g.z.hs.length (slCells (slots g.z.hs g.z.ws)), boxI FL (cB (((E.take ((p + 1) - g.z.ev.length)).foldl evC C1)).fl) 102, boxI BY (cB (((E.take ((p + 1) - g.z.ev.length)).foldl evC C1)).by_) 102, boxI NU (cB (((E.take ((p + 1) - g.z.ev.length)).foldl evC C1)).nu) 102, boxI M #[.int .i64 c.ce, .int .i64 c.sl, .int .i64 c.bi, .int .i64 c.ta, .int .i64 c.ba, .int .i64 c.de] 23] wq)) := by
                      intro q
                      refine hsame ?_
                      unfold evC
                      rw [if_neg (by simp), if_pos rfl, et, if_neg q]
                    have HSW : Hid (CP.nu tt = ega → ∀ W, GQ w c A G Ps6 g' (boxI EB #[.int .i64 4, .int .i64 est, .int .i64 (tt : Int), .int .i64 esp, .int .i64 ece, .int .i64 ex, .bool eow, .int .i64 ega, .int .i64 eer, .int .i64 eby] 104 :: [ownI 104 10 (.slice (some ⟨gg, 0, none⟩) g'.z.ev.length ce) g'.z.ev.length (evCells g'.z.ev), boxI V2 #[.slice qa2 g'.z.xs.length ca2, .int .i64 g'.z.x.n, .int .i64 g'.z.x.o, .slice (some ⟨qb2, 0, none⟩) g'.z.hs.length cb2] 84, ownI 2 1 (.slice qa2 g'.z.xs.length ca2) g'.z.xs.length (clCells g'.z.xs), ownI 109 8 (.slice (some ⟨qb2, 0, none⟩) g'.z.hs.length cb2) g'.z.hs.length (slCells (slots g'.z.hs g'.z.ws)), boxI V1 #[.slice qa1 g.z.xs.length ca1, .int .i64 g.z.x.n, .int .i64 g.z.x.o, .slice (some ⟨qb1, 0, none⟩) g.z.hs.length cb1] 84, ownI 2 1 (.slice qa1 g.z.xs.length ca1) g.z.xs.length (clCells g.z.xs), ownI 109 8 (.slice (some ⟨qb1, 0, none⟩) g.z.hs.length cb1) g.z.hs.length (slCells (slots g.z.hs g.z.ws)), boxI FL (cB (CP).fl) 102, boxI BY (cB (CP).by_) 102, boxI NU (cB (CP).nu) 102, boxI M #[.int .i64 c.ce, .int .i64 c.sl, .int .i64 c.bi, .int .i64 c.ta, .int .i64 c.ba, .int .i64 c.de] 23]) W → Hid (GQ w c A G Ps6 g' [ownI 104 10 (.slice (some ⟨gg, 0, none⟩) g'.z.ev.length ce) g'.z.ev.length (evCells g'.z.ev), boxI V2 #[.slice qa2 g'.z.xs.length ca2, .int .i64 g'.z.x.n, .int .i64 g'.z.x.o, .slice (some ⟨qb2, 0, none⟩) g'.z.hs.length cb2] 84, ownI 2 1 (.slice qa2 g'.z.xs.length ca2) g'.z.xs.length (clCells g'.z.xs), ownI 109 8 (.slice (some ⟨qb2, 0, none⟩) g'.z.hs.length cb2) g'.z.hs.length (slCells (slots g'.z.hs g'.z.ws)), boxI V1 #[.slice qa1 g.z.xs.length ca1, .int .i64 g.z.x.n, .int .i64 g.z.x.o, .slice (some ⟨qb1, 0, none⟩) g.z.hs.length cb1] 84, ownI 2 1 (.slice qa1 g.z.xs.length ca1) g.z.xs.length (clCells g.z.xs), ownI 109 8 (.slice (some ⟨qb1, 0, none⟩) g.z.hs.length cb1) g.z.hs.length (slCells (slots g.z.hs g.z.ws)), boxI FL (cB (((E.take ((p + 1) - g.z.ev.length)).foldl evC C1)).fl) 102, boxI BY (cB (((E.take ((p + 1) - g.z.ev.length)).foldl evC C1)).by_) 102, boxI NU (cB (((E.take ((p + 1) - g.z.ev.length)).foldl evC C1)).nu) 102, boxI M #[.int .i64 c.ce, .int .i64 c.sl, .int .i64 c.bi, .int .i64 c.ta, .int .i64 c.ba, .int .i64 c.de] 23] (W.setCell ⟨NU, tt, none⟩ (.int .i64 0)))) := by
                      intro q W qW
                      have q2 := qW.write 10 rfl tt (.int .i64 0)
                      rw [cB_set _ t5] at q2
                      rw [HX2.out]
                      unfold evC
                      rw [if_neg (by simp), if_pos rfl, et, if_pos q]
                      exact q2.pop
                    have HQQ := hid qe1
                    clear hsame qe1 x3 HX2 a8 a9 uf ub y3 et k1
                    obtain ⟨U1, hU1⟩ : ∃ y, y = CP.nu tt := ⟨_, rfl⟩
                    rw [← hU1] at un HSQ HSW
                    clear hU1
                    go_upto_region 35 with fail
                    by_cases hga : U1 = ega
                    · subst hga
                      go_quiet (fail)
                      have q9 := HQQ.out.calm ((Kept.refl _ wq).drewN nq)
                      clear HQQ a0 a2 a7 un HSQ
                      generalize wq.drewN nq = wk at *
                      have a2 : wk.cell? ⟨EB, 2, none⟩ = some (.int .i64 (tt : Int)) := q9.cell 0 rfl 2
                      have un := (q9.cell 10 rfl tt).trans (cB_at _ t5)
                      have fz := q9.frozen 10 rfl tt
                      have HR6 := HSW.out rfl wk q9
                      clear q9 HSW
                      generalize CP.nu tt = U2 at un
                      go_wp2_with fail
                      go_roundw
                      case rel => exact ⟨p + 1, by go_num, by omega, by omega, HR6⟩
                      case measure => simp [intOf]; omega
                    · have b1 : (U1 == ega) = false := beq_false_of_ne hga
                      have HR5 := HSQ.out hga
                      go_quiet (fail)
                      have HR6 := hid (HR5.out.calm ((Kept.refl _ wq).drewN nq))
                      clear HQQ a0 a2 a7 un HSQ HSW HR5 hga
                      generalize wq.drewN nq = wk at *
                      go_wp2_with fail
                      go_roundw
                      case rel => exact ⟨p + 1, by go_num, by omega, by omega, HR6⟩
                      case measure => simp [intOf]; omega
                  · by_cases k5' : kd = 5
                    · subst k5'
                      obtain ⟨n0, hcase⟩ := x3 rfl
                      have HR6 := hsame (by unfold evC; rw [if_neg (by simp), if_neg (by simp)])
                      rw [n0] at un
                      clear hsame x3 HX2 k1 k4' et n0
                      have HQQ := hid qe1
                      clear qe1
                      rcases hcase with ⟨c1, c2, c3⟩ | ⟨c1, c2, c3⟩ | ⟨c1, c2, c3⟩ | ⟨c1, c3⟩
                      · subst c1
                        rw [← c3] at ub
                        have b1 : (CP.fl tt == 0) = false := beq_false_of_ne c2
                        clear c2 c3
                        generalize CP.fl tt = U1 at *
                        go_upto_region 44 with fail
                        go_quiet (fail)
                        have HR7 := hid (HR6.out.calm ((Kept.refl _ wq).drewN nq))
                        clear HR6 HQQ a0 a2 a7 a8 a9 uf ub un y3
                        have HR6 := HR7
                        clear HR7
                        generalize wq.drewN nq = wk at *
                        go_wp2_with fail
                        go_roundw
                        case rel => exact ⟨p + 1, by go_num, by omega, by omega, HR6⟩
                        case measure => simp [intOf]; omega
                      · subst c1 c3
                        rw [c2] at y3
                        clear c2 HQQ
                        go_wp2_with fail
                        go_roundw
                        case rel => exact ⟨p + 1, by go_num, by omega, by omega, HR6⟩
                        case measure => simp [intOf]; omega
                      · subst c1 c3
                        rw [c2] at y3
                        clear c2 HQQ
                        go_wp2_with fail
                        go_roundw
                        case rel => exact ⟨p + 1, by go_num, by omega, by omega, HR6⟩
                        case measure => simp [intOf]; omega
                      · subst c1 c3
                        clear HQQ
                        go_wp2_with fail
                        go_roundw
                        case rel => exact ⟨p + 1, by go_num, by omega, by omega, HR6⟩
                        case measure => simp [intOf]; omega
                    · have HR6 := hsame (by unfold evC; rw [if_neg k1, if_neg k4'])
                      have b1 : (kd == 1) = false := beq_false_of_ne k1
                      have b2 : (kd == 4) = false := beq_false_of_ne k4'
                      have b3 : (kd == 5) = false := beq_false_of_ne k5'
                      clear hsame qe1 x3 HX2 a2 a7 a8 a9 uf ub un y3 et k1 k4' k5'
                      go_wp2_with fail
                      go_roundw
                      case rel => exact ⟨p + 1, by go_num, by omega, by omega, HR6⟩
                      case measure => simp [intOf]; omega
              · obtain rfl : p = g'.z.ev.length := by omega
                have H9 := HNext.out _ Ps6 _ hT7 HFIN.out (by rw [HTK.out] at HR3; exact HR3.out.pop.pop.pop.pop.pop.pop.pop)
                clear HR3
                go_wp2_with fail
                go_roundw
                case rel => exact ⟨j + 1, _, by go_num, HSEEN.out _ rfl, by omega, H9⟩
                case measure => simp [intOf]; omega
      · obtain rfl : j = sn := by omega
        have HCHG := hid hchg
        have HGT := hid (gsq_gate HF.out zs f j)
        have HS : Hid (GQ w c A G Ps (gsq c zs f j) [boxI FL (cB (C).fl) 102, boxI BY (cB (C).by_) 102, boxI NU (cB (C).nu) 102, boxI M #[.int .i64 c.ce, .int .i64 c.sl, .int .i64 c.bi, .int .i64 c.ta, .int .i64 c.ba, .int .i64 c.de] 23] wr) := gq
        clear gq HR HM hchg
        obtain ⟨wz, hwz⟩ : ∃ y, y = wr := ⟨_, rfl⟩
        subst hwz
        generalize gsq c zs f j = g at *
        go_wp2_with fail
        go_loopw [23, 24, 234, 235, 236, 237, 238, 239, 240, 241, 242, 243, 244, 245, 246, 247, 248, 249, 250, 251, 252, 253, 254, 255, 256, 257, 258, 259, 260, 261] (fun i _ _ _ _ _ _ _ _ _ _ _ _ _ _ _ _ _ _ _ _ _ _ _ _ _ _ _ _ _ wr => ∃ t : Nat, i = .int .i64 t ∧ 1 ≤ t ∧ t ≤ 5 ∧ Hid (GQ w c A G Ps g [boxI FL (cB (C).fl) 102, boxI BY (cB (C).by_) 102, boxI NU (cB (C).nu) 102, boxI M #[.int .i64 c.ce, .int .i64 c.sl, .int .i64 c.bi, .int .i64 c.ta, .int .i64 c.ba, .int .i64 c.de] 23] wr)) (fun i _ _ _ _ _ _ _ _ _ _ _ _ _ _ _ _ _ _ _ _ _ _ _ _ _ _ _ _ _ _ => 5 - (intOf i).toNat)
        case atStart => exact ⟨1, rfl, by omega, by omega, HS⟩
        case round =>
          clear HS
          obtain ⟨t, rfl, ht1, ht5, HR4⟩ := hrel
          by_cases ht : t < 5
          · have t4 : (t : Int) ≤ 4 := by omega
            have t7 : (t : Int) < 5 := by omega
            have t8 : (0 : Int) ≤ (t : Int) := by omega
            have g0 : wr.cell? ⟨G, 0, none⟩ = some (.pointer (some ⟨A.sp, 0, none⟩)) := HR4.out.sp
            have hgt := HR4.out.gate
            have hnw := HR4.out.now
            have HNT : Hid (C.nu t ≠ 0 → C.nu t = g.z.x.n ∧ g.z.x.o = t) := by
              intro q
              obtain ⟨x, rfl⟩ : ∃ x, t = x + 1 := ⟨t - 1, by omega⟩
              obtain ⟨y, a1, a2, -, -, -, a6⟩ := HCHG.out.nu x (by omega) q
              have := (HGT.out.own x (by omega)).1 (by rw [a1]; exact a2)
              exact ⟨a6, by rw [this]; omega⟩
            clear HR4
            go_wp2_with (first | (go_at_call 33; refine hgt.mono ?_; rintro e wq ⟨rfl, rfl⟩))
            refine hnw.mono ?_
            rintro e w7 ⟨rfl, gq7⟩
            clear hgt hnw g0
            have q8 := gq7.box #[.int .i64 g.z.x.n, .int .i64 g.z.x.o] 81
            clear gq7
            go_upto_region 56 with fail
            generalize w7.alloc (.cells #[.int .i64 g.z.x.n, .int .i64 g.z.x.o] 81) = w8 at *
            generalize w7.heap.size = GB at *
            have un := (q8.cell 3 rfl t).trans (cB_at _ ht)
            have x0 : w8.cell? ⟨GB, 0, none⟩ = some (.int .i64 g.z.x.n) := q8.cell 0 rfl 0
            have x1 : w8.cell? ⟨GB, 1, none⟩ = some (.int .i64 g.z.x.o) := q8.cell 0 rfl 1
            have HQ8 := hid q8.pop
            clear q8
            by_cases hz : C.nu t = 0
            · rw [hz] at un
              clear hz HNT
              go_quiet (fail)
              have HR6 := hid (HQ8.out.calm ((Kept.refl _ w8).drewN nq))
              clear HQ8 un x0 x1
              generalize w8.drewN nq = wk at *
              go_wp2_with fail
              go_roundw
              case rel => exact ⟨t + 1, by go_num, by omega, by omega, HR6⟩
              case measure => simp [intOf]; omega
            · obtain ⟨r1, r2⟩ := HNT.out hz
              have b1 : (C.nu t != 0) = true := by simpa using hz
              rw [← r1] at x0
              rw [r2] at x1
              clear r1 r2 hz HNT
              generalize C.nu t = NT at *
              go_quiet (fail)
              have HR6 := hid (HQ8.out.calm ((Kept.refl _ w8).drewN nq))
              clear HQ8 un x0 x1
              generalize w8.drewN nq = wk at *
              go_wp2_with fail
              go_roundw
              case rel => exact ⟨t + 1, by go_num, by omega, by omega, HR6⟩
              case measure => simp [intOf]; omega
          · obtain rfl : t = 5 := by omega
            have HK := hid HR4.out.same
            clear HR4
            go_wp2_with fail
            go_ret
            exact ⟨rfl, HK.out⟩
    end Go.Proofs.YtnchfomoaonbkaaGreat
