/- TxSlots, step by step. -/
import Derived.Test.YtnchfomoaonbkabGreatTxT
import Derived.OrdersHeld
namespace Go.Proofs.YtnchfomoaonbkabGreat
open Go.RowKit
set_option linter.unusedVariables false
set_option linter.unusedSimpArgs false
attribute [local go_sem ↓] Go.wp_at_zero Go.wp_at_succ
set_option maxRecDepth 100000 in
set_option maxHeartbeats 4000000 in
theorem slots_any (c : Cfg) {la : Option Addr} {n lc : Nat} {zs : List Int} {sa : Option Addr} {sn sc : Nat} {f : Nat → MwD} (w : World) (hl : NumsIn w la n zs) (hn : n ≤ 17592186044416) (hm : MwsAt w sa sn f) (hs : sn ≤ 1048576) :
    Calls Tryz.prog 6 #[c.val, .slice la n lc, .slice sa sn sc] w fun e w' => e = .returned (.bool true) ∧ Kept (fun _ => False) w w' := by
  have h0 := (St.nil w).box #[.int .i64 c.ce, .int .i64 c.sl, .int .i64 c.bi, .int .i64 c.ta, .int .i64 c.ba, .int .i64 c.de] 29
  have HL := hid hl
  have HM := hid hm
  have HC : Hid (∀ W, Calls Tryz.prog 19 #[.agg #[.int .i64 c.ce, .int .i64 c.sl, .int .i64 c.bi, .int .i64 c.ta, .int .i64 c.ba, .int .i64 c.de]] W fun e w' => e = .returned (.int .i64 (if c.fits then 0 else 1)) ∧ Kept (fun _ => False) W w') := fun W => check_any c W
  have HO : Hid (∀ W, c.fits = false → Calls Tryz.prog 9 #[.agg #[.int .i64 c.ce, .int .i64 c.sl, .int .i64 c.bi, .int .i64 c.ta, .int .i64 c.ba, .int .i64 c.de], .slice la n lc] W fun e w' => e = .returned (.tuple #[.pointer none, .bool false]) ∧ Kept (fun _ => False) W w') := fun W hf => gMeet_out c hf _ W
  have HE : Hid (∀ W, Kept (fun _ => False) w W → c.fits = true → Calls Tryz.prog 9 #[.agg #[.int .i64 c.ce, .int .i64 c.sl, .int .i64 c.bi, .int .i64 c.ta, .int .i64 c.ba, .int .i64 c.de], .slice la n lc] W fun e w' => ∃ G A Ps v u, e = .returned (.tuple #[.pointer (some ⟨G, 0, none⟩), .bool true]) ∧ St W (gpL c A G Ps (Gp.new c zs) v u) w') := fun W k hf => gMeet_st c hf W (hl.kept k) hn
  unfold Cfg.val
  clear hl hm
  have h1 := up_any (w.alloc (.cells #[.int .i64 c.ce, .int .i64 c.sl, .int .i64 c.bi, .int .i64 c.ta, .int .i64 c.ba, .int .i64 c.de] 29))
  go_enter Tryz.func6, Tryz.ntmps6
  go_upto_region 1 with fail
  generalize w.alloc (.cells #[.int .i64 c.ce, .int .i64 c.sl, .int .i64 c.bi, .int .i64 c.ta, .int .i64 c.ba, .int .i64 c.de] 29) = W0 at *
  generalize w.heap.size = M at *
  go_wp2_with fail
  refine h1.mono ?_
  rintro e w1 ⟨rfl, k1⟩
  have s1 := h0.calm k1
  clear h1 h0 k1
  have c0 : w1.cell? ⟨M, 0, none⟩ = some (.int .i64 c.ce) := s1.cell 0 rfl 0
  have c1 : w1.cell? ⟨M, 1, none⟩ = some (.int .i64 c.sl) := s1.cell 0 rfl 1
  have c2 : w1.cell? ⟨M, 2, none⟩ = some (.int .i64 c.bi) := s1.cell 0 rfl 2
  have c3 : w1.cell? ⟨M, 3, none⟩ = some (.int .i64 c.ta) := s1.cell 0 rfl 3
  have c4 : w1.cell? ⟨M, 4, none⟩ = some (.int .i64 c.ba) := s1.cell 0 rfl 4
  have c5 : w1.cell? ⟨M, 5, none⟩ = some (.int .i64 c.de) := s1.cell 0 rfl 5
  have HS1 := hid s1
  cases hf : c.fits with
  | false =>
    have hq := HO.out w1 hf
    have HC2 : Hid (∀ W, Calls Tryz.prog 19 #[.agg #[.int .i64 c.ce, .int .i64 c.sl, .int .i64 c.bi, .int .i64 c.ta, .int .i64 c.ba, .int .i64 c.de]] W fun e w' => e = .returned (.int .i64 1) ∧ Kept (fun _ => False) W w') := by
      have := HC.out
      rw [hf] at this
      exact this
    clear HO HE HC HL HM s1
    go_wp2_with fail
    refine hq.mono ?_
    rintro e w2 ⟨rfl, k2⟩
    have s2 := HS1.out.calm k2
    clear hq k2 c0 c1 c2 c3 c4 c5 HS1
    have c0 : w2.cell? ⟨M, 0, none⟩ = some (.int .i64 c.ce) := s2.cell 0 rfl 0
    have c1 : w2.cell? ⟨M, 1, none⟩ = some (.int .i64 c.sl) := s2.cell 0 rfl 1
    have c2 : w2.cell? ⟨M, 2, none⟩ = some (.int .i64 c.bi) := s2.cell 0 rfl 2
    have c3 : w2.cell? ⟨M, 3, none⟩ = some (.int .i64 c.ta) := s2.cell 0 rfl 3
    have c4 : w2.cell? ⟨M, 4, none⟩ = some (.int .i64 c.ba) := s2.cell 0 rfl 4
    have c5 : w2.cell? ⟨M, 5, none⟩ = some (.int .i64 c.de) := s2.cell 0 rfl 5
    have hq := HC2.out w2
    have HS2 := hid s2
    clear s2 HC2
    go_wp2_with fail
    refine hq.mono ?_
    rintro e w3 ⟨rfl, k3⟩
    have HK := hid (HS2.out.calm k3).same
    clear hq k3 HS2 c0 c1 c2 c3 c4 c5
    go_wp2
    go_ret
    exact ⟨rfl, HK.out⟩
  | true =>
    have hq := HE.out w1 s1.same hf
    have HF := hid hf
    clear HO HE HC HL s1 hf
    go_wp2_with fail
    refine hq.mono ?_
    rintro e w2 ⟨G, A, Ps0, v0, u0, rfl, s2⟩
    have HG0 : Hid (∃ Ps, (∀ j, (Ps j).T = (Ps0 j).T) ∧ GQ w c A G Ps (gsq c zs f 0) [boxI M #[.int .i64 c.ce, .int .i64 c.sl, .int .i64 c.bi, .int .i64 c.ta, .int .i64 c.ba, .int .i64 c.de] 29] w2) := ⟨Ps0, fun _ => rfl, v0, u0, fun j y e => (by cases e), HS1.out.addAll s2⟩
    have HT : Hid (∃ Ts : Nat → Nat, ∀ j, Ts j = (Ps0 j).T) := ⟨_, fun _ => rfl⟩
    obtain ⟨Ts, hTs⟩ := HT.out
    have HGQ : Hid (∃ Ps, (∀ j, (Ps j).T = Ts j) ∧ GQ w c A G Ps (gsq c zs f 0) [boxI M #[.int .i64 c.ce, .int .i64 c.sl, .int .i64 c.bi, .int .i64 c.ta, .int .i64 c.ba, .int .i64 c.de] 29] w2) := by
      obtain ⟨Ps, h1, h2⟩ := HG0.out
      exact ⟨Ps, fun j => (h1 j).trans (hTs j).symm, h2⟩
    clear hq s2 HS1 c0 c1 c2 c3 c4 c5 HG0 HT hTs

    have HG1 : Hid (∃ Ps, (∀ j, (Ps j).T = Ts j) ∧ GQ w c A G Ps (gsq c zs f 0) [boxI w2.heap.size (fB (fun _ _ => false)) 82, boxI M #[.int .i64 c.ce, .int .i64 c.sl, .int .i64 c.bi, .int .i64 c.ta, .int .i64 c.ba, .int .i64 c.de] 29] (w2.alloc (.cells #[.bool false, .bool false, .bool false, .bool false, .bool false, .bool false, .bool false, .bool false, .bool false, .bool false, .bool false, .bool false, .bool false, .bool false, .bool false, .bool false, .bool false, .bool false, .bool false, .bool false, .bool false, .bool false, .bool false, .bool false, .bool false, .bool false, .bool false, .bool false, .bool false, .bool false, .bool false, .bool false] 82))) := by
      obtain ⟨Ps, h1, h2⟩ := HGQ.out
      rw [fB_zero]
      exact ⟨Ps, h1, h2.box _ _⟩
    clear HGQ
    go_upto_region 6 with fail
    generalize w2.alloc (.cells #[.bool false, .bool false, .bool false, .bool false, .bool false, .bool false, .bool false, .bool false, .bool false, .bool false, .bool false, .bool false, .bool false, .bool false, .bool false, .bool false, .bool false, .bool false, .bool false, .bool false, .bool false, .bool false, .bool false, .bool false, .bool false, .bool false, .bool false, .bool false, .bool false, .bool false, .bool false, .bool false] 82) = w3 at *
    generalize w2.heap.size = FB at *
    have HGQ : Hid (Fre (gsq c zs f 0) (fun _ _ => false) ∧ ∃ Ps, (∀ j, (Ps j).T = Ts j) ∧ GQ w c A G Ps (gsq c zs f 0) [boxI FB (fB (fun _ _ => false)) 82, boxI M #[.int .i64 c.ce, .int .i64 c.sl, .int .i64 c.bi, .int .i64 c.ta, .int .i64 c.ba, .int .i64 c.de] 29] w3) := ⟨Fre_new c zs _, HG1.out⟩
    clear HG1
    go_wp2_with fail
    go_loopw [11, 12, 13, 14, 15, 16, 17, 18, 19, 20, 21, 22, 42, 43, 44, 45, 46, 47, 48, 49, 50, 51, 52, 53, 54, 55, 56, 57, 58, 59, 60, 61, 62, 63, 64, 65, 66, 67, 68, 69, 70, 71, 72, 73, 74, 75, 76, 77, 78, 79, 80, 81, 82, 83, 84, 85, 86, 87, 88, 89, 90, 91, 92, 93, 94, 95, 96, 97, 98, 99, 100, 101, 102, 103, 104, 105, 106, 107, 108, 109, 110, 111, 112, 113, 114, 115, 116, 117, 118, 119, 120, 121, 122, 123, 124, 125, 126, 127, 128, 129, 130, 131, 132, 133, 134, 135, 136, 137, 138, 139, 140, 141, 142, 143, 144, 145, 146, 147, 148, 149, 150, 151, 152, 153, 154, 155, 156, 157, 158, 159, 160, 161, 162, 163, 164, 165, 166, 167, 168, 169, 170, 171, 172, 173, 174, 175, 176, 177, 178, 179, 180, 181, 182, 183, 184, 185, 186, 187] (fun i _ _ _ _ _ _ _ _ _ _ _ _ _ _ _ _ _ _ _ _ _ _ _ _ _ _ _ _ _ _ _ _ _ _ _ _ _ _ _ _ _ _ _ _ _ _ _ _ _ _ _ _ _ _ _ _ _ _ _ _ _ _ _ _ _ _ _ _ _ _ _ _ _ _ _ _ _ _ _ _ _ _ _ _ _ _ _ _ _ _ _ _ _ _ _ _ _ _ _ _ _ _ _ _ _ _ _ _ _ _ _ _ _ _ _ _ _ _ _ _ _ _ _ _ _ _ _ _ _ _ _ _ _ _ _ _ _ _ _ _ _ _ _ _ _ _ _ _ _ _ _ _ _ _ _ _ _ wr => ∃ (j : Nat) (F : Nat → Nat → Bool), i = .int .i64 j ∧ j ≤ sn ∧ Hid (Fre (gsq c zs f j) F ∧ ∃ Ps, (∀ j, (Ps j).T = Ts j) ∧ GQ w c A G Ps (gsq c zs f j) [boxI FB (fB F) 82, boxI M #[.int .i64 c.ce, .int .i64 c.sl, .int .i64 c.bi, .int .i64 c.ta, .int .i64 c.ba, .int .i64 c.de] 29] wr)) (fun i _ _ _ _ _ _ _ _ _ _ _ _ _ _ _ _ _ _ _ _ _ _ _ _ _ _ _ _ _ _ _ _ _ _ _ _ _ _ _ _ _ _ _ _ _ _ _ _ _ _ _ _ _ _ _ _ _ _ _ _ _ _ _ _ _ _ _ _ _ _ _ _ _ _ _ _ _ _ _ _ _ _ _ _ _ _ _ _ _ _ _ _ _ _ _ _ _ _ _ _ _ _ _ _ _ _ _ _ _ _ _ _ _ _ _ _ _ _ _ _ _ _ _ _ _ _ _ _ _ _ _ _ _ _ _ _ _ _ _ _ _ _ _ _ _ _ _ _ _ _ _ _ _ _ _ _ _ _ => sn - (intOf i).toNat)
    case atStart => exact ⟨0, _, rfl, Nat.zero_le _, HGQ⟩
    case round =>
      clear HGQ
      obtain ⟨j, F, rfl, hj, HR⟩ := hrel
      obtain ⟨hfre, Ps, hT, gq⟩ := HR.out
      by_cases hlt : j < sn
      · have h1 : (j : Int) < (sn : Int) := by omega
        have h2 : (0 : Int) ≤ (j : Int) := by omega
        obtain ⟨b, off, rfl, hMw⟩ : ∃ b off, sa = some ⟨b, off, none⟩ ∧ ∀ i, i < sn → MwAt w b (off + i * 5) (f i) := by
          rcases HM.out with h | h
          · omega
          · exact h
        have HMW := hid hMw
        have HFR := hid (hfre.goes (gsq_ok HF.out zs f j) (gsq_gate HF.out zs f j) (gsq_own HF.out zs f j) (f j).mv)
        have HOk : Hid (∃ n, n ≤ 800000000 ∧ (gsq c zs f j).ok c n) := ⟨_, by omega, gsq_ok HF.out zs f j⟩
        have HOk1 : Hid (∃ n, ((gsq c zs f j).goes c (f j).mv).ok c n) := ⟨_, gsq_ok HF.out zs f (j + 1)⟩
        have HNext : Hid (∀ W Ps F, (∀ j, (Ps j).T = Ts j) → Fre ((gsq c zs f j).goes c (f j).mv) F → GQ w c A G Ps ((gsq c zs f j).goes c (f j).mv) [boxI FB (fB F) 82, boxI M #[.int .i64 c.ce, .int .i64 c.sl, .int .i64 c.bi, .int .i64 c.ta, .int .i64 c.ba, .int .i64 c.de] 29] W → Hid (Fre (gsq c zs f (j + 1)) F ∧ ∃ Ps, (∀ j, (Ps j).T = Ts j) ∧ GQ w c A G Ps (gsq c zs f (j + 1)) [boxI FB (fB F) 82, boxI M #[.int .i64 c.ce, .int .i64 c.sl, .int .i64 c.bi, .int .i64 c.ta, .int .i64 c.ba, .int .i64 c.de] 29] W)) := fun W Ps F h1 h3 h2 => ⟨h3, Ps, h1, h2⟩
        clear hfre
        generalize gsq c zs f j = g at *
        have hMj := HMW.out j hlt
        generalize f j = d at *
        clear hMw
        obtain ⟨dth, dkd, dn, dce, dx⟩ := d
        obtain ⟨m, hmv⟩ : ∃ m : Mv, m = MwD.mv ⟨dth, dkd, dn, dce, dx⟩ := ⟨_, rfl⟩
        rw [← hmv] at HFR HNext HOk1
        have hkk : dth % 4 = ((m.k : Nat) : Int) := by rw [hmv]; show dth % 4 = ((dth % 4).toNat : Int); omega
        have HMV := hid hmv
        clear hmv
        have hk4 := m.k_lt
        have k4 : ((m.k : Nat) : Int) < 4 := by omega
        have k0 : (0 : Int) ≤ ((m.k : Nat) : Int) := by omega
        generalize m.k = k at *
        have hand := and3 dth
        rw [hkk] at hand
        obtain ⟨g', hg'⟩ : ∃ y, y = g.goes c m := ⟨_, rfl⟩
        rw [← hg'] at HFR HNext
        have HOk2 : Hid (∃ n, g'.ok c n) := by rw [hg']; exact HOk1
        have HG' := hid hg'
        obtain ⟨nn, hnn, hok⟩ := HOk.out
        clear hg' HOk1 HOk
        have e0 : wr.cell? ⟨b, off + j * 5, none⟩ = some (.int .i64 dth) := (hMj.kept gq.same).c0
        have g0 : wr.cell? ⟨G, 0, none⟩ = some (.pointer (some ⟨A.sp, 0, none⟩)) := gq.sp
        have hvw := gq.view hok
        clear gq HR
        go_wp2_with fail
        refine hvw.mono ?_
        rintro e w4 ⟨qa, ca, qb, cb, rfl, q4⟩
        clear hvw e0 g0
        have q5 := q4.box #[.slice qa g.z.xs.length ca, .int .i64 g.z.x.n, .int .i64 g.z.x.o, .slice (some ⟨qb, 0, none⟩) g.z.hs.length cb] 43
        clear q4
        go_upto_region 11 with fail
        generalize w4.alloc (.cells #[.slice qa g.z.xs.length ca, .int .i64 g.z.x.n, .int .i64 g.z.x.o, .slice (some ⟨qb, 0, none⟩) g.z.hs.length cb] 43) = w5 at *
        generalize w4.heap.size = VB at *
        have hph := q5.phase hk4
        rw [hT k] at hph
        have t1 : w5.cell? ⟨G, 1 + k, none⟩ = some (.pointer (some ⟨Ts k, 0, none⟩)) := by rw [← hT k]; exact q5.t hk4
        clear q5
        by_cases hi : (g.ts k).dg.phase = 0
        · rw [show decide ((g.ts k).dg.phase = 0) = true by simp [hi]] at HFR
          rw [hi] at hph
          clear hi
          go_wp2_with fail
          refine hph.mono ?_
          rintro e w6 ⟨rfl, q6⟩
          clear hph t1
          have HQ0 : Hid (GQ w c A G Ps g [boxI VB #[.slice qa g.z.xs.length ca, .int .i64 g.z.x.n, .int .i64 g.z.x.o, .slice (some ⟨qb, 0, none⟩) g.z.hs.length cb] 43, ownI 2 1 (.slice qa g.z.xs.length ca) g.z.xs.length (clCells g.z.xs), ownI 60 8 (.slice (some ⟨qb, 0, none⟩) g.z.hs.length cb) g.z.hs.length (slCells (slots g.z.hs g.z.ws)), boxI FB (fB (noteP F g.z.hs k true 0 0)) 82, boxI M #[.int .i64 c.ce, .int .i64 c.sl, .int .i64 c.bi, .int .i64 c.ta, .int .i64 c.ba, .int .i64 c.de] 29] w6) := by rw [noteP_zero]; exact q6
          clear q6
          go_wp2_with fail
          go_loopw [15, 16, 17, 67, 68, 69, 70, 71, 72, 73, 74, 75, 76, 77, 78, 79, 80, 81, 82, 83, 84, 85, 86, 87, 88, 89, 90, 91, 92, 93, 94, 95, 96, 97, 98, 99, 100, 101, 102, 103, 104, 105, 106, 107, 108] (fun i _ _ _ _ _ _ _ _ _ _ _ _ _ _ _ _ _ _ _ _ _ _ _ _ _ _ _ _ _ _ _ _ _ _ _ _ _ _ _ _ _ _ _ _ wr => ∃ t : Nat, i = .int .i64 t ∧ t ≤ 4 ∧ Hid (GQ w c A G Ps g [boxI VB #[.slice qa g.z.xs.length ca, .int .i64 g.z.x.n, .int .i64 g.z.x.o, .slice (some ⟨qb, 0, none⟩) g.z.hs.length cb] 43, ownI 2 1 (.slice qa g.z.xs.length ca) g.z.xs.length (clCells g.z.xs), ownI 60 8 (.slice (some ⟨qb, 0, none⟩) g.z.hs.length cb) g.z.hs.length (slCells (slots g.z.hs g.z.ws)), boxI FB (fB (noteP F g.z.hs k true t 0)) 82, boxI M #[.int .i64 c.ce, .int .i64 c.sl, .int .i64 c.bi, .int .i64 c.ta, .int .i64 c.ba, .int .i64 c.de] 29] wr)) (fun i _ _ _ _ _ _ _ _ _ _ _ _ _ _ _ _ _ _ _ _ _ _ _ _ _ _ _ _ _ _ _ _ _ _ _ _ _ _ _ _ _ _ _ _ _ => 4 - (intOf i).toNat)
          case atStart => exact ⟨0, rfl, by omega, HQ0⟩
          case round =>
            clear HQ0
            obtain ⟨t, rfl, ht, HR2⟩ := hrel
            by_cases ht4 : t < 4
            · have t5 : (t : Int) < 4 := by omega
              have t6 : (0 : Int) ≤ (t : Int) := by omega
              go_wp2_with fail
              go_loopw [16, 17, 71, 72, 73, 74, 75, 76, 77, 78, 79, 80, 81, 82, 83, 84, 85, 86, 87, 88, 89, 90, 91, 92, 93, 94, 95, 96, 97, 98, 99, 100, 101, 102, 103, 104, 105, 106, 107, 108] (fun i _ _ _ _ _ _ _ _ _ _ _ _ _ _ _ _ _ _ _ _ _ _ _ _ _ _ _ _ _ _ _ _ _ _ _ _ _ _ _ wr => ∃ n : Nat, i = .int .i64 n ∧ n ≤ g.z.hs.length ∧ Hid (GQ w c A G Ps g [boxI VB #[.slice qa g.z.xs.length ca, .int .i64 g.z.x.n, .int .i64 g.z.x.o, .slice (some ⟨qb, 0, none⟩) g.z.hs.length cb] 43, ownI 2 1 (.slice qa g.z.xs.length ca) g.z.xs.length (clCells g.z.xs), ownI 60 8 (.slice (some ⟨qb, 0, none⟩) g.z.hs.length cb) g.z.hs.length (slCells (slots g.z.hs g.z.ws)), boxI FB (fB (noteP F g.z.hs k true t n)) 82, boxI M #[.int .i64 c.ce, .int .i64 c.sl, .int .i64 c.bi, .int .i64 c.ta, .int .i64 c.ba, .int .i64 c.de] 29] wr)) (fun i _ _ _ _ _ _ _ _ _ _ _ _ _ _ _ _ _ _ _ _ _ _ _ _ _ _ _ _ _ _ _ _ _ _ _ _ _ _ _ _ => g.z.hs.length - (intOf i).toNat)
              case atStart => exact ⟨0, rfl, Nat.zero_le _, HR2⟩
              case round =>
                clear HR2
                obtain ⟨n, rfl, hn, HR3⟩ := hrel
                have q := HR3.out
                have v3 : wr.cell? ⟨VB, 3, none⟩ = some (.slice (some ⟨qb, 0, none⟩) g.z.hs.length cb) := q.cell 0 rfl 3
                by_cases hnl : n < g.z.hs.length
                · have h3 : (n : Int) < (g.z.hs.length : Int) := by omega
                  have h4 : (0 : Int) ≤ (n : Int) := by omega
                  have h8 : n < 8 := by have := hok.z.h8; omega
                  have h9 : (n : Int) < 8 := by omega
                  obtain ⟨-, s1, -⟩ := q.slots 2 rfl hok.z.wl hnl
                  obtain ⟨SA, hSA⟩ : ∃ y, y = (g.z.hs.getD n Hd.zero).sa := ⟨_, rfl⟩
                  rw [← hSA] at s1
                  have u0 : wr.cell? ⟨FB, t * 8 + n, none⟩ = some (.bool (F t n)) := by
                    have := (q.cell 3 rfl (t * 8 + n)).trans (fB_at _ ht4 h8)
                    rw [noteP_at] at this
                    exact this
                  have fz : wr.frozen? ⟨FB, t * 8 + n, none⟩ = false := q.frozen 3 rfl _
                  have HWR : Hid (∀ x, x = noteF F g.z.hs k true t n → Hid (GQ w c A G Ps g [boxI VB #[.slice qa g.z.xs.length ca, .int .i64 g.z.x.n, .int .i64 g.z.x.o, .slice (some ⟨qb, 0, none⟩) g.z.hs.length cb] 43, ownI 2 1 (.slice qa g.z.xs.length ca) g.z.xs.length (clCells g.z.xs), ownI 60 8 (.slice (some ⟨qb, 0, none⟩) g.z.hs.length cb) g.z.hs.length (slCells (slots g.z.hs g.z.ws)), boxI FB (fB (noteP F g.z.hs k true t (n + 1))) 82, boxI M #[.int .i64 c.ce, .int .i64 c.sl, .int .i64 c.bi, .int .i64 c.ta, .int .i64 c.ba, .int .i64 c.de] 29] (wr.setCell ⟨FB, t * 8 + n, none⟩ (.bool x)))) := by
                    intro x hx
                    have q2 := HR3.out.write 3 rfl (t * 8 + n) (.bool x)
                    rw [fB_set _ ht4 h8, hx, noteP_next] at q2
                    rw [hx]
                    exact q2
                  have HWD : Hid (∀ W x, x = noteF F g.z.hs k true t n → W = (wr.setCell ⟨FB, t * 8 + n, none⟩ (.bool x)).drew → Hid (GQ w c A G Ps g [boxI VB #[.slice qa g.z.xs.length ca, .int .i64 g.z.x.n, .int .i64 g.z.x.o, .slice (some ⟨qb, 0, none⟩) g.z.hs.length cb] 43, ownI 2 1 (.slice qa g.z.xs.length ca) g.z.xs.length (clCells g.z.xs), ownI 60 8 (.slice (some ⟨qb, 0, none⟩) g.z.hs.length cb) g.z.hs.length (slCells (slots g.z.hs g.z.ws)), boxI FB (fB (noteP F g.z.hs k true t (n + 1))) 82, boxI M #[.int .i64 c.ce, .int .i64 c.sl, .int .i64 c.bi, .int .i64 c.ta, .int .i64 c.ba, .int .i64 c.de] 29] W)) := by
                    intro W x hx hW
                    rw [hW]
                    exact (HWR.out x hx).out.drew
                  clear q HR3
                  by_cases htk : t = k
                  · have b1 : ((t : Int) == (k : Int)) = true := by simp [htk]
                    have HN : Hid (noteF F g.z.hs k true t n = (SA == 0)) := by rw [hSA]; exact noteF_own hnl ⟨htk, rfl⟩
                    clear htk hSA HWD
                    go_wp2_with fail
                    go_roundw
                    case rel => exact ⟨n + 1, by go_num, by omega, HWR.out _ (by rw [HN.out])⟩
                    case measure => simp [intOf]; omega
                  · have b1 : ((t : Int) == (k : Int)) = false := beq_false_of_ne (by omega)
                    have HN : Hid (noteF F g.z.hs k true t n = (F t n && (SA == 0))) := by rw [hSA]; exact noteF_oth hnl (fun q => htk q.1)
                    clear htk hSA
                    cases hfv : F t n with
                    | false =>
                      rw [hfv] at u0
                      clear HWR
                      go_wp2_with fail
                      go_region
                      all_goals
                        go_wp2
                        go_roundw
                        case rel => exact ⟨n + 1, by go_num, by omega, HWD.out _ _ (by rw [HN.out, hfv]; try rfl) rfl⟩
                        case measure => simp [intOf]; omega
                    | true =>
                      rw [hfv] at u0
                      clear HWR
                      go_wp2_with fail
                      go_region
                      all_goals
                        go_wp2
                        go_roundw
                        case rel => exact ⟨n + 1, by go_num, by omega, HWD.out _ _ (by rw [HN.out, hfv]; try rfl) rfl⟩
                        case measure => simp [intOf]; omega
                · obtain rfl : n = g.z.hs.length := by omega
                  have HR4 : Hid (GQ w c A G Ps g [boxI VB #[.slice qa g.z.xs.length ca, .int .i64 g.z.x.n, .int .i64 g.z.x.o, .slice (some ⟨qb, 0, none⟩) g.z.hs.length cb] 43, ownI 2 1 (.slice qa g.z.xs.length ca) g.z.xs.length (clCells g.z.xs), ownI 60 8 (.slice (some ⟨qb, 0, none⟩) g.z.hs.length cb) g.z.hs.length (slCells (slots g.z.hs g.z.ws)), boxI FB (fB (noteP F g.z.hs k true (t + 1) 0)) 82, boxI M #[.int .i64 c.ce, .int .i64 c.sl, .int .i64 c.bi, .int .i64 c.ta, .int .i64 c.ba, .int .i64 c.de] 29] wr) := by rw [← noteP_row]; exact q
                  clear q HR3
                  go_wp2_with fail
                  go_roundw
                  case rel => exact ⟨t + 1, by go_num, by omega, HR4⟩
                  case measure => simp [intOf]; omega
            · obtain rfl : t = 4 := by omega
              obtain ⟨NF, hNF⟩ : ∃ y, y = noteF F g.z.hs k true := ⟨_, rfl⟩
              have HFN : Hid (Fre g' NF) := by rw [hNF]; exact HFR.out.1
              have HNO : Hid ((g'.ts k).dg.phase = 0 → (g'.ts k).lo = 1 → (g'.ts k).le = 6 → ∀ n, n < g.z.hs.length → NF k n = false) := by rw [hNF]; exact HFR.out.2.1
              have HLive : Hid (∀ n, n < g'.z.hs.length → (g'.z.hs.getD n Hd.zero).sa = 2 → ∃ j : Nat, j < 4 ∧ (g'.z.hs.getD n Hd.zero).th = j + 1 ∧ (g'.ts j).fr.sl = n ∧ (g'.ts j).fr.gn = (g'.z.hs.getD n Hd.zero).gn) := HFR.out.2.2
              have gq5 : GQ w c A G Ps g [boxI VB #[.slice qa g.z.xs.length ca, .int .i64 g.z.x.n, .int .i64 g.z.x.o, .slice (some ⟨qb, 0, none⟩) g.z.hs.length cb] 43, ownI 2 1 (.slice qa g.z.xs.length ca) g.z.xs.length (clCells g.z.xs), ownI 60 8 (.slice (some ⟨qb, 0, none⟩) g.z.hs.length cb) g.z.hs.length (slCells (slots g.z.hs g.z.ws)), boxI FB (fB NF) 82, boxI M #[.int .i64 c.ce, .int .i64 c.sl, .int .i64 c.bi, .int .i64 c.ta, .int .i64 c.ba, .int .i64 c.de] 29] wr := by rw [hNF, ← noteP_all]; exact HR2.out
              clear hNF HR2 HFR
              obtain ⟨wz0, hwz0⟩ : ∃ y, y = wr := ⟨_, rfl⟩
              subst hwz0
              have f0 := (hMj.kept gq5.same).c0
              have f1 := (hMj.kept gq5.same).c1
              have f2 := (hMj.kept gq5.same).c2
              have f3 := (hMj.kept gq5.same).c3
              have f4 := (hMj.kept gq5.same).c4
              simp only at f0 f1 f2 f3 f4
              have hgo := gq5.goes hok hnn m
              rw [show #[Value.int .i64 m.th, .int .i64 m.kd, .int .i64 m.n, .int .i64 m.ce, .int .i64 m.x] = #[.int .i64 dth, .int .i64 dkd, .int .i64 dn, .int .i64 dce, .int .i64 dx] by rw [HMV.out]; rfl, ← HG'.out] at hgo
              generalize g.ans c m = AN at *
              clear gq5
              go_wp2_with fail
              refine hgo.mono ?_
              rintro e w8 ⟨rfl, Ps6, hT6, gq8⟩
              clear hgo f0 f1 f2 f3 f4
              have hT7 : ∀ j, (Ps6 j).T = Ts j := fun j => (hT6 j).trans (hT j)
              clear hT6
              obtain ⟨nn2, hok2⟩ := HOk2.out
              have hph := gq8.phase hk4
              rw [hT7 k] at hph
              have t1 : w8.cell? ⟨G, 1 + k, none⟩ = some (.pointer (some ⟨Ts k, 0, none⟩)) := by rw [← hT7 k]; exact gq8.t hk4
              clear gq8
              by_cases hp : (g'.ts k).dg.phase = 0
              · have HNO2 := hid (HNO.out hp)
                rw [hp] at hph
                clear hp
                go_wp2_with fail
                refine hph.mono ?_
                rintro e w9 ⟨rfl, gq9⟩
                clear hph t1
                have t1 : w9.cell? ⟨G, 1 + k, none⟩ = some (.pointer (some ⟨Ts k, 0, none⟩)) := by rw [← hT7 k]; exact gq9.t hk4
                have hla := gq9.last hk4
                rw [hT7 k] at hla
                clear gq9
                obtain ⟨LO, hLO⟩ : ∃ y, y = (g'.ts k).lo := ⟨_, rfl⟩
                obtain ⟨LE, hLE⟩ : ∃ y, y = (g'.ts k).le := ⟨_, rfl⟩
                obtain ⟨LX, hLX⟩ : ∃ y, y = (g'.ts k).lx := ⟨_, rfl⟩
                rw [← hLO, ← hLE, ← hLX] at hla
                rw [← hLO, ← hLE] at HNO2
                clear hLO hLE hLX
                cases hQ : (LO == 1 && LE == 6 && LX == 0) with
                | false =>
                  have heq : ∀ W, (binOp .eql 49 (.agg #[.int .i64 LO, .int .i64 LE, .int .i64 LX]) (.agg #[.int .i64 1, .int .i64 6, .int .i64 0])).run Tryz.prog W = .ok (.bool false) W := fun W => by rw [eqLastS, hQ]
                  clear hQ
                  go_wp2_with fail
                  refine hla.mono ?_
                  rintro e wz ⟨rfl, gqz⟩
                  clear hla t1
                  go_upto_region 29 with (simp only [heq])
                  clear heq
                  have HQZ := hid gqz
                  clear gqz
                  have hvw := HQZ.out.view hok2
                  have g0 : wz.cell? ⟨G, 0, none⟩ = some (.pointer (some ⟨A.sp, 0, none⟩)) := HQZ.out.sp
                  clear HQZ
                  go_wp2_with fail
                  refine hvw.mono ?_
                  rintro e wv ⟨qa2, ca2, qb2, cb2, rfl, qv⟩
                  clear hvw g0
                  have y0 : wv.cell? ⟨VB, 0, none⟩ = some (.slice qa g.z.xs.length ca) := qv.cell 2 rfl 0
                  have y1 : wv.cell? ⟨VB, 1, none⟩ = some (.int .i64 g.z.x.n) := qv.cell 2 rfl 1
                  have y2 : wv.cell? ⟨VB, 2, none⟩ = some (.int .i64 g.z.x.o) := qv.cell 2 rfl 2
                  have y3 : wv.cell? ⟨VB, 3, none⟩ = some (.slice (some ⟨qb, 0, none⟩) g.z.hs.length cb) := qv.cell 2 rfl 3
                  have z0 := qv.frozen 2 rfl 0
                  have z1 := qv.frozen 2 rfl 1
                  have z2 := qv.frozen 2 rfl 2
                  have z3 := qv.frozen 2 rfl 3
                  have HQU : Hid (GQ w c A G Ps6 g' [ownI 2 1 (.slice qa2 g'.z.xs.length ca2) g'.z.xs.length (clCells g'.z.xs), ownI 60 8 (.slice (some ⟨qb2, 0, none⟩) g'.z.hs.length cb2) g'.z.hs.length (slCells (slots g'.z.hs g'.z.ws)), boxI VB #[.slice qa2 g'.z.xs.length ca2, .int .i64 g'.z.x.n, .int .i64 g'.z.x.o, .slice (some ⟨qb2, 0, none⟩) g'.z.hs.length cb2] 43, ownI 2 1 (.slice qa g.z.xs.length ca) g.z.xs.length (clCells g.z.xs), ownI 60 8 (.slice (some ⟨qb, 0, none⟩) g.z.hs.length cb) g.z.hs.length (slCells (slots g.z.hs g.z.ws)), boxI FB (fB NF) 82, boxI M #[.int .i64 c.ce, .int .i64 c.sl, .int .i64 c.bi, .int .i64 c.ta, .int .i64 c.ba, .int .i64 c.de] 29] ((((wv.setCell ⟨VB, 0, none⟩ (.slice qa2 g'.z.xs.length ca2)).setCell ⟨VB, 1, none⟩ (.int .i64 g'.z.x.n)).setCell ⟨VB, 2, none⟩ (.int .i64 g'.z.x.o)).setCell ⟨VB, 3, none⟩ (.slice (some ⟨qb2, 0, none⟩) g'.z.hs.length cb2))) := (((qv.write 2 rfl 0 (.slice qa2 g'.z.xs.length ca2)).write 2 rfl 1 (.int .i64 g'.z.x.n)).write 2 rfl 2 (.int .i64 g'.z.x.o)).write 2 rfl 3 (.slice (some ⟨qb2, 0, none⟩) g'.z.hs.length cb2)
                  clear qv
                  go_upto_region 30 with fail
                  clear y0 y1 y2 y3 z0 z1 z2 z3
                  generalize (((wv.setCell ⟨VB, 0, none⟩ (.slice qa2 g'.z.xs.length ca2)).setCell ⟨VB, 1, none⟩ (.int .i64 g'.z.x.n)).setCell ⟨VB, 2, none⟩ (.int .i64 g'.z.x.o)).setCell ⟨VB, 3, none⟩ (.slice (some ⟨qb2, 0, none⟩) g'.z.hs.length cb2) = wu at *
                  go_wp2_with fail
                  go_loopw [19, 20, 21, 22, 151, 152, 153, 154, 155, 156, 157, 158, 159, 160, 161, 162, 163, 164, 165, 166, 167, 168, 169, 170, 171, 172, 173, 174, 175, 176, 177, 178, 179, 180, 181, 182, 183, 184, 185, 186, 187] (fun i _ _ _ _ _ _ _ _ _ _ _ _ _ _ _ _ _ _ _ _ _ _ _ _ _ _ _ _ _ _ _ _ _ _ _ _ _ _ _ _ wr => ∃ n : Nat, i = .int .i64 n ∧ n ≤ g'.z.hs.length ∧ Hid (GQ w c A G Ps6 g' [ownI 2 1 (.slice qa2 g'.z.xs.length ca2) g'.z.xs.length (clCells g'.z.xs), ownI 60 8 (.slice (some ⟨qb2, 0, none⟩) g'.z.hs.length cb2) g'.z.hs.length (slCells (slots g'.z.hs g'.z.ws)), boxI VB #[.slice qa2 g'.z.xs.length ca2, .int .i64 g'.z.x.n, .int .i64 g'.z.x.o, .slice (some ⟨qb2, 0, none⟩) g'.z.hs.length cb2] 43, ownI 2 1 (.slice qa g.z.xs.length ca) g.z.xs.length (clCells g.z.xs), ownI 60 8 (.slice (some ⟨qb, 0, none⟩) g.z.hs.length cb) g.z.hs.length (slCells (slots g.z.hs g.z.ws)), boxI FB (fB NF) 82, boxI M #[.int .i64 c.ce, .int .i64 c.sl, .int .i64 c.bi, .int .i64 c.ta, .int .i64 c.ba, .int .i64 c.de] 29] wr)) (fun i _ _ _ _ _ _ _ _ _ _ _ _ _ _ _ _ _ _ _ _ _ _ _ _ _ _ _ _ _ _ _ _ _ _ _ _ _ _ _ _ _ => g'.z.hs.length - (intOf i).toNat)
                  case atStart => exact ⟨0, rfl, Nat.zero_le _, HQU⟩
                  case round =>
                    clear HQU
                    obtain ⟨n, rfl, hn, HR5⟩ := hrel
                    have v3 : wr.cell? ⟨VB, 3, none⟩ = some (.slice (some ⟨qb2, 0, none⟩) g'.z.hs.length cb2) := HR5.out.cell 2 rfl 3
                    by_cases hnl : n < g'.z.hs.length
                    · have h3 : (n : Int) < (g'.z.hs.length : Int) := by omega
                      have h4 : (0 : Int) ≤ (n : Int) := by omega
                      have h8 : n < 8 := by have := hok2.z.h8; omega
                      obtain ⟨s0, s1, s2, s3, s4, s5⟩ := HR5.out.slots 1 rfl hok2.z.wl hnl
                      obtain ⟨HD, hHD⟩ : ∃ y, y = g'.z.hs.getD n Hd.zero := ⟨_, rfl⟩
                      rw [← hHD] at s0 s1 s2 s3 s4 s5
                      have HLV : Hid (HD.sa = 2 → ∃ j : Nat, j < 4 ∧ HD.th = j + 1 ∧ (g'.ts j).fr.sl = n ∧ (g'.ts j).fr.gn = HD.gn) := by
                        rw [hHD]
                        exact HLive.out n hnl
                      clear hHD
                      obtain ⟨hg, hsa, hsp, hth, hdm, hwy⟩ := HD
                      simp only at s0 s1 s2 s3 s4 s5 HLV
                      have qh := HR5.out.box #[.int .i64 hg, .int .i64 hsa, .int .i64 hsp, .int .i64 hth, .bool hdm, .int .i64 hwy] 55
                      clear HR5
                      go_upto_region 34 with fail
                      clear v3 s0 s1 s2 s3 s4 s5
                      generalize wr.alloc (.cells #[.int .i64 hg, .int .i64 hsa, .int .i64 hsp, .int .i64 hth, .bool hdm, .int .i64 hwy] 55) = wh at *
                      generalize wr.heap.size = HB at *
                      have x1 : wh.cell? ⟨HB, 1, none⟩ = some (.int .i64 hsa) := qh.cell 0 rfl 1
                      by_cases hs2 : hsa = 2
                      · obtain ⟨jj, j1, j2, j3, j4⟩ := HLV.out hs2
                        subst j2
                        subst hs2
                        have j5 : ((jj : Nat) : Int) < 4 := by omega
                        have j6 : (0 : Int) ≤ ((jj : Nat) : Int) := by omega
                        have j7 : ((jj : Nat) : Int) + 1 - 1 = ((jj : Nat) : Int) := by omega
                        go_upto_region 35 with fail
                        clear x1
                        have x3 : wh.cell? ⟨HB, 3, none⟩ = some (.int .i64 ((jj : Int) + 1)) := qh.cell 0 rfl 3
                        have t1 : wh.cell? ⟨G, 1 + jj, none⟩ = some (.pointer (some ⟨Ts jj, 0, none⟩)) := by rw [← hT7 jj]; exact qh.t j1
                        have hsq : ∀ q, Calls Tryz.prog 26 #[.pointer (some ⟨Ts jj, 0, none⟩)] (wh.drewN q) fun e w' => e = .returned (.tuple #[.int .i64 (n : Int), .int .i64 hg]) ∧ ∃ m, w' = (wh.drewN q).drewN m := by
                          intro q
                          have := (qh.calm ((Kept.refl _ wh).drewN q)).slot j1
                          rw [hT7 jj, j3, j4] at this
                          exact this
                        have HQH := hid qh
                        clear qh j3 j4 HLV
                        go_quiet (first | (go_at_call 26; exact Calls.quiet_of (hsq _)))
                        have q9 := HQH.out.calm ((Kept.refl _ wh).drewN nq)
                        clear HQH hsq x3 t1
                        generalize wh.drewN nq = wk at *
                        have x0 : wk.cell? ⟨HB, 0, none⟩ = some (.int .i64 hg) := q9.cell 0 rfl 0
                        have HR6 := hid q9.pop
                        clear q9
                        go_wp2_with fail
                        go_roundw
                        case rel => exact ⟨n + 1, by go_num, by omega, HR6⟩
                        case measure => simp [intOf]; omega
                      · have b1 : (hsa != 2) = true := by simpa using hs2
                        have HR6 := hid qh.pop
                        clear qh hs2 HLV
                        go_wp2_with fail
                        go_roundw
                        case rel => exact ⟨n + 1, by go_num, by omega, HR6⟩
                        case measure => simp [intOf]; omega
                    · obtain rfl : n = g'.z.hs.length := by omega
                      have H9 := HNext.out _ Ps6 NF hT7 HFN.out HR5.out.pop.pop.pop.pop.pop
                      clear HR5
                      go_wp2_with fail
                      go_roundw
                      case rel => exact ⟨j + 1, NF, by go_num, by omega, H9⟩
                      case measure => simp [intOf]; omega
                | true =>
                  have heq : ∀ W, (binOp .eql 49 (.agg #[.int .i64 LO, .int .i64 LE, .int .i64 LX]) (.agg #[.int .i64 1, .int .i64 6, .int .i64 0])).run Tryz.prog W = .ok (.bool true) W := fun W => by rw [eqLastS, hQ]
                  have HNN : Hid (∀ n, n < g.z.hs.length → NF k n = false) := by
                    simp only [Bool.and_eq_true, beq_iff_eq] at hQ
                    exact HNO2.out hQ.1.1 hQ.1.2
                  clear hQ
                  go_wp2_with fail
                  refine hla.mono ?_
                  rintro e w10 ⟨rfl, gq10⟩
                  clear hla t1
                  go_upto_region 24 with (simp only [heq])
                  clear heq
                  have HQ10 := hid gq10
                  clear gq10
                  go_wp2_with fail
                  go_loopw [18, 134, 135, 136, 137, 138, 139, 140, 141, 142, 143, 144, 145] (fun i _ _ _ _ _ _ _ _ _ _ _ _ wr => ∃ n : Nat, i = .int .i64 n ∧ n ≤ g.z.hs.length ∧ Hid (GQ w c A G Ps6 g' [boxI VB #[.slice qa g.z.xs.length ca, .int .i64 g.z.x.n, .int .i64 g.z.x.o, .slice (some ⟨qb, 0, none⟩) g.z.hs.length cb] 43, ownI 2 1 (.slice qa g.z.xs.length ca) g.z.xs.length (clCells g.z.xs), ownI 60 8 (.slice (some ⟨qb, 0, none⟩) g.z.hs.length cb) g.z.hs.length (slCells (slots g.z.hs g.z.ws)), boxI FB (fB NF) 82, boxI M #[.int .i64 c.ce, .int .i64 c.sl, .int .i64 c.bi, .int .i64 c.ta, .int .i64 c.ba, .int .i64 c.de] 29] wr)) (fun i _ _ _ _ _ _ _ _ _ _ _ _ _ => g.z.hs.length - (intOf i).toNat)
                  case atStart => exact ⟨0, rfl, Nat.zero_le _, HQ10⟩
                  case round =>
                    clear HQ10
                    obtain ⟨n, rfl, hn, HR4⟩ := hrel
                    have v3 : wr.cell? ⟨VB, 3, none⟩ = some (.slice (some ⟨qb, 0, none⟩) g.z.hs.length cb) := HR4.out.cell 0 rfl 3
                    by_cases hnl : n < g.z.hs.length
                    · have h3 : (n : Int) < (g.z.hs.length : Int) := by omega
                      have h4 : (0 : Int) ≤ (n : Int) := by omega
                      have h8 : n < 8 := by have := hok.z.h8; omega
                      have h9 : (n : Int) < 8 := by omega
                      have u0 : wr.cell? ⟨FB, k * 8 + n, none⟩ = some (.bool false) := by
                        have := (HR4.out.cell 3 rfl (k * 8 + n)).trans (fB_at _ hk4 h8)
                        rw [HNN.out n hnl] at this
                        exact this
                      go_wp2_with fail
                      go_roundw
                      case rel => exact ⟨n + 1, by go_num, by omega, HR4⟩
                      case measure => simp [intOf]; omega
                    · obtain rfl : n = g.z.hs.length := by omega
                      obtain ⟨wz, hwz⟩ : ∃ y, y = wr := ⟨_, rfl⟩
                      subst hwz
                      have HQZ := hid HR4.out
                      clear HR4
                      go_upto_region 29 with fail
                      clear v3
                      have hvw := HQZ.out.view hok2
                      have g0 : wz.cell? ⟨G, 0, none⟩ = some (.pointer (some ⟨A.sp, 0, none⟩)) := HQZ.out.sp
                      clear HQZ
                      go_wp2_with fail
                      refine hvw.mono ?_
                      rintro e wv ⟨qa2, ca2, qb2, cb2, rfl, qv⟩
                      clear hvw g0
                      have y0 : wv.cell? ⟨VB, 0, none⟩ = some (.slice qa g.z.xs.length ca) := qv.cell 2 rfl 0
                      have y1 : wv.cell? ⟨VB, 1, none⟩ = some (.int .i64 g.z.x.n) := qv.cell 2 rfl 1
                      have y2 : wv.cell? ⟨VB, 2, none⟩ = some (.int .i64 g.z.x.o) := qv.cell 2 rfl 2
                      have y3 : wv.cell? ⟨VB, 3, none⟩ = some (.slice (some ⟨qb, 0, none⟩) g.z.hs.length cb) := qv.cell 2 rfl 3
                      have z0 := qv.frozen 2 rfl 0
                      have z1 := qv.frozen 2 rfl 1
                      have z2 := qv.frozen 2 rfl 2
                      have z3 := qv.frozen 2 rfl 3
                      have HQU : Hid (GQ w c A G Ps6 g' [ownI 2 1 (.slice qa2 g'.z.xs.length ca2) g'.z.xs.length (clCells g'.z.xs), ownI 60 8 (.slice (some ⟨qb2, 0, none⟩) g'.z.hs.length cb2) g'.z.hs.length (slCells (slots g'.z.hs g'.z.ws)), boxI VB #[.slice qa2 g'.z.xs.length ca2, .int .i64 g'.z.x.n, .int .i64 g'.z.x.o, .slice (some ⟨qb2, 0, none⟩) g'.z.hs.length cb2] 43, ownI 2 1 (.slice qa g.z.xs.length ca) g.z.xs.length (clCells g.z.xs), ownI 60 8 (.slice (some ⟨qb, 0, none⟩) g.z.hs.length cb) g.z.hs.length (slCells (slots g.z.hs g.z.ws)), boxI FB (fB NF) 82, boxI M #[.int .i64 c.ce, .int .i64 c.sl, .int .i64 c.bi, .int .i64 c.ta, .int .i64 c.ba, .int .i64 c.de] 29] ((((wv.setCell ⟨VB, 0, none⟩ (.slice qa2 g'.z.xs.length ca2)).setCell ⟨VB, 1, none⟩ (.int .i64 g'.z.x.n)).setCell ⟨VB, 2, none⟩ (.int .i64 g'.z.x.o)).setCell ⟨VB, 3, none⟩ (.slice (some ⟨qb2, 0, none⟩) g'.z.hs.length cb2))) := (((qv.write 2 rfl 0 (.slice qa2 g'.z.xs.length ca2)).write 2 rfl 1 (.int .i64 g'.z.x.n)).write 2 rfl 2 (.int .i64 g'.z.x.o)).write 2 rfl 3 (.slice (some ⟨qb2, 0, none⟩) g'.z.hs.length cb2)
                      clear qv
                      go_upto_region 30 with fail
                      clear y0 y1 y2 y3 z0 z1 z2 z3
                      generalize (((wv.setCell ⟨VB, 0, none⟩ (.slice qa2 g'.z.xs.length ca2)).setCell ⟨VB, 1, none⟩ (.int .i64 g'.z.x.n)).setCell ⟨VB, 2, none⟩ (.int .i64 g'.z.x.o)).setCell ⟨VB, 3, none⟩ (.slice (some ⟨qb2, 0, none⟩) g'.z.hs.length cb2) = wu at *
                      go_wp2_with fail
                      go_loopw [19, 20, 21, 22, 151, 152, 153, 154, 155, 156, 157, 158, 159, 160, 161, 162, 163, 164, 165, 166, 167, 168, 169, 170, 171, 172, 173, 174, 175, 176, 177, 178, 179, 180, 181, 182, 183, 184, 185, 186, 187] (fun i _ _ _ _ _ _ _ _ _ _ _ _ _ _ _ _ _ _ _ _ _ _ _ _ _ _ _ _ _ _ _ _ _ _ _ _ _ _ _ _ wr => ∃ n : Nat, i = .int .i64 n ∧ n ≤ g'.z.hs.length ∧ Hid (GQ w c A G Ps6 g' [ownI 2 1 (.slice qa2 g'.z.xs.length ca2) g'.z.xs.length (clCells g'.z.xs), ownI 60 8 (.slice (some ⟨qb2, 0, none⟩) g'.z.hs.length cb2) g'.z.hs.length (slCells (slots g'.z.hs g'.z.ws)), boxI VB #[.slice qa2 g'.z.xs.length ca2, .int .i64 g'.z.x.n, .int .i64 g'.z.x.o, .slice (some ⟨qb2, 0, none⟩) g'.z.hs.length cb2] 43, ownI 2 1 (.slice qa g.z.xs.length ca) g.z.xs.length (clCells g.z.xs), ownI 60 8 (.slice (some ⟨qb, 0, none⟩) g.z.hs.length cb) g.z.hs.length (slCells (slots g.z.hs g.z.ws)), boxI FB (fB NF) 82, boxI M #[.int .i64 c.ce, .int .i64 c.sl, .int .i64 c.bi, .int .i64 c.ta, .int .i64 c.ba, .int .i64 c.de] 29] wr)) (fun i _ _ _ _ _ _ _ _ _ _ _ _ _ _ _ _ _ _ _ _ _ _ _ _ _ _ _ _ _ _ _ _ _ _ _ _ _ _ _ _ _ => g'.z.hs.length - (intOf i).toNat)
                      case atStart => exact ⟨0, rfl, Nat.zero_le _, HQU⟩
                      case round =>
                        clear HQU
                        obtain ⟨n, rfl, hn, HR5⟩ := hrel
                        have v3 : wr.cell? ⟨VB, 3, none⟩ = some (.slice (some ⟨qb2, 0, none⟩) g'.z.hs.length cb2) := HR5.out.cell 2 rfl 3
                        by_cases hnl : n < g'.z.hs.length
                        · have h3 : (n : Int) < (g'.z.hs.length : Int) := by omega
                          have h4 : (0 : Int) ≤ (n : Int) := by omega
                          have h8 : n < 8 := by have := hok2.z.h8; omega
                          obtain ⟨s0, s1, s2, s3, s4, s5⟩ := HR5.out.slots 1 rfl hok2.z.wl hnl
                          obtain ⟨HD, hHD⟩ : ∃ y, y = g'.z.hs.getD n Hd.zero := ⟨_, rfl⟩
                          rw [← hHD] at s0 s1 s2 s3 s4 s5
                          have HLV : Hid (HD.sa = 2 → ∃ j : Nat, j < 4 ∧ HD.th = j + 1 ∧ (g'.ts j).fr.sl = n ∧ (g'.ts j).fr.gn = HD.gn) := by
                            rw [hHD]
                            exact HLive.out n hnl
                          clear hHD
                          obtain ⟨hg, hsa, hsp, hth, hdm, hwy⟩ := HD
                          simp only at s0 s1 s2 s3 s4 s5 HLV
                          have qh := HR5.out.box #[.int .i64 hg, .int .i64 hsa, .int .i64 hsp, .int .i64 hth, .bool hdm, .int .i64 hwy] 55
                          clear HR5
                          go_upto_region 34 with fail
                          clear v3 s0 s1 s2 s3 s4 s5
                          generalize wr.alloc (.cells #[.int .i64 hg, .int .i64 hsa, .int .i64 hsp, .int .i64 hth, .bool hdm, .int .i64 hwy] 55) = wh at *
                          generalize wr.heap.size = HB at *
                          have x1 : wh.cell? ⟨HB, 1, none⟩ = some (.int .i64 hsa) := qh.cell 0 rfl 1
                          by_cases hs2 : hsa = 2
                          · obtain ⟨jj, j1, j2, j3, j4⟩ := HLV.out hs2
                            subst j2
                            subst hs2
                            have j5 : ((jj : Nat) : Int) < 4 := by omega
                            have j6 : (0 : Int) ≤ ((jj : Nat) : Int) := by omega
                            have j7 : ((jj : Nat) : Int) + 1 - 1 = ((jj : Nat) : Int) := by omega
                            go_upto_region 35 with fail
                            clear x1
                            have x3 : wh.cell? ⟨HB, 3, none⟩ = some (.int .i64 ((jj : Int) + 1)) := qh.cell 0 rfl 3
                            have t1 : wh.cell? ⟨G, 1 + jj, none⟩ = some (.pointer (some ⟨Ts jj, 0, none⟩)) := by rw [← hT7 jj]; exact qh.t j1
                            have hsq : ∀ q, Calls Tryz.prog 26 #[.pointer (some ⟨Ts jj, 0, none⟩)] (wh.drewN q) fun e w' => e = .returned (.tuple #[.int .i64 (n : Int), .int .i64 hg]) ∧ ∃ m, w' = (wh.drewN q).drewN m := by
                              intro q
                              have := (qh.calm ((Kept.refl _ wh).drewN q)).slot j1
                              rw [hT7 jj, j3, j4] at this
                              exact this
                            have HQH := hid qh
                            clear qh j3 j4 HLV
                            go_quiet (first | (go_at_call 26; exact Calls.quiet_of (hsq _)))
                            have q9 := HQH.out.calm ((Kept.refl _ wh).drewN nq)
                            clear HQH hsq x3 t1
                            generalize wh.drewN nq = wk at *
                            have x0 : wk.cell? ⟨HB, 0, none⟩ = some (.int .i64 hg) := q9.cell 0 rfl 0
                            have HR6 := hid q9.pop
                            clear q9
                            go_wp2_with fail
                            go_roundw
                            case rel => exact ⟨n + 1, by go_num, by omega, HR6⟩
                            case measure => simp [intOf]; omega
                          · have b1 : (hsa != 2) = true := by simpa using hs2
                            have HR6 := hid qh.pop
                            clear qh hs2 HLV
                            go_wp2_with fail
                            go_roundw
                            case rel => exact ⟨n + 1, by go_num, by omega, HR6⟩
                            case measure => simp [intOf]; omega
                        · obtain rfl : n = g'.z.hs.length := by omega
                          have H9 := HNext.out _ Ps6 NF hT7 HFN.out HR5.out.pop.pop.pop.pop.pop
                          clear HR5
                          go_wp2_with fail
                          go_roundw
                          case rel => exact ⟨j + 1, NF, by go_num, by omega, H9⟩
                          case measure => simp [intOf]; omega
              · have b7 : ((g'.ts k).dg.phase == 0) = false := by simpa using hp
                clear hp
                go_wp2_with fail
                refine hph.mono ?_
                rintro e wz ⟨rfl, gqz⟩
                clear hph t1
                go_upto_region 29 with fail
                have HQZ := hid gqz
                clear gqz
                have hvw := HQZ.out.view hok2
                have g0 : wz.cell? ⟨G, 0, none⟩ = some (.pointer (some ⟨A.sp, 0, none⟩)) := HQZ.out.sp
                clear HQZ
                go_wp2_with fail
                refine hvw.mono ?_
                rintro e wv ⟨qa2, ca2, qb2, cb2, rfl, qv⟩
                clear hvw g0
                have y0 : wv.cell? ⟨VB, 0, none⟩ = some (.slice qa g.z.xs.length ca) := qv.cell 2 rfl 0
                have y1 : wv.cell? ⟨VB, 1, none⟩ = some (.int .i64 g.z.x.n) := qv.cell 2 rfl 1
                have y2 : wv.cell? ⟨VB, 2, none⟩ = some (.int .i64 g.z.x.o) := qv.cell 2 rfl 2
                have y3 : wv.cell? ⟨VB, 3, none⟩ = some (.slice (some ⟨qb, 0, none⟩) g.z.hs.length cb) := qv.cell 2 rfl 3
                have z0 := qv.frozen 2 rfl 0
                have z1 := qv.frozen 2 rfl 1
                have z2 := qv.frozen 2 rfl 2
                have z3 := qv.frozen 2 rfl 3
                have HQU : Hid (GQ w c A G Ps6 g' [ownI 2 1 (.slice qa2 g'.z.xs.length ca2) g'.z.xs.length (clCells g'.z.xs), ownI 60 8 (.slice (some ⟨qb2, 0, none⟩) g'.z.hs.length cb2) g'.z.hs.length (slCells (slots g'.z.hs g'.z.ws)), boxI VB #[.slice qa2 g'.z.xs.length ca2, .int .i64 g'.z.x.n, .int .i64 g'.z.x.o, .slice (some ⟨qb2, 0, none⟩) g'.z.hs.length cb2] 43, ownI 2 1 (.slice qa g.z.xs.length ca) g.z.xs.length (clCells g.z.xs), ownI 60 8 (.slice (some ⟨qb, 0, none⟩) g.z.hs.length cb) g.z.hs.length (slCells (slots g.z.hs g.z.ws)), boxI FB (fB NF) 82, boxI M #[.int .i64 c.ce, .int .i64 c.sl, .int .i64 c.bi, .int .i64 c.ta, .int .i64 c.ba, .int .i64 c.de] 29] ((((wv.setCell ⟨VB, 0, none⟩ (.slice qa2 g'.z.xs.length ca2)).setCell ⟨VB, 1, none⟩ (.int .i64 g'.z.x.n)).setCell ⟨VB, 2, none⟩ (.int .i64 g'.z.x.o)).setCell ⟨VB, 3, none⟩ (.slice (some ⟨qb2, 0, none⟩) g'.z.hs.length cb2))) := (((qv.write 2 rfl 0 (.slice qa2 g'.z.xs.length ca2)).write 2 rfl 1 (.int .i64 g'.z.x.n)).write 2 rfl 2 (.int .i64 g'.z.x.o)).write 2 rfl 3 (.slice (some ⟨qb2, 0, none⟩) g'.z.hs.length cb2)
                clear qv
                go_upto_region 30 with fail
                clear y0 y1 y2 y3 z0 z1 z2 z3
                generalize (((wv.setCell ⟨VB, 0, none⟩ (.slice qa2 g'.z.xs.length ca2)).setCell ⟨VB, 1, none⟩ (.int .i64 g'.z.x.n)).setCell ⟨VB, 2, none⟩ (.int .i64 g'.z.x.o)).setCell ⟨VB, 3, none⟩ (.slice (some ⟨qb2, 0, none⟩) g'.z.hs.length cb2) = wu at *
                go_wp2_with fail
                go_loopw [19, 20, 21, 22, 151, 152, 153, 154, 155, 156, 157, 158, 159, 160, 161, 162, 163, 164, 165, 166, 167, 168, 169, 170, 171, 172, 173, 174, 175, 176, 177, 178, 179, 180, 181, 182, 183, 184, 185, 186, 187] (fun i _ _ _ _ _ _ _ _ _ _ _ _ _ _ _ _ _ _ _ _ _ _ _ _ _ _ _ _ _ _ _ _ _ _ _ _ _ _ _ _ wr => ∃ n : Nat, i = .int .i64 n ∧ n ≤ g'.z.hs.length ∧ Hid (GQ w c A G Ps6 g' [ownI 2 1 (.slice qa2 g'.z.xs.length ca2) g'.z.xs.length (clCells g'.z.xs), ownI 60 8 (.slice (some ⟨qb2, 0, none⟩) g'.z.hs.length cb2) g'.z.hs.length (slCells (slots g'.z.hs g'.z.ws)), boxI VB #[.slice qa2 g'.z.xs.length ca2, .int .i64 g'.z.x.n, .int .i64 g'.z.x.o, .slice (some ⟨qb2, 0, none⟩) g'.z.hs.length cb2] 43, ownI 2 1 (.slice qa g.z.xs.length ca) g.z.xs.length (clCells g.z.xs), ownI 60 8 (.slice (some ⟨qb, 0, none⟩) g.z.hs.length cb) g.z.hs.length (slCells (slots g.z.hs g.z.ws)), boxI FB (fB NF) 82, boxI M #[.int .i64 c.ce, .int .i64 c.sl, .int .i64 c.bi, .int .i64 c.ta, .int .i64 c.ba, .int .i64 c.de] 29] wr)) (fun i _ _ _ _ _ _ _ _ _ _ _ _ _ _ _ _ _ _ _ _ _ _ _ _ _ _ _ _ _ _ _ _ _ _ _ _ _ _ _ _ _ => g'.z.hs.length - (intOf i).toNat)
                case atStart => exact ⟨0, rfl, Nat.zero_le _, HQU⟩
                case round =>
                  clear HQU
                  obtain ⟨n, rfl, hn, HR5⟩ := hrel
                  have v3 : wr.cell? ⟨VB, 3, none⟩ = some (.slice (some ⟨qb2, 0, none⟩) g'.z.hs.length cb2) := HR5.out.cell 2 rfl 3
                  by_cases hnl : n < g'.z.hs.length
                  · have h3 : (n : Int) < (g'.z.hs.length : Int) := by omega
                    have h4 : (0 : Int) ≤ (n : Int) := by omega
                    have h8 : n < 8 := by have := hok2.z.h8; omega
                    obtain ⟨s0, s1, s2, s3, s4, s5⟩ := HR5.out.slots 1 rfl hok2.z.wl hnl
                    obtain ⟨HD, hHD⟩ : ∃ y, y = g'.z.hs.getD n Hd.zero := ⟨_, rfl⟩
                    rw [← hHD] at s0 s1 s2 s3 s4 s5
                    have HLV : Hid (HD.sa = 2 → ∃ j : Nat, j < 4 ∧ HD.th = j + 1 ∧ (g'.ts j).fr.sl = n ∧ (g'.ts j).fr.gn = HD.gn) := by
                      rw [hHD]
                      exact HLive.out n hnl
                    clear hHD
                    obtain ⟨hg, hsa, hsp, hth, hdm, hwy⟩ := HD
                    simp only at s0 s1 s2 s3 s4 s5 HLV
                    have qh := HR5.out.box #[.int .i64 hg, .int .i64 hsa, .int .i64 hsp, .int .i64 hth, .bool hdm, .int .i64 hwy] 55
                    clear HR5
                    go_upto_region 34 with fail
                    clear v3 s0 s1 s2 s3 s4 s5
                    generalize wr.alloc (.cells #[.int .i64 hg, .int .i64 hsa, .int .i64 hsp, .int .i64 hth, .bool hdm, .int .i64 hwy] 55) = wh at *
                    generalize wr.heap.size = HB at *
                    have x1 : wh.cell? ⟨HB, 1, none⟩ = some (.int .i64 hsa) := qh.cell 0 rfl 1
                    by_cases hs2 : hsa = 2
                    · obtain ⟨jj, j1, j2, j3, j4⟩ := HLV.out hs2
                      subst j2
                      subst hs2
                      have j5 : ((jj : Nat) : Int) < 4 := by omega
                      have j6 : (0 : Int) ≤ ((jj : Nat) : Int) := by omega
                      have j7 : ((jj : Nat) : Int) + 1 - 1 = ((jj : Nat) : Int) := by omega
                      go_upto_region 35 with fail
                      clear x1
                      have x3 : wh.cell? ⟨HB, 3, none⟩ = some (.int .i64 ((jj : Int) + 1)) := qh.cell 0 rfl 3
                      have t1 : wh.cell? ⟨G, 1 + jj, none⟩ = some (.pointer (some ⟨Ts jj, 0, none⟩)) := by rw [← hT7 jj]; exact qh.t j1
                      have hsq : ∀ q, Calls Tryz.prog 26 #[.pointer (some ⟨Ts jj, 0, none⟩)] (wh.drewN q) fun e w' => e = .returned (.tuple #[.int .i64 (n : Int), .int .i64 hg]) ∧ ∃ m, w' = (wh.drewN q).drewN m := by
                        intro q
                        have := (qh.calm ((Kept.refl _ wh).drewN q)).slot j1
                        rw [hT7 jj, j3, j4] at this
                        exact this
                      have HQH := hid qh
                      clear qh j3 j4 HLV
                      go_quiet (first | (go_at_call 26; exact Calls.quiet_of (hsq _)))
                      have q9 := HQH.out.calm ((Kept.refl _ wh).drewN nq)
                      clear HQH hsq x3 t1
                      generalize wh.drewN nq = wk at *
                      have x0 : wk.cell? ⟨HB, 0, none⟩ = some (.int .i64 hg) := q9.cell 0 rfl 0
                      have HR6 := hid q9.pop
                      clear q9
                      go_wp2_with fail
                      go_roundw
                      case rel => exact ⟨n + 1, by go_num, by omega, HR6⟩
                      case measure => simp [intOf]; omega
                    · have b1 : (hsa != 2) = true := by simpa using hs2
                      have HR6 := hid qh.pop
                      clear qh hs2 HLV
                      go_wp2_with fail
                      go_roundw
                      case rel => exact ⟨n + 1, by go_num, by omega, HR6⟩
                      case measure => simp [intOf]; omega
                  · obtain rfl : n = g'.z.hs.length := by omega
                    have H9 := HNext.out _ Ps6 NF hT7 HFN.out HR5.out.pop.pop.pop.pop.pop
                    clear HR5
                    go_wp2_with fail
                    go_roundw
                    case rel => exact ⟨j + 1, NF, by go_num, by omega, H9⟩
                    case measure => simp [intOf]; omega
        · rw [show decide ((g.ts k).dg.phase = 0) = false by simp [hi]] at HFR
          have b0 : ((g.ts k).dg.phase == 0) = false := by simpa using hi
          clear hi
          go_wp2_with fail
          refine hph.mono ?_
          rintro e w6 ⟨rfl, q6⟩
          clear hph t1
          have HQ0 : Hid (GQ w c A G Ps g [boxI VB #[.slice qa g.z.xs.length ca, .int .i64 g.z.x.n, .int .i64 g.z.x.o, .slice (some ⟨qb, 0, none⟩) g.z.hs.length cb] 43, ownI 2 1 (.slice qa g.z.xs.length ca) g.z.xs.length (clCells g.z.xs), ownI 60 8 (.slice (some ⟨qb, 0, none⟩) g.z.hs.length cb) g.z.hs.length (slCells (slots g.z.hs g.z.ws)), boxI FB (fB (noteP F g.z.hs k false 0 0)) 82, boxI M #[.int .i64 c.ce, .int .i64 c.sl, .int .i64 c.bi, .int .i64 c.ta, .int .i64 c.ba, .int .i64 c.de] 29] w6) := by rw [noteP_zero]; exact q6
          clear q6
          go_wp2_with fail
          go_loopw [15, 16, 17, 67, 68, 69, 70, 71, 72, 73, 74, 75, 76, 77, 78, 79, 80, 81, 82, 83, 84, 85, 86, 87, 88, 89, 90, 91, 92, 93, 94, 95, 96, 97, 98, 99, 100, 101, 102, 103, 104, 105, 106, 107, 108] (fun i _ _ _ _ _ _ _ _ _ _ _ _ _ _ _ _ _ _ _ _ _ _ _ _ _ _ _ _ _ _ _ _ _ _ _ _ _ _ _ _ _ _ _ _ wr => ∃ t : Nat, i = .int .i64 t ∧ t ≤ 4 ∧ Hid (GQ w c A G Ps g [boxI VB #[.slice qa g.z.xs.length ca, .int .i64 g.z.x.n, .int .i64 g.z.x.o, .slice (some ⟨qb, 0, none⟩) g.z.hs.length cb] 43, ownI 2 1 (.slice qa g.z.xs.length ca) g.z.xs.length (clCells g.z.xs), ownI 60 8 (.slice (some ⟨qb, 0, none⟩) g.z.hs.length cb) g.z.hs.length (slCells (slots g.z.hs g.z.ws)), boxI FB (fB (noteP F g.z.hs k false t 0)) 82, boxI M #[.int .i64 c.ce, .int .i64 c.sl, .int .i64 c.bi, .int .i64 c.ta, .int .i64 c.ba, .int .i64 c.de] 29] wr)) (fun i _ _ _ _ _ _ _ _ _ _ _ _ _ _ _ _ _ _ _ _ _ _ _ _ _ _ _ _ _ _ _ _ _ _ _ _ _ _ _ _ _ _ _ _ _ => 4 - (intOf i).toNat)
          case atStart => exact ⟨0, rfl, by omega, HQ0⟩
          case round =>
            clear HQ0
            obtain ⟨t, rfl, ht, HR2⟩ := hrel
            by_cases ht4 : t < 4
            · have t5 : (t : Int) < 4 := by omega
              have t6 : (0 : Int) ≤ (t : Int) := by omega
              go_wp2_with fail
              go_loopw [16, 17, 71, 72, 73, 74, 75, 76, 77, 78, 79, 80, 81, 82, 83, 84, 85, 86, 87, 88, 89, 90, 91, 92, 93, 94, 95, 96, 97, 98, 99, 100, 101, 102, 103, 104, 105, 106, 107, 108] (fun i _ _ _ _ _ _ _ _ _ _ _ _ _ _ _ _ _ _ _ _ _ _ _ _ _ _ _ _ _ _ _ _ _ _ _ _ _ _ _ wr => ∃ n : Nat, i = .int .i64 n ∧ n ≤ g.z.hs.length ∧ Hid (GQ w c A G Ps g [boxI VB #[.slice qa g.z.xs.length ca, .int .i64 g.z.x.n, .int .i64 g.z.x.o, .slice (some ⟨qb, 0, none⟩) g.z.hs.length cb] 43, ownI 2 1 (.slice qa g.z.xs.length ca) g.z.xs.length (clCells g.z.xs), ownI 60 8 (.slice (some ⟨qb, 0, none⟩) g.z.hs.length cb) g.z.hs.length (slCells (slots g.z.hs g.z.ws)), boxI FB (fB (noteP F g.z.hs k false t n)) 82, boxI M #[.int .i64 c.ce, .int .i64 c.sl, .int .i64 c.bi, .int .i64 c.ta, .int .i64 c.ba, .int .i64 c.de] 29] wr)) (fun i _ _ _ _ _ _ _ _ _ _ _ _ _ _ _ _ _ _ _ _ _ _ _ _ _ _ _ _ _ _ _ _ _ _ _ _ _ _ _ _ => g.z.hs.length - (intOf i).toNat)
              case atStart => exact ⟨0, rfl, Nat.zero_le _, HR2⟩
              case round =>
                clear HR2
                obtain ⟨n, rfl, hn, HR3⟩ := hrel
                have q := HR3.out
                have v3 : wr.cell? ⟨VB, 3, none⟩ = some (.slice (some ⟨qb, 0, none⟩) g.z.hs.length cb) := q.cell 0 rfl 3
                by_cases hnl : n < g.z.hs.length
                · have h3 : (n : Int) < (g.z.hs.length : Int) := by omega
                  have h4 : (0 : Int) ≤ (n : Int) := by omega
                  have h8 : n < 8 := by have := hok.z.h8; omega
                  have h9 : (n : Int) < 8 := by omega
                  obtain ⟨-, s1, -⟩ := q.slots 2 rfl hok.z.wl hnl
                  obtain ⟨SA, hSA⟩ : ∃ y, y = (g.z.hs.getD n Hd.zero).sa := ⟨_, rfl⟩
                  rw [← hSA] at s1
                  have u0 : wr.cell? ⟨FB, t * 8 + n, none⟩ = some (.bool (F t n)) := by
                    have := (q.cell 3 rfl (t * 8 + n)).trans (fB_at _ ht4 h8)
                    rw [noteP_at] at this
                    exact this
                  have fz : wr.frozen? ⟨FB, t * 8 + n, none⟩ = false := q.frozen 3 rfl _
                  have HWR : Hid (∀ x, x = noteF F g.z.hs k false t n → Hid (GQ w c A G Ps g [boxI VB #[.slice qa g.z.xs.length ca, .int .i64 g.z.x.n, .int .i64 g.z.x.o, .slice (some ⟨qb, 0, none⟩) g.z.hs.length cb] 43, ownI 2 1 (.slice qa g.z.xs.length ca) g.z.xs.length (clCells g.z.xs), ownI 60 8 (.slice (some ⟨qb, 0, none⟩) g.z.hs.length cb) g.z.hs.length (slCells (slots g.z.hs g.z.ws)), boxI FB (fB (noteP F g.z.hs k false t (n + 1))) 82, boxI M #[.int .i64 c.ce, .int .i64 c.sl, .int .i64 c.bi, .int .i64 c.ta, .int .i64 c.ba, .int .i64 c.de] 29] (wr.setCell ⟨FB, t * 8 + n, none⟩ (.bool x)))) := by
                    intro x hx
                    have q2 := HR3.out.write 3 rfl (t * 8 + n) (.bool x)
                    rw [fB_set _ ht4 h8, hx, noteP_next] at q2
                    rw [hx]
                    exact q2
                  have HWD : Hid (∀ W x, x = noteF F g.z.hs k false t n → W = (wr.setCell ⟨FB, t * 8 + n, none⟩ (.bool x)).drew → Hid (GQ w c A G Ps g [boxI VB #[.slice qa g.z.xs.length ca, .int .i64 g.z.x.n, .int .i64 g.z.x.o, .slice (some ⟨qb, 0, none⟩) g.z.hs.length cb] 43, ownI 2 1 (.slice qa g.z.xs.length ca) g.z.xs.length (clCells g.z.xs), ownI 60 8 (.slice (some ⟨qb, 0, none⟩) g.z.hs.length cb) g.z.hs.length (slCells (slots g.z.hs g.z.ws)), boxI FB (fB (noteP F g.z.hs k false t (n + 1))) 82, boxI M #[.int .i64 c.ce, .int .i64 c.sl, .int .i64 c.bi, .int .i64 c.ta, .int .i64 c.ba, .int .i64 c.de] 29] W)) := by
                    intro W x hx hW
                    rw [hW]
                    exact (HWR.out x hx).out.drew
                  clear q HR3
                  have HN : Hid (noteF F g.z.hs k false t n = (F t n && (SA == 0))) := by rw [hSA]; exact noteF_oth hnl (fun q => by cases q.2)
                  clear hSA
                  by_cases htk : t = k
                  · have b1 : ((t : Int) == (k : Int)) = true := by simp [htk]
                    clear htk
                    cases hfv : F t n with
                    | false =>
                      rw [hfv] at u0
                      clear HWR
                      go_wp2_with fail
                      go_region
                      all_goals
                        go_wp2
                        go_roundw
                        case rel => exact ⟨n + 1, by go_num, by omega, HWD.out _ _ (by rw [HN.out, hfv]; try rfl) rfl⟩
                        case measure => simp [intOf]; omega
                    | true =>
                      rw [hfv] at u0
                      clear HWR
                      go_wp2_with fail
                      go_region
                      all_goals
                        go_wp2
                        go_roundw
                        case rel => exact ⟨n + 1, by go_num, by omega, HWD.out _ _ (by rw [HN.out, hfv]; try rfl) rfl⟩
                        case measure => simp [intOf]; omega
                  · have b1 : ((t : Int) == (k : Int)) = false := beq_false_of_ne (by omega)
                    clear htk
                    cases hfv : F t n with
                    | false =>
                      rw [hfv] at u0
                      clear HWR
                      go_wp2_with fail
                      go_region
                      all_goals
                        go_wp2
                        go_roundw
                        case rel => exact ⟨n + 1, by go_num, by omega, HWD.out _ _ (by rw [HN.out, hfv]; try rfl) rfl⟩
                        case measure => simp [intOf]; omega
                    | true =>
                      rw [hfv] at u0
                      clear HWR
                      go_wp2_with fail
                      go_region
                      all_goals
                        go_wp2
                        go_roundw
                        case rel => exact ⟨n + 1, by go_num, by omega, HWD.out _ _ (by rw [HN.out, hfv]; try rfl) rfl⟩
                        case measure => simp [intOf]; omega
                · obtain rfl : n = g.z.hs.length := by omega
                  have HR4 : Hid (GQ w c A G Ps g [boxI VB #[.slice qa g.z.xs.length ca, .int .i64 g.z.x.n, .int .i64 g.z.x.o, .slice (some ⟨qb, 0, none⟩) g.z.hs.length cb] 43, ownI 2 1 (.slice qa g.z.xs.length ca) g.z.xs.length (clCells g.z.xs), ownI 60 8 (.slice (some ⟨qb, 0, none⟩) g.z.hs.length cb) g.z.hs.length (slCells (slots g.z.hs g.z.ws)), boxI FB (fB (noteP F g.z.hs k false (t + 1) 0)) 82, boxI M #[.int .i64 c.ce, .int .i64 c.sl, .int .i64 c.bi, .int .i64 c.ta, .int .i64 c.ba, .int .i64 c.de] 29] wr) := by rw [← noteP_row]; exact q
                  clear q HR3
                  go_wp2_with fail
                  go_roundw
                  case rel => exact ⟨t + 1, by go_num, by omega, HR4⟩
                  case measure => simp [intOf]; omega
            · obtain rfl : t = 4 := by omega
              obtain ⟨NF, hNF⟩ : ∃ y, y = noteF F g.z.hs k false := ⟨_, rfl⟩
              have HFN : Hid (Fre g' NF) := by rw [hNF]; exact HFR.out.1
              have HNO : Hid ((g'.ts k).dg.phase = 0 → (g'.ts k).lo = 1 → (g'.ts k).le = 6 → ∀ n, n < g.z.hs.length → NF k n = false) := by rw [hNF]; exact HFR.out.2.1
              have HLive : Hid (∀ n, n < g'.z.hs.length → (g'.z.hs.getD n Hd.zero).sa = 2 → ∃ j : Nat, j < 4 ∧ (g'.z.hs.getD n Hd.zero).th = j + 1 ∧ (g'.ts j).fr.sl = n ∧ (g'.ts j).fr.gn = (g'.z.hs.getD n Hd.zero).gn) := HFR.out.2.2
              have gq5 : GQ w c A G Ps g [boxI VB #[.slice qa g.z.xs.length ca, .int .i64 g.z.x.n, .int .i64 g.z.x.o, .slice (some ⟨qb, 0, none⟩) g.z.hs.length cb] 43, ownI 2 1 (.slice qa g.z.xs.length ca) g.z.xs.length (clCells g.z.xs), ownI 60 8 (.slice (some ⟨qb, 0, none⟩) g.z.hs.length cb) g.z.hs.length (slCells (slots g.z.hs g.z.ws)), boxI FB (fB NF) 82, boxI M #[.int .i64 c.ce, .int .i64 c.sl, .int .i64 c.bi, .int .i64 c.ta, .int .i64 c.ba, .int .i64 c.de] 29] wr := by rw [hNF, ← noteP_all]; exact HR2.out
              clear hNF HR2 HFR
              obtain ⟨wz0, hwz0⟩ : ∃ y, y = wr := ⟨_, rfl⟩
              subst hwz0
              have f0 := (hMj.kept gq5.same).c0
              have f1 := (hMj.kept gq5.same).c1
              have f2 := (hMj.kept gq5.same).c2
              have f3 := (hMj.kept gq5.same).c3
              have f4 := (hMj.kept gq5.same).c4
              simp only at f0 f1 f2 f3 f4
              have hgo := gq5.goes hok hnn m
              rw [show #[Value.int .i64 m.th, .int .i64 m.kd, .int .i64 m.n, .int .i64 m.ce, .int .i64 m.x] = #[.int .i64 dth, .int .i64 dkd, .int .i64 dn, .int .i64 dce, .int .i64 dx] by rw [HMV.out]; rfl, ← HG'.out] at hgo
              generalize g.ans c m = AN at *
              clear gq5
              go_wp2_with fail
              refine hgo.mono ?_
              rintro e w8 ⟨rfl, Ps6, hT6, gq8⟩
              clear hgo f0 f1 f2 f3 f4
              have hT7 : ∀ j, (Ps6 j).T = Ts j := fun j => (hT6 j).trans (hT j)
              clear hT6
              obtain ⟨nn2, hok2⟩ := HOk2.out
              have hph := gq8.phase hk4
              rw [hT7 k] at hph
              have t1 : w8.cell? ⟨G, 1 + k, none⟩ = some (.pointer (some ⟨Ts k, 0, none⟩)) := by rw [← hT7 k]; exact gq8.t hk4
              clear gq8
              by_cases hp : (g'.ts k).dg.phase = 0
              · have HNO2 := hid (HNO.out hp)
                rw [hp] at hph
                clear hp
                go_wp2_with fail
                refine hph.mono ?_
                rintro e w9 ⟨rfl, gq9⟩
                clear hph t1
                have t1 : w9.cell? ⟨G, 1 + k, none⟩ = some (.pointer (some ⟨Ts k, 0, none⟩)) := by rw [← hT7 k]; exact gq9.t hk4
                have hla := gq9.last hk4
                rw [hT7 k] at hla
                clear gq9
                obtain ⟨LO, hLO⟩ : ∃ y, y = (g'.ts k).lo := ⟨_, rfl⟩
                obtain ⟨LE, hLE⟩ : ∃ y, y = (g'.ts k).le := ⟨_, rfl⟩
                obtain ⟨LX, hLX⟩ : ∃ y, y = (g'.ts k).lx := ⟨_, rfl⟩
                rw [← hLO, ← hLE, ← hLX] at hla
                rw [← hLO, ← hLE] at HNO2
                clear hLO hLE hLX
                cases hQ : (LO == 1 && LE == 6 && LX == 0) with
                | false =>
                  have heq : ∀ W, (binOp .eql 49 (.agg #[.int .i64 LO, .int .i64 LE, .int .i64 LX]) (.agg #[.int .i64 1, .int .i64 6, .int .i64 0])).run Tryz.prog W = .ok (.bool false) W := fun W => by rw [eqLastS, hQ]
                  clear hQ
                  go_wp2_with fail
                  refine hla.mono ?_
                  rintro e wz ⟨rfl, gqz⟩
                  clear hla t1
                  go_upto_region 29 with (simp only [heq])
                  clear heq
                  have HQZ := hid gqz
                  clear gqz
                  have hvw := HQZ.out.view hok2
                  have g0 : wz.cell? ⟨G, 0, none⟩ = some (.pointer (some ⟨A.sp, 0, none⟩)) := HQZ.out.sp
                  clear HQZ
                  go_wp2_with fail
                  refine hvw.mono ?_
                  rintro e wv ⟨qa2, ca2, qb2, cb2, rfl, qv⟩
                  clear hvw g0
                  have y0 : wv.cell? ⟨VB, 0, none⟩ = some (.slice qa g.z.xs.length ca) := qv.cell 2 rfl 0
                  have y1 : wv.cell? ⟨VB, 1, none⟩ = some (.int .i64 g.z.x.n) := qv.cell 2 rfl 1
                  have y2 : wv.cell? ⟨VB, 2, none⟩ = some (.int .i64 g.z.x.o) := qv.cell 2 rfl 2
                  have y3 : wv.cell? ⟨VB, 3, none⟩ = some (.slice (some ⟨qb, 0, none⟩) g.z.hs.length cb) := qv.cell 2 rfl 3
                  have z0 := qv.frozen 2 rfl 0
                  have z1 := qv.frozen 2 rfl 1
                  have z2 := qv.frozen 2 rfl 2
                  have z3 := qv.frozen 2 rfl 3
                  have HQU : Hid (GQ w c A G Ps6 g' [ownI 2 1 (.slice qa2 g'.z.xs.length ca2) g'.z.xs.length (clCells g'.z.xs), ownI 60 8 (.slice (some ⟨qb2, 0, none⟩) g'.z.hs.length cb2) g'.z.hs.length (slCells (slots g'.z.hs g'.z.ws)), boxI VB #[.slice qa2 g'.z.xs.length ca2, .int .i64 g'.z.x.n, .int .i64 g'.z.x.o, .slice (some ⟨qb2, 0, none⟩) g'.z.hs.length cb2] 43, ownI 2 1 (.slice qa g.z.xs.length ca) g.z.xs.length (clCells g.z.xs), ownI 60 8 (.slice (some ⟨qb, 0, none⟩) g.z.hs.length cb) g.z.hs.length (slCells (slots g.z.hs g.z.ws)), boxI FB (fB NF) 82, boxI M #[.int .i64 c.ce, .int .i64 c.sl, .int .i64 c.bi, .int .i64 c.ta, .int .i64 c.ba, .int .i64 c.de] 29] ((((wv.setCell ⟨VB, 0, none⟩ (.slice qa2 g'.z.xs.length ca2)).setCell ⟨VB, 1, none⟩ (.int .i64 g'.z.x.n)).setCell ⟨VB, 2, none⟩ (.int .i64 g'.z.x.o)).setCell ⟨VB, 3, none⟩ (.slice (some ⟨qb2, 0, none⟩) g'.z.hs.length cb2))) := (((qv.write 2 rfl 0 (.slice qa2 g'.z.xs.length ca2)).write 2 rfl 1 (.int .i64 g'.z.x.n)).write 2 rfl 2 (.int .i64 g'.z.x.o)).write 2 rfl 3 (.slice (some ⟨qb2, 0, none⟩) g'.z.hs.length cb2)
                  clear qv
                  go_upto_region 30 with fail
                  clear y0 y1 y2 y3 z0 z1 z2 z3
                  generalize (((wv.setCell ⟨VB, 0, none⟩ (.slice qa2 g'.z.xs.length ca2)).setCell ⟨VB, 1, none⟩ (.int .i64 g'.z.x.n)).setCell ⟨VB, 2, none⟩ (.int .i64 g'.z.x.o)).setCell ⟨VB, 3, none⟩ (.slice (some ⟨qb2, 0, none⟩) g'.z.hs.length cb2) = wu at *
                  go_wp2_with fail
                  go_loopw [19, 20, 21, 22, 151, 152, 153, 154, 155, 156, 157, 158, 159, 160, 161, 162, 163, 164, 165, 166, 167, 168, 169, 170, 171, 172, 173, 174, 175, 176, 177, 178, 179, 180, 181, 182, 183, 184, 185, 186, 187] (fun i _ _ _ _ _ _ _ _ _ _ _ _ _ _ _ _ _ _ _ _ _ _ _ _ _ _ _ _ _ _ _ _ _ _ _ _ _ _ _ _ wr => ∃ n : Nat, i = .int .i64 n ∧ n ≤ g'.z.hs.length ∧ Hid (GQ w c A G Ps6 g' [ownI 2 1 (.slice qa2 g'.z.xs.length ca2) g'.z.xs.length (clCells g'.z.xs), ownI 60 8 (.slice (some ⟨qb2, 0, none⟩) g'.z.hs.length cb2) g'.z.hs.length (slCells (slots g'.z.hs g'.z.ws)), boxI VB #[.slice qa2 g'.z.xs.length ca2, .int .i64 g'.z.x.n, .int .i64 g'.z.x.o, .slice (some ⟨qb2, 0, none⟩) g'.z.hs.length cb2] 43, ownI 2 1 (.slice qa g.z.xs.length ca) g.z.xs.length (clCells g.z.xs), ownI 60 8 (.slice (some ⟨qb, 0, none⟩) g.z.hs.length cb) g.z.hs.length (slCells (slots g.z.hs g.z.ws)), boxI FB (fB NF) 82, boxI M #[.int .i64 c.ce, .int .i64 c.sl, .int .i64 c.bi, .int .i64 c.ta, .int .i64 c.ba, .int .i64 c.de] 29] wr)) (fun i _ _ _ _ _ _ _ _ _ _ _ _ _ _ _ _ _ _ _ _ _ _ _ _ _ _ _ _ _ _ _ _ _ _ _ _ _ _ _ _ _ => g'.z.hs.length - (intOf i).toNat)
                  case atStart => exact ⟨0, rfl, Nat.zero_le _, HQU⟩
                  case round =>
                    clear HQU
                    obtain ⟨n, rfl, hn, HR5⟩ := hrel
                    have v3 : wr.cell? ⟨VB, 3, none⟩ = some (.slice (some ⟨qb2, 0, none⟩) g'.z.hs.length cb2) := HR5.out.cell 2 rfl 3
                    by_cases hnl : n < g'.z.hs.length
                    · have h3 : (n : Int) < (g'.z.hs.length : Int) := by omega
                      have h4 : (0 : Int) ≤ (n : Int) := by omega
                      have h8 : n < 8 := by have := hok2.z.h8; omega
                      obtain ⟨s0, s1, s2, s3, s4, s5⟩ := HR5.out.slots 1 rfl hok2.z.wl hnl
                      obtain ⟨HD, hHD⟩ : ∃ y, y = g'.z.hs.getD n Hd.zero := ⟨_, rfl⟩
                      rw [← hHD] at s0 s1 s2 s3 s4 s5
                      have HLV : Hid (HD.sa = 2 → ∃ j : Nat, j < 4 ∧ HD.th = j + 1 ∧ (g'.ts j).fr.sl = n ∧ (g'.ts j).fr.gn = HD.gn) := by
                        rw [hHD]
                        exact HLive.out n hnl
                      clear hHD
                      obtain ⟨hg, hsa, hsp, hth, hdm, hwy⟩ := HD
                      simp only at s0 s1 s2 s3 s4 s5 HLV
                      have qh := HR5.out.box #[.int .i64 hg, .int .i64 hsa, .int .i64 hsp, .int .i64 hth, .bool hdm, .int .i64 hwy] 55
                      clear HR5
                      go_upto_region 34 with fail
                      clear v3 s0 s1 s2 s3 s4 s5
                      generalize wr.alloc (.cells #[.int .i64 hg, .int .i64 hsa, .int .i64 hsp, .int .i64 hth, .bool hdm, .int .i64 hwy] 55) = wh at *
                      generalize wr.heap.size = HB at *
                      have x1 : wh.cell? ⟨HB, 1, none⟩ = some (.int .i64 hsa) := qh.cell 0 rfl 1
                      by_cases hs2 : hsa = 2
                      · obtain ⟨jj, j1, j2, j3, j4⟩ := HLV.out hs2
                        subst j2
                        subst hs2
                        have j5 : ((jj : Nat) : Int) < 4 := by omega
                        have j6 : (0 : Int) ≤ ((jj : Nat) : Int) := by omega
                        have j7 : ((jj : Nat) : Int) + 1 - 1 = ((jj : Nat) : Int) := by omega
                        go_upto_region 35 with fail
                        clear x1
                        have x3 : wh.cell? ⟨HB, 3, none⟩ = some (.int .i64 ((jj : Int) + 1)) := qh.cell 0 rfl 3
                        have t1 : wh.cell? ⟨G, 1 + jj, none⟩ = some (.pointer (some ⟨Ts jj, 0, none⟩)) := by rw [← hT7 jj]; exact qh.t j1
                        have hsq : ∀ q, Calls Tryz.prog 26 #[.pointer (some ⟨Ts jj, 0, none⟩)] (wh.drewN q) fun e w' => e = .returned (.tuple #[.int .i64 (n : Int), .int .i64 hg]) ∧ ∃ m, w' = (wh.drewN q).drewN m := by
                          intro q
                          have := (qh.calm ((Kept.refl _ wh).drewN q)).slot j1
                          rw [hT7 jj, j3, j4] at this
                          exact this
                        have HQH := hid qh
                        clear qh j3 j4 HLV
                        go_quiet (first | (go_at_call 26; exact Calls.quiet_of (hsq _)))
                        have q9 := HQH.out.calm ((Kept.refl _ wh).drewN nq)
                        clear HQH hsq x3 t1
                        generalize wh.drewN nq = wk at *
                        have x0 : wk.cell? ⟨HB, 0, none⟩ = some (.int .i64 hg) := q9.cell 0 rfl 0
                        have HR6 := hid q9.pop
                        clear q9
                        go_wp2_with fail
                        go_roundw
                        case rel => exact ⟨n + 1, by go_num, by omega, HR6⟩
                        case measure => simp [intOf]; omega
                      · have b1 : (hsa != 2) = true := by simpa using hs2
                        have HR6 := hid qh.pop
                        clear qh hs2 HLV
                        go_wp2_with fail
                        go_roundw
                        case rel => exact ⟨n + 1, by go_num, by omega, HR6⟩
                        case measure => simp [intOf]; omega
                    · obtain rfl : n = g'.z.hs.length := by omega
                      have H9 := HNext.out _ Ps6 NF hT7 HFN.out HR5.out.pop.pop.pop.pop.pop
                      clear HR5
                      go_wp2_with fail
                      go_roundw
                      case rel => exact ⟨j + 1, NF, by go_num, by omega, H9⟩
                      case measure => simp [intOf]; omega
                | true =>
                  have heq : ∀ W, (binOp .eql 49 (.agg #[.int .i64 LO, .int .i64 LE, .int .i64 LX]) (.agg #[.int .i64 1, .int .i64 6, .int .i64 0])).run Tryz.prog W = .ok (.bool true) W := fun W => by rw [eqLastS, hQ]
                  have HNN : Hid (∀ n, n < g.z.hs.length → NF k n = false) := by
                    simp only [Bool.and_eq_true, beq_iff_eq] at hQ
                    exact HNO2.out hQ.1.1 hQ.1.2
                  clear hQ
                  go_wp2_with fail
                  refine hla.mono ?_
                  rintro e w10 ⟨rfl, gq10⟩
                  clear hla t1
                  go_upto_region 24 with (simp only [heq])
                  clear heq
                  have HQ10 := hid gq10
                  clear gq10
                  go_wp2_with fail
                  go_loopw [18, 134, 135, 136, 137, 138, 139, 140, 141, 142, 143, 144, 145] (fun i _ _ _ _ _ _ _ _ _ _ _ _ wr => ∃ n : Nat, i = .int .i64 n ∧ n ≤ g.z.hs.length ∧ Hid (GQ w c A G Ps6 g' [boxI VB #[.slice qa g.z.xs.length ca, .int .i64 g.z.x.n, .int .i64 g.z.x.o, .slice (some ⟨qb, 0, none⟩) g.z.hs.length cb] 43, ownI 2 1 (.slice qa g.z.xs.length ca) g.z.xs.length (clCells g.z.xs), ownI 60 8 (.slice (some ⟨qb, 0, none⟩) g.z.hs.length cb) g.z.hs.length (slCells (slots g.z.hs g.z.ws)), boxI FB (fB NF) 82, boxI M #[.int .i64 c.ce, .int .i64 c.sl, .int .i64 c.bi, .int .i64 c.ta, .int .i64 c.ba, .int .i64 c.de] 29] wr)) (fun i _ _ _ _ _ _ _ _ _ _ _ _ _ => g.z.hs.length - (intOf i).toNat)
                  case atStart => exact ⟨0, rfl, Nat.zero_le _, HQ10⟩
                  case round =>
                    clear HQ10
                    obtain ⟨n, rfl, hn, HR4⟩ := hrel
                    have v3 : wr.cell? ⟨VB, 3, none⟩ = some (.slice (some ⟨qb, 0, none⟩) g.z.hs.length cb) := HR4.out.cell 0 rfl 3
                    by_cases hnl : n < g.z.hs.length
                    · have h3 : (n : Int) < (g.z.hs.length : Int) := by omega
                      have h4 : (0 : Int) ≤ (n : Int) := by omega
                      have h8 : n < 8 := by have := hok.z.h8; omega
                      have h9 : (n : Int) < 8 := by omega
                      have u0 : wr.cell? ⟨FB, k * 8 + n, none⟩ = some (.bool false) := by
                        have := (HR4.out.cell 3 rfl (k * 8 + n)).trans (fB_at _ hk4 h8)
                        rw [HNN.out n hnl] at this
                        exact this
                      go_wp2_with fail
                      go_roundw
                      case rel => exact ⟨n + 1, by go_num, by omega, HR4⟩
                      case measure => simp [intOf]; omega
                    · obtain rfl : n = g.z.hs.length := by omega
                      obtain ⟨wz, hwz⟩ : ∃ y, y = wr := ⟨_, rfl⟩
                      subst hwz
                      have HQZ := hid HR4.out
                      clear HR4
                      go_upto_region 29 with fail
                      clear v3
                      have hvw := HQZ.out.view hok2
                      have g0 : wz.cell? ⟨G, 0, none⟩ = some (.pointer (some ⟨A.sp, 0, none⟩)) := HQZ.out.sp
                      clear HQZ
                      go_wp2_with fail
                      refine hvw.mono ?_
                      rintro e wv ⟨qa2, ca2, qb2, cb2, rfl, qv⟩
                      clear hvw g0
                      have y0 : wv.cell? ⟨VB, 0, none⟩ = some (.slice qa g.z.xs.length ca) := qv.cell 2 rfl 0
                      have y1 : wv.cell? ⟨VB, 1, none⟩ = some (.int .i64 g.z.x.n) := qv.cell 2 rfl 1
                      have y2 : wv.cell? ⟨VB, 2, none⟩ = some (.int .i64 g.z.x.o) := qv.cell 2 rfl 2
                      have y3 : wv.cell? ⟨VB, 3, none⟩ = some (.slice (some ⟨qb, 0, none⟩) g.z.hs.length cb) := qv.cell 2 rfl 3
                      have z0 := qv.frozen 2 rfl 0
                      have z1 := qv.frozen 2 rfl 1
                      have z2 := qv.frozen 2 rfl 2
                      have z3 := qv.frozen 2 rfl 3
                      have HQU : Hid (GQ w c A G Ps6 g' [ownI 2 1 (.slice qa2 g'.z.xs.length ca2) g'.z.xs.length (clCells g'.z.xs), ownI 60 8 (.slice (some ⟨qb2, 0, none⟩) g'.z.hs.length cb2) g'.z.hs.length (slCells (slots g'.z.hs g'.z.ws)), boxI VB #[.slice qa2 g'.z.xs.length ca2, .int .i64 g'.z.x.n, .int .i64 g'.z.x.o, .slice (some ⟨qb2, 0, none⟩) g'.z.hs.length cb2] 43, ownI 2 1 (.slice qa g.z.xs.length ca) g.z.xs.length (clCells g.z.xs), ownI 60 8 (.slice (some ⟨qb, 0, none⟩) g.z.hs.length cb) g.z.hs.length (slCells (slots g.z.hs g.z.ws)), boxI FB (fB NF) 82, boxI M #[.int .i64 c.ce, .int .i64 c.sl, .int .i64 c.bi, .int .i64 c.ta, .int .i64 c.ba, .int .i64 c.de] 29] ((((wv.setCell ⟨VB, 0, none⟩ (.slice qa2 g'.z.xs.length ca2)).setCell ⟨VB, 1, none⟩ (.int .i64 g'.z.x.n)).setCell ⟨VB, 2, none⟩ (.int .i64 g'.z.x.o)).setCell ⟨VB, 3, none⟩ (.slice (some ⟨qb2, 0, none⟩) g'.z.hs.length cb2))) := (((qv.write 2 rfl 0 (.slice qa2 g'.z.xs.length ca2)).write 2 rfl 1 (.int .i64 g'.z.x.n)).write 2 rfl 2 (.int .i64 g'.z.x.o)).write 2 rfl 3 (.slice (some ⟨qb2, 0, none⟩) g'.z.hs.length cb2)
                      clear qv
                      go_upto_region 30 with fail
                      clear y0 y1 y2 y3 z0 z1 z2 z3
                      generalize (((wv.setCell ⟨VB, 0, none⟩ (.slice qa2 g'.z.xs.length ca2)).setCell ⟨VB, 1, none⟩ (.int .i64 g'.z.x.n)).setCell ⟨VB, 2, none⟩ (.int .i64 g'.z.x.o)).setCell ⟨VB, 3, none⟩ (.slice (some ⟨qb2, 0, none⟩) g'.z.hs.length cb2) = wu at *
                      go_wp2_with fail
                      go_loopw [19, 20, 21, 22, 151, 152, 153, 154, 155, 156, 157, 158, 159, 160, 161, 162, 163, 164, 165, 166, 167, 168, 169, 170, 171, 172, 173, 174, 175, 176, 177, 178, 179, 180, 181, 182, 183, 184, 185, 186, 187] (fun i _ _ _ _ _ _ _ _ _ _ _ _ _ _ _ _ _ _ _ _ _ _ _ _ _ _ _ _ _ _ _ _ _ _ _ _ _ _ _ _ wr => ∃ n : Nat, i = .int .i64 n ∧ n ≤ g'.z.hs.length ∧ Hid (GQ w c A G Ps6 g' [ownI 2 1 (.slice qa2 g'.z.xs.length ca2) g'.z.xs.length (clCells g'.z.xs), ownI 60 8 (.slice (some ⟨qb2, 0, none⟩) g'.z.hs.length cb2) g'.z.hs.length (slCells (slots g'.z.hs g'.z.ws)), boxI VB #[.slice qa2 g'.z.xs.length ca2, .int .i64 g'.z.x.n, .int .i64 g'.z.x.o, .slice (some ⟨qb2, 0, none⟩) g'.z.hs.length cb2] 43, ownI 2 1 (.slice qa g.z.xs.length ca) g.z.xs.length (clCells g.z.xs), ownI 60 8 (.slice (some ⟨qb, 0, none⟩) g.z.hs.length cb) g.z.hs.length (slCells (slots g.z.hs g.z.ws)), boxI FB (fB NF) 82, boxI M #[.int .i64 c.ce, .int .i64 c.sl, .int .i64 c.bi, .int .i64 c.ta, .int .i64 c.ba, .int .i64 c.de] 29] wr)) (fun i _ _ _ _ _ _ _ _ _ _ _ _ _ _ _ _ _ _ _ _ _ _ _ _ _ _ _ _ _ _ _ _ _ _ _ _ _ _ _ _ _ => g'.z.hs.length - (intOf i).toNat)
                      case atStart => exact ⟨0, rfl, Nat.zero_le _, HQU⟩
                      case round =>
                        clear HQU
                        obtain ⟨n, rfl, hn, HR5⟩ := hrel
                        have v3 : wr.cell? ⟨VB, 3, none⟩ = some (.slice (some ⟨qb2, 0, none⟩) g'.z.hs.length cb2) := HR5.out.cell 2 rfl 3
                        by_cases hnl : n < g'.z.hs.length
                        · have h3 : (n : Int) < (g'.z.hs.length : Int) := by omega
                          have h4 : (0 : Int) ≤ (n : Int) := by omega
                          have h8 : n < 8 := by have := hok2.z.h8; omega
                          obtain ⟨s0, s1, s2, s3, s4, s5⟩ := HR5.out.slots 1 rfl hok2.z.wl hnl
                          obtain ⟨HD, hHD⟩ : ∃ y, y = g'.z.hs.getD n Hd.zero := ⟨_, rfl⟩
                          rw [← hHD] at s0 s1 s2 s3 s4 s5
                          have HLV : Hid (HD.sa = 2 → ∃ j : Nat, j < 4 ∧ HD.th = j + 1 ∧ (g'.ts j).fr.sl = n ∧ (g'.ts j).fr.gn = HD.gn) := by
                            rw [hHD]
                            exact HLive.out n hnl
                          clear hHD
                          obtain ⟨hg, hsa, hsp, hth, hdm, hwy⟩ := HD
                          simp only at s0 s1 s2 s3 s4 s5 HLV
                          have qh := HR5.out.box #[.int .i64 hg, .int .i64 hsa, .int .i64 hsp, .int .i64 hth, .bool hdm, .int .i64 hwy] 55
                          clear HR5
                          go_upto_region 34 with fail
                          clear v3 s0 s1 s2 s3 s4 s5
                          generalize wr.alloc (.cells #[.int .i64 hg, .int .i64 hsa, .int .i64 hsp, .int .i64 hth, .bool hdm, .int .i64 hwy] 55) = wh at *
                          generalize wr.heap.size = HB at *
                          have x1 : wh.cell? ⟨HB, 1, none⟩ = some (.int .i64 hsa) := qh.cell 0 rfl 1
                          by_cases hs2 : hsa = 2
                          · obtain ⟨jj, j1, j2, j3, j4⟩ := HLV.out hs2
                            subst j2
                            subst hs2
                            have j5 : ((jj : Nat) : Int) < 4 := by omega
                            have j6 : (0 : Int) ≤ ((jj : Nat) : Int) := by omega
                            have j7 : ((jj : Nat) : Int) + 1 - 1 = ((jj : Nat) : Int) := by omega
                            go_upto_region 35 with fail
                            clear x1
                            have x3 : wh.cell? ⟨HB, 3, none⟩ = some (.int .i64 ((jj : Int) + 1)) := qh.cell 0 rfl 3
                            have t1 : wh.cell? ⟨G, 1 + jj, none⟩ = some (.pointer (some ⟨Ts jj, 0, none⟩)) := by rw [← hT7 jj]; exact qh.t j1
                            have hsq : ∀ q, Calls Tryz.prog 26 #[.pointer (some ⟨Ts jj, 0, none⟩)] (wh.drewN q) fun e w' => e = .returned (.tuple #[.int .i64 (n : Int), .int .i64 hg]) ∧ ∃ m, w' = (wh.drewN q).drewN m := by
                              intro q
                              have := (qh.calm ((Kept.refl _ wh).drewN q)).slot j1
                              rw [hT7 jj, j3, j4] at this
                              exact this
                            have HQH := hid qh
                            clear qh j3 j4 HLV
                            go_quiet (first | (go_at_call 26; exact Calls.quiet_of (hsq _)))
                            have q9 := HQH.out.calm ((Kept.refl _ wh).drewN nq)
                            clear HQH hsq x3 t1
                            generalize wh.drewN nq = wk at *
                            have x0 : wk.cell? ⟨HB, 0, none⟩ = some (.int .i64 hg) := q9.cell 0 rfl 0
                            have HR6 := hid q9.pop
                            clear q9
                            go_wp2_with fail
                            go_roundw
                            case rel => exact ⟨n + 1, by go_num, by omega, HR6⟩
                            case measure => simp [intOf]; omega
                          · have b1 : (hsa != 2) = true := by simpa using hs2
                            have HR6 := hid qh.pop
                            clear qh hs2 HLV
                            go_wp2_with fail
                            go_roundw
                            case rel => exact ⟨n + 1, by go_num, by omega, HR6⟩
                            case measure => simp [intOf]; omega
                        · obtain rfl : n = g'.z.hs.length := by omega
                          have H9 := HNext.out _ Ps6 NF hT7 HFN.out HR5.out.pop.pop.pop.pop.pop
                          clear HR5
                          go_wp2_with fail
                          go_roundw
                          case rel => exact ⟨j + 1, NF, by go_num, by omega, H9⟩
                          case measure => simp [intOf]; omega
              · have b7 : ((g'.ts k).dg.phase == 0) = false := by simpa using hp
                clear hp
                go_wp2_with fail
                refine hph.mono ?_
                rintro e wz ⟨rfl, gqz⟩
                clear hph t1
                go_upto_region 29 with fail
                have HQZ := hid gqz
                clear gqz
                have hvw := HQZ.out.view hok2
                have g0 : wz.cell? ⟨G, 0, none⟩ = some (.pointer (some ⟨A.sp, 0, none⟩)) := HQZ.out.sp
                clear HQZ
                go_wp2_with fail
                refine hvw.mono ?_
                rintro e wv ⟨qa2, ca2, qb2, cb2, rfl, qv⟩
                clear hvw g0
                have y0 : wv.cell? ⟨VB, 0, none⟩ = some (.slice qa g.z.xs.length ca) := qv.cell 2 rfl 0
                have y1 : wv.cell? ⟨VB, 1, none⟩ = some (.int .i64 g.z.x.n) := qv.cell 2 rfl 1
                have y2 : wv.cell? ⟨VB, 2, none⟩ = some (.int .i64 g.z.x.o) := qv.cell 2 rfl 2
                have y3 : wv.cell? ⟨VB, 3, none⟩ = some (.slice (some ⟨qb, 0, none⟩) g.z.hs.length cb) := qv.cell 2 rfl 3
                have z0 := qv.frozen 2 rfl 0
                have z1 := qv.frozen 2 rfl 1
                have z2 := qv.frozen 2 rfl 2
                have z3 := qv.frozen 2 rfl 3
                have HQU : Hid (GQ w c A G Ps6 g' [ownI 2 1 (.slice qa2 g'.z.xs.length ca2) g'.z.xs.length (clCells g'.z.xs), ownI 60 8 (.slice (some ⟨qb2, 0, none⟩) g'.z.hs.length cb2) g'.z.hs.length (slCells (slots g'.z.hs g'.z.ws)), boxI VB #[.slice qa2 g'.z.xs.length ca2, .int .i64 g'.z.x.n, .int .i64 g'.z.x.o, .slice (some ⟨qb2, 0, none⟩) g'.z.hs.length cb2] 43, ownI 2 1 (.slice qa g.z.xs.length ca) g.z.xs.length (clCells g.z.xs), ownI 60 8 (.slice (some ⟨qb, 0, none⟩) g.z.hs.length cb) g.z.hs.length (slCells (slots g.z.hs g.z.ws)), boxI FB (fB NF) 82, boxI M #[.int .i64 c.ce, .int .i64 c.sl, .int .i64 c.bi, .int .i64 c.ta, .int .i64 c.ba, .int .i64 c.de] 29] ((((wv.setCell ⟨VB, 0, none⟩ (.slice qa2 g'.z.xs.length ca2)).setCell ⟨VB, 1, none⟩ (.int .i64 g'.z.x.n)).setCell ⟨VB, 2, none⟩ (.int .i64 g'.z.x.o)).setCell ⟨VB, 3, none⟩ (.slice (some ⟨qb2, 0, none⟩) g'.z.hs.length cb2))) := (((qv.write 2 rfl 0 (.slice qa2 g'.z.xs.length ca2)).write 2 rfl 1 (.int .i64 g'.z.x.n)).write 2 rfl 2 (.int .i64 g'.z.x.o)).write 2 rfl 3 (.slice (some ⟨qb2, 0, none⟩) g'.z.hs.length cb2)
                clear qv
                go_upto_region 30 with fail
                clear y0 y1 y2 y3 z0 z1 z2 z3
                generalize (((wv.setCell ⟨VB, 0, none⟩ (.slice qa2 g'.z.xs.length ca2)).setCell ⟨VB, 1, none⟩ (.int .i64 g'.z.x.n)).setCell ⟨VB, 2, none⟩ (.int .i64 g'.z.x.o)).setCell ⟨VB, 3, none⟩ (.slice (some ⟨qb2, 0, none⟩) g'.z.hs.length cb2) = wu at *
                go_wp2_with fail
                go_loopw [19, 20, 21, 22, 151, 152, 153, 154, 155, 156, 157, 158, 159, 160, 161, 162, 163, 164, 165, 166, 167, 168, 169, 170, 171, 172, 173, 174, 175, 176, 177, 178, 179, 180, 181, 182, 183, 184, 185, 186, 187] (fun i _ _ _ _ _ _ _ _ _ _ _ _ _ _ _ _ _ _ _ _ _ _ _ _ _ _ _ _ _ _ _ _ _ _ _ _ _ _ _ _ wr => ∃ n : Nat, i = .int .i64 n ∧ n ≤ g'.z.hs.length ∧ Hid (GQ w c A G Ps6 g' [ownI 2 1 (.slice qa2 g'.z.xs.length ca2) g'.z.xs.length (clCells g'.z.xs), ownI 60 8 (.slice (some ⟨qb2, 0, none⟩) g'.z.hs.length cb2) g'.z.hs.length (slCells (slots g'.z.hs g'.z.ws)), boxI VB #[.slice qa2 g'.z.xs.length ca2, .int .i64 g'.z.x.n, .int .i64 g'.z.x.o, .slice (some ⟨qb2, 0, none⟩) g'.z.hs.length cb2] 43, ownI 2 1 (.slice qa g.z.xs.length ca) g.z.xs.length (clCells g.z.xs), ownI 60 8 (.slice (some ⟨qb, 0, none⟩) g.z.hs.length cb) g.z.hs.length (slCells (slots g.z.hs g.z.ws)), boxI FB (fB NF) 82, boxI M #[.int .i64 c.ce, .int .i64 c.sl, .int .i64 c.bi, .int .i64 c.ta, .int .i64 c.ba, .int .i64 c.de] 29] wr)) (fun i _ _ _ _ _ _ _ _ _ _ _ _ _ _ _ _ _ _ _ _ _ _ _ _ _ _ _ _ _ _ _ _ _ _ _ _ _ _ _ _ _ => g'.z.hs.length - (intOf i).toNat)
                case atStart => exact ⟨0, rfl, Nat.zero_le _, HQU⟩
                case round =>
                  clear HQU
                  obtain ⟨n, rfl, hn, HR5⟩ := hrel
                  have v3 : wr.cell? ⟨VB, 3, none⟩ = some (.slice (some ⟨qb2, 0, none⟩) g'.z.hs.length cb2) := HR5.out.cell 2 rfl 3
                  by_cases hnl : n < g'.z.hs.length
                  · have h3 : (n : Int) < (g'.z.hs.length : Int) := by omega
                    have h4 : (0 : Int) ≤ (n : Int) := by omega
                    have h8 : n < 8 := by have := hok2.z.h8; omega
                    obtain ⟨s0, s1, s2, s3, s4, s5⟩ := HR5.out.slots 1 rfl hok2.z.wl hnl
                    obtain ⟨HD, hHD⟩ : ∃ y, y = g'.z.hs.getD n Hd.zero := ⟨_, rfl⟩
                    rw [← hHD] at s0 s1 s2 s3 s4 s5
                    have HLV : Hid (HD.sa = 2 → ∃ j : Nat, j < 4 ∧ HD.th = j + 1 ∧ (g'.ts j).fr.sl = n ∧ (g'.ts j).fr.gn = HD.gn) := by
                      rw [hHD]
                      exact HLive.out n hnl
                    clear hHD
                    obtain ⟨hg, hsa, hsp, hth, hdm, hwy⟩ := HD
                    simp only at s0 s1 s2 s3 s4 s5 HLV
                    have qh := HR5.out.box #[.int .i64 hg, .int .i64 hsa, .int .i64 hsp, .int .i64 hth, .bool hdm, .int .i64 hwy] 55
                    clear HR5
                    go_upto_region 34 with fail
                    clear v3 s0 s1 s2 s3 s4 s5
                    generalize wr.alloc (.cells #[.int .i64 hg, .int .i64 hsa, .int .i64 hsp, .int .i64 hth, .bool hdm, .int .i64 hwy] 55) = wh at *
                    generalize wr.heap.size = HB at *
                    have x1 : wh.cell? ⟨HB, 1, none⟩ = some (.int .i64 hsa) := qh.cell 0 rfl 1
                    by_cases hs2 : hsa = 2
                    · obtain ⟨jj, j1, j2, j3, j4⟩ := HLV.out hs2
                      subst j2
                      subst hs2
                      have j5 : ((jj : Nat) : Int) < 4 := by omega
                      have j6 : (0 : Int) ≤ ((jj : Nat) : Int) := by omega
                      have j7 : ((jj : Nat) : Int) + 1 - 1 = ((jj : Nat) : Int) := by omega
                      go_upto_region 35 with fail
                      clear x1
                      have x3 : wh.cell? ⟨HB, 3, none⟩ = some (.int .i64 ((jj : Int) + 1)) := qh.cell 0 rfl 3
                      have t1 : wh.cell? ⟨G, 1 + jj, none⟩ = some (.pointer (some ⟨Ts jj, 0, none⟩)) := by rw [← hT7 jj]; exact qh.t j1
                      have hsq : ∀ q, Calls Tryz.prog 26 #[.pointer (some ⟨Ts jj, 0, none⟩)] (wh.drewN q) fun e w' => e = .returned (.tuple #[.int .i64 (n : Int), .int .i64 hg]) ∧ ∃ m, w' = (wh.drewN q).drewN m := by
                        intro q
                        have := (qh.calm ((Kept.refl _ wh).drewN q)).slot j1
                        rw [hT7 jj, j3, j4] at this
                        exact this
                      have HQH := hid qh
                      clear qh j3 j4 HLV
                      go_quiet (first | (go_at_call 26; exact Calls.quiet_of (hsq _)))
                      have q9 := HQH.out.calm ((Kept.refl _ wh).drewN nq)
                      clear HQH hsq x3 t1
                      generalize wh.drewN nq = wk at *
                      have x0 : wk.cell? ⟨HB, 0, none⟩ = some (.int .i64 hg) := q9.cell 0 rfl 0
                      have HR6 := hid q9.pop
                      clear q9
                      go_wp2_with fail
                      go_roundw
                      case rel => exact ⟨n + 1, by go_num, by omega, HR6⟩
                      case measure => simp [intOf]; omega
                    · have b1 : (hsa != 2) = true := by simpa using hs2
                      have HR6 := hid qh.pop
                      clear qh hs2 HLV
                      go_wp2_with fail
                      go_roundw
                      case rel => exact ⟨n + 1, by go_num, by omega, HR6⟩
                      case measure => simp [intOf]; omega
                  · obtain rfl : n = g'.z.hs.length := by omega
                    have H9 := HNext.out _ Ps6 NF hT7 HFN.out HR5.out.pop.pop.pop.pop.pop
                    clear HR5
                    go_wp2_with fail
                    go_roundw
                    case rel => exact ⟨j + 1, NF, by go_num, by omega, H9⟩
                    case measure => simp [intOf]; omega
      · obtain rfl : j = sn := by omega
        have HK := hid gq.same
        clear gq HR HM hfre
        go_wp2_with fail
        go_ret
        exact ⟨rfl, HK.out⟩
    end Go.Proofs.YtnchfomoaonbkabGreat
