/- CommitDoomed: the walk. -/
import Derived.Test.YtgjmamgohidbiaaGreatDmdA
namespace Go.Proofs.YtgjmamgohidbiaaGreat
open Go.RowKit
set_option linter.unusedVariables false
set_option linter.unusedSimpArgs false
attribute [local go_sem ↓] Go.wp_at_zero Go.wp_at_succ
attribute [local go_sem ↓] exec_eqSl run_eqSl exec_eqGt run_eqGt

theorem fieldView (a b : Option Addr) (n m c d : Nat) (x y : Int) (W : World) : (Instr.field 95 (.agg #[.slice a n c, .int .i64 x, .int .i64 y, .slice b m d]) 2).run Tryz.prog W = .ok (.slice b m d) W := by kernel_rfl


set_option maxRecDepth 100000 in
set_option maxHeartbeats 8000000 in
theorem doomed0 (tag how : Int) (hh : how % 4 = 0) (la : Option Addr) (n lc : Nat) (zs : List Pr) (w : World) (hP : PIn w la n zs) (hn : n ≤ 8796093022208) :
    Calls Tryz.prog 7 #[.int .i64 tag, .int .i64 how, .slice la n lc] w fun e w' => e = .returned (.bool true) ∧ Kept (fun _ => False) w w' := by
  have m3 := and3 how
  rw [hh] at m3
  clear hh
  have HP : Hid (PIn w la n zs) := hP
  clear hP
  have hq := up_any w
  go_enter Tryz.func7, Tryz.ntmps7
  go_wp2_with fail
  refine hq.mono ?_
  rintro e w1 ⟨rfl, k1⟩
  have s1 := (St.nil w).calm k1
  clear hq k1
  have hq := config_any tag 127 0 0 w1
  obtain ⟨c, hc⟩ : ∃ c, c = cfgOf tag 127 0 0 := ⟨_, rfl⟩
  have HL : Hid (LiveOk c) := by rw [hc]; exact cfgOf_live ..
  have HDF : Hid (DF c (zD0 c) ⟨1, 2, 5, 1, true, 4⟩ ⟨1, 0, 0, 0, false, 0⟩) := by rw [hc]; exact DF0 tag
  rw [← hc] at hq
  clear hc
  unfold Cfg.val at hq
  go_wp2_with fail
  refine hq.mono ?_
  rintro e w2 ⟨rfl, k2⟩
  have s2 := (s1.calm k2).box #[.int .i64 c.ce, .int .i64 c.sl, .int .i64 c.bi, .int .i64 c.ta, .int .i64 c.ba, .int .i64 c.de] 23
  clear hq k2 s1
  go_upto_region 3 with fail
  generalize w2.alloc (.cells #[.int .i64 c.ce, .int .i64 c.sl, .int .i64 c.bi, .int .i64 c.ta, .int .i64 c.ba, .int .i64 c.de] 23) = w3 at *
  generalize w2.heap.size = M at *
  have c0 : w3.cell? ⟨M, 0, none⟩ = some (.int .i64 c.ce) := s2.cell 0 rfl 0
  have c1 : w3.cell? ⟨M, 1, none⟩ = some (.int .i64 c.sl) := s2.cell 0 rfl 1
  have c2 : w3.cell? ⟨M, 2, none⟩ = some (.int .i64 c.bi) := s2.cell 0 rfl 2
  have c3 : w3.cell? ⟨M, 3, none⟩ = some (.int .i64 c.ta) := s2.cell 0 rfl 3
  have c4 : w3.cell? ⟨M, 4, none⟩ = some (.int .i64 c.ba) := s2.cell 0 rfl 4
  have c5 : w3.cell? ⟨M, 5, none⟩ = some (.int .i64 c.de) := s2.cell 0 rfl 5
  have hq := lives_st s2.pop HL.out
  unfold Cfg.val at hq
  clear s2
  go_wp2_with fail
  refine hq.mono ?_
  rintro e w4 ⟨A, J, v4, rfl, s4⟩
  clear hq c0 c1 c2 c3 c4 c5
  unfold spp
  have hs := spSlots s4 1 rfl
  unfold spp at hs
  have hq := spDoom s4 1 rfl HL.out.ok (by omega) 0 1 4
  clear s4
  go_wp2_with (first | (go_at_call 42; refine hs.mono ?_; rintro e wq ⟨rfl, rfl⟩) | simp only [m3])
  clear hs
  refine hq.mono ?_
  rintro e w5 ⟨rfl, v5, s5'⟩
  have s5 : St w [boxI J (jd c 0) 146, spI A c (zD0 c) v5 (.slice none 0 0)] w5 := s5'
  clear hq s5' 
  obtain ⟨z, hz⟩ : ∃ z, z = zD0 c := ⟨_, rfl⟩
  rw [← hz] at s5 HDF
  clear hz
  have t1 := HDF.out.ok
  have hq := spView s5 1 rfl t1.wl t1.h1 t1.h8
  unfold spp at hq
  clear s5 t1
  go_wp2_with fail
  refine hq.mono ?_
  rintro e w10 ⟨va, vb, rfl, s10⟩
  clear hq
  obtain ⟨pa, ca, rfl⟩ := own_form (n := z.xs.length) (s10.get 0 rfl)
  obtain ⟨pb, cb, rfl⟩ := s10.form 1 rfl (by rw [HDF.out.len]; decide)
  have s11 := s10.pop
  clear s10
  have hfv := fun W => fieldView pa (some ⟨pb, 0, none⟩) z.xs.length z.hs.length ca cb z.x.n z.x.o W
  have hq := writes_any la n lc zs w10 (HP.out.kept s11.same) hn
  go_wp2_with (simp only [hfv])
  refine hq.mono ?_
  rintro e w11 ⟨vw, ps, rfl, hW, hne, s12⟩
  have s13 := s11.add s12
  clear hq s11 s12 hfv
  obtain ⟨gw, cw, rfl⟩ := s13.form 0 rfl (List.length_pos_iff.2 hne)
  have hck := HDF.out.ck ps hW hne
  have hPI : ∀ W, St w [ownI 59 2 (.slice (some ⟨gw, 0, none⟩) ps.length cw) ps.length (prCells ps), ownI 101 8 (.slice (some ⟨pb, 0, none⟩) z.hs.length cb) z.hs.length (slCells (slots z.hs z.ws)), boxI J (jd c 0) 146, spI A c z v5 (.slice none 0 0)] W → PIn W (some ⟨gw, 0, none⟩) ps.length ps := by
    intro W hW
    obtain ⟨la', lc', e', hP, _⟩ := own_pin (show W.ownsRow 0 59 2 (.slice (some ⟨gw, 0, none⟩) ps.length cw) ps.length (prCells ps) from hW.get 0 rfl)
    simp only [Value.slice.injEq, true_and] at e'
    obtain ⟨rfl, -⟩ := e'
    exact hP
  have hq := cmNew_st s13 3 rfl HL.out.f (by rw [HDF.out.len, HDF.out.sl]; rfl) J 0 1 1 5 (some ⟨gw, 0, none⟩) ps.length cw ps hPI (by have := hW.n; omega) hck
  unfold spp at hq
  have HFX : Hid ((Cm.new 0 1 1 5 ps (ofR (cesOf ps) c.bi).1 z.hs.length).fit 8) := by
    have := Cm.fit_new (ge := 1) hck (ofR_ok (cesOf ps) c.bi) (n := z.hs.length) (by rw [HDF.out.len]; decide) (by rw [HDF.out.len, HDF.out.sl]; rfl)
    rw [HDF.out.len] at this ⊢
    exact this
  clear s13 hPI hck hW hne
  generalize ps.length = PL at *
  go_wp2_with fail
  refine hq.mono ?_
  rintro e w12 ⟨B, vl, dl, dv, rfl, hBJ, s14⟩
  subst hBJ
  clear hq
  have s15 := St.popAt (pre := [_]) s14
  clear s14
  obtain ⟨f1, f2, f3, f4, f5, f6, f7, f8⟩ := dS_four (c := c) (ps := ps) (wr := (ofR (cesOf ps) c.bi).1) (n := z.hs.length) HDF.out.x HDF.out.mine
  generalize Cm.new 0 1 1 5 ps (ofR (cesOf ps) c.bi).1 z.hs.length = x0 at *
  have HUF : Hid (∀ j, j < 4 → (dS c z x0 j).2.1.done = false ∧ (dS c z x0 j).2.1.ans (dS c z x0 j).1 = 1) := f1
  have HEN : Hid ((dS c z x0 4).2.1.done = true ∧ (dS c z x0 4).2.1.end_ = 7 ∧ (dS c z x0 4).2.1.won = false ∧ (dS c z x0 4).2.1.num = 1 ∧ (dS c z x0 4).1.x = ⟨2, 0⟩ ∧ (dS c z x0 4).1.xs = z.xs ∧ (dS c z x0 4).1.hs = (freeOp 1).H z.hs 0) := ⟨f2, f3, f4, f5, f6, f7, f8⟩
  clear f1 f2 f3 f4 f5 f6 f7 f8
  have HOK : Hid (∀ j, (dS c z x0 j).1.ok c (5 + j)) := fun j => dS_ok HDF.out.ok j
  have HLN : Hid (∀ j, (dS c z x0 j).1.hs.length = 8) := fun j => by
    have h1 := (HOK.out j).hl
    have h2 := HDF.out.sl
    omega
  have HFT : Hid (∀ j, (dS c z x0 j).2.1.fit (dS c z x0 j).1.hs.length) := fun j => by
    rw [HLN.out j]
    exact dS_fit HFX.out HDF.out.ws j
  have HWS : Hid (∀ j, WsOk (dS c z x0 j).1.ws) := fun j => by rw [dS_ws]; exact HDF.out.ws
  have HDD : Hid (∀ j, 0 ≤ (dS c z x0 j).2.2) := fun j => dS_df j
  have HS : Hid (∃ D v vl vd vv dl dv, St w [cmI A B D (dS c z x0 0).2.1 vl vd vv dl dv, ownI 101 8 (.slice (some ⟨pb, 0, none⟩) z.hs.length cb) z.hs.length (slCells (slots z.hs z.ws)), boxI B.J (jd c (dS c z x0 0).2.2) 146, spI A c (dS c z x0 0).1 v (.slice none 0 0)] w12) := ⟨_, _, _, _, _, _, _, s15⟩
  clear s15 HFX
  go_wp2_with fail
  obtain ⟨w13, hw13⟩ : ∃ y, y = w12 := ⟨_, rfl⟩
  subst hw13
  go_loopw [16] (fun i wr => ∃ j : Nat, i = .int .i64 j ∧ j ≤ 4 ∧ Hid (∃ D v vl vd vv dl dv, St w [cmI A B D (dS c z x0 j).2.1 vl vd vv dl dv, ownI 101 8 (.slice (some ⟨pb, 0, none⟩) z.hs.length cb) z.hs.length (slCells (slots z.hs z.ws)), boxI B.J (jd c (dS c z x0 j).2.2) 146, spI A c (dS c z x0 j).1 v (.slice none 0 0)] wr)) (fun i _ => 4 - (intOf i).toNat)
  case atStart => exact ⟨0, rfl, by omega, HS⟩
  case round =>
    clear HS
    obtain ⟨j, rfl, hj, HR⟩ := hrel
    by_cases hlt : j < 4
    · have h1 : (j : Int) < 4 := by omega
      obtain ⟨D, v, vl, vd, vv, dl, dv, sj⟩ := HR.out
      obtain ⟨u1, u2⟩ := HUF.out j hlt
      have hd := cmDone sj 0 rfl
      rw [u1] at hd
      have hq := cmStep sj 3 2 0 (by decide) (by decide) (by decide) rfl rfl rfl HL.out.f (HDD.out j) (HFT.out j) (HOK.out j) (by omega) (HWS.out j)
      rw [u2] at hq
      clear HR sj u1 u2
      go_wp2_with (go_at_call 32; refine hd.mono ?_; rintro e wq ⟨rfl, rfl⟩)
      refine hq.mono ?_
      rintro e w14 ⟨rfl, D', v', vl', vd', vv', dl', dv', s8⟩
      have H8 : Hid (∃ D v vl vd vv dl dv, St w [cmI A B D (dS c z x0 (j + 1)).2.1 vl vd vv dl dv, ownI 101 8 (.slice (some ⟨pb, 0, none⟩) z.hs.length cb) z.hs.length (slCells (slots z.hs z.ws)), boxI B.J (jd c (dS c z x0 (j + 1)).2.2) 146, spI A c (dS c z x0 (j + 1)).1 v (.slice none 0 0)] w14) := ⟨_, _, _, _, _, _, _, s8⟩
      clear hq hd s8
      go_wp2_with fail
      go_roundw
      case rel => exact ⟨j + 1, by go_num, by omega, H8⟩
      case measure => simp [intOf]; omega
    · obtain rfl : j = 4 := by omega
      obtain ⟨D, v, vl, vd, vv, dl, dv, sj⟩ := HR.out
      clear HR HUF
      obtain ⟨a1, a2, a3, a4, a5, a6, a7⟩ := HEN.out
      have t1 := HOK.out 4
      have hq := spView sj 3 rfl t1.wl t1.h1 t1.h8
      have HL4 : Hid ((dS c z x0 4).1.hs.length = 8) := HLN.out 4
      have HW4 : Hid ((dS c z x0 4).1.ws = z.ws) := dS_ws 4
      have HWL : Hid ((dS c z x0 4).1.ws.length = (dS c z x0 4).1.hs.length * 2) := t1.wl
      rw [a5] at hq
      simp only at hq
      unfold spp at hq
      clear sj t1
      go_wp2_with fail
      refine hq.mono ?_
      rintro e w15 ⟨va, vb, rfl, s16⟩
      clear hq
      obtain ⟨qa, ca2, rfl⟩ := s16.form 0 rfl (by rw [a6, HDF.out.xl]; decide)
      obtain ⟨qb, cb2, rfl⟩ := s16.form 1 rfl (by rw [HL4.out]; decide)
      have s17 := s16.box #[.slice (some ⟨qa, 0, none⟩) (dS c z x0 4).1.xs.length ca2, .int .i64 2, .int .i64 0, .slice (some ⟨qb, 0, none⟩) (dS c z x0 4).1.hs.length cb2] 95
      clear s16
      have HX : Hid (∀ k, k < 64 → (dS c z x0 4).1.xs.getD k 0 = 0) := fun k hk => by rw [a6]; exact HDF.out.xs k hk
      have HXL : Hid ((dS c z x0 4).1.xs.length = 64) := by show _ = _; rw [a6]; exact HDF.out.xl
      have HAH : Hid ((dS c z x0 4).1.hs.getD 0 Hd.zero = ⟨1, 0, 0, 0, false, 0⟩) := by show _ = _; rw [a7]; exact HDF.out.ah
      have HAA : Hid ((dS c z x0 4).2.1.done = true ∧ (dS c z x0 4).2.1.end_ = 7 ∧ (dS c z x0 4).2.1.won = false ∧ (dS c z x0 4).2.1.num = 1) := ⟨a1, a2, a3, a4⟩
      clear a1 a2 a3 a4 a5 a6 a7
      go_upto_region 28 with fail
      generalize w15.alloc (.cells #[.slice (some ⟨qa, 0, none⟩) (dS c z x0 4).1.xs.length ca2, .int .i64 2, .int .i64 0, .slice (some ⟨qb, 0, none⟩) (dS c z x0 4).1.hs.length cb2] 95) = w16 at *
      generalize w15.heap.size = V at *
      obtain ⟨b0, b1, b2, b3, b4, b5, b6, b7⟩ := slot_cells s17 4 rfl HDF.out.ok.wl (k := 0) (by rw [HDF.out.len]; decide)
      rw [HDF.out.bh] at b0 b1 b2 b3 b4 b5
      simp only [Nat.zero_mul, Nat.zero_add] at b0 b1 b2 b3 b4 b5 b6 b7
      rw [HDF.out.w0] at b6
      rw [HDF.out.w1] at b7
      have s18 := s17.box #[.int .i64 1, .int .i64 2, .int .i64 5, .int .i64 1, .bool true, .int .i64 4, .int .u64 0, .int .u64 0] 101
      clear s17
      have len8 : (0 : Int) < (z.hs.length : Int) := by rw [HDF.out.len]; decide
      go_upto_region 29 with fail
      generalize w16.alloc (.cells #[.int .i64 1, .int .i64 2, .int .i64 5, .int .i64 1, .bool true, .int .i64 4, .int .u64 0, .int .u64 0] 101) = w17 at *
      generalize w16.heap.size = M2 at *
      clear b0 b1 b2 b3 b4 b5 b6 b7
      have g0 : w17.cell? ⟨M2, 0, none⟩ = some (.int .i64 1) := s18.cell 0 rfl 0
      have g1 : w17.cell? ⟨M2, 1, none⟩ = some (.int .i64 2) := s18.cell 0 rfl 1
      have g2 : w17.cell? ⟨M2, 2, none⟩ = some (.int .i64 5) := s18.cell 0 rfl 2
      have g3 : w17.cell? ⟨M2, 3, none⟩ = some (.int .i64 1) := s18.cell 0 rfl 3
      have g4 : w17.cell? ⟨M2, 4, none⟩ = some (.bool true) := s18.cell 0 rfl 4
      have g5 : w17.cell? ⟨M2, 5, none⟩ = some (.int .i64 4) := s18.cell 0 rfl 5
      have y0 := s18.frozen 0 rfl 0
      have y1 := s18.frozen 0 rfl 1
      have y2 := s18.frozen 0 rfl 2
      have y3 := s18.frozen 0 rfl 3
      have y4 := s18.frozen 0 rfl 4
      have y5 := s18.frozen 0 rfl 5
      have s19 := (((((s18.write 0 rfl 0 (.int .i64 1)).write 0 rfl 1 (.int .i64 0)).write 0 rfl 2 (.int .i64 0)).write 0 rfl 3 (.int .i64 0)).write 0 rfl 4 (.bool false)).write 0 rfl 5 (.int .i64 0)
      clear s18
      go_upto_region 31 with (simp only [m3])
      generalize (((((w17.setCell ⟨M2, 0, none⟩ (.int .i64 1)).setCell ⟨M2, 1, none⟩ (.int .i64 0)).setCell ⟨M2, 2, none⟩ (.int .i64 0)).setCell ⟨M2, 3, none⟩ (.int .i64 0)).setCell ⟨M2, 4, none⟩ (.bool false)).setCell ⟨M2, 5, none⟩ (.int .i64 0) = w18 at *
      clear g0 g1 g2 g3 g4 g5 y0 y1 y2 y3 y4 y5
      have HAF : Hid (∀ W, St w (boxI M2 #[.int .i64 1, .int .i64 0, .int .i64 0, .int .i64 0, .bool false, .int .i64 0, .int .u64 0, .int .u64 0] 101 :: boxI V #[.slice (some ⟨qa, 0, none⟩) (dS c z x0 4).1.xs.length ca2, .int .i64 2, .int .i64 0, .slice (some ⟨qb, 0, none⟩) (dS c z x0 4).1.hs.length cb2] 95 :: ownI 2 1 (.slice (some ⟨qa, 0, none⟩) (dS c z x0 4).1.xs.length ca2) (dS c z x0 4).1.xs.length (clCells (dS c z x0 4).1.xs) :: ownI 101 8 (.slice (some ⟨qb, 0, none⟩) (dS c z x0 4).1.hs.length cb2) (dS c z x0 4).1.hs.length (slCells (slots (dS c z x0 4).1.hs (dS c z x0 4).1.ws)) :: cmI A B D (dS c z x0 4).2.1 vl vd vv dl dv :: ownI 101 8 (.slice (some ⟨pb, 0, none⟩) z.hs.length cb) z.hs.length (slCells (slots z.hs z.ws)) :: boxI B.J (jd c (dS c z x0 4).2.2) 146 :: spI A c (dS c z x0 4).1 v (.slice none 0 0) :: []) W → (W.cell? ⟨qb, 0, none⟩ = some (.int .i64 1) ∧ W.cell? ⟨qb, 1, none⟩ = some (.int .i64 0) ∧ W.cell? ⟨qb, 2, none⟩ = some (.int .i64 0) ∧ W.cell? ⟨qb, 3, none⟩ = some (.int .i64 0) ∧ W.cell? ⟨qb, 4, none⟩ = some (.bool false) ∧ W.cell? ⟨qb, 5, none⟩ = some (.int .i64 0) ∧ W.cell? ⟨qb, 6, none⟩ = some (.int .u64 0) ∧ W.cell? ⟨qb, 7, none⟩ = some (.int .u64 0)) ∧ ∀ j, j < 64 → W.cell? ⟨qa, j, none⟩ = some (.int .i64 0)) := by
        intro W s
        obtain ⟨b0, b1, b2, b3, b4, b5, b6, b7⟩ := slot_cells s 3 rfl HWL.out (k := 0) (by rw [HL4.out]; decide)
        rw [HAH.out] at b0 b1 b2 b3 b4 b5
        rw [HW4.out] at b6 b7
        simp only [Nat.zero_mul, Nat.zero_add] at b0 b1 b2 b3 b4 b5 b6 b7
        rw [HDF.out.w0] at b6
        rw [HDF.out.w1] at b7
        refine ⟨⟨b0, b1, b2, b3, b4, b5, b6, b7⟩, fun j hj => ?_⟩
        have hx := HX.out j hj
        have hl : j < (dS c z x0 4).1.xs.length := by rw [HXL.out]; exact hj
        rw [s.ownCell 2 rfl j (by omega)]
        rw [List.getD_eq_getElem?_getD, List.getElem?_eq_getElem hl, Option.getD_some] at hx
        simp [clCells, hl, hx]
      have HCM : Hid (∀ W its, St w its W → its[4]? = some (cmI A B D (dS c z x0 4).2.1 vl vd vv dl dv) → (Calls Tryz.prog 32 #[.pointer (some ⟨B.X, 0, none⟩)] W fun e w' => e = .returned (.bool true) ∧ w' = W) ∧ (Calls Tryz.prog 33 #[.pointer (some ⟨B.X, 0, none⟩)] W fun e w' => e = .returned (.int .i64 7) ∧ w' = W) ∧ (Calls Tryz.prog 34 #[.pointer (some ⟨B.X, 0, none⟩)] W fun e w' => e = .returned (.bool false) ∧ w' = W) ∧ (Calls Tryz.prog 38 #[.pointer (some ⟨B.X, 0, none⟩)] W fun e w' => e = .returned (.int .i64 1) ∧ w' = W)) := by
        intro W its s hk
        obtain ⟨q1, q2, q3, q4⟩ := HAA.out
        have r1 := cmDone s 4 hk
        have r2 := cmEnd s 4 hk
        have r3 := cmWon s 4 hk
        have r4 := cmNumber s 4 hk
        rw [q1] at r1
        rw [q2] at r2
        rw [q3] at r3
        rw [q4] at r4
        exact ⟨r1, r2, r3, r4⟩
      have hNL : (0 : Int) < ((dS c z x0 4).1.hs.length : Int) := by rw [HL4.out]; decide
      generalize hXS : (dS c z x0 4).1.xs.length = NX at *
      obtain rfl : NX = 64 := HXL.out
      clear hXS
      generalize (dS c z x0 4).1.hs.length = NHH at *
      obtain rfl : NHH = 8 := HL4.out
      obtain ⟨LL, hLL⟩ : ∃ LL : List It, LL = (boxI M2 #[.int .i64 1, .int .i64 0, .int .i64 0, .int .i64 0, .bool false, .int .i64 0, .int .u64 0, .int .u64 0] 101 :: boxI V #[.slice (some ⟨qa, 0, none⟩) 64 ca2, .int .i64 2, .int .i64 0, .slice (some ⟨qb, 0, none⟩) 8 cb2] 95 :: ownI 2 1 (.slice (some ⟨qa, 0, none⟩) 64 ca2) 64 (clCells (dS c z x0 4).1.xs) :: ownI 101 8 (.slice (some ⟨qb, 0, none⟩) 8 cb2) 8 (slCells (slots (dS c z x0 4).1.hs (dS c z x0 4).1.ws)) :: cmI A B D (dS c z x0 4).2.1 vl vd vv dl dv :: ownI 101 8 (.slice (some ⟨pb, 0, none⟩) z.hs.length cb) z.hs.length (slCells (slots z.hs z.ws)) :: boxI B.J (jd c (dS c z x0 4).2.2) 146 :: spI A c (dS c z x0 4).1 v (.slice none 0 0) :: []) := ⟨_, rfl⟩
      have s20 : St w LL w18 := by rw [hLL]; exact s19
      rw [← hLL] at HAF
      have HVC : Hid (∀ W, St w LL W → W.cell? ⟨V, 0, none⟩ = some (.slice (some ⟨qa, 0, none⟩) 64 ca2) ∧ W.cell? ⟨V, 1, none⟩ = some (.int .i64 2) ∧ W.cell? ⟨V, 2, none⟩ = some (.int .i64 0) ∧ W.cell? ⟨V, 3, none⟩ = some (.slice (some ⟨qb, 0, none⟩) 8 cb2) ∧ W.cell? ⟨M2, 0, none⟩ = some (.int .i64 1) ∧ W.cell? ⟨M2, 1, none⟩ = some (.int .i64 0) ∧ W.cell? ⟨M2, 2, none⟩ = some (.int .i64 0) ∧ W.cell? ⟨M2, 3, none⟩ = some (.int .i64 0) ∧ W.cell? ⟨M2, 4, none⟩ = some (.bool false) ∧ W.cell? ⟨M2, 5, none⟩ = some (.int .i64 0) ∧ W.cell? ⟨M2, 6, none⟩ = some (.int .u64 0) ∧ W.cell? ⟨M2, 7, none⟩ = some (.int .u64 0)) := fun W s => by
        rw [hLL] at s
        exact ⟨s.cell 1 rfl 0, s.cell 1 rfl 1, s.cell 1 rfl 2, s.cell 1 rfl 3, s.cell 0 rfl 0, s.cell 0 rfl 1, s.cell 0 rfl 2, s.cell 0 rfl 3, s.cell 0 rfl 4, s.cell 0 rfl 5, s.cell 0 rfl 6, s.cell 0 rfl 7⟩
      have HC4 : Hid (LL[4]? = some (cmI A B D (dS c z x0 4).2.1 vl vd vv dl dv)) := by show _ = _; rw [hLL]; rfl
      clear s19 hLL HX HXL HAH HAA HL4 HW4 HWL HEN HOK HLN HFT HWS HDD
      have HS20 : Hid (St w LL w18) := s20
      have v0 := (HVC.out _ s20).1
      have HXC : Hid (∀ j, j < 64 → w18.cell? ⟨qa, j, none⟩ = some (.int .i64 0)) := (HAF.out _ s20).2
      clear s20
      go_wp2_with fail
      obtain ⟨w19, hw19⟩ : ∃ y, y = w18 := ⟨_, rfl⟩
      subst hw19
      go_loopw [19] (fun i wr => ∃ j : Nat, i = .int .i64 j ∧ j ≤ 64 ∧ wr = w19) (fun i _ => 64 - (intOf i).toNat)
      case atStart => exact ⟨0, rfl, by omega, rfl⟩
      case round =>
        obtain ⟨j, rfl, hj, rfl⟩ := hrel
        by_cases hlt : j < 64
        · have h1 : (j : Int) < 64 := by omega
          have h0 : (0 : Int) ≤ (j : Int) := by omega
          have cj := HXC.out j hlt
          go_wp2_with fail
          go_roundw
          case rel => exact ⟨j + 1, by go_num, by omega, by trivial⟩
          case measure => simp [intOf]; omega
        · obtain rfl : j = 64 := by omega
          clear HXC
          obtain ⟨P, hPd⟩ : ∃ P : World → Prop, P = fun W => St w LL W := ⟨_, rfl⟩
          have hD : P wr.drew := by rw [hPd]; exact HS20.out.drew
          have CH : Hid (∀ W, P W → W.cell? ⟨V, 1, none⟩ = some (.int .i64 2) ∧ W.cell? ⟨V, 2, none⟩ = some (.int .i64 0) ∧ W.cell? ⟨V, 3, none⟩ = some (.slice (some ⟨qb, 0, none⟩) 8 cb2) ∧ W.cell? ⟨M2, 0, none⟩ = some (.int .i64 1) ∧ W.cell? ⟨M2, 1, none⟩ = some (.int .i64 0) ∧ W.cell? ⟨M2, 2, none⟩ = some (.int .i64 0) ∧ W.cell? ⟨M2, 3, none⟩ = some (.int .i64 0) ∧ W.cell? ⟨M2, 4, none⟩ = some (.bool false) ∧ W.cell? ⟨M2, 5, none⟩ = some (.int .i64 0) ∧ W.cell? ⟨M2, 6, none⟩ = some (.int .u64 0) ∧ W.cell? ⟨M2, 7, none⟩ = some (.int .u64 0) ∧ W.cell? ⟨qb, 0, none⟩ = some (.int .i64 1) ∧ W.cell? ⟨qb, 1, none⟩ = some (.int .i64 0) ∧ W.cell? ⟨qb, 2, none⟩ = some (.int .i64 0) ∧ W.cell? ⟨qb, 3, none⟩ = some (.int .i64 0) ∧ W.cell? ⟨qb, 4, none⟩ = some (.bool false) ∧ W.cell? ⟨qb, 5, none⟩ = some (.int .i64 0) ∧ W.cell? ⟨qb, 6, none⟩ = some (.int .u64 0) ∧ W.cell? ⟨qb, 7, none⟩ = some (.int .u64 0) ∧ P W) := by
            intro W hW
            have h' := hW
            rw [hPd] at h'
            obtain ⟨x0, x1, x2, x3, x4, x5, x6, x7, x8, x9, x10, x11⟩ := HVC.out _ h'
            obtain ⟨⟨y0, y1, y2, y3, y4, y5, y6, y7⟩, -⟩ := HAF.out _ h'
            exact ⟨x1, x2, x3, x4, x5, x6, x7, x8, x9, x10, x11, y0, y1, y2, y3, y4, y5, y6, y7, hW⟩
          have CC : Hid (∀ W, P W → (Calls Tryz.prog 32 #[.pointer (some ⟨B.X, 0, none⟩)] W fun e w' => e = .returned (.bool true) ∧ P w') ∧ (Calls Tryz.prog 33 #[.pointer (some ⟨B.X, 0, none⟩)] W fun e w' => e = .returned (.int .i64 7) ∧ P w') ∧ (Calls Tryz.prog 34 #[.pointer (some ⟨B.X, 0, none⟩)] W fun e w' => e = .returned (.bool false) ∧ P w') ∧ (Calls Tryz.prog 38 #[.pointer (some ⟨B.X, 0, none⟩)] W fun e w' => e = .returned (.int .i64 1) ∧ P w')) := by
            intro W hW
            have h' := hW
            rw [hPd] at h'
            obtain ⟨r1, r2, r3, r4⟩ := HCM.out W LL h' HC4.out
            refine ⟨r1.mono ?_, r2.mono ?_, r3.mono ?_, r4.mono ?_⟩
            all_goals
              rintro e w' ⟨he, rfl⟩
              exact ⟨he, hW⟩
          have HK : Hid (∀ W, P W → Kept (fun _ => False) w W) := fun W hW => by rw [hPd] at hW; exact hW.same
          clear hPd HS20 HVC HAF HCM HC4
          obtain ⟨x1, x2, x3, x4, x5, x6, x7, x8, x9, x10, x11, y0, y1, y2, y3, y4, y5, y6, y7, _⟩ := CH.out _ hD
          go_upto_region 36 with fail
          go_region_held3 (fun W => W.cell? ⟨V, 1, none⟩ = some (.int .i64 2) ∧ W.cell? ⟨V, 2, none⟩ = some (.int .i64 0) ∧ W.cell? ⟨V, 3, none⟩ = some (.slice (some ⟨qb, 0, none⟩) 8 cb2) ∧ W.cell? ⟨M2, 0, none⟩ = some (.int .i64 1) ∧ W.cell? ⟨M2, 1, none⟩ = some (.int .i64 0) ∧ W.cell? ⟨M2, 2, none⟩ = some (.int .i64 0) ∧ W.cell? ⟨M2, 3, none⟩ = some (.int .i64 0) ∧ W.cell? ⟨M2, 4, none⟩ = some (.bool false) ∧ W.cell? ⟨M2, 5, none⟩ = some (.int .i64 0) ∧ W.cell? ⟨M2, 6, none⟩ = some (.int .u64 0) ∧ W.cell? ⟨M2, 7, none⟩ = some (.int .u64 0) ∧ W.cell? ⟨qb, 0, none⟩ = some (.int .i64 1) ∧ W.cell? ⟨qb, 1, none⟩ = some (.int .i64 0) ∧ W.cell? ⟨qb, 2, none⟩ = some (.int .i64 0) ∧ W.cell? ⟨qb, 3, none⟩ = some (.int .i64 0) ∧ W.cell? ⟨qb, 4, none⟩ = some (.bool false) ∧ W.cell? ⟨qb, 5, none⟩ = some (.int .i64 0) ∧ W.cell? ⟨qb, 6, none⟩ = some (.int .u64 0) ∧ W.cell? ⟨qb, 7, none⟩ = some (.int .u64 0) ∧ P W)
            (exact CH.out _ hD)
            (first | (go_at_call 32; refine ((CC.out _ hD).1).mono ?_; rintro e wx ⟨rfl, hD⟩) | (go_at_call 33; refine ((CC.out _ hD).2.1).mono ?_; rintro e wx ⟨rfl, hD⟩) | (go_at_call 34; refine ((CC.out _ hD).2.2.1).mono ?_; rintro e wx ⟨rfl, hD⟩) | (go_at_call 38; refine ((CC.out _ hD).2.2.2).mono ?_; rintro e wx ⟨rfl, hD⟩))
          have HF : Hid _ := HK.out _ hD
          clear x1 x2 x3 x4 x5 x6 x7 x8 x9 x10 x11 y0 y1 y2 y3 y4 y5 y6 y7 CH CC HK
          go_wp2
          go_ret
          exact ⟨rfl, HF.out⟩


set_option maxRecDepth 100000 in
set_option maxHeartbeats 8000000 in
theorem doomed1 (tag how : Int) (hh : how % 4 = 1) (la : Option Addr) (n lc : Nat) (zs : List Pr) (w : World) (hP : PIn w la n zs) (hn : n ≤ 8796093022208) :
    Calls Tryz.prog 7 #[.int .i64 tag, .int .i64 how, .slice la n lc] w fun e w' => e = .returned (.bool true) ∧ Kept (fun _ => False) w w' := by
  have m3 := and3 how
  rw [hh] at m3
  clear hh
  have HP : Hid (PIn w la n zs) := hP
  clear hP
  have hq := up_any w
  go_enter Tryz.func7, Tryz.ntmps7
  go_wp2_with fail
  refine hq.mono ?_
  rintro e w1 ⟨rfl, k1⟩
  have s1 := (St.nil w).calm k1
  clear hq k1
  have hq := config_any tag 127 0 0 w1
  obtain ⟨c, hc⟩ : ∃ c, c = cfgOf tag 127 0 0 := ⟨_, rfl⟩
  have HL : Hid (LiveOk c) := by rw [hc]; exact cfgOf_live ..
  have HDF : Hid (DF c (zD1 c) ⟨1, 0, 0, 0, false, 0⟩ ⟨1, 0, 0, 0, false, 0⟩) := by rw [hc]; exact DF1 tag
  rw [← hc] at hq
  clear hc
  unfold Cfg.val at hq
  go_wp2_with fail
  refine hq.mono ?_
  rintro e w2 ⟨rfl, k2⟩
  have s2 := (s1.calm k2).box #[.int .i64 c.ce, .int .i64 c.sl, .int .i64 c.bi, .int .i64 c.ta, .int .i64 c.ba, .int .i64 c.de] 23
  clear hq k2 s1
  go_upto_region 3 with fail
  generalize w2.alloc (.cells #[.int .i64 c.ce, .int .i64 c.sl, .int .i64 c.bi, .int .i64 c.ta, .int .i64 c.ba, .int .i64 c.de] 23) = w3 at *
  generalize w2.heap.size = M at *
  have c0 : w3.cell? ⟨M, 0, none⟩ = some (.int .i64 c.ce) := s2.cell 0 rfl 0
  have c1 : w3.cell? ⟨M, 1, none⟩ = some (.int .i64 c.sl) := s2.cell 0 rfl 1
  have c2 : w3.cell? ⟨M, 2, none⟩ = some (.int .i64 c.bi) := s2.cell 0 rfl 2
  have c3 : w3.cell? ⟨M, 3, none⟩ = some (.int .i64 c.ta) := s2.cell 0 rfl 3
  have c4 : w3.cell? ⟨M, 4, none⟩ = some (.int .i64 c.ba) := s2.cell 0 rfl 4
  have c5 : w3.cell? ⟨M, 5, none⟩ = some (.int .i64 c.de) := s2.cell 0 rfl 5
  have hq := lives_st s2.pop HL.out
  unfold Cfg.val at hq
  clear s2
  go_wp2_with fail
  refine hq.mono ?_
  rintro e w4 ⟨A, J, v4, rfl, s4⟩
  clear hq c0 c1 c2 c3 c4 c5
  unfold spp
  have hs := spSlots s4 1 rfl
  unfold spp at hs
  have hq := spFree s4 1 rfl HL.out.ok (by omega) 0 1
  clear s4
  go_wp2_with (first | (go_at_call 42; refine hs.mono ?_; rintro e wq ⟨rfl, rfl⟩) | simp only [m3])
  clear hs
  refine hq.mono ?_
  rintro e w5 ⟨rfl, v5, s5'⟩
  have s5 : St w [boxI J (jd c 0) 146, spI A c (zD1 c) v5 (.slice none 0 0)] w5 := s5'
  clear hq s5' 
  obtain ⟨z, hz⟩ : ∃ z, z = zD1 c := ⟨_, rfl⟩
  rw [← hz] at s5 HDF
  clear hz
  have t1 := HDF.out.ok
  have hq := spView s5 1 rfl t1.wl t1.h1 t1.h8
  unfold spp at hq
  clear s5 t1
  go_wp2_with fail
  refine hq.mono ?_
  rintro e w10 ⟨va, vb, rfl, s10⟩
  clear hq
  obtain ⟨pa, ca, rfl⟩ := own_form (n := z.xs.length) (s10.get 0 rfl)
  obtain ⟨pb, cb, rfl⟩ := s10.form 1 rfl (by rw [HDF.out.len]; decide)
  have s11 := s10.pop
  clear s10
  have hfv := fun W => fieldView pa (some ⟨pb, 0, none⟩) z.xs.length z.hs.length ca cb z.x.n z.x.o W
  have hq := writes_any la n lc zs w10 (HP.out.kept s11.same) hn
  go_wp2_with (simp only [hfv])
  refine hq.mono ?_
  rintro e w11 ⟨vw, ps, rfl, hW, hne, s12⟩
  have s13 := s11.add s12
  clear hq s11 s12 hfv
  obtain ⟨gw, cw, rfl⟩ := s13.form 0 rfl (List.length_pos_iff.2 hne)
  have hck := HDF.out.ck ps hW hne
  have hPI : ∀ W, St w [ownI 59 2 (.slice (some ⟨gw, 0, none⟩) ps.length cw) ps.length (prCells ps), ownI 101 8 (.slice (some ⟨pb, 0, none⟩) z.hs.length cb) z.hs.length (slCells (slots z.hs z.ws)), boxI J (jd c 0) 146, spI A c z v5 (.slice none 0 0)] W → PIn W (some ⟨gw, 0, none⟩) ps.length ps := by
    intro W hW
    obtain ⟨la', lc', e', hP, _⟩ := own_pin (show W.ownsRow 0 59 2 (.slice (some ⟨gw, 0, none⟩) ps.length cw) ps.length (prCells ps) from hW.get 0 rfl)
    simp only [Value.slice.injEq, true_and] at e'
    obtain ⟨rfl, -⟩ := e'
    exact hP
  have hq := cmNew_st s13 3 rfl HL.out.f (by rw [HDF.out.len, HDF.out.sl]; rfl) J 0 1 1 5 (some ⟨gw, 0, none⟩) ps.length cw ps hPI (by have := hW.n; omega) hck
  unfold spp at hq
  have HFX : Hid ((Cm.new 0 1 1 5 ps (ofR (cesOf ps) c.bi).1 z.hs.length).fit 8) := by
    have := Cm.fit_new (ge := 1) hck (ofR_ok (cesOf ps) c.bi) (n := z.hs.length) (by rw [HDF.out.len]; decide) (by rw [HDF.out.len, HDF.out.sl]; rfl)
    rw [HDF.out.len] at this ⊢
    exact this
  clear s13 hPI hck hW hne
  generalize ps.length = PL at *
  go_wp2_with fail
  refine hq.mono ?_
  rintro e w12 ⟨B, vl, dl, dv, rfl, hBJ, s14⟩
  subst hBJ
  clear hq
  have s15 := St.popAt (pre := [_]) s14
  clear s14
  obtain ⟨f1, f2, f3, f4, f5, f6, f7, f8⟩ := dS_four (c := c) (ps := ps) (wr := (ofR (cesOf ps) c.bi).1) (n := z.hs.length) HDF.out.x HDF.out.mine
  generalize Cm.new 0 1 1 5 ps (ofR (cesOf ps) c.bi).1 z.hs.length = x0 at *
  have HUF : Hid (∀ j, j < 4 → (dS c z x0 j).2.1.done = false ∧ (dS c z x0 j).2.1.ans (dS c z x0 j).1 = 1) := f1
  have HEN : Hid ((dS c z x0 4).2.1.done = true ∧ (dS c z x0 4).2.1.end_ = 7 ∧ (dS c z x0 4).2.1.won = false ∧ (dS c z x0 4).2.1.num = 1 ∧ (dS c z x0 4).1.x = ⟨2, 0⟩ ∧ (dS c z x0 4).1.xs = z.xs ∧ (dS c z x0 4).1.hs = (freeOp 1).H z.hs 0) := ⟨f2, f3, f4, f5, f6, f7, f8⟩
  clear f1 f2 f3 f4 f5 f6 f7 f8
  have HOK : Hid (∀ j, (dS c z x0 j).1.ok c (5 + j)) := fun j => dS_ok HDF.out.ok j
  have HLN : Hid (∀ j, (dS c z x0 j).1.hs.length = 8) := fun j => by
    have h1 := (HOK.out j).hl
    have h2 := HDF.out.sl
    omega
  have HFT : Hid (∀ j, (dS c z x0 j).2.1.fit (dS c z x0 j).1.hs.length) := fun j => by
    rw [HLN.out j]
    exact dS_fit HFX.out HDF.out.ws j
  have HWS : Hid (∀ j, WsOk (dS c z x0 j).1.ws) := fun j => by rw [dS_ws]; exact HDF.out.ws
  have HDD : Hid (∀ j, 0 ≤ (dS c z x0 j).2.2) := fun j => dS_df j
  have HS : Hid (∃ D v vl vd vv dl dv, St w [cmI A B D (dS c z x0 0).2.1 vl vd vv dl dv, ownI 101 8 (.slice (some ⟨pb, 0, none⟩) z.hs.length cb) z.hs.length (slCells (slots z.hs z.ws)), boxI B.J (jd c (dS c z x0 0).2.2) 146, spI A c (dS c z x0 0).1 v (.slice none 0 0)] w12) := ⟨_, _, _, _, _, _, _, s15⟩
  clear s15 HFX
  go_wp2_with fail
  obtain ⟨w13, hw13⟩ : ∃ y, y = w12 := ⟨_, rfl⟩
  subst hw13
  go_loopw [16] (fun i wr => ∃ j : Nat, i = .int .i64 j ∧ j ≤ 4 ∧ Hid (∃ D v vl vd vv dl dv, St w [cmI A B D (dS c z x0 j).2.1 vl vd vv dl dv, ownI 101 8 (.slice (some ⟨pb, 0, none⟩) z.hs.length cb) z.hs.length (slCells (slots z.hs z.ws)), boxI B.J (jd c (dS c z x0 j).2.2) 146, spI A c (dS c z x0 j).1 v (.slice none 0 0)] wr)) (fun i _ => 4 - (intOf i).toNat)
  case atStart => exact ⟨0, rfl, by omega, HS⟩
  case round =>
    clear HS
    obtain ⟨j, rfl, hj, HR⟩ := hrel
    by_cases hlt : j < 4
    · have h1 : (j : Int) < 4 := by omega
      obtain ⟨D, v, vl, vd, vv, dl, dv, sj⟩ := HR.out
      obtain ⟨u1, u2⟩ := HUF.out j hlt
      have hd := cmDone sj 0 rfl
      rw [u1] at hd
      have hq := cmStep sj 3 2 0 (by decide) (by decide) (by decide) rfl rfl rfl HL.out.f (HDD.out j) (HFT.out j) (HOK.out j) (by omega) (HWS.out j)
      rw [u2] at hq
      clear HR sj u1 u2
      go_wp2_with (go_at_call 32; refine hd.mono ?_; rintro e wq ⟨rfl, rfl⟩)
      refine hq.mono ?_
      rintro e w14 ⟨rfl, D', v', vl', vd', vv', dl', dv', s8⟩
      have H8 : Hid (∃ D v vl vd vv dl dv, St w [cmI A B D (dS c z x0 (j + 1)).2.1 vl vd vv dl dv, ownI 101 8 (.slice (some ⟨pb, 0, none⟩) z.hs.length cb) z.hs.length (slCells (slots z.hs z.ws)), boxI B.J (jd c (dS c z x0 (j + 1)).2.2) 146, spI A c (dS c z x0 (j + 1)).1 v (.slice none 0 0)] w14) := ⟨_, _, _, _, _, _, _, s8⟩
      clear hq hd s8
      go_wp2_with fail
      go_roundw
      case rel => exact ⟨j + 1, by go_num, by omega, H8⟩
      case measure => simp [intOf]; omega
    · obtain rfl : j = 4 := by omega
      obtain ⟨D, v, vl, vd, vv, dl, dv, sj⟩ := HR.out
      clear HR HUF
      obtain ⟨a1, a2, a3, a4, a5, a6, a7⟩ := HEN.out
      have t1 := HOK.out 4
      have hq := spView sj 3 rfl t1.wl t1.h1 t1.h8
      have HL4 : Hid ((dS c z x0 4).1.hs.length = 8) := HLN.out 4
      have HW4 : Hid ((dS c z x0 4).1.ws = z.ws) := dS_ws 4
      have HWL : Hid ((dS c z x0 4).1.ws.length = (dS c z x0 4).1.hs.length * 2) := t1.wl
      rw [a5] at hq
      simp only at hq
      unfold spp at hq
      clear sj t1
      go_wp2_with fail
      refine hq.mono ?_
      rintro e w15 ⟨va, vb, rfl, s16⟩
      clear hq
      obtain ⟨qa, ca2, rfl⟩ := s16.form 0 rfl (by rw [a6, HDF.out.xl]; decide)
      obtain ⟨qb, cb2, rfl⟩ := s16.form 1 rfl (by rw [HL4.out]; decide)
      have s17 := s16.box #[.slice (some ⟨qa, 0, none⟩) (dS c z x0 4).1.xs.length ca2, .int .i64 2, .int .i64 0, .slice (some ⟨qb, 0, none⟩) (dS c z x0 4).1.hs.length cb2] 95
      clear s16
      have HX : Hid (∀ k, k < 64 → (dS c z x0 4).1.xs.getD k 0 = 0) := fun k hk => by rw [a6]; exact HDF.out.xs k hk
      have HXL : Hid ((dS c z x0 4).1.xs.length = 64) := by show _ = _; rw [a6]; exact HDF.out.xl
      have HAH : Hid ((dS c z x0 4).1.hs.getD 0 Hd.zero = ⟨1, 0, 0, 0, false, 0⟩) := by show _ = _; rw [a7]; exact HDF.out.ah
      have HAA : Hid ((dS c z x0 4).2.1.done = true ∧ (dS c z x0 4).2.1.end_ = 7 ∧ (dS c z x0 4).2.1.won = false ∧ (dS c z x0 4).2.1.num = 1) := ⟨a1, a2, a3, a4⟩
      clear a1 a2 a3 a4 a5 a6 a7
      go_upto_region 28 with fail
      generalize w15.alloc (.cells #[.slice (some ⟨qa, 0, none⟩) (dS c z x0 4).1.xs.length ca2, .int .i64 2, .int .i64 0, .slice (some ⟨qb, 0, none⟩) (dS c z x0 4).1.hs.length cb2] 95) = w16 at *
      generalize w15.heap.size = V at *
      obtain ⟨b0, b1, b2, b3, b4, b5, b6, b7⟩ := slot_cells s17 4 rfl HDF.out.ok.wl (k := 0) (by rw [HDF.out.len]; decide)
      rw [HDF.out.bh] at b0 b1 b2 b3 b4 b5
      simp only [Nat.zero_mul, Nat.zero_add] at b0 b1 b2 b3 b4 b5 b6 b7
      rw [HDF.out.w0] at b6
      rw [HDF.out.w1] at b7
      have s18 := s17.box #[.int .i64 1, .int .i64 0, .int .i64 0, .int .i64 0, .bool false, .int .i64 0, .int .u64 0, .int .u64 0] 101
      clear s17
      have len8 : (0 : Int) < (z.hs.length : Int) := by rw [HDF.out.len]; decide
      go_upto_region 29 with fail
      generalize w16.alloc (.cells #[.int .i64 1, .int .i64 0, .int .i64 0, .int .i64 0, .bool false, .int .i64 0, .int .u64 0, .int .u64 0] 101) = w17 at *
      generalize w16.heap.size = M2 at *
      clear b0 b1 b2 b3 b4 b5 b6 b7
      go_upto_region 31 with (simp only [m3])
      obtain ⟨w18, hw18⟩ : ∃ y, y = w17 := ⟨_, rfl⟩
      subst hw18
      have s19 := s18
      clear s18
      have HAF : Hid (∀ W, St w (boxI M2 #[.int .i64 1, .int .i64 0, .int .i64 0, .int .i64 0, .bool false, .int .i64 0, .int .u64 0, .int .u64 0] 101 :: boxI V #[.slice (some ⟨qa, 0, none⟩) (dS c z x0 4).1.xs.length ca2, .int .i64 2, .int .i64 0, .slice (some ⟨qb, 0, none⟩) (dS c z x0 4).1.hs.length cb2] 95 :: ownI 2 1 (.slice (some ⟨qa, 0, none⟩) (dS c z x0 4).1.xs.length ca2) (dS c z x0 4).1.xs.length (clCells (dS c z x0 4).1.xs) :: ownI 101 8 (.slice (some ⟨qb, 0, none⟩) (dS c z x0 4).1.hs.length cb2) (dS c z x0 4).1.hs.length (slCells (slots (dS c z x0 4).1.hs (dS c z x0 4).1.ws)) :: cmI A B D (dS c z x0 4).2.1 vl vd vv dl dv :: ownI 101 8 (.slice (some ⟨pb, 0, none⟩) z.hs.length cb) z.hs.length (slCells (slots z.hs z.ws)) :: boxI B.J (jd c (dS c z x0 4).2.2) 146 :: spI A c (dS c z x0 4).1 v (.slice none 0 0) :: []) W → (W.cell? ⟨qb, 0, none⟩ = some (.int .i64 1) ∧ W.cell? ⟨qb, 1, none⟩ = some (.int .i64 0) ∧ W.cell? ⟨qb, 2, none⟩ = some (.int .i64 0) ∧ W.cell? ⟨qb, 3, none⟩ = some (.int .i64 0) ∧ W.cell? ⟨qb, 4, none⟩ = some (.bool false) ∧ W.cell? ⟨qb, 5, none⟩ = some (.int .i64 0) ∧ W.cell? ⟨qb, 6, none⟩ = some (.int .u64 0) ∧ W.cell? ⟨qb, 7, none⟩ = some (.int .u64 0)) ∧ ∀ j, j < 64 → W.cell? ⟨qa, j, none⟩ = some (.int .i64 0)) := by
        intro W s
        obtain ⟨b0, b1, b2, b3, b4, b5, b6, b7⟩ := slot_cells s 3 rfl HWL.out (k := 0) (by rw [HL4.out]; decide)
        rw [HAH.out] at b0 b1 b2 b3 b4 b5
        rw [HW4.out] at b6 b7
        simp only [Nat.zero_mul, Nat.zero_add] at b0 b1 b2 b3 b4 b5 b6 b7
        rw [HDF.out.w0] at b6
        rw [HDF.out.w1] at b7
        refine ⟨⟨b0, b1, b2, b3, b4, b5, b6, b7⟩, fun j hj => ?_⟩
        have hx := HX.out j hj
        have hl : j < (dS c z x0 4).1.xs.length := by rw [HXL.out]; exact hj
        rw [s.ownCell 2 rfl j (by omega)]
        rw [List.getD_eq_getElem?_getD, List.getElem?_eq_getElem hl, Option.getD_some] at hx
        simp [clCells, hl, hx]
      have HCM : Hid (∀ W its, St w its W → its[4]? = some (cmI A B D (dS c z x0 4).2.1 vl vd vv dl dv) → (Calls Tryz.prog 32 #[.pointer (some ⟨B.X, 0, none⟩)] W fun e w' => e = .returned (.bool true) ∧ w' = W) ∧ (Calls Tryz.prog 33 #[.pointer (some ⟨B.X, 0, none⟩)] W fun e w' => e = .returned (.int .i64 7) ∧ w' = W) ∧ (Calls Tryz.prog 34 #[.pointer (some ⟨B.X, 0, none⟩)] W fun e w' => e = .returned (.bool false) ∧ w' = W) ∧ (Calls Tryz.prog 38 #[.pointer (some ⟨B.X, 0, none⟩)] W fun e w' => e = .returned (.int .i64 1) ∧ w' = W)) := by
        intro W its s hk
        obtain ⟨q1, q2, q3, q4⟩ := HAA.out
        have r1 := cmDone s 4 hk
        have r2 := cmEnd s 4 hk
        have r3 := cmWon s 4 hk
        have r4 := cmNumber s 4 hk
        rw [q1] at r1
        rw [q2] at r2
        rw [q3] at r3
        rw [q4] at r4
        exact ⟨r1, r2, r3, r4⟩
      have hNL : (0 : Int) < ((dS c z x0 4).1.hs.length : Int) := by rw [HL4.out]; decide
      generalize hXS : (dS c z x0 4).1.xs.length = NX at *
      obtain rfl : NX = 64 := HXL.out
      clear hXS
      generalize (dS c z x0 4).1.hs.length = NHH at *
      obtain rfl : NHH = 8 := HL4.out
      obtain ⟨LL, hLL⟩ : ∃ LL : List It, LL = (boxI M2 #[.int .i64 1, .int .i64 0, .int .i64 0, .int .i64 0, .bool false, .int .i64 0, .int .u64 0, .int .u64 0] 101 :: boxI V #[.slice (some ⟨qa, 0, none⟩) 64 ca2, .int .i64 2, .int .i64 0, .slice (some ⟨qb, 0, none⟩) 8 cb2] 95 :: ownI 2 1 (.slice (some ⟨qa, 0, none⟩) 64 ca2) 64 (clCells (dS c z x0 4).1.xs) :: ownI 101 8 (.slice (some ⟨qb, 0, none⟩) 8 cb2) 8 (slCells (slots (dS c z x0 4).1.hs (dS c z x0 4).1.ws)) :: cmI A B D (dS c z x0 4).2.1 vl vd vv dl dv :: ownI 101 8 (.slice (some ⟨pb, 0, none⟩) z.hs.length cb) z.hs.length (slCells (slots z.hs z.ws)) :: boxI B.J (jd c (dS c z x0 4).2.2) 146 :: spI A c (dS c z x0 4).1 v (.slice none 0 0) :: []) := ⟨_, rfl⟩
      have s20 : St w LL w18 := by rw [hLL]; exact s19
      rw [← hLL] at HAF
      have HVC : Hid (∀ W, St w LL W → W.cell? ⟨V, 0, none⟩ = some (.slice (some ⟨qa, 0, none⟩) 64 ca2) ∧ W.cell? ⟨V, 1, none⟩ = some (.int .i64 2) ∧ W.cell? ⟨V, 2, none⟩ = some (.int .i64 0) ∧ W.cell? ⟨V, 3, none⟩ = some (.slice (some ⟨qb, 0, none⟩) 8 cb2) ∧ W.cell? ⟨M2, 0, none⟩ = some (.int .i64 1) ∧ W.cell? ⟨M2, 1, none⟩ = some (.int .i64 0) ∧ W.cell? ⟨M2, 2, none⟩ = some (.int .i64 0) ∧ W.cell? ⟨M2, 3, none⟩ = some (.int .i64 0) ∧ W.cell? ⟨M2, 4, none⟩ = some (.bool false) ∧ W.cell? ⟨M2, 5, none⟩ = some (.int .i64 0) ∧ W.cell? ⟨M2, 6, none⟩ = some (.int .u64 0) ∧ W.cell? ⟨M2, 7, none⟩ = some (.int .u64 0)) := fun W s => by
        rw [hLL] at s
        exact ⟨s.cell 1 rfl 0, s.cell 1 rfl 1, s.cell 1 rfl 2, s.cell 1 rfl 3, s.cell 0 rfl 0, s.cell 0 rfl 1, s.cell 0 rfl 2, s.cell 0 rfl 3, s.cell 0 rfl 4, s.cell 0 rfl 5, s.cell 0 rfl 6, s.cell 0 rfl 7⟩
      have HC4 : Hid (LL[4]? = some (cmI A B D (dS c z x0 4).2.1 vl vd vv dl dv)) := by show _ = _; rw [hLL]; rfl
      clear s19 hLL HX HXL HAH HAA HL4 HW4 HWL HEN HOK HLN HFT HWS HDD
      have HS20 : Hid (St w LL w18) := s20
      have v0 := (HVC.out _ s20).1
      have HXC : Hid (∀ j, j < 64 → w18.cell? ⟨qa, j, none⟩ = some (.int .i64 0)) := (HAF.out _ s20).2
      clear s20
      go_wp2_with fail
      obtain ⟨w19, hw19⟩ : ∃ y, y = w18 := ⟨_, rfl⟩
      subst hw19
      go_loopw [19] (fun i wr => ∃ j : Nat, i = .int .i64 j ∧ j ≤ 64 ∧ wr = w19) (fun i _ => 64 - (intOf i).toNat)
      case atStart => exact ⟨0, rfl, by omega, rfl⟩
      case round =>
        obtain ⟨j, rfl, hj, rfl⟩ := hrel
        by_cases hlt : j < 64
        · have h1 : (j : Int) < 64 := by omega
          have h0 : (0 : Int) ≤ (j : Int) := by omega
          have cj := HXC.out j hlt
          go_wp2_with fail
          go_roundw
          case rel => exact ⟨j + 1, by go_num, by omega, by trivial⟩
          case measure => simp [intOf]; omega
        · obtain rfl : j = 64 := by omega
          clear HXC
          obtain ⟨P, hPd⟩ : ∃ P : World → Prop, P = fun W => St w LL W := ⟨_, rfl⟩
          have hD : P wr.drew := by rw [hPd]; exact HS20.out.drew
          have CH : Hid (∀ W, P W → W.cell? ⟨V, 1, none⟩ = some (.int .i64 2) ∧ W.cell? ⟨V, 2, none⟩ = some (.int .i64 0) ∧ W.cell? ⟨V, 3, none⟩ = some (.slice (some ⟨qb, 0, none⟩) 8 cb2) ∧ W.cell? ⟨M2, 0, none⟩ = some (.int .i64 1) ∧ W.cell? ⟨M2, 1, none⟩ = some (.int .i64 0) ∧ W.cell? ⟨M2, 2, none⟩ = some (.int .i64 0) ∧ W.cell? ⟨M2, 3, none⟩ = some (.int .i64 0) ∧ W.cell? ⟨M2, 4, none⟩ = some (.bool false) ∧ W.cell? ⟨M2, 5, none⟩ = some (.int .i64 0) ∧ W.cell? ⟨M2, 6, none⟩ = some (.int .u64 0) ∧ W.cell? ⟨M2, 7, none⟩ = some (.int .u64 0) ∧ W.cell? ⟨qb, 0, none⟩ = some (.int .i64 1) ∧ W.cell? ⟨qb, 1, none⟩ = some (.int .i64 0) ∧ W.cell? ⟨qb, 2, none⟩ = some (.int .i64 0) ∧ W.cell? ⟨qb, 3, none⟩ = some (.int .i64 0) ∧ W.cell? ⟨qb, 4, none⟩ = some (.bool false) ∧ W.cell? ⟨qb, 5, none⟩ = some (.int .i64 0) ∧ W.cell? ⟨qb, 6, none⟩ = some (.int .u64 0) ∧ W.cell? ⟨qb, 7, none⟩ = some (.int .u64 0) ∧ P W) := by
            intro W hW
            have h' := hW
            rw [hPd] at h'
            obtain ⟨x0, x1, x2, x3, x4, x5, x6, x7, x8, x9, x10, x11⟩ := HVC.out _ h'
            obtain ⟨⟨y0, y1, y2, y3, y4, y5, y6, y7⟩, -⟩ := HAF.out _ h'
            exact ⟨x1, x2, x3, x4, x5, x6, x7, x8, x9, x10, x11, y0, y1, y2, y3, y4, y5, y6, y7, hW⟩
          have CC : Hid (∀ W, P W → (Calls Tryz.prog 32 #[.pointer (some ⟨B.X, 0, none⟩)] W fun e w' => e = .returned (.bool true) ∧ P w') ∧ (Calls Tryz.prog 33 #[.pointer (some ⟨B.X, 0, none⟩)] W fun e w' => e = .returned (.int .i64 7) ∧ P w') ∧ (Calls Tryz.prog 34 #[.pointer (some ⟨B.X, 0, none⟩)] W fun e w' => e = .returned (.bool false) ∧ P w') ∧ (Calls Tryz.prog 38 #[.pointer (some ⟨B.X, 0, none⟩)] W fun e w' => e = .returned (.int .i64 1) ∧ P w')) := by
            intro W hW
            have h' := hW
            rw [hPd] at h'
            obtain ⟨r1, r2, r3, r4⟩ := HCM.out W LL h' HC4.out
            refine ⟨r1.mono ?_, r2.mono ?_, r3.mono ?_, r4.mono ?_⟩
            all_goals
              rintro e w' ⟨he, rfl⟩
              exact ⟨he, hW⟩
          have HK : Hid (∀ W, P W → Kept (fun _ => False) w W) := fun W hW => by rw [hPd] at hW; exact hW.same
          clear hPd HS20 HVC HAF HCM HC4
          obtain ⟨x1, x2, x3, x4, x5, x6, x7, x8, x9, x10, x11, y0, y1, y2, y3, y4, y5, y6, y7, _⟩ := CH.out _ hD
          go_upto_region 36 with fail
          go_region_held3 (fun W => W.cell? ⟨V, 1, none⟩ = some (.int .i64 2) ∧ W.cell? ⟨V, 2, none⟩ = some (.int .i64 0) ∧ W.cell? ⟨V, 3, none⟩ = some (.slice (some ⟨qb, 0, none⟩) 8 cb2) ∧ W.cell? ⟨M2, 0, none⟩ = some (.int .i64 1) ∧ W.cell? ⟨M2, 1, none⟩ = some (.int .i64 0) ∧ W.cell? ⟨M2, 2, none⟩ = some (.int .i64 0) ∧ W.cell? ⟨M2, 3, none⟩ = some (.int .i64 0) ∧ W.cell? ⟨M2, 4, none⟩ = some (.bool false) ∧ W.cell? ⟨M2, 5, none⟩ = some (.int .i64 0) ∧ W.cell? ⟨M2, 6, none⟩ = some (.int .u64 0) ∧ W.cell? ⟨M2, 7, none⟩ = some (.int .u64 0) ∧ W.cell? ⟨qb, 0, none⟩ = some (.int .i64 1) ∧ W.cell? ⟨qb, 1, none⟩ = some (.int .i64 0) ∧ W.cell? ⟨qb, 2, none⟩ = some (.int .i64 0) ∧ W.cell? ⟨qb, 3, none⟩ = some (.int .i64 0) ∧ W.cell? ⟨qb, 4, none⟩ = some (.bool false) ∧ W.cell? ⟨qb, 5, none⟩ = some (.int .i64 0) ∧ W.cell? ⟨qb, 6, none⟩ = some (.int .u64 0) ∧ W.cell? ⟨qb, 7, none⟩ = some (.int .u64 0) ∧ P W)
            (exact CH.out _ hD)
            (first | (go_at_call 32; refine ((CC.out _ hD).1).mono ?_; rintro e wx ⟨rfl, hD⟩) | (go_at_call 33; refine ((CC.out _ hD).2.1).mono ?_; rintro e wx ⟨rfl, hD⟩) | (go_at_call 34; refine ((CC.out _ hD).2.2.1).mono ?_; rintro e wx ⟨rfl, hD⟩) | (go_at_call 38; refine ((CC.out _ hD).2.2.2).mono ?_; rintro e wx ⟨rfl, hD⟩))
          have HF : Hid _ := HK.out _ hD
          clear x1 x2 x3 x4 x5 x6 x7 x8 x9 x10 x11 y0 y1 y2 y3 y4 y5 y6 y7 CH CC HK
          go_wp2
          go_ret
          exact ⟨rfl, HF.out⟩


set_option maxRecDepth 100000 in
set_option maxHeartbeats 8000000 in
theorem doomed2 (tag how : Int) (hh : how % 4 = 2) (la : Option Addr) (n lc : Nat) (zs : List Pr) (w : World) (hP : PIn w la n zs) (hn : n ≤ 8796093022208) :
    Calls Tryz.prog 7 #[.int .i64 tag, .int .i64 how, .slice la n lc] w fun e w' => e = .returned (.bool true) ∧ Kept (fun _ => False) w w' := by
  have m3 := and3 how
  rw [hh] at m3
  clear hh
  have HP : Hid (PIn w la n zs) := hP
  clear hP
  have hq := up_any w
  go_enter Tryz.func7, Tryz.ntmps7
  go_wp2_with fail
  refine hq.mono ?_
  rintro e w1 ⟨rfl, k1⟩
  have s1 := (St.nil w).calm k1
  clear hq k1
  have hq := config_any tag 127 0 0 w1
  obtain ⟨c, hc⟩ : ∃ c, c = cfgOf tag 127 0 0 := ⟨_, rfl⟩
  have HL : Hid (LiveOk c) := by rw [hc]; exact cfgOf_live ..
  have HDF : Hid (DF c (zD2 c) ⟨2, 1, 0, 6, false, 0⟩ ⟨2, 1, 0, 6, false, 0⟩) := by rw [hc]; exact DF2 tag
  rw [← hc] at hq
  clear hc
  unfold Cfg.val at hq
  go_wp2_with fail
  refine hq.mono ?_
  rintro e w2 ⟨rfl, k2⟩
  have s2 := (s1.calm k2).box #[.int .i64 c.ce, .int .i64 c.sl, .int .i64 c.bi, .int .i64 c.ta, .int .i64 c.ba, .int .i64 c.de] 23
  clear hq k2 s1
  go_upto_region 3 with fail
  generalize w2.alloc (.cells #[.int .i64 c.ce, .int .i64 c.sl, .int .i64 c.bi, .int .i64 c.ta, .int .i64 c.ba, .int .i64 c.de] 23) = w3 at *
  generalize w2.heap.size = M at *
  have c0 : w3.cell? ⟨M, 0, none⟩ = some (.int .i64 c.ce) := s2.cell 0 rfl 0
  have c1 : w3.cell? ⟨M, 1, none⟩ = some (.int .i64 c.sl) := s2.cell 0 rfl 1
  have c2 : w3.cell? ⟨M, 2, none⟩ = some (.int .i64 c.bi) := s2.cell 0 rfl 2
  have c3 : w3.cell? ⟨M, 3, none⟩ = some (.int .i64 c.ta) := s2.cell 0 rfl 3
  have c4 : w3.cell? ⟨M, 4, none⟩ = some (.int .i64 c.ba) := s2.cell 0 rfl 4
  have c5 : w3.cell? ⟨M, 5, none⟩ = some (.int .i64 c.de) := s2.cell 0 rfl 5
  have hq := lives_st s2.pop HL.out
  unfold Cfg.val at hq
  clear s2
  go_wp2_with fail
  refine hq.mono ?_
  rintro e w4 ⟨A, J, v4, rfl, s4⟩
  clear hq c0 c1 c2 c3 c4 c5
  unfold spp
  have hs := spSlots s4 1 rfl
  unfold spp at hs
  have hq := spFree s4 1 rfl HL.out.ok (by omega) 0 1
  clear s4
  go_wp2_with (first | (go_at_call 42; refine hs.mono ?_; rintro e wq ⟨rfl, rfl⟩) | simp only [m3])
  clear hs
  refine hq.mono ?_
  rintro e w5 ⟨rfl, v5, s5'⟩
  have s5 : St w [boxI J (jd c 0) 146, spI A c (zD1 c) v5 (.slice none 0 0)] w5 := s5'
  clear hq s5' 
  have hq := spClaim s5 1 rfl (zD1_ok HL.out) (by omega) 0 6
  clear s5
  go_wp2_with fail
  refine hq.mono ?_
  rintro e w6 ⟨rfl, v6, s6'⟩
  have s6 : St w [boxI J (jd c 0) 146, spI A c (zD2 c) v6 (.slice none 0 0)] w6 := s6'
  clear hq s6' 
  obtain ⟨z, hz⟩ : ∃ z, z = zD2 c := ⟨_, rfl⟩
  rw [← hz] at s6 HDF
  clear hz
  have t1 := HDF.out.ok
  have hq := spView s6 1 rfl t1.wl t1.h1 t1.h8
  unfold spp at hq
  clear s6 t1
  go_wp2_with fail
  refine hq.mono ?_
  rintro e w10 ⟨va, vb, rfl, s10⟩
  clear hq
  obtain ⟨pa, ca, rfl⟩ := own_form (n := z.xs.length) (s10.get 0 rfl)
  obtain ⟨pb, cb, rfl⟩ := s10.form 1 rfl (by rw [HDF.out.len]; decide)
  have s11 := s10.pop
  clear s10
  have hfv := fun W => fieldView pa (some ⟨pb, 0, none⟩) z.xs.length z.hs.length ca cb z.x.n z.x.o W
  have hq := writes_any la n lc zs w10 (HP.out.kept s11.same) hn
  go_wp2_with (simp only [hfv])
  refine hq.mono ?_
  rintro e w11 ⟨vw, ps, rfl, hW, hne, s12⟩
  have s13 := s11.add s12
  clear hq s11 s12 hfv
  obtain ⟨gw, cw, rfl⟩ := s13.form 0 rfl (List.length_pos_iff.2 hne)
  have hck := HDF.out.ck ps hW hne
  have hPI : ∀ W, St w [ownI 59 2 (.slice (some ⟨gw, 0, none⟩) ps.length cw) ps.length (prCells ps), ownI 101 8 (.slice (some ⟨pb, 0, none⟩) z.hs.length cb) z.hs.length (slCells (slots z.hs z.ws)), boxI J (jd c 0) 146, spI A c z v6 (.slice none 0 0)] W → PIn W (some ⟨gw, 0, none⟩) ps.length ps := by
    intro W hW
    obtain ⟨la', lc', e', hP, _⟩ := own_pin (show W.ownsRow 0 59 2 (.slice (some ⟨gw, 0, none⟩) ps.length cw) ps.length (prCells ps) from hW.get 0 rfl)
    simp only [Value.slice.injEq, true_and] at e'
    obtain ⟨rfl, -⟩ := e'
    exact hP
  have hq := cmNew_st s13 3 rfl HL.out.f (by rw [HDF.out.len, HDF.out.sl]; rfl) J 0 1 1 5 (some ⟨gw, 0, none⟩) ps.length cw ps hPI (by have := hW.n; omega) hck
  unfold spp at hq
  have HFX : Hid ((Cm.new 0 1 1 5 ps (ofR (cesOf ps) c.bi).1 z.hs.length).fit 8) := by
    have := Cm.fit_new (ge := 1) hck (ofR_ok (cesOf ps) c.bi) (n := z.hs.length) (by rw [HDF.out.len]; decide) (by rw [HDF.out.len, HDF.out.sl]; rfl)
    rw [HDF.out.len] at this ⊢
    exact this
  clear s13 hPI hck hW hne
  generalize ps.length = PL at *
  go_wp2_with fail
  refine hq.mono ?_
  rintro e w12 ⟨B, vl, dl, dv, rfl, hBJ, s14⟩
  subst hBJ
  clear hq
  have s15 := St.popAt (pre := [_]) s14
  clear s14
  obtain ⟨f1, f2, f3, f4, f5, f6, f7, f8⟩ := dS_four (c := c) (ps := ps) (wr := (ofR (cesOf ps) c.bi).1) (n := z.hs.length) HDF.out.x HDF.out.mine
  generalize Cm.new 0 1 1 5 ps (ofR (cesOf ps) c.bi).1 z.hs.length = x0 at *
  have HUF : Hid (∀ j, j < 4 → (dS c z x0 j).2.1.done = false ∧ (dS c z x0 j).2.1.ans (dS c z x0 j).1 = 1) := f1
  have HEN : Hid ((dS c z x0 4).2.1.done = true ∧ (dS c z x0 4).2.1.end_ = 7 ∧ (dS c z x0 4).2.1.won = false ∧ (dS c z x0 4).2.1.num = 1 ∧ (dS c z x0 4).1.x = ⟨2, 0⟩ ∧ (dS c z x0 4).1.xs = z.xs ∧ (dS c z x0 4).1.hs = (freeOp 1).H z.hs 0) := ⟨f2, f3, f4, f5, f6, f7, f8⟩
  clear f1 f2 f3 f4 f5 f6 f7 f8
  have HOK : Hid (∀ j, (dS c z x0 j).1.ok c (5 + j)) := fun j => dS_ok HDF.out.ok j
  have HLN : Hid (∀ j, (dS c z x0 j).1.hs.length = 8) := fun j => by
    have h1 := (HOK.out j).hl
    have h2 := HDF.out.sl
    omega
  have HFT : Hid (∀ j, (dS c z x0 j).2.1.fit (dS c z x0 j).1.hs.length) := fun j => by
    rw [HLN.out j]
    exact dS_fit HFX.out HDF.out.ws j
  have HWS : Hid (∀ j, WsOk (dS c z x0 j).1.ws) := fun j => by rw [dS_ws]; exact HDF.out.ws
  have HDD : Hid (∀ j, 0 ≤ (dS c z x0 j).2.2) := fun j => dS_df j
  have HS : Hid (∃ D v vl vd vv dl dv, St w [cmI A B D (dS c z x0 0).2.1 vl vd vv dl dv, ownI 101 8 (.slice (some ⟨pb, 0, none⟩) z.hs.length cb) z.hs.length (slCells (slots z.hs z.ws)), boxI B.J (jd c (dS c z x0 0).2.2) 146, spI A c (dS c z x0 0).1 v (.slice none 0 0)] w12) := ⟨_, _, _, _, _, _, _, s15⟩
  clear s15 HFX
  go_wp2_with fail
  obtain ⟨w13, hw13⟩ : ∃ y, y = w12 := ⟨_, rfl⟩
  subst hw13
  go_loopw [16] (fun i wr => ∃ j : Nat, i = .int .i64 j ∧ j ≤ 4 ∧ Hid (∃ D v vl vd vv dl dv, St w [cmI A B D (dS c z x0 j).2.1 vl vd vv dl dv, ownI 101 8 (.slice (some ⟨pb, 0, none⟩) z.hs.length cb) z.hs.length (slCells (slots z.hs z.ws)), boxI B.J (jd c (dS c z x0 j).2.2) 146, spI A c (dS c z x0 j).1 v (.slice none 0 0)] wr)) (fun i _ => 4 - (intOf i).toNat)
  case atStart => exact ⟨0, rfl, by omega, HS⟩
  case round =>
    clear HS
    obtain ⟨j, rfl, hj, HR⟩ := hrel
    by_cases hlt : j < 4
    · have h1 : (j : Int) < 4 := by omega
      obtain ⟨D, v, vl, vd, vv, dl, dv, sj⟩ := HR.out
      obtain ⟨u1, u2⟩ := HUF.out j hlt
      have hd := cmDone sj 0 rfl
      rw [u1] at hd
      have hq := cmStep sj 3 2 0 (by decide) (by decide) (by decide) rfl rfl rfl HL.out.f (HDD.out j) (HFT.out j) (HOK.out j) (by omega) (HWS.out j)
      rw [u2] at hq
      clear HR sj u1 u2
      go_wp2_with (go_at_call 32; refine hd.mono ?_; rintro e wq ⟨rfl, rfl⟩)
      refine hq.mono ?_
      rintro e w14 ⟨rfl, D', v', vl', vd', vv', dl', dv', s8⟩
      have H8 : Hid (∃ D v vl vd vv dl dv, St w [cmI A B D (dS c z x0 (j + 1)).2.1 vl vd vv dl dv, ownI 101 8 (.slice (some ⟨pb, 0, none⟩) z.hs.length cb) z.hs.length (slCells (slots z.hs z.ws)), boxI B.J (jd c (dS c z x0 (j + 1)).2.2) 146, spI A c (dS c z x0 (j + 1)).1 v (.slice none 0 0)] w14) := ⟨_, _, _, _, _, _, _, s8⟩
      clear hq hd s8
      go_wp2_with fail
      go_roundw
      case rel => exact ⟨j + 1, by go_num, by omega, H8⟩
      case measure => simp [intOf]; omega
    · obtain rfl : j = 4 := by omega
      obtain ⟨D, v, vl, vd, vv, dl, dv, sj⟩ := HR.out
      clear HR HUF
      obtain ⟨a1, a2, a3, a4, a5, a6, a7⟩ := HEN.out
      have t1 := HOK.out 4
      have hq := spView sj 3 rfl t1.wl t1.h1 t1.h8
      have HL4 : Hid ((dS c z x0 4).1.hs.length = 8) := HLN.out 4
      have HW4 : Hid ((dS c z x0 4).1.ws = z.ws) := dS_ws 4
      have HWL : Hid ((dS c z x0 4).1.ws.length = (dS c z x0 4).1.hs.length * 2) := t1.wl
      rw [a5] at hq
      simp only at hq
      unfold spp at hq
      clear sj t1
      go_wp2_with fail
      refine hq.mono ?_
      rintro e w15 ⟨va, vb, rfl, s16⟩
      clear hq
      obtain ⟨qa, ca2, rfl⟩ := s16.form 0 rfl (by rw [a6, HDF.out.xl]; decide)
      obtain ⟨qb, cb2, rfl⟩ := s16.form 1 rfl (by rw [HL4.out]; decide)
      have s17 := s16.box #[.slice (some ⟨qa, 0, none⟩) (dS c z x0 4).1.xs.length ca2, .int .i64 2, .int .i64 0, .slice (some ⟨qb, 0, none⟩) (dS c z x0 4).1.hs.length cb2] 95
      clear s16
      have HX : Hid (∀ k, k < 64 → (dS c z x0 4).1.xs.getD k 0 = 0) := fun k hk => by rw [a6]; exact HDF.out.xs k hk
      have HXL : Hid ((dS c z x0 4).1.xs.length = 64) := by show _ = _; rw [a6]; exact HDF.out.xl
      have HAH : Hid ((dS c z x0 4).1.hs.getD 0 Hd.zero = ⟨2, 1, 0, 6, false, 0⟩) := by show _ = _; rw [a7]; exact HDF.out.ah
      have HAA : Hid ((dS c z x0 4).2.1.done = true ∧ (dS c z x0 4).2.1.end_ = 7 ∧ (dS c z x0 4).2.1.won = false ∧ (dS c z x0 4).2.1.num = 1) := ⟨a1, a2, a3, a4⟩
      clear a1 a2 a3 a4 a5 a6 a7
      go_upto_region 28 with fail
      generalize w15.alloc (.cells #[.slice (some ⟨qa, 0, none⟩) (dS c z x0 4).1.xs.length ca2, .int .i64 2, .int .i64 0, .slice (some ⟨qb, 0, none⟩) (dS c z x0 4).1.hs.length cb2] 95) = w16 at *
      generalize w15.heap.size = V at *
      obtain ⟨b0, b1, b2, b3, b4, b5, b6, b7⟩ := slot_cells s17 4 rfl HDF.out.ok.wl (k := 0) (by rw [HDF.out.len]; decide)
      rw [HDF.out.bh] at b0 b1 b2 b3 b4 b5
      simp only [Nat.zero_mul, Nat.zero_add] at b0 b1 b2 b3 b4 b5 b6 b7
      rw [HDF.out.w0] at b6
      rw [HDF.out.w1] at b7
      have s18 := s17.box #[.int .i64 2, .int .i64 1, .int .i64 0, .int .i64 6, .bool false, .int .i64 0, .int .u64 0, .int .u64 0] 101
      clear s17
      have len8 : (0 : Int) < (z.hs.length : Int) := by rw [HDF.out.len]; decide
      go_upto_region 29 with fail
      generalize w16.alloc (.cells #[.int .i64 2, .int .i64 1, .int .i64 0, .int .i64 6, .bool false, .int .i64 0, .int .u64 0, .int .u64 0] 101) = w17 at *
      generalize w16.heap.size = M2 at *
      clear b0 b1 b2 b3 b4 b5 b6 b7
      go_upto_region 31 with (simp only [m3])
      obtain ⟨w18, hw18⟩ : ∃ y, y = w17 := ⟨_, rfl⟩
      subst hw18
      have s19 := s18
      clear s18
      have HAF : Hid (∀ W, St w (boxI M2 #[.int .i64 2, .int .i64 1, .int .i64 0, .int .i64 6, .bool false, .int .i64 0, .int .u64 0, .int .u64 0] 101 :: boxI V #[.slice (some ⟨qa, 0, none⟩) (dS c z x0 4).1.xs.length ca2, .int .i64 2, .int .i64 0, .slice (some ⟨qb, 0, none⟩) (dS c z x0 4).1.hs.length cb2] 95 :: ownI 2 1 (.slice (some ⟨qa, 0, none⟩) (dS c z x0 4).1.xs.length ca2) (dS c z x0 4).1.xs.length (clCells (dS c z x0 4).1.xs) :: ownI 101 8 (.slice (some ⟨qb, 0, none⟩) (dS c z x0 4).1.hs.length cb2) (dS c z x0 4).1.hs.length (slCells (slots (dS c z x0 4).1.hs (dS c z x0 4).1.ws)) :: cmI A B D (dS c z x0 4).2.1 vl vd vv dl dv :: ownI 101 8 (.slice (some ⟨pb, 0, none⟩) z.hs.length cb) z.hs.length (slCells (slots z.hs z.ws)) :: boxI B.J (jd c (dS c z x0 4).2.2) 146 :: spI A c (dS c z x0 4).1 v (.slice none 0 0) :: []) W → (W.cell? ⟨qb, 0, none⟩ = some (.int .i64 2) ∧ W.cell? ⟨qb, 1, none⟩ = some (.int .i64 1) ∧ W.cell? ⟨qb, 2, none⟩ = some (.int .i64 0) ∧ W.cell? ⟨qb, 3, none⟩ = some (.int .i64 6) ∧ W.cell? ⟨qb, 4, none⟩ = some (.bool false) ∧ W.cell? ⟨qb, 5, none⟩ = some (.int .i64 0) ∧ W.cell? ⟨qb, 6, none⟩ = some (.int .u64 0) ∧ W.cell? ⟨qb, 7, none⟩ = some (.int .u64 0)) ∧ ∀ j, j < 64 → W.cell? ⟨qa, j, none⟩ = some (.int .i64 0)) := by
        intro W s
        obtain ⟨b0, b1, b2, b3, b4, b5, b6, b7⟩ := slot_cells s 3 rfl HWL.out (k := 0) (by rw [HL4.out]; decide)
        rw [HAH.out] at b0 b1 b2 b3 b4 b5
        rw [HW4.out] at b6 b7
        simp only [Nat.zero_mul, Nat.zero_add] at b0 b1 b2 b3 b4 b5 b6 b7
        rw [HDF.out.w0] at b6
        rw [HDF.out.w1] at b7
        refine ⟨⟨b0, b1, b2, b3, b4, b5, b6, b7⟩, fun j hj => ?_⟩
        have hx := HX.out j hj
        have hl : j < (dS c z x0 4).1.xs.length := by rw [HXL.out]; exact hj
        rw [s.ownCell 2 rfl j (by omega)]
        rw [List.getD_eq_getElem?_getD, List.getElem?_eq_getElem hl, Option.getD_some] at hx
        simp [clCells, hl, hx]
      have HCM : Hid (∀ W its, St w its W → its[4]? = some (cmI A B D (dS c z x0 4).2.1 vl vd vv dl dv) → (Calls Tryz.prog 32 #[.pointer (some ⟨B.X, 0, none⟩)] W fun e w' => e = .returned (.bool true) ∧ w' = W) ∧ (Calls Tryz.prog 33 #[.pointer (some ⟨B.X, 0, none⟩)] W fun e w' => e = .returned (.int .i64 7) ∧ w' = W) ∧ (Calls Tryz.prog 34 #[.pointer (some ⟨B.X, 0, none⟩)] W fun e w' => e = .returned (.bool false) ∧ w' = W) ∧ (Calls Tryz.prog 38 #[.pointer (some ⟨B.X, 0, none⟩)] W fun e w' => e = .returned (.int .i64 1) ∧ w' = W)) := by
        intro W its s hk
        obtain ⟨q1, q2, q3, q4⟩ := HAA.out
        have r1 := cmDone s 4 hk
        have r2 := cmEnd s 4 hk
        have r3 := cmWon s 4 hk
        have r4 := cmNumber s 4 hk
        rw [q1] at r1
        rw [q2] at r2
        rw [q3] at r3
        rw [q4] at r4
        exact ⟨r1, r2, r3, r4⟩
      have hNL : (0 : Int) < ((dS c z x0 4).1.hs.length : Int) := by rw [HL4.out]; decide
      generalize hXS : (dS c z x0 4).1.xs.length = NX at *
      obtain rfl : NX = 64 := HXL.out
      clear hXS
      generalize (dS c z x0 4).1.hs.length = NHH at *
      obtain rfl : NHH = 8 := HL4.out
      obtain ⟨LL, hLL⟩ : ∃ LL : List It, LL = (boxI M2 #[.int .i64 2, .int .i64 1, .int .i64 0, .int .i64 6, .bool false, .int .i64 0, .int .u64 0, .int .u64 0] 101 :: boxI V #[.slice (some ⟨qa, 0, none⟩) 64 ca2, .int .i64 2, .int .i64 0, .slice (some ⟨qb, 0, none⟩) 8 cb2] 95 :: ownI 2 1 (.slice (some ⟨qa, 0, none⟩) 64 ca2) 64 (clCells (dS c z x0 4).1.xs) :: ownI 101 8 (.slice (some ⟨qb, 0, none⟩) 8 cb2) 8 (slCells (slots (dS c z x0 4).1.hs (dS c z x0 4).1.ws)) :: cmI A B D (dS c z x0 4).2.1 vl vd vv dl dv :: ownI 101 8 (.slice (some ⟨pb, 0, none⟩) z.hs.length cb) z.hs.length (slCells (slots z.hs z.ws)) :: boxI B.J (jd c (dS c z x0 4).2.2) 146 :: spI A c (dS c z x0 4).1 v (.slice none 0 0) :: []) := ⟨_, rfl⟩
      have s20 : St w LL w18 := by rw [hLL]; exact s19
      rw [← hLL] at HAF
      have HVC : Hid (∀ W, St w LL W → W.cell? ⟨V, 0, none⟩ = some (.slice (some ⟨qa, 0, none⟩) 64 ca2) ∧ W.cell? ⟨V, 1, none⟩ = some (.int .i64 2) ∧ W.cell? ⟨V, 2, none⟩ = some (.int .i64 0) ∧ W.cell? ⟨V, 3, none⟩ = some (.slice (some ⟨qb, 0, none⟩) 8 cb2) ∧ W.cell? ⟨M2, 0, none⟩ = some (.int .i64 2) ∧ W.cell? ⟨M2, 1, none⟩ = some (.int .i64 1) ∧ W.cell? ⟨M2, 2, none⟩ = some (.int .i64 0) ∧ W.cell? ⟨M2, 3, none⟩ = some (.int .i64 6) ∧ W.cell? ⟨M2, 4, none⟩ = some (.bool false) ∧ W.cell? ⟨M2, 5, none⟩ = some (.int .i64 0) ∧ W.cell? ⟨M2, 6, none⟩ = some (.int .u64 0) ∧ W.cell? ⟨M2, 7, none⟩ = some (.int .u64 0)) := fun W s => by
        rw [hLL] at s
        exact ⟨s.cell 1 rfl 0, s.cell 1 rfl 1, s.cell 1 rfl 2, s.cell 1 rfl 3, s.cell 0 rfl 0, s.cell 0 rfl 1, s.cell 0 rfl 2, s.cell 0 rfl 3, s.cell 0 rfl 4, s.cell 0 rfl 5, s.cell 0 rfl 6, s.cell 0 rfl 7⟩
      have HC4 : Hid (LL[4]? = some (cmI A B D (dS c z x0 4).2.1 vl vd vv dl dv)) := by show _ = _; rw [hLL]; rfl
      clear s19 hLL HX HXL HAH HAA HL4 HW4 HWL HEN HOK HLN HFT HWS HDD
      have HS20 : Hid (St w LL w18) := s20
      have v0 := (HVC.out _ s20).1
      have HXC : Hid (∀ j, j < 64 → w18.cell? ⟨qa, j, none⟩ = some (.int .i64 0)) := (HAF.out _ s20).2
      clear s20
      go_wp2_with fail
      obtain ⟨w19, hw19⟩ : ∃ y, y = w18 := ⟨_, rfl⟩
      subst hw19
      go_loopw [19] (fun i wr => ∃ j : Nat, i = .int .i64 j ∧ j ≤ 64 ∧ wr = w19) (fun i _ => 64 - (intOf i).toNat)
      case atStart => exact ⟨0, rfl, by omega, rfl⟩
      case round =>
        obtain ⟨j, rfl, hj, rfl⟩ := hrel
        by_cases hlt : j < 64
        · have h1 : (j : Int) < 64 := by omega
          have h0 : (0 : Int) ≤ (j : Int) := by omega
          have cj := HXC.out j hlt
          go_wp2_with fail
          go_roundw
          case rel => exact ⟨j + 1, by go_num, by omega, by trivial⟩
          case measure => simp [intOf]; omega
        · obtain rfl : j = 64 := by omega
          clear HXC
          obtain ⟨P, hPd⟩ : ∃ P : World → Prop, P = fun W => St w LL W := ⟨_, rfl⟩
          have hD : P wr.drew := by rw [hPd]; exact HS20.out.drew
          have CH : Hid (∀ W, P W → W.cell? ⟨V, 1, none⟩ = some (.int .i64 2) ∧ W.cell? ⟨V, 2, none⟩ = some (.int .i64 0) ∧ W.cell? ⟨V, 3, none⟩ = some (.slice (some ⟨qb, 0, none⟩) 8 cb2) ∧ W.cell? ⟨M2, 0, none⟩ = some (.int .i64 2) ∧ W.cell? ⟨M2, 1, none⟩ = some (.int .i64 1) ∧ W.cell? ⟨M2, 2, none⟩ = some (.int .i64 0) ∧ W.cell? ⟨M2, 3, none⟩ = some (.int .i64 6) ∧ W.cell? ⟨M2, 4, none⟩ = some (.bool false) ∧ W.cell? ⟨M2, 5, none⟩ = some (.int .i64 0) ∧ W.cell? ⟨M2, 6, none⟩ = some (.int .u64 0) ∧ W.cell? ⟨M2, 7, none⟩ = some (.int .u64 0) ∧ W.cell? ⟨qb, 0, none⟩ = some (.int .i64 2) ∧ W.cell? ⟨qb, 1, none⟩ = some (.int .i64 1) ∧ W.cell? ⟨qb, 2, none⟩ = some (.int .i64 0) ∧ W.cell? ⟨qb, 3, none⟩ = some (.int .i64 6) ∧ W.cell? ⟨qb, 4, none⟩ = some (.bool false) ∧ W.cell? ⟨qb, 5, none⟩ = some (.int .i64 0) ∧ W.cell? ⟨qb, 6, none⟩ = some (.int .u64 0) ∧ W.cell? ⟨qb, 7, none⟩ = some (.int .u64 0) ∧ P W) := by
            intro W hW
            have h' := hW
            rw [hPd] at h'
            obtain ⟨x0, x1, x2, x3, x4, x5, x6, x7, x8, x9, x10, x11⟩ := HVC.out _ h'
            obtain ⟨⟨y0, y1, y2, y3, y4, y5, y6, y7⟩, -⟩ := HAF.out _ h'
            exact ⟨x1, x2, x3, x4, x5, x6, x7, x8, x9, x10, x11, y0, y1, y2, y3, y4, y5, y6, y7, hW⟩
          have CC : Hid (∀ W, P W → (Calls Tryz.prog 32 #[.pointer (some ⟨B.X, 0, none⟩)] W fun e w' => e = .returned (.bool true) ∧ P w') ∧ (Calls Tryz.prog 33 #[.pointer (some ⟨B.X, 0, none⟩)] W fun e w' => e = .returned (.int .i64 7) ∧ P w') ∧ (Calls Tryz.prog 34 #[.pointer (some ⟨B.X, 0, none⟩)] W fun e w' => e = .returned (.bool false) ∧ P w') ∧ (Calls Tryz.prog 38 #[.pointer (some ⟨B.X, 0, none⟩)] W fun e w' => e = .returned (.int .i64 1) ∧ P w')) := by
            intro W hW
            have h' := hW
            rw [hPd] at h'
            obtain ⟨r1, r2, r3, r4⟩ := HCM.out W LL h' HC4.out
            refine ⟨r1.mono ?_, r2.mono ?_, r3.mono ?_, r4.mono ?_⟩
            all_goals
              rintro e w' ⟨he, rfl⟩
              exact ⟨he, hW⟩
          have HK : Hid (∀ W, P W → Kept (fun _ => False) w W) := fun W hW => by rw [hPd] at hW; exact hW.same
          clear hPd HS20 HVC HAF HCM HC4
          obtain ⟨x1, x2, x3, x4, x5, x6, x7, x8, x9, x10, x11, y0, y1, y2, y3, y4, y5, y6, y7, _⟩ := CH.out _ hD
          go_upto_region 36 with fail
          go_region_held3 (fun W => W.cell? ⟨V, 1, none⟩ = some (.int .i64 2) ∧ W.cell? ⟨V, 2, none⟩ = some (.int .i64 0) ∧ W.cell? ⟨V, 3, none⟩ = some (.slice (some ⟨qb, 0, none⟩) 8 cb2) ∧ W.cell? ⟨M2, 0, none⟩ = some (.int .i64 2) ∧ W.cell? ⟨M2, 1, none⟩ = some (.int .i64 1) ∧ W.cell? ⟨M2, 2, none⟩ = some (.int .i64 0) ∧ W.cell? ⟨M2, 3, none⟩ = some (.int .i64 6) ∧ W.cell? ⟨M2, 4, none⟩ = some (.bool false) ∧ W.cell? ⟨M2, 5, none⟩ = some (.int .i64 0) ∧ W.cell? ⟨M2, 6, none⟩ = some (.int .u64 0) ∧ W.cell? ⟨M2, 7, none⟩ = some (.int .u64 0) ∧ W.cell? ⟨qb, 0, none⟩ = some (.int .i64 2) ∧ W.cell? ⟨qb, 1, none⟩ = some (.int .i64 1) ∧ W.cell? ⟨qb, 2, none⟩ = some (.int .i64 0) ∧ W.cell? ⟨qb, 3, none⟩ = some (.int .i64 6) ∧ W.cell? ⟨qb, 4, none⟩ = some (.bool false) ∧ W.cell? ⟨qb, 5, none⟩ = some (.int .i64 0) ∧ W.cell? ⟨qb, 6, none⟩ = some (.int .u64 0) ∧ W.cell? ⟨qb, 7, none⟩ = some (.int .u64 0) ∧ P W)
            (exact CH.out _ hD)
            (first | (go_at_call 32; refine ((CC.out _ hD).1).mono ?_; rintro e wx ⟨rfl, hD⟩) | (go_at_call 33; refine ((CC.out _ hD).2.1).mono ?_; rintro e wx ⟨rfl, hD⟩) | (go_at_call 34; refine ((CC.out _ hD).2.2.1).mono ?_; rintro e wx ⟨rfl, hD⟩) | (go_at_call 38; refine ((CC.out _ hD).2.2.2).mono ?_; rintro e wx ⟨rfl, hD⟩))
          have HF : Hid _ := HK.out _ hD
          clear x1 x2 x3 x4 x5 x6 x7 x8 x9 x10 x11 y0 y1 y2 y3 y4 y5 y6 y7 CH CC HK
          go_wp2
          go_ret
          exact ⟨rfl, HF.out⟩


set_option maxRecDepth 100000 in
set_option maxHeartbeats 8000000 in
theorem doomed3 (tag how : Int) (hh : how % 4 = 3) (la : Option Addr) (n lc : Nat) (zs : List Pr) (w : World) (hP : PIn w la n zs) (hn : n ≤ 8796093022208) :
    Calls Tryz.prog 7 #[.int .i64 tag, .int .i64 how, .slice la n lc] w fun e w' => e = .returned (.bool true) ∧ Kept (fun _ => False) w w' := by
  have m3 := and3 how
  rw [hh] at m3
  clear hh
  have HP : Hid (PIn w la n zs) := hP
  clear hP
  have hq := up_any w
  go_enter Tryz.func7, Tryz.ntmps7
  go_wp2_with fail
  refine hq.mono ?_
  rintro e w1 ⟨rfl, k1⟩
  have s1 := (St.nil w).calm k1
  clear hq k1
  have hq := config_any tag 127 0 0 w1
  obtain ⟨c, hc⟩ : ∃ c, c = cfgOf tag 127 0 0 := ⟨_, rfl⟩
  have HL : Hid (LiveOk c) := by rw [hc]; exact cfgOf_live ..
  have HDF : Hid (DF c (zD3 c) ⟨2, 2, 4, 6, false, 0⟩ ⟨2, 2, 4, 6, false, 0⟩) := by rw [hc]; exact DF3 tag
  rw [← hc] at hq
  clear hc
  unfold Cfg.val at hq
  go_wp2_with fail
  refine hq.mono ?_
  rintro e w2 ⟨rfl, k2⟩
  have s2 := (s1.calm k2).box #[.int .i64 c.ce, .int .i64 c.sl, .int .i64 c.bi, .int .i64 c.ta, .int .i64 c.ba, .int .i64 c.de] 23
  clear hq k2 s1
  go_upto_region 3 with fail
  generalize w2.alloc (.cells #[.int .i64 c.ce, .int .i64 c.sl, .int .i64 c.bi, .int .i64 c.ta, .int .i64 c.ba, .int .i64 c.de] 23) = w3 at *
  generalize w2.heap.size = M at *
  have c0 : w3.cell? ⟨M, 0, none⟩ = some (.int .i64 c.ce) := s2.cell 0 rfl 0
  have c1 : w3.cell? ⟨M, 1, none⟩ = some (.int .i64 c.sl) := s2.cell 0 rfl 1
  have c2 : w3.cell? ⟨M, 2, none⟩ = some (.int .i64 c.bi) := s2.cell 0 rfl 2
  have c3 : w3.cell? ⟨M, 3, none⟩ = some (.int .i64 c.ta) := s2.cell 0 rfl 3
  have c4 : w3.cell? ⟨M, 4, none⟩ = some (.int .i64 c.ba) := s2.cell 0 rfl 4
  have c5 : w3.cell? ⟨M, 5, none⟩ = some (.int .i64 c.de) := s2.cell 0 rfl 5
  have hq := lives_st s2.pop HL.out
  unfold Cfg.val at hq
  clear s2
  go_wp2_with fail
  refine hq.mono ?_
  rintro e w4 ⟨A, J, v4, rfl, s4⟩
  clear hq c0 c1 c2 c3 c4 c5
  unfold spp
  have hs := spSlots s4 1 rfl
  unfold spp at hs
  have hq := spFree s4 1 rfl HL.out.ok (by omega) 0 1
  clear s4
  go_wp2_with (first | (go_at_call 42; refine hs.mono ?_; rintro e wq ⟨rfl, rfl⟩) | simp only [m3])
  clear hs
  refine hq.mono ?_
  rintro e w5 ⟨rfl, v5, s5'⟩
  have s5 : St w [boxI J (jd c 0) 146, spI A c (zD1 c) v5 (.slice none 0 0)] w5 := s5'
  clear hq s5' 
  have hq := spClaim s5 1 rfl (zD1_ok HL.out) (by omega) 0 6
  clear s5
  go_wp2_with fail
  refine hq.mono ?_
  rintro e w6 ⟨rfl, v6, s6'⟩
  have s6 : St w [boxI J (jd c 0) 146, spI A c (zD2 c) v6 (.slice none 0 0)] w6 := s6'
  clear hq s6' 
  have hq := spReady s6 1 rfl (zD2_ok HL.out) (by omega) 0 2 4
  clear s6
  go_wp2_with fail
  refine hq.mono ?_
  rintro e w7 ⟨rfl, v7, s7'⟩
  have s7 : St w [boxI J (jd c 0) 146, spI A c (zD3 c) v7 (.slice none 0 0)] w7 := s7'
  clear hq s7' 
  obtain ⟨z, hz⟩ : ∃ z, z = zD3 c := ⟨_, rfl⟩
  rw [← hz] at s7 HDF
  clear hz
  have t1 := HDF.out.ok
  have hq := spView s7 1 rfl t1.wl t1.h1 t1.h8
  unfold spp at hq
  clear s7 t1
  go_wp2_with fail
  refine hq.mono ?_
  rintro e w10 ⟨va, vb, rfl, s10⟩
  clear hq
  obtain ⟨pa, ca, rfl⟩ := own_form (n := z.xs.length) (s10.get 0 rfl)
  obtain ⟨pb, cb, rfl⟩ := s10.form 1 rfl (by rw [HDF.out.len]; decide)
  have s11 := s10.pop
  clear s10
  have hfv := fun W => fieldView pa (some ⟨pb, 0, none⟩) z.xs.length z.hs.length ca cb z.x.n z.x.o W
  have hq := writes_any la n lc zs w10 (HP.out.kept s11.same) hn
  go_wp2_with (simp only [hfv])
  refine hq.mono ?_
  rintro e w11 ⟨vw, ps, rfl, hW, hne, s12⟩
  have s13 := s11.add s12
  clear hq s11 s12 hfv
  obtain ⟨gw, cw, rfl⟩ := s13.form 0 rfl (List.length_pos_iff.2 hne)
  have hck := HDF.out.ck ps hW hne
  have hPI : ∀ W, St w [ownI 59 2 (.slice (some ⟨gw, 0, none⟩) ps.length cw) ps.length (prCells ps), ownI 101 8 (.slice (some ⟨pb, 0, none⟩) z.hs.length cb) z.hs.length (slCells (slots z.hs z.ws)), boxI J (jd c 0) 146, spI A c z v7 (.slice none 0 0)] W → PIn W (some ⟨gw, 0, none⟩) ps.length ps := by
    intro W hW
    obtain ⟨la', lc', e', hP, _⟩ := own_pin (show W.ownsRow 0 59 2 (.slice (some ⟨gw, 0, none⟩) ps.length cw) ps.length (prCells ps) from hW.get 0 rfl)
    simp only [Value.slice.injEq, true_and] at e'
    obtain ⟨rfl, -⟩ := e'
    exact hP
  have hq := cmNew_st s13 3 rfl HL.out.f (by rw [HDF.out.len, HDF.out.sl]; rfl) J 0 1 1 5 (some ⟨gw, 0, none⟩) ps.length cw ps hPI (by have := hW.n; omega) hck
  unfold spp at hq
  have HFX : Hid ((Cm.new 0 1 1 5 ps (ofR (cesOf ps) c.bi).1 z.hs.length).fit 8) := by
    have := Cm.fit_new (ge := 1) hck (ofR_ok (cesOf ps) c.bi) (n := z.hs.length) (by rw [HDF.out.len]; decide) (by rw [HDF.out.len, HDF.out.sl]; rfl)
    rw [HDF.out.len] at this ⊢
    exact this
  clear s13 hPI hck hW hne
  generalize ps.length = PL at *
  go_wp2_with fail
  refine hq.mono ?_
  rintro e w12 ⟨B, vl, dl, dv, rfl, hBJ, s14⟩
  subst hBJ
  clear hq
  have s15 := St.popAt (pre := [_]) s14
  clear s14
  obtain ⟨f1, f2, f3, f4, f5, f6, f7, f8⟩ := dS_four (c := c) (ps := ps) (wr := (ofR (cesOf ps) c.bi).1) (n := z.hs.length) HDF.out.x HDF.out.mine
  generalize Cm.new 0 1 1 5 ps (ofR (cesOf ps) c.bi).1 z.hs.length = x0 at *
  have HUF : Hid (∀ j, j < 4 → (dS c z x0 j).2.1.done = false ∧ (dS c z x0 j).2.1.ans (dS c z x0 j).1 = 1) := f1
  have HEN : Hid ((dS c z x0 4).2.1.done = true ∧ (dS c z x0 4).2.1.end_ = 7 ∧ (dS c z x0 4).2.1.won = false ∧ (dS c z x0 4).2.1.num = 1 ∧ (dS c z x0 4).1.x = ⟨2, 0⟩ ∧ (dS c z x0 4).1.xs = z.xs ∧ (dS c z x0 4).1.hs = (freeOp 1).H z.hs 0) := ⟨f2, f3, f4, f5, f6, f7, f8⟩
  clear f1 f2 f3 f4 f5 f6 f7 f8
  have HOK : Hid (∀ j, (dS c z x0 j).1.ok c (5 + j)) := fun j => dS_ok HDF.out.ok j
  have HLN : Hid (∀ j, (dS c z x0 j).1.hs.length = 8) := fun j => by
    have h1 := (HOK.out j).hl
    have h2 := HDF.out.sl
    omega
  have HFT : Hid (∀ j, (dS c z x0 j).2.1.fit (dS c z x0 j).1.hs.length) := fun j => by
    rw [HLN.out j]
    exact dS_fit HFX.out HDF.out.ws j
  have HWS : Hid (∀ j, WsOk (dS c z x0 j).1.ws) := fun j => by rw [dS_ws]; exact HDF.out.ws
  have HDD : Hid (∀ j, 0 ≤ (dS c z x0 j).2.2) := fun j => dS_df j
  have HS : Hid (∃ D v vl vd vv dl dv, St w [cmI A B D (dS c z x0 0).2.1 vl vd vv dl dv, ownI 101 8 (.slice (some ⟨pb, 0, none⟩) z.hs.length cb) z.hs.length (slCells (slots z.hs z.ws)), boxI B.J (jd c (dS c z x0 0).2.2) 146, spI A c (dS c z x0 0).1 v (.slice none 0 0)] w12) := ⟨_, _, _, _, _, _, _, s15⟩
  clear s15 HFX
  go_wp2_with fail
  obtain ⟨w13, hw13⟩ : ∃ y, y = w12 := ⟨_, rfl⟩
  subst hw13
  go_loopw [16] (fun i wr => ∃ j : Nat, i = .int .i64 j ∧ j ≤ 4 ∧ Hid (∃ D v vl vd vv dl dv, St w [cmI A B D (dS c z x0 j).2.1 vl vd vv dl dv, ownI 101 8 (.slice (some ⟨pb, 0, none⟩) z.hs.length cb) z.hs.length (slCells (slots z.hs z.ws)), boxI B.J (jd c (dS c z x0 j).2.2) 146, spI A c (dS c z x0 j).1 v (.slice none 0 0)] wr)) (fun i _ => 4 - (intOf i).toNat)
  case atStart => exact ⟨0, rfl, by omega, HS⟩
  case round =>
    clear HS
    obtain ⟨j, rfl, hj, HR⟩ := hrel
    by_cases hlt : j < 4
    · have h1 : (j : Int) < 4 := by omega
      obtain ⟨D, v, vl, vd, vv, dl, dv, sj⟩ := HR.out
      obtain ⟨u1, u2⟩ := HUF.out j hlt
      have hd := cmDone sj 0 rfl
      rw [u1] at hd
      have hq := cmStep sj 3 2 0 (by decide) (by decide) (by decide) rfl rfl rfl HL.out.f (HDD.out j) (HFT.out j) (HOK.out j) (by omega) (HWS.out j)
      rw [u2] at hq
      clear HR sj u1 u2
      go_wp2_with (go_at_call 32; refine hd.mono ?_; rintro e wq ⟨rfl, rfl⟩)
      refine hq.mono ?_
      rintro e w14 ⟨rfl, D', v', vl', vd', vv', dl', dv', s8⟩
      have H8 : Hid (∃ D v vl vd vv dl dv, St w [cmI A B D (dS c z x0 (j + 1)).2.1 vl vd vv dl dv, ownI 101 8 (.slice (some ⟨pb, 0, none⟩) z.hs.length cb) z.hs.length (slCells (slots z.hs z.ws)), boxI B.J (jd c (dS c z x0 (j + 1)).2.2) 146, spI A c (dS c z x0 (j + 1)).1 v (.slice none 0 0)] w14) := ⟨_, _, _, _, _, _, _, s8⟩
      clear hq hd s8
      go_wp2_with fail
      go_roundw
      case rel => exact ⟨j + 1, by go_num, by omega, H8⟩
      case measure => simp [intOf]; omega
    · obtain rfl : j = 4 := by omega
      obtain ⟨D, v, vl, vd, vv, dl, dv, sj⟩ := HR.out
      clear HR HUF
      obtain ⟨a1, a2, a3, a4, a5, a6, a7⟩ := HEN.out
      have t1 := HOK.out 4
      have hq := spView sj 3 rfl t1.wl t1.h1 t1.h8
      have HL4 : Hid ((dS c z x0 4).1.hs.length = 8) := HLN.out 4
      have HW4 : Hid ((dS c z x0 4).1.ws = z.ws) := dS_ws 4
      have HWL : Hid ((dS c z x0 4).1.ws.length = (dS c z x0 4).1.hs.length * 2) := t1.wl
      rw [a5] at hq
      simp only at hq
      unfold spp at hq
      clear sj t1
      go_wp2_with fail
      refine hq.mono ?_
      rintro e w15 ⟨va, vb, rfl, s16⟩
      clear hq
      obtain ⟨qa, ca2, rfl⟩ := s16.form 0 rfl (by rw [a6, HDF.out.xl]; decide)
      obtain ⟨qb, cb2, rfl⟩ := s16.form 1 rfl (by rw [HL4.out]; decide)
      have s17 := s16.box #[.slice (some ⟨qa, 0, none⟩) (dS c z x0 4).1.xs.length ca2, .int .i64 2, .int .i64 0, .slice (some ⟨qb, 0, none⟩) (dS c z x0 4).1.hs.length cb2] 95
      clear s16
      have HX : Hid (∀ k, k < 64 → (dS c z x0 4).1.xs.getD k 0 = 0) := fun k hk => by rw [a6]; exact HDF.out.xs k hk
      have HXL : Hid ((dS c z x0 4).1.xs.length = 64) := by show _ = _; rw [a6]; exact HDF.out.xl
      have HAH : Hid ((dS c z x0 4).1.hs.getD 0 Hd.zero = ⟨2, 2, 4, 6, false, 0⟩) := by show _ = _; rw [a7]; exact HDF.out.ah
      have HAA : Hid ((dS c z x0 4).2.1.done = true ∧ (dS c z x0 4).2.1.end_ = 7 ∧ (dS c z x0 4).2.1.won = false ∧ (dS c z x0 4).2.1.num = 1) := ⟨a1, a2, a3, a4⟩
      clear a1 a2 a3 a4 a5 a6 a7
      go_upto_region 28 with fail
      generalize w15.alloc (.cells #[.slice (some ⟨qa, 0, none⟩) (dS c z x0 4).1.xs.length ca2, .int .i64 2, .int .i64 0, .slice (some ⟨qb, 0, none⟩) (dS c z x0 4).1.hs.length cb2] 95) = w16 at *
      generalize w15.heap.size = V at *
      obtain ⟨b0, b1, b2, b3, b4, b5, b6, b7⟩ := slot_cells s17 4 rfl HDF.out.ok.wl (k := 0) (by rw [HDF.out.len]; decide)
      rw [HDF.out.bh] at b0 b1 b2 b3 b4 b5
      simp only [Nat.zero_mul, Nat.zero_add] at b0 b1 b2 b3 b4 b5 b6 b7
      rw [HDF.out.w0] at b6
      rw [HDF.out.w1] at b7
      have s18 := s17.box #[.int .i64 2, .int .i64 2, .int .i64 4, .int .i64 6, .bool false, .int .i64 0, .int .u64 0, .int .u64 0] 101
      clear s17
      have len8 : (0 : Int) < (z.hs.length : Int) := by rw [HDF.out.len]; decide
      go_upto_region 29 with fail
      generalize w16.alloc (.cells #[.int .i64 2, .int .i64 2, .int .i64 4, .int .i64 6, .bool false, .int .i64 0, .int .u64 0, .int .u64 0] 101) = w17 at *
      generalize w16.heap.size = M2 at *
      clear b0 b1 b2 b3 b4 b5 b6 b7
      go_upto_region 31 with (simp only [m3])
      obtain ⟨w18, hw18⟩ : ∃ y, y = w17 := ⟨_, rfl⟩
      subst hw18
      have s19 := s18
      clear s18
      have HAF : Hid (∀ W, St w (boxI M2 #[.int .i64 2, .int .i64 2, .int .i64 4, .int .i64 6, .bool false, .int .i64 0, .int .u64 0, .int .u64 0] 101 :: boxI V #[.slice (some ⟨qa, 0, none⟩) (dS c z x0 4).1.xs.length ca2, .int .i64 2, .int .i64 0, .slice (some ⟨qb, 0, none⟩) (dS c z x0 4).1.hs.length cb2] 95 :: ownI 2 1 (.slice (some ⟨qa, 0, none⟩) (dS c z x0 4).1.xs.length ca2) (dS c z x0 4).1.xs.length (clCells (dS c z x0 4).1.xs) :: ownI 101 8 (.slice (some ⟨qb, 0, none⟩) (dS c z x0 4).1.hs.length cb2) (dS c z x0 4).1.hs.length (slCells (slots (dS c z x0 4).1.hs (dS c z x0 4).1.ws)) :: cmI A B D (dS c z x0 4).2.1 vl vd vv dl dv :: ownI 101 8 (.slice (some ⟨pb, 0, none⟩) z.hs.length cb) z.hs.length (slCells (slots z.hs z.ws)) :: boxI B.J (jd c (dS c z x0 4).2.2) 146 :: spI A c (dS c z x0 4).1 v (.slice none 0 0) :: []) W → (W.cell? ⟨qb, 0, none⟩ = some (.int .i64 2) ∧ W.cell? ⟨qb, 1, none⟩ = some (.int .i64 2) ∧ W.cell? ⟨qb, 2, none⟩ = some (.int .i64 4) ∧ W.cell? ⟨qb, 3, none⟩ = some (.int .i64 6) ∧ W.cell? ⟨qb, 4, none⟩ = some (.bool false) ∧ W.cell? ⟨qb, 5, none⟩ = some (.int .i64 0) ∧ W.cell? ⟨qb, 6, none⟩ = some (.int .u64 0) ∧ W.cell? ⟨qb, 7, none⟩ = some (.int .u64 0)) ∧ ∀ j, j < 64 → W.cell? ⟨qa, j, none⟩ = some (.int .i64 0)) := by
        intro W s
        obtain ⟨b0, b1, b2, b3, b4, b5, b6, b7⟩ := slot_cells s 3 rfl HWL.out (k := 0) (by rw [HL4.out]; decide)
        rw [HAH.out] at b0 b1 b2 b3 b4 b5
        rw [HW4.out] at b6 b7
        simp only [Nat.zero_mul, Nat.zero_add] at b0 b1 b2 b3 b4 b5 b6 b7
        rw [HDF.out.w0] at b6
        rw [HDF.out.w1] at b7
        refine ⟨⟨b0, b1, b2, b3, b4, b5, b6, b7⟩, fun j hj => ?_⟩
        have hx := HX.out j hj
        have hl : j < (dS c z x0 4).1.xs.length := by rw [HXL.out]; exact hj
        rw [s.ownCell 2 rfl j (by omega)]
        rw [List.getD_eq_getElem?_getD, List.getElem?_eq_getElem hl, Option.getD_some] at hx
        simp [clCells, hl, hx]
      have HCM : Hid (∀ W its, St w its W → its[4]? = some (cmI A B D (dS c z x0 4).2.1 vl vd vv dl dv) → (Calls Tryz.prog 32 #[.pointer (some ⟨B.X, 0, none⟩)] W fun e w' => e = .returned (.bool true) ∧ w' = W) ∧ (Calls Tryz.prog 33 #[.pointer (some ⟨B.X, 0, none⟩)] W fun e w' => e = .returned (.int .i64 7) ∧ w' = W) ∧ (Calls Tryz.prog 34 #[.pointer (some ⟨B.X, 0, none⟩)] W fun e w' => e = .returned (.bool false) ∧ w' = W) ∧ (Calls Tryz.prog 38 #[.pointer (some ⟨B.X, 0, none⟩)] W fun e w' => e = .returned (.int .i64 1) ∧ w' = W)) := by
        intro W its s hk
        obtain ⟨q1, q2, q3, q4⟩ := HAA.out
        have r1 := cmDone s 4 hk
        have r2 := cmEnd s 4 hk
        have r3 := cmWon s 4 hk
        have r4 := cmNumber s 4 hk
        rw [q1] at r1
        rw [q2] at r2
        rw [q3] at r3
        rw [q4] at r4
        exact ⟨r1, r2, r3, r4⟩
      have hNL : (0 : Int) < ((dS c z x0 4).1.hs.length : Int) := by rw [HL4.out]; decide
      generalize hXS : (dS c z x0 4).1.xs.length = NX at *
      obtain rfl : NX = 64 := HXL.out
      clear hXS
      generalize (dS c z x0 4).1.hs.length = NHH at *
      obtain rfl : NHH = 8 := HL4.out
      obtain ⟨LL, hLL⟩ : ∃ LL : List It, LL = (boxI M2 #[.int .i64 2, .int .i64 2, .int .i64 4, .int .i64 6, .bool false, .int .i64 0, .int .u64 0, .int .u64 0] 101 :: boxI V #[.slice (some ⟨qa, 0, none⟩) 64 ca2, .int .i64 2, .int .i64 0, .slice (some ⟨qb, 0, none⟩) 8 cb2] 95 :: ownI 2 1 (.slice (some ⟨qa, 0, none⟩) 64 ca2) 64 (clCells (dS c z x0 4).1.xs) :: ownI 101 8 (.slice (some ⟨qb, 0, none⟩) 8 cb2) 8 (slCells (slots (dS c z x0 4).1.hs (dS c z x0 4).1.ws)) :: cmI A B D (dS c z x0 4).2.1 vl vd vv dl dv :: ownI 101 8 (.slice (some ⟨pb, 0, none⟩) z.hs.length cb) z.hs.length (slCells (slots z.hs z.ws)) :: boxI B.J (jd c (dS c z x0 4).2.2) 146 :: spI A c (dS c z x0 4).1 v (.slice none 0 0) :: []) := ⟨_, rfl⟩
      have s20 : St w LL w18 := by rw [hLL]; exact s19
      rw [← hLL] at HAF
      have HVC : Hid (∀ W, St w LL W → W.cell? ⟨V, 0, none⟩ = some (.slice (some ⟨qa, 0, none⟩) 64 ca2) ∧ W.cell? ⟨V, 1, none⟩ = some (.int .i64 2) ∧ W.cell? ⟨V, 2, none⟩ = some (.int .i64 0) ∧ W.cell? ⟨V, 3, none⟩ = some (.slice (some ⟨qb, 0, none⟩) 8 cb2) ∧ W.cell? ⟨M2, 0, none⟩ = some (.int .i64 2) ∧ W.cell? ⟨M2, 1, none⟩ = some (.int .i64 2) ∧ W.cell? ⟨M2, 2, none⟩ = some (.int .i64 4) ∧ W.cell? ⟨M2, 3, none⟩ = some (.int .i64 6) ∧ W.cell? ⟨M2, 4, none⟩ = some (.bool false) ∧ W.cell? ⟨M2, 5, none⟩ = some (.int .i64 0) ∧ W.cell? ⟨M2, 6, none⟩ = some (.int .u64 0) ∧ W.cell? ⟨M2, 7, none⟩ = some (.int .u64 0)) := fun W s => by
        rw [hLL] at s
        exact ⟨s.cell 1 rfl 0, s.cell 1 rfl 1, s.cell 1 rfl 2, s.cell 1 rfl 3, s.cell 0 rfl 0, s.cell 0 rfl 1, s.cell 0 rfl 2, s.cell 0 rfl 3, s.cell 0 rfl 4, s.cell 0 rfl 5, s.cell 0 rfl 6, s.cell 0 rfl 7⟩
      have HC4 : Hid (LL[4]? = some (cmI A B D (dS c z x0 4).2.1 vl vd vv dl dv)) := by show _ = _; rw [hLL]; rfl
      clear s19 hLL HX HXL HAH HAA HL4 HW4 HWL HEN HOK HLN HFT HWS HDD
      have HS20 : Hid (St w LL w18) := s20
      have v0 := (HVC.out _ s20).1
      have HXC : Hid (∀ j, j < 64 → w18.cell? ⟨qa, j, none⟩ = some (.int .i64 0)) := (HAF.out _ s20).2
      clear s20
      go_wp2_with fail
      obtain ⟨w19, hw19⟩ : ∃ y, y = w18 := ⟨_, rfl⟩
      subst hw19
      go_loopw [19] (fun i wr => ∃ j : Nat, i = .int .i64 j ∧ j ≤ 64 ∧ wr = w19) (fun i _ => 64 - (intOf i).toNat)
      case atStart => exact ⟨0, rfl, by omega, rfl⟩
      case round =>
        obtain ⟨j, rfl, hj, rfl⟩ := hrel
        by_cases hlt : j < 64
        · have h1 : (j : Int) < 64 := by omega
          have h0 : (0 : Int) ≤ (j : Int) := by omega
          have cj := HXC.out j hlt
          go_wp2_with fail
          go_roundw
          case rel => exact ⟨j + 1, by go_num, by omega, by trivial⟩
          case measure => simp [intOf]; omega
        · obtain rfl : j = 64 := by omega
          clear HXC
          obtain ⟨P, hPd⟩ : ∃ P : World → Prop, P = fun W => St w LL W := ⟨_, rfl⟩
          have hD : P wr.drew := by rw [hPd]; exact HS20.out.drew
          have CH : Hid (∀ W, P W → W.cell? ⟨V, 1, none⟩ = some (.int .i64 2) ∧ W.cell? ⟨V, 2, none⟩ = some (.int .i64 0) ∧ W.cell? ⟨V, 3, none⟩ = some (.slice (some ⟨qb, 0, none⟩) 8 cb2) ∧ W.cell? ⟨M2, 0, none⟩ = some (.int .i64 2) ∧ W.cell? ⟨M2, 1, none⟩ = some (.int .i64 2) ∧ W.cell? ⟨M2, 2, none⟩ = some (.int .i64 4) ∧ W.cell? ⟨M2, 3, none⟩ = some (.int .i64 6) ∧ W.cell? ⟨M2, 4, none⟩ = some (.bool false) ∧ W.cell? ⟨M2, 5, none⟩ = some (.int .i64 0) ∧ W.cell? ⟨M2, 6, none⟩ = some (.int .u64 0) ∧ W.cell? ⟨M2, 7, none⟩ = some (.int .u64 0) ∧ W.cell? ⟨qb, 0, none⟩ = some (.int .i64 2) ∧ W.cell? ⟨qb, 1, none⟩ = some (.int .i64 2) ∧ W.cell? ⟨qb, 2, none⟩ = some (.int .i64 4) ∧ W.cell? ⟨qb, 3, none⟩ = some (.int .i64 6) ∧ W.cell? ⟨qb, 4, none⟩ = some (.bool false) ∧ W.cell? ⟨qb, 5, none⟩ = some (.int .i64 0) ∧ W.cell? ⟨qb, 6, none⟩ = some (.int .u64 0) ∧ W.cell? ⟨qb, 7, none⟩ = some (.int .u64 0) ∧ P W) := by
            intro W hW
            have h' := hW
            rw [hPd] at h'
            obtain ⟨x0, x1, x2, x3, x4, x5, x6, x7, x8, x9, x10, x11⟩ := HVC.out _ h'
            obtain ⟨⟨y0, y1, y2, y3, y4, y5, y6, y7⟩, -⟩ := HAF.out _ h'
            exact ⟨x1, x2, x3, x4, x5, x6, x7, x8, x9, x10, x11, y0, y1, y2, y3, y4, y5, y6, y7, hW⟩
          have CC : Hid (∀ W, P W → (Calls Tryz.prog 32 #[.pointer (some ⟨B.X, 0, none⟩)] W fun e w' => e = .returned (.bool true) ∧ P w') ∧ (Calls Tryz.prog 33 #[.pointer (some ⟨B.X, 0, none⟩)] W fun e w' => e = .returned (.int .i64 7) ∧ P w') ∧ (Calls Tryz.prog 34 #[.pointer (some ⟨B.X, 0, none⟩)] W fun e w' => e = .returned (.bool false) ∧ P w') ∧ (Calls Tryz.prog 38 #[.pointer (some ⟨B.X, 0, none⟩)] W fun e w' => e = .returned (.int .i64 1) ∧ P w')) := by
            intro W hW
            have h' := hW
            rw [hPd] at h'
            obtain ⟨r1, r2, r3, r4⟩ := HCM.out W LL h' HC4.out
            refine ⟨r1.mono ?_, r2.mono ?_, r3.mono ?_, r4.mono ?_⟩
            all_goals
              rintro e w' ⟨he, rfl⟩
              exact ⟨he, hW⟩
          have HK : Hid (∀ W, P W → Kept (fun _ => False) w W) := fun W hW => by rw [hPd] at hW; exact hW.same
          clear hPd HS20 HVC HAF HCM HC4
          obtain ⟨x1, x2, x3, x4, x5, x6, x7, x8, x9, x10, x11, y0, y1, y2, y3, y4, y5, y6, y7, _⟩ := CH.out _ hD
          go_upto_region 36 with fail
          go_region_held3 (fun W => W.cell? ⟨V, 1, none⟩ = some (.int .i64 2) ∧ W.cell? ⟨V, 2, none⟩ = some (.int .i64 0) ∧ W.cell? ⟨V, 3, none⟩ = some (.slice (some ⟨qb, 0, none⟩) 8 cb2) ∧ W.cell? ⟨M2, 0, none⟩ = some (.int .i64 2) ∧ W.cell? ⟨M2, 1, none⟩ = some (.int .i64 2) ∧ W.cell? ⟨M2, 2, none⟩ = some (.int .i64 4) ∧ W.cell? ⟨M2, 3, none⟩ = some (.int .i64 6) ∧ W.cell? ⟨M2, 4, none⟩ = some (.bool false) ∧ W.cell? ⟨M2, 5, none⟩ = some (.int .i64 0) ∧ W.cell? ⟨M2, 6, none⟩ = some (.int .u64 0) ∧ W.cell? ⟨M2, 7, none⟩ = some (.int .u64 0) ∧ W.cell? ⟨qb, 0, none⟩ = some (.int .i64 2) ∧ W.cell? ⟨qb, 1, none⟩ = some (.int .i64 2) ∧ W.cell? ⟨qb, 2, none⟩ = some (.int .i64 4) ∧ W.cell? ⟨qb, 3, none⟩ = some (.int .i64 6) ∧ W.cell? ⟨qb, 4, none⟩ = some (.bool false) ∧ W.cell? ⟨qb, 5, none⟩ = some (.int .i64 0) ∧ W.cell? ⟨qb, 6, none⟩ = some (.int .u64 0) ∧ W.cell? ⟨qb, 7, none⟩ = some (.int .u64 0) ∧ P W)
            (exact CH.out _ hD)
            (first | (go_at_call 32; refine ((CC.out _ hD).1).mono ?_; rintro e wx ⟨rfl, hD⟩) | (go_at_call 33; refine ((CC.out _ hD).2.1).mono ?_; rintro e wx ⟨rfl, hD⟩) | (go_at_call 34; refine ((CC.out _ hD).2.2.1).mono ?_; rintro e wx ⟨rfl, hD⟩) | (go_at_call 38; refine ((CC.out _ hD).2.2.2).mono ?_; rintro e wx ⟨rfl, hD⟩))
          have HF : Hid _ := HK.out _ hD
          clear x1 x2 x3 x4 x5 x6 x7 x8 x9 x10 x11 y0 y1 y2 y3 y4 y5 y6 y7 CH CC HK
          go_wp2
          go_ret
          exact ⟨rfl, HF.out⟩

theorem doomedWalk (tag how : Int) (la : Option Addr) (n lc : Nat) (zs : List Pr) (w : World) (hP : PIn w la n zs) (hn : n ≤ 8796093022208) :
    Calls Tryz.prog 7 #[.int .i64 tag, .int .i64 how, .slice la n lc] w fun e w' => e = .returned (.bool true) ∧ Kept (fun _ => False) w w' := by
  have : how % 4 = 0 ∨ how % 4 = 1 ∨ how % 4 = 2 ∨ how % 4 = 3 := by omega
  rcases this with h | h | h | h
  · exact doomed0 tag how h la n lc zs w hP hn
  · exact doomed1 tag how h la n lc zs w hP hn
  · exact doomed2 tag how h la n lc zs w hP hn
  · exact doomed3 tag how h la n lc zs w hP hn

end Go.Proofs.YtgjmamgohidbiaaGreat
