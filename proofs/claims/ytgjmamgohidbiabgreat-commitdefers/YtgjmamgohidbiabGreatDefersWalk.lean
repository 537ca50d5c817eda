/- CommitDefers: the walk. -/
import Derived.Test.YtgjmamgohidbiabGreatDfA
import Derived.Deep.CutBlock
namespace Go.Proofs.YtgjmamgohidbiabGreat
open Go.RowKit
set_option linter.unusedVariables false
set_option linter.unusedSimpArgs false
attribute [local go_sem ↓] Go.wp_at_zero Go.wp_at_succ

theorem Tryz.infoSe : (Tryz.prog.info? 35).map (fun i => (i.zero, i.size, i.bytes)) = some (some (.agg #[.bool false, .bool false, .int .i64 0, .int .u64 0, .int .u64 0]), 5, 32) := by kernel_rfl
theorem buildSe (W : World) (a : Int) : (Instr.buildSlice 30 1 #[(0, .agg #[.bool true, .bool false, .int .i64 a, .int .u64 255, .int .u64 0])]).run Tryz.prog W = .ok (.slice (some ⟨W.heap.size, 0, none⟩) 1 1) (W.alloc (.cells #[.bool true, .bool false, .int .i64 a, .int .u64 255, .int .u64 0] 35)) := by kernel_rfl
theorem fieldGate (a b : Option Addr) (n m c d : Nat) (x y : Int) (W : World) : (Instr.field 60 (.agg #[.slice a n c, .int .i64 x, .int .i64 y, .slice b m d]) 1).run Tryz.prog W = .ok (.agg #[.int .i64 x, .int .i64 y]) W := by kernel_rfl
theorem fieldNum (x y : Int) (W : World) : (Instr.field 56 (.agg #[.int .i64 x, .int .i64 y]) 0).run Tryz.prog W = .ok (.int .i64 x) W := by kernel_rfl
def seCells : Nat → List Value
  | 0 => []
  | k + 1 => seCells k ++ [.bool true, .bool false, .int .i64 k, .int .u64 255, .int .u64 0]
theorem seCells_length (k : Nat) : (seCells k).length = k * 5 := by
  induction k with
  | zero => rfl
  | succ k ih => simp [seCells, ih]; omega
theorem seCells_at (n : Nat) : ∀ i, i < n → (seCells n)[i * 5]? = some (.bool true) ∧ (seCells n)[i * 5 + 1]? = some (.bool false) ∧ (seCells n)[i * 5 + 2]? = some (.int .i64 (i : Nat)) ∧ (seCells n)[i * 5 + 3]? = some (.int .u64 255) ∧ (seCells n)[i * 5 + 4]? = some (.int .u64 0) := by
  induction n with
  | zero => intro i hi; omega
  | succ n ih =>
    intro i hi
    have hl := seCells_length n
    by_cases h : i < n
    · obtain ⟨a, b, c, d, e⟩ := ih i h
      simp only [seCells]
      refine ⟨?_, ?_, ?_, ?_, ?_⟩
      all_goals rw [List.getElem?_append_left (by omega)]; assumption
    · obtain rfl : i = n := by omega
      simp only [seCells]
      refine ⟨?_, ?_, ?_, ?_, ?_⟩
      all_goals
        rw [List.getElem?_append_right (by omega), hl]
        simp
theorem ses_own {W : World} {la : Option Addr} {n lc : Nat} (h : W.ownsRow 0 35 5 (.slice la n lc) n (seCells n)) : SesAt W la n dfF := by
  rcases h.2 with ⟨e, hn⟩ | ⟨g, cap, cur, e, _⟩
  · exact .inl hn
  · simp only [Value.slice.injEq] at e
    obtain ⟨rfl, -, -⟩ := e
    refine .inr ⟨g, 0, rfl, fun i hi => ?_⟩
    obtain ⟨a, b, c, d, e⟩ := seCells_at n i hi
    have hc : ∀ j, j < n * 5 → W.cell? ⟨g, j, none⟩ = (seCells n)[j]? := fun j hj => h.cellAt j hj
    rw [Nat.zero_add]
    exact ⟨(hc _ (by omega)).trans a, (hc _ (by omega)).trans b, (hc _ (by omega)).trans c, (hc _ (by omega)).trans d, (hc _ (by omega)).trans e, by show 255 < _; decide, by show 0 < _; decide⟩
/-- Ahead of try t, or behind the last. -/
structure DR (c : Cfg) (n wn t : Nat) (df : Int) (z : SSt) : Prop where
  ok : z.ok c (40 + 60 * t)
  df0 : 0 ≤ df
  on : t ≤ wn → df = t ∧ DI n t z ∧ (t = 0 → nowAt z.hs 0 = ⟨1, 2, 5, 1, false, 0⟩) ∧ (0 < t → nowAt z.hs 0 = ⟨(t : Int), 0, 0, 0, false, 0⟩)
  off : t = wn + 1 → df = wn ∧ z.xs.getD 1 0 = 4 ∧ z.xs.length = 64 ∧ ∀ i : Nat, 1 ≤ i → i ≤ n → (z.hs.getD i Hd.zero).dm = true ∧ (z.hs.getD i Hd.zero).wy = 1
theorem WsOk.df {n t : Nat} {z : SSt} (h : DI n t z) (hn : n < 8) : WsOk z.ws := by rw [h.ws]; exact dfWs_ok hn
/-- Slot 0 is taken anew. -/
theorem df_again {c : Cfg} {n t N : Nat} {z : SSt} (h : DI n t z) (ht : 0 < t) (ho : nowAt z.hs 0 = ⟨(t : Int), 0, 0, 0, false, 0⟩) (ok : z.ok c N) :
    claimR z.hs 0 1 = (t : Int) + 1 ∧ (claimOp 1).E z.hs 0 = 0 ∧ (readyOp ((t : Int) + 1) 5).E (z.op (claimOp 1) 0).hs 0 = 0 ∧ DI n t ((z.op (claimOp 1) 0).op (readyOp ((t : Int) + 1) 5) 0) ∧ nowAt ((z.op (claimOp 1) 0).op (readyOp ((t : Int) + 1) 5) 0).hs 0 = ⟨(t : Int) + 1, 2, 5, 1, false, 0⟩ ∧ (z.op (claimOp 1) 0).ok c (N + 1) ∧ ((z.op (claimOp 1) 0).op (readyOp ((t : Int) + 1) 5) 0).ok c (N + 2) := by
  have hl := h.hl
  have e : headAt z.hs 0 = some ⟨(t : Int), 0, 0, 0, false, 0⟩ := by
    have := headAt_in (hs := z.hs) (k := 0) (by omega)
    rw [show ((0 : Nat) : Int) = 0 from rfl] at this
    unfold nowAt at ho
    rw [this] at ho ⊢
    simp at ho
    rw [ho]
  have e1 : (z.op (claimOp 1) 0).hs = z.hs.set 0 ⟨(t : Int) + 1, 1, 0, 1, false, 0⟩ := by
    show (claimOp 1).H z.hs 0 = _
    unfold HOp.H
    rw [e]
    rfl
  have e2 : headAt (z.op (claimOp 1) 0).hs 0 = some ⟨(t : Int) + 1, 1, 0, 1, false, 0⟩ := by
    rw [e1]
    unfold headAt
    simp [hl]
  have e3 : ((z.op (claimOp 1) 0).op (readyOp ((t : Int) + 1) 5) 0).hs = z.hs.set 0 ⟨(t : Int) + 1, 2, 5, 1, false, 0⟩ := by
    show (readyOp ((t : Int) + 1) 5).H (z.op (claimOp 1) 0).hs 0 = _
    unfold HOp.H
    rw [e2]
    simp [readyOp, e1]
  have k1 := ok.op (claimOp 1) 0 (claim_keeps ok.hd _ _)
  refine ⟨?_, ?_, ?_, ⟨h.x, h.ws, by rw [e3]; simp [hl], fun s hs => by rw [e3, List.getElem?_set_ne (by omega)]; exact h.ot s hs, h.xs⟩, ?_, k1, k1.op _ _ (ready_keeps k1.hd _ _ _)⟩
  · unfold claimR; rw [e]; rfl
  · unfold HOp.E; rw [e]; rfl
  · unfold HOp.E
    rw [e2]
    simp [readyOp]
  · rw [e3]
    unfold nowAt headAt
    simp [hl]

set_option maxRecDepth 100000 in
set_option maxHeartbeats 8000000 in
theorem defers_walk (bias most many : Int) (w : World) :
    Calls Tryz.prog 3 #[.int .i64 bias, .int .i64 most, .int .i64 many] w fun e w' => e = .returned (.bool true) ∧ Kept (fun _ => False) w w' := by
  obtain ⟨i0, hi0, hz0, hz1, hz2⟩ := info_parts Tryz.infoSe
  obtain ⟨n, hn7, hn8⟩ : ∃ n : Nat, bits .and .i64 many 7 = (n : Int) ∧ n < 8 := ⟨(many % 8).toNat, by rw [and7]; omega, by omega⟩
  have nn0 : (0 : Int) ≤ (n : Int) := by omega
  have nn8 : (n : Int) < 8 := by omega
  have hq := up_any w
  go_enter Tryz.func3, Tryz.ntmps3
  go_wp2_with fail
  refine hq.mono ?_
  rintro e w1 ⟨rfl, k1⟩
  have s1 := (St.nil w).calm k1
  clear hq k1
  have hq := config_any 1 7 bias most w1
  obtain ⟨c, hc⟩ : ∃ c, c = cfgOf 1 7 bias most := ⟨_, rfl⟩
  have HC : Hid (DfC c n) := by rw [hc]; exact dfC bias most hn8
  rw [← hc] at hq
  clear hc
  unfold Cfg.val at hq
  go_wp2_with fail
  refine hq.mono ?_
  rintro e w2 ⟨rfl, k2⟩
  have s2 := (s1.calm k2).box #[.int .i64 c.ce, .int .i64 c.sl, .int .i64 c.bi, .int .i64 c.ta, .int .i64 c.ba, .int .i64 c.de] 24
  clear hq k2 s1
  go_upto_region 3 with fail
  generalize w2.alloc (.cells #[.int .i64 c.ce, .int .i64 c.sl, .int .i64 c.bi, .int .i64 c.ta, .int .i64 c.ba, .int .i64 c.de] 24) = w3 at *
  generalize w2.heap.size = M at *
  have c0 : w3.cell? ⟨M, 0, none⟩ = some (.int .i64 c.ce) := s2.cell 0 rfl 0
  have c1 : w3.cell? ⟨M, 1, none⟩ = some (.int .i64 c.sl) := s2.cell 0 rfl 1
  have c2 : w3.cell? ⟨M, 2, none⟩ = some (.int .i64 c.bi) := s2.cell 0 rfl 2
  have c3 : w3.cell? ⟨M, 3, none⟩ = some (.int .i64 c.ta) := s2.cell 0 rfl 3
  have c4 : w3.cell? ⟨M, 4, none⟩ = some (.int .i64 c.ba) := s2.cell 0 rfl 4
  have c5 : w3.cell? ⟨M, 5, none⟩ = some (.int .i64 c.de) := s2.cell 0 rfl 5
  have hq := lives_st s2 HC.out.live
  unfold Cfg.val at hq
  clear s2
  go_wp2_with fail
  refine hq.mono ?_
  rintro e w4 ⟨A, J, v4, rfl, s4⟩
  clear hq c0 c1 c2 c3 c4 c5
  unfold spp
  have s5 := s4.own (Kept.refl _ w4) (World.ownsRow_nil w4 w4.heap.size 35 5)
  clear s4
  go_wp2_with (simp only [hn7])
  go_loopw [13, 14] (fun v i wr => ∃ k : Nat, i = .int .i64 k ∧ k ≤ n ∧ St w [ownI 35 5 v k (seCells k), boxI J (jd c 0) 105, spI A c (liveZ c) v4 (.slice none 0 0), boxI M #[.int .i64 c.ce, .int .i64 c.sl, .int .i64 c.bi, .int .i64 c.ta, .int .i64 c.ba, .int .i64 c.de] 24] wr) (fun _ i _ => n - (intOf i).toNat)
  case atStart => exact ⟨0, rfl, Nat.zero_le _, s5⟩
  case round =>
    clear s5
    rename_i v3 _
    obtain ⟨k, rfl, hk, hS⟩ := hrel
    obtain ⟨la', lc', hv⟩ := own_form (n := k) (hS.get 0 rfl)
    subst hv
    have hk0 : (0 : Int) ≤ (k : Int) := by omega
    by_cases hlt : k < n
    · focus
        have h1 : (k : Int) < (n : Int) := by omega
        have hbs := buildSe wr (k : Int)
        have ho : wr.ownsRow 0 35 5 (.slice la' k lc') k (seCells k) := hS.get 0 rfl
        have HS2 : Hid _ := hS
        clear hS
        generalize hPC : seCells k = PC at *
        have HPC : Hid (seCells k = PC) := hPC
        clear hPC
        go_wp2_with (at_builtin; refine wpList_append_lies _ rfl (.tmp 49) (.tmp 53) 30 rfl 0 35 i0 _ 5 32 Tryz.underlying30 hi0 hz0 hz1 hz2 rfl (by omega) _ k PC rfl (ho.alloc _) ⟨wr.heap.size, 0, none⟩ 1 1 [.bool true, .bool false, .int .i64 (k : Int), .int .u64 255, .int .u64 0] rfl (by simp) (World.news_of_block (cs := #[.bool true, .bool false, .int .i64 (k : Int), .int .u64 255, .int .u64 0]) (t := 35) (fr := (0, 0)) (heap_alloc_new wr _)) (by simp [Value.oneCell']) (by omega) (by unfold maxLen; omega) (by omega) (Nat.zero_le _) (wr.heap.size + 1) (by simp) ?_; intro g2 cap2 w5 hown5 hgrow hat hlt5)
        go_roundw
        case rel =>
          refine ⟨k + 1, by go_num, hlt, ?_⟩
          have s3 := HS2.out.growAt 0 rfl hown5 hgrow hat
          rw [seCells, HPC.out]
          exact s3
        case measure => simp [intOf]; omega
    · obtain rfl : n = k := by omega
      have h1 : ¬ (n : Int) < (n : Int) := by omega
      obtain ⟨w6, hw6⟩ : ∃ y, y = wr := ⟨_, rfl⟩
      subst hw6
      have hq := seats_st (cap := lc') hS 2 rfl HC.out.live.ok (by omega) HC.out.sl (a := la') (len := n) (f := dfF) (fun z' v' W hW => ses_own (hW.get 0 rfl))
      unfold spp at hq
      clear hS
      go_wp2_with fail
      refine hq.mono ?_
      rintro e w7 ⟨rfl, v7, s7'⟩
      clear hq
      have s7 : St w [boxI J (jd c 0) 105, spI A c (dfZ c n) v7 (.slice none 0 0), boxI M #[.int .i64 c.ce, .int .i64 c.sl, .int .i64 c.bi, .int .i64 c.ta, .int .i64 c.ba, .int .i64 c.de] 24] w7 := by
        have e : min n 7 = n := by omega
        rw [e] at s7'
        exact s7'.pop
      clear s7'
      have m4 : w7.cell? ⟨M, 4, none⟩ = some (.int .i64 c.ba) := s7.cell 2 rfl 4
      have m5 : w7.cell? ⟨M, 5, none⟩ = some (.int .i64 c.de) := s7.cell 2 rfl 5
      obtain ⟨wn, hwn⟩ : ∃ wn : Nat, (wn : Int) = if c.ba < (n : Int) then c.de else 0 := ⟨(if c.ba < (n : Int) then c.de else 0).toNat, by have := HC.out.d0; split <;> omega⟩
      have HWN : Hid ((wn : Int) = if c.ba < (n : Int) then c.de else 0) := hwn
      have HW63 : Hid (wn ≤ 63) := by
        have h1 := HC.out.d63
        have h2 := HWN.out
        show wn ≤ 63
        split at h2 <;> omega
      have HDR : Hid (DR c n wn 0 0 (dfZ c n)) := by
        refine ⟨HC.out.ok.more (by omega), Int.le_refl _, fun _ => ⟨rfl, ⟨?_, HC.out.ws, ?_, fun s _ => by rw [HC.out.hs], HC.out.xs⟩, fun _ => ?_, fun h => absurd h (by omega)⟩, fun h => absurd h (by omega)⟩
        · exact (seatsZ_rest _ _ _).1
        · rw [HC.out.hs]; exact dfH_len n hn8
        · rw [HC.out.hs]; exact (seatsZ_own _ _ _).trans rfl
      go_upto_if 61 with fail
      go_cut [15] from 58 to 63 (fun u wx => u = .int .i64 (wn : Int) ∧ wx = w7)
      case first =>
        by_cases hb : c.ba < (n : Int)
        · have e1 : (wn : Int) = c.de := by rw [hwn, if_pos hb]
          clear hwn
          go_wp2_with fail
          go_meet
          exact ⟨by rw [e1], rfl⟩
        · have e1 : (wn : Int) = 0 := by rw [hwn, if_neg hb]
          clear hwn
          go_wp2_with fail
          go_meet
          exact ⟨by rw [e1], rfl⟩
      case rest =>
        obtain ⟨rfl, rfl⟩ := hcut
        obtain ⟨w8, hw8⟩ : ∃ y, y = wc := ⟨_, rfl⟩
        subst hw8
        clear hwn m4 m5
        have HS0 : Hid (∃ z df v, St w [boxI J (jd c df) 105, spI A c z v (.slice none 0 0), boxI M #[.int .i64 c.ce, .int .i64 c.sl, .int .i64 c.bi, .int .i64 c.ta, .int .i64 c.ba, .int .i64 c.de] 24] w8 ∧ DR c n wn 0 df z) := ⟨_, _, _, s7, HDR.out⟩
        clear s7 HDR
        have hw0 : (0 : Int) ≤ (wn : Int) := by omega
        have hw63 : (wn : Int) ≤ 63 := by have := HW63.out; omega
        go_wp2_with fail
        go_loopw [16] (fun i wr => ∃ t : Nat, i = .int .i64 t ∧ t ≤ wn + 1 ∧ Hid (∃ z df v, St w [boxI J (jd c df) 105, spI A c z v (.slice none 0 0), boxI M #[.int .i64 c.ce, .int .i64 c.sl, .int .i64 c.bi, .int .i64 c.ta, .int .i64 c.ba, .int .i64 c.de] 24] wr ∧ DR c n wn t df z)) (fun i _ => wn + 1 - (intOf i).toNat)
        case atStart => exact ⟨0, rfl, by omega, HS0⟩
        case round =>
          clear HS0
          obtain ⟨t, rfl, ht, HR⟩ := hrel
          have ht0 : (0 : Int) ≤ (t : Int) := by omega
          have ht64 : (t : Int) ≤ 64 := by omega
          by_cases hlt : t ≤ wn
          · have h1 : (t : Int) ≤ (wn : Int) := by omega
            obtain ⟨z, df, v, sj, hdr⟩ := HR.out
            obtain ⟨rfl, hDI, hz0', hz1'⟩ := hdr.on hlt
            have HOK : Hid (z.ok c (40 + 60 * t)) := hdr.ok
            have HD : Hid (DI n t z) := hDI
            have HO0 : Hid (t = 0 → nowAt z.hs 0 = ⟨1, 2, 5, 1, false, 0⟩) := hz0'
            have HO1 : Hid (0 < t → nowAt z.hs 0 = ⟨(t : Int), 0, 0, 0, false, 0⟩) := hz1'
            clear HR hdr hDI hz0' hz1'
            go_upto_if 70 with fail
            go_cut [16] from 64 to 150 (fun u wx => u = .int .i64 (t : Int) ∧ Hid (∃ z v, St w [boxI J (jd c (t : Int)) 105, spI A c z v (.slice none 0 0), boxI M #[.int .i64 c.ce, .int .i64 c.sl, .int .i64 c.bi, .int .i64 c.ta, .int .i64 c.ba, .int .i64 c.de] 24] wx ∧ DI n t z ∧ nowAt z.hs 0 = ⟨(t : Int) + 1, 2, 5, 1, false, 0⟩ ∧ z.ok c (42 + 60 * t)))
            case first =>
              by_cases hz : t = 0
              · have h2 : ¬ (t : Int) > 0 := by omega
                have HE : Hid (∃ z v, St w [boxI J (jd c (t : Int)) 105, spI A c z v (.slice none 0 0), boxI M #[.int .i64 c.ce, .int .i64 c.sl, .int .i64 c.bi, .int .i64 c.ta, .int .i64 c.ba, .int .i64 c.de] 24] wr ∧ DI n t z ∧ nowAt z.hs 0 = ⟨(t : Int) + 1, 2, 5, 1, false, 0⟩ ∧ z.ok c (42 + 60 * t)) := ⟨z, v, sj, HD.out, by rw [HO0.out hz, hz]; rfl, HOK.out.more (by omega)⟩
                clear sj
                go_wp2_with fail
                go_meet
                exact ⟨by rw [hz]; rfl, HE⟩
              · have h2 : (t : Int) > 0 := by omega
                obtain ⟨a1, a2, a3, a4, a5, a6, a7⟩ := df_again HD.out (by omega) (HO1.out (by omega)) HOK.out
                have HA : Hid (DI n t ((z.op (claimOp 1) 0).op (readyOp ((t : Int) + 1) 5) 0) ∧ nowAt ((z.op (claimOp 1) 0).op (readyOp ((t : Int) + 1) 5) 0).hs 0 = ⟨(t : Int) + 1, 2, 5, 1, false, 0⟩ ∧ ((z.op (claimOp 1) 0).op (readyOp ((t : Int) + 1) 5) 0).ok c (42 + 60 * t)) := ⟨a4, a5, a7.more (by omega)⟩
                have hs := spSlots sj 1 rfl
                unfold spp at hs
                have hq := spClaim sj 1 rfl HOK.out (by omega) 0 1
                rw [a1, a2] at hq
                clear sj a1 a2 a4 a5 a7
                go_wp2_with (go_at_call 8; refine hs.mono ?_; rintro e wq ⟨rfl, rfl⟩)
                refine hq.mono ?_
                rintro e w9 ⟨rfl, v9, s9⟩
                clear hq hs
                simp only [List.set] at s9
                have hs := spSlots s9 1 rfl
                unfold spp at hs
                have hq := spReady s9 1 rfl a6 (by omega) 0 ((t : Int) + 1) 5
                rw [a3] at hq
                clear s9 a3 a6
                go_wp2_with (go_at_call 8; refine hs.mono ?_; rintro e wq ⟨rfl, rfl⟩)
                refine hq.mono ?_
                rintro e w10 ⟨rfl, v10, s10⟩
                clear hq hs
                simp only [List.set] at s10
                have HE : Hid (∃ z v, St w [boxI J (jd c (t : Int)) 105, spI A c z v (.slice none 0 0), boxI M #[.int .i64 c.ce, .int .i64 c.sl, .int .i64 c.bi, .int .i64 c.ta, .int .i64 c.ba, .int .i64 c.de] 24] w10 ∧ DI n t z ∧ nowAt z.hs 0 = ⟨(t : Int) + 1, 2, 5, 1, false, 0⟩ ∧ z.ok c (42 + 60 * t)) := ⟨_, v10, s10, HA.out⟩
                clear s10
                go_wp2_with fail
                go_meet
                exact ⟨rfl, HE⟩
            case rest =>
              obtain ⟨rfl, HE⟩ := hcut
              clear sj HD HO0 HO1 HOK
              clear z v
              obtain ⟨z, v, s11, hD, hO, hok⟩ := HE.out
              clear HE
              obtain ⟨w11, hw11⟩ : ∃ y, y = wc := ⟨_, rfl⟩
              subst hw11
              have hbp := buildPr w11 1 4
              have s12 := s11.row2 (.int .i64 1) (.int .i64 4) 47
              clear s11
              have hPI : ∀ W, St w [ownI 47 2 (.slice (some ⟨w11.heap.size, 0, none⟩) 1 1) 1 [.int .i64 1, .int .i64 4], boxI J (jd c (t : Int)) 105, spI A c z v (.slice none 0 0), boxI M #[.int .i64 c.ce, .int .i64 c.sl, .int .i64 c.bi, .int .i64 c.ta, .int .i64 c.ba, .int .i64 c.de] 24] W → PIn W (some ⟨w11.heap.size, 0, none⟩) 1 dfP := by
                intro W hW
                obtain ⟨la', lc', e', hP, _⟩ := own_pin (ys := dfP) (show W.ownsRow 0 47 2 (.slice (some ⟨w11.heap.size, 0, none⟩) 1 1) 1 (prCells dfP) from hW.get 0 rfl)
                simp only [Value.slice.injEq] at e'
                obtain ⟨rfl, -, -⟩ := e'
                exact hP
              have hl8 : (z.hs.length : Int) = c.sl := by rw [hD.hl, HC.out.sl]; rfl
              have hq := cmNew_st s12 2 rfl HC.out.live.f hl8 J 0 ((t : Int) + 1) 1 5 (some ⟨w11.heap.size, 0, none⟩) 1 1 dfP hPI (by omega) HC.out.ck
              unfold spp at hq
              have hbi : (ofR (cesOf dfP) c.bi).1 = dfW := by rw [HC.out.bi]; rfl
              rw [hbi, hD.hl] at hq
              clear hbi
              have HFX : Hid ((Cm.new 0 ((t : Int) + 1) 1 5 dfP dfW 8).fit 8) := by
                have := Cm.fit_new (ge := (t : Int) + 1) HC.out.ck dfW_ok (n := 8) (Nat.le_refl _) (by rw [HC.out.sl]; rfl)
                exact this
              obtain ⟨K, z1, x1, df1, b1, b2, b3, b4, b5, b6, b7, b8⟩ := df_try HC.out hD hO hok
              have HW : Hid (WsOk z.ws) := WsOk.df hD hn8
              have HOK : Hid (z.ok c (42 + 60 * t)) := hok
              have HB2 : Hid (∀ j, j < K → (cS c (z, Cm.new 0 ((t : Int) + 1) 1 5 dfP dfW 8, (t : Int)) j).2.1.done = false) := b2
              have HB3 : Hid (cS c (z, Cm.new 0 ((t : Int) + 1) 1 5 dfP dfW 8, (t : Int)) K = (z1, x1, df1)) := b3
              have HB4 : Hid (x1.done = true ∧ x1.lk.vs.length = n ∧ z1.x.n = 2 * ((t : Int) + 1)) := ⟨b4, b5, b6⟩
              have HB7 : Hid _ := b7
              have HB8 : Hid _ := b8
              clear s12 hPI hl8 hD hO hok b2 b3 b4 b5 b6 b7 b8
              go_wp2_with fail
              refine hq.mono ?_
              rintro e w12 ⟨B, vl, dl, dv, rfl, hBJ, s13⟩
              subst hBJ
              clear hq hbp
              have s14 : St w [cmI A B 0 (Cm.new 0 ((t : Int) + 1) 1 5 dfP dfW 8) vl (.slice none 0 0) (.slice none 0 0) dl dv, boxI B.J (jd c (t : Int)) 105, spI A c z v (.slice none 0 0), boxI M #[.int .i64 c.ce, .int .i64 c.sl, .int .i64 c.bi, .int .i64 c.ta, .int .i64 c.ba, .int .i64 c.de] 24] w12 := St.popAt (pre := [_]) s13
              clear s13
              obtain ⟨T, hT⟩ : ∃ T : SSt × Cm × Int, T = (z, Cm.new 0 ((t : Int) + 1) 1 5 dfP dfW 8, (t : Int)) := ⟨_, rfl⟩
              have HOT : Hid (∀ j, (cS c T j).1.ok c (42 + 60 * t + j)) := fun j => cS_ok (by rw [hT]; exact HOK.out) j
              have HFT : Hid (∀ j, (cS c T j).2.1.fit (cS c T j).1.hs.length) := fun j => by
                have h1 := (HOT.out j).hl
                have h2 := HC.out.sl
                have h3 : (cS c T j).1.hs.length = 8 := by omega
                rw [h3]
                exact cS_fit (by rw [hT]; exact HFX.out) (by rw [hT]; exact HW.out) j
              have HWT : Hid (∀ j, WsOk (cS c T j).1.ws) := fun j => by rw [cS_ws, hT]; exact HW.out
              have HDT : Hid (∀ j, 0 ≤ (cS c T j).2.2) := fun j => cS_df (by rw [hT]; exact ht0) j
              have HTN : Hid (∀ j, (cS c T (j + 1)).1 = (cS c T j).1.commits (cS c T j).2.1 ∧ (cS c T (j + 1)).2.1 = (cS c T j).2.1.next c (cS c T j).1 (cS c T j).2.2 ∧ (cS c T (j + 1)).2.2 = (cS c T j).2.1.nextDf c (cS c T j).1 (cS c T j).2.2) := fun j => ⟨rfl, rfl, rfl⟩
              have HS : Hid (∃ D v vl vd vv dl dv, St w [cmI A B D (cS c T 0).2.1 vl vd vv dl dv, boxI B.J (jd c (cS c T 0).2.2) 105, spI A c (cS c T 0).1 v (.slice none 0 0), boxI M #[.int .i64 c.ce, .int .i64 c.sl, .int .i64 c.bi, .int .i64 c.ta, .int .i64 c.ba, .int .i64 c.de] 24] w12) := by
                show ∃ _, _
                rw [hT]
                exact ⟨_, _, _, _, _, _, _, s14⟩
              rw [← hT] at HB2 HB3
              clear s14 hT HFX HW HOK
              have hK : (K : Int) ≤ 50 := by omega
              go_wp2_with fail
              obtain ⟨w13, hw13⟩ : ∃ y, y = w12 := ⟨_, rfl⟩
              subst hw13
              go_loopw [22] (fun i wr => ∃ j : Nat, i = .int .i64 j ∧ j ≤ K ∧ Hid (∃ D v vl vd vv dl dv, St w [cmI A B D (cS c T j).2.1 vl vd vv dl dv, boxI B.J (jd c (cS c T j).2.2) 105, spI A c (cS c T j).1 v (.slice none 0 0), boxI M #[.int .i64 c.ce, .int .i64 c.sl, .int .i64 c.bi, .int .i64 c.ta, .int .i64 c.ba, .int .i64 c.de] 24] wr)) (fun i _ => K - (intOf i).toNat)
              case atStart => exact ⟨0, rfl, Nat.zero_le _, HS⟩
              case round =>
                clear HS vl dl dv
                obtain ⟨j, rfl, hj, HR⟩ := hrel
                have hj0 : (0 : Int) ≤ (j : Int) := by omega
                have hj80 : (j : Int) < 80 := by omega
                obtain ⟨D, v, vl, vd, vv, dl, dv, sj⟩ := HR.out
                have hd := cmDone sj 0 rfl
                by_cases hlt2 : j < K
                · focus
                    rw [HB2.out j hlt2] at hd
                    have hq := cmStep sj 2 1 0 (by decide) (by decide) (by decide) rfl rfl rfl HC.out.live.f (HDT.out j) (HFT.out j) (HOT.out j) (by omega) (HWT.out j)
                    clear HR sj
                    go_wp2_with (go_at_call 12; refine hd.mono ?_; rintro e wq ⟨rfl, rfl⟩)
                    refine hq.mono ?_
                    rintro e w14 ⟨rfl, D', v', vl', vd', vv', dl', dv', s8⟩
                    have H8 : Hid (∃ D v vl vd vv dl dv, St w [cmI A B D (cS c T (j + 1)).2.1 vl vd vv dl dv, boxI B.J (jd c (cS c T (j + 1)).2.2) 105, spI A c (cS c T (j + 1)).1 v (.slice none 0 0), boxI M #[.int .i64 c.ce, .int .i64 c.sl, .int .i64 c.bi, .int .i64 c.ta, .int .i64 c.ba, .int .i64 c.de] 24] w14) := ⟨_, _, _, _, _, _, _, s8⟩
                    clear hq hd s8
                    go_wp2_with fail
                    go_roundw
                    case rel => exact ⟨j + 1, by go_num, by omega, H8⟩
                    case measure => simp [intOf]; omega
                · obtain rfl : K = j := by omega
                  have okK := HOT.out K
                  have ftK := HFT.out K
                  rw [HB3.out] at sj hd okK ftK
                  rw [HB4.out.1] at hd
                  have HO1 : Hid (z1.ok c (42 + 60 * t + K)) := okK
                  have hE := cmEnd sj 0 rfl
                  have hV := cmVictims sj 0 rfl ftK.lk
                  have HOP : Hid (z1.ok c (42 + 60 * t + K)) := okK
                  rw [HB4.out.2.1] at hV
                  clear HR okK ftK HB2 HB3 HOT HFT HWT HDT HTN
                  have HS1 : Hid _ := sj
                  clear sj
                  obtain ⟨w15, hw15⟩ : ∃ y, y = wr := ⟨_, rfl⟩
                  subst hw15
                  go_upto_if 124 with (go_at_call 12; refine hd.mono ?_; rintro e wq ⟨rfl, rfl⟩)
                  obtain ⟨w16, hw16⟩ : ∃ y, y = wq := ⟨_, rfl⟩
                  subst hw16
                  go_cut [23] from 64 to 150 (fun u wx => u = .int .i64 x1.end_ ∧ wx = w16)
                  case first =>
                    by_cases hl : t = wn
                    · have h2 : ((t : Int) == (wn : Int)) = true := by simp [hl]
                      have e1 : x1.end_ = 0 := by
                        refine (HB8.out ?_).2.1
                        rintro ⟨p1, p2⟩
                        have := HWN.out
                        rw [if_pos p1] at this
                        omega
                      go_wp2_with fail
                      go_meet
                      exact ⟨by rw [e1], rfl⟩
                    · have h2 : ((t : Int) == (wn : Int)) = false := by simp; omega
                      have e1 : x1.end_ = 9 := by
                        refine (HB7.out ?_).2.1
                        have := HWN.out
                        split at this
                        · rename_i p1
                          exact ⟨p1, by omega⟩
                        · omega
                      go_wp2_with fail
                      go_meet
                      exact ⟨by rw [e1], rfl⟩
                  case rest =>
                    obtain ⟨rfl, rfl⟩ := hcut
                    obtain ⟨w17, hw17⟩ : ∃ y, y = wc := ⟨_, rfl⟩
                    subst hw17
                    have hee : (x1.end_ != x1.end_) = false := by simp
                    go_wp2_with fail
                    refine hd.mono ?_
                    rintro e wq ⟨rfl, rfl⟩
                    go_wp2_with fail
                    refine hE.mono ?_
                    rintro e wq ⟨rfl, rfl⟩
                    go_wp2_with fail
                    refine hV.mono ?_
                    rintro e w18 ⟨vv1, rfl, s18⟩
                    clear hd hE hV HS1
                    obtain ⟨va1, ca1, rfl⟩ := own_form (n := n) (s18.get 0 rfl)
                    have s19 := s18.pop
                    clear s18
                    have hvw := spView s19 2 rfl HOP.out.wl HOP.out.h1 HOP.out.h8
                    rw [HB4.out.2.2] at hvw
                    unfold spp at hvw
                    clear s19
                    have hnn : ((n : Int) != (n : Int)) = false := by simp
                    go_wp2_with fail
                    refine hvw.mono ?_
                    rintro e w20 ⟨va, vb, rfl, s20⟩
                    clear hvw
                    obtain ⟨pa, ca2, rfl⟩ := own_form (n := z1.xs.length) (s20.get 0 rfl)
                    obtain ⟨pb, cb2, rfl⟩ := own_form (n := z1.hs.length) (s20.get 1 rfl)
                    have hfg := fun W => fieldGate pa pb z1.xs.length z1.hs.length ca2 cb2 (2 * ((t : Int) + 1)) z1.x.o W
                    have hfn := fun W => fieldNum (2 * ((t : Int) + 1)) z1.x.o W
                    have HS2 : Hid (∃ z df v, St w [boxI B.J (jd c df) 105, spI A c z v (.slice none 0 0), boxI M #[.int .i64 c.ce, .int .i64 c.sl, .int .i64 c.bi, .int .i64 c.ta, .int .i64 c.ba, .int .i64 c.de] 24] w20 ∧ DR c n wn (t + 1) df z) := by
                      refine ⟨z1, df1, _, s20.pop.pop.pop, HOP.out.more (by omega), ?_, fun hle => ?_, fun he => ?_⟩
                      · by_cases hq : c.ba < (n : Int) ∧ (t : Int) < c.de
                        · rw [(HB7.out hq).1]; omega
                        · rw [(HB8.out hq).1]; omega
                      · have hq : c.ba < (n : Int) ∧ (t : Int) < c.de := by
                          have := HWN.out
                          split at this
                          · rename_i p1
                            exact ⟨p1, by omega⟩
                          · omega
                        obtain ⟨g1, g2, g3, g4⟩ := HB7.out hq
                        refine ⟨by rw [g1]; push_cast; rfl, g3, fun h => absurd h (by omega), fun _ => ?_⟩
                        rw [g4]
                        push_cast
                        rfl
                      · have hq : ¬ (c.ba < (n : Int) ∧ (t : Int) < c.de) := by
                          rintro ⟨p1, p2⟩
                          have := HWN.out
                          rw [if_pos p1] at this
                          omega
                        obtain ⟨g1, g2, g3, g4, g5⟩ := HB8.out hq
                        exact ⟨by rw [g1]; omega, g3, g4, g5⟩
                    have hmm : ((2 * ((t : Int) + 1)) != (2 * ((t : Int) + 1))) = false := by simp
                    clear s20 HB4 HB7 HB8 HO1 HOP
                    go_wp2_with (first | simp only [hfg] | simp only [hfn])
                    go_roundw
                    case rel => exact ⟨t + 1, by go_num, by omega, HS2⟩
                    case measure => simp [intOf]; omega
          · obtain rfl : t = wn + 1 := by omega
            have h1 : ¬ ((wn + 1 : Nat) : Int) ≤ (wn : Int) := by omega
            obtain ⟨z, df, v, sj, hdr⟩ := HR.out
            obtain ⟨rfl, f1, f2, f3⟩ := hdr.off rfl
            have hok := hdr.ok
            have H8 : Hid (z.hs.length = 8) := by
              have h1 := hok.hl
              have h2 := HC.out.sl
              show _ = _
              omega
            have HX64 : Hid (z.xs.length = 64) := f2
            clear f2
            have HOK : Hid (z.ok c (40 + 60 * (wn + 1))) := hok
            have hvw := spView sj 1 rfl hok.wl hok.h1 hok.h8
            unfold spp at hvw
            clear HR hdr hok sj
            go_wp2_with fail
            refine hvw.mono ?_
            rintro e w20 ⟨va, vb, rfl, s20⟩
            clear hvw
            obtain ⟨pa, ca2, rfl⟩ := s20.form 0 rfl (by have := HX64.out; omega)
            obtain ⟨pb, cb2, rfl⟩ := s20.form 1 rfl (by have := H8.out; omega)
            have s21 := s20.box #[.slice (some ⟨pa, 0, none⟩) z.xs.length ca2, .int .i64 z.x.n, .int .i64 z.x.o, .slice (some ⟨pb, 0, none⟩) z.hs.length cb2] 60
            clear s20
            go_upto_region 37 with fail
            generalize w20.alloc (.cells #[.slice (some ⟨pa, 0, none⟩) z.xs.length ca2, .int .i64 z.x.n, .int .i64 z.x.o, .slice (some ⟨pb, 0, none⟩) z.hs.length cb2] 60) = w21 at *
            generalize w20.heap.size = V at *
            have HSL : Hid (∀ i, 1 ≤ i → i ≤ n → w21.cell? ⟨pb, i * 8 + 4, none⟩ = some (.bool true) ∧ w21.cell? ⟨pb, i * 8 + 5, none⟩ = some (.int .i64 1)) := by
              intro i hi1 hi2
              obtain ⟨y0, y1, y2, y3, y4, y5, y6, y7⟩ := slot_cells s21 2 rfl HOK.out.wl (k := i) (by have := H8.out; omega)
              obtain ⟨f4, f5⟩ := f3 i hi1 hi2
              rw [f4] at y4
              rw [f5] at y5
              exact ⟨y4, y5⟩
            have v3 : w21.cell? ⟨V, 3, none⟩ = some (.slice (some ⟨pb, 0, none⟩) z.hs.length cb2) := s21.cell 0 rfl 3
            have hc1 : w21.cell? ⟨pa, 1, none⟩ = some (.int .i64 4) := by
              have h64 := HX64.out
              have e := s21.ownCell 1 rfl 1 (by omega)
              rw [e, clCells_at z.xs 1 (by omega)]
              rw [List.getD_eq_getElem?_getD, List.getElem?_eq_getElem (by omega)] at f1
              simp only [Option.getD_some] at f1
              rw [f1]
            have HS21 : Hid _ := s21
            clear s21 f1 f3
            go_wp2_with fail
            obtain ⟨w22, hw22⟩ : ∃ y, y = w21 := ⟨_, rfl⟩
            subst hw22
            go_loopw [25] (fun i wr => ∃ k : Nat, i = .int .i64 k ∧ 1 ≤ k ∧ k ≤ n + 1 ∧ wr = w22) (fun i _ => n + 1 - (intOf i).toNat)
            case atStart => exact ⟨1, rfl, by omega, by omega, rfl⟩
            case round =>
              obtain ⟨k, rfl, hk1, hk2, rfl⟩ := hrel
              by_cases hlt3 : k ≤ n
              · focus
                  have g1 : (k : Int) ≤ (n : Int) := by omega
                  have g0 : (0 : Int) ≤ (k : Int) := by omega
                  have g8 : (k : Int) < (z.hs.length : Int) := by have := H8.out; omega
                  obtain ⟨y4, y5⟩ := HSL.out k hk1 hlt3
                  clear HSL HS21 hc1
                  generalize z.hs.length = HL at *
                  go_wp2_with fail
                  go_roundw
                  case rel => exact ⟨k + 1, by go_num, by omega, by omega, by trivial⟩
                  case measure => simp [intOf]; omega
              · obtain rfl : k = n + 1 := by omega
                have g1 : ¬ ((n + 1 : Nat) : Int) ≤ (n : Int) := by omega
                clear HSL
                have s21 := HS21.out
                obtain ⟨LL, hLL⟩ : ∃ LL : List It, LL = [boxI V #[.slice (some ⟨pa, 0, none⟩) z.xs.length ca2, .int .i64 z.x.n, .int .i64 z.x.o, .slice (some ⟨pb, 0, none⟩) z.hs.length cb2] 60, ownI 2 1 (.slice (some ⟨pa, 0, none⟩) z.xs.length ca2) z.xs.length (clCells z.xs), ownI 65 8 (.slice (some ⟨pb, 0, none⟩) z.hs.length cb2) z.hs.length (slCells (slots z.hs z.ws)), boxI J (jd c (wn : Int)) 105, spI A c z v (.slice none 0 0), boxI M #[.int .i64 c.ce, .int .i64 c.sl, .int .i64 c.bi, .int .i64 c.ta, .int .i64 c.ba, .int .i64 c.de] 24] := ⟨_, rfl⟩
                obtain ⟨P, hPd⟩ : ∃ P : World → Prop, P = fun W => St w LL W := ⟨_, rfl⟩
                have hD : P wr.drew := by rw [hPd, hLL]; exact s21.drew
                have HL3 : Hid (LL[3]? = some (boxI J (jd c (wn : Int)) 105)) := by show _ = _; rw [hLL]; rfl
                have HXC : Hid (∀ W, St w LL W → W.cell? ⟨pa, 1, none⟩ = some (.int .i64 4)) := by
                  intro W hW
                  rw [hLL] at hW
                  have e1 := s21.ownCell 1 rfl 1 (by have := HX64.out; omega)
                  have e2 := hW.ownCell 1 rfl 1 (by have := HX64.out; omega)
                  rw [e2, ← e1]
                  exact hc1
                have CH : Hid (∀ W, P W → W.cell? ⟨V, 0, none⟩ = some (.slice (some ⟨pa, 0, none⟩) z.xs.length ca2) ∧ W.cell? ⟨pa, 1, none⟩ = some (.int .i64 4) ∧ W.cell? ⟨M, 5, none⟩ = some (.int .i64 c.de) ∧ P W) := by
                  intro W hW
                  have h' := hW
                  rw [hPd] at h'
                  have h2 := HXC.out W h'
                  rw [hLL] at h'
                  exact ⟨h'.cell 0 rfl 0, h2, h'.cell 5 rfl 5, hW⟩
                have hpr : prom c (wn : Int) = decide (c.de ≤ (wn : Int)) := by unfold prom; rw [HC.out.ta]; rfl
                have CC : Hid (∀ W, P W → (Calls Tryz.prog 17 #[.pointer (some ⟨J, 0, none⟩)] W fun e w' => e = .returned (.int .i64 (wn : Int)) ∧ P w') ∧ (Calls Tryz.prog 18 #[.pointer (some ⟨J, 0, none⟩)] W fun e w' => e = .returned (.bool (decide (c.de ≤ (wn : Int)))) ∧ P w')) := by
                  intro W hW
                  have h' := hW
                  rw [hPd] at h'
                  have r1 := defers_st h' 3 HL3.out
                  have r2 := promoted_st h' 3 HL3.out
                  rw [hpr] at r2
                  refine ⟨r1.mono ?_, r2.mono ?_⟩
                  · rintro e w' ⟨he, rfl⟩
                    exact ⟨he, hW⟩
                  · rintro e w' ⟨he, h2⟩
                    exact ⟨he, by rw [hPd]; exact h2⟩
                have HK : Hid (∀ W, P W → Kept (fun _ => False) w W) := fun W hW => by rw [hPd] at hW; exact hW.same
                have hx1 : (1 : Int) < (z.xs.length : Int) := by have := HX64.out; omega
                have hwe : ((wn : Int) == (wn : Int)) = true := by simp
                clear hPd hLL HL3 HXC HS21 s21 hc1 hpr v3
                generalize z.xs.length = XN at *
                obtain ⟨x0, x1, x2, _⟩ := CH.out _ hD
                go_upto_region 42 with fail
                rcases (show c.de ≤ (wn : Int) ∨ ¬ c.de ≤ (wn : Int) by omega) with hde | hde
                all_goals
                  have hdd : decide (c.de ≤ (wn : Int)) = decide (c.de ≤ (wn : Int)) := rfl
                  first | rw [decide_eq_true hde] at CC | rw [decide_eq_false hde] at CC
                  go_region_held3 (fun W => W.cell? ⟨V, 0, none⟩ = some (.slice (some ⟨pa, 0, none⟩) XN ca2) ∧ W.cell? ⟨pa, 1, none⟩ = some (.int .i64 4) ∧ W.cell? ⟨M, 5, none⟩ = some (.int .i64 c.de) ∧ P W)
                    (exact CH.out _ hD)
                    (first | (go_at_call 17; refine ((CC.out _ hD).1).mono ?_; rintro e wx ⟨rfl, hD⟩) | (go_at_call 18; refine ((CC.out _ hD).2).mono ?_; rintro e wx ⟨rfl, hD⟩))
                  have HF : Hid _ := HK.out _ hD
                  clear x0 x1 x2 CH CC HK
                  go_wp2
                  go_ret
                  first
                    | exact ⟨rfl, HF.out⟩
                    | (refine ⟨?_, HF.out⟩; show Ending.returned (Value.bool (!decide (c.de ≤ (wn : Int)))) = _; rw [decide_eq_false (show ¬ c.de ≤ (wn : Int) by omega)]; rfl)
end Go.Proofs.YtgjmamgohidbiabGreat
