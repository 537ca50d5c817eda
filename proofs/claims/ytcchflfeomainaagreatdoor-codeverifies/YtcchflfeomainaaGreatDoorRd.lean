/- The document's Verify. -/
import Derived.Test.YtcchflfeomainaaGreatDoorBf
import Derived.Test.YtcchflfeomainaaGreatDoorLs
import Derived.Test.YtcchflfeomainaaGreatDoorVfF
namespace Go.Proofs.YtcchflfeomainaaGreatDoor
open Go.RowKit
set_option linter.unusedVariables false
set_option linter.unusedSimpArgs false
attribute [local go_sem ↓] Go.wp_at_zero Go.wp_at_succ

theorem bCells_atF (l : List Bool) (k : Nat) (hk : k < l.length) : (bCells l)[k]? = some (.bool (l.getD k false)) := by
  simp [bCells, hk, List.getD_eq_getElem?_getD]
theorem first_inv {L : List Ins} (hp : 0 < L.length) : BInv L (addB Spt.zero ⟨List.replicate (L.length * 33 * 34) false, []⟩) 0 (List.replicate L.length 0) (List.replicate L.length false) (List.replicate L.length false) := by
  have c0 : BCore L ⟨List.replicate (L.length * 33 * 34) false, []⟩ := by
    refine ⟨by simp, by simp, List.nodup_nil, fun x hx => ?_, fun x hx => (by cases hx), fun x hx => (by cases hx)⟩
    have hk := key_lt hx
    simp [List.getD_eq_getElem?_getD, hk]
  have fz : Fine L.length Spt.zero := ⟨hp, ⟨Nat.zero_le _, Nat.zero_le _⟩, fun _ => rfl⟩
  obtain ⟨c, a, r, e⟩ := c0.add fz .zero
  refine ⟨c, Nat.zero_le _, a, fun x hx => (by simp at hx), ⟨by simp, by simp, by simp⟩, fun p hp => ?_, fun p hp => ?_, fun p hp => ?_⟩ <;> simp [List.getD_eq_getElem?_getD, hp]
theorem halt_row : (rowOf ((22 : Nat) : Int)).pops = 0 ∧ (rowOf ((22 : Nat) : Int)).pushes = 0 := by decide
theorem halt_at {l : List Ins} {n : Nat} (hn : n = l.length) : (withHalt l).getD n Ins.zero = ⟨((22 : Nat) : Int), 0⟩ := by
  subst hn
  simp [withHalt]
theorem halt_amiss {l : List Ins} {x : Spt} (hp : x.p = l.length) (hs : x.s.ok) : amissS (withHalt l) x = if 0 < x.s.bas then 156 else 0 := by
  unfold amissS
  rw [hp, halt_at rfl, amissM_bas 22 (by decide), halt_row.1, halt_row.2]
  have := hs.1
  rw [if_neg (by omega)]
  by_cases h : 0 < x.s.bas
  · rw [if_pos ⟨.inr rfl, h⟩, if_pos h]
  · rw [if_neg (fun hh => h hh.2), if_neg (by omega), if_neg h]
theorem halt_next {l : List Ins} {x : Spt} (hp : x.p = l.length) : nextS (withHalt l) x = [] := by
  unfold nextS
  rw [hp, halt_at rfl]
  split <;> rfl
theorem next_amiss {L : List Ins} {x : Spt} (h : amissS L x ≠ 0) : nextS L x = [] := by
  unfold nextS
  rw [if_neg (show ¬ amissM (rowOf (L.getD x.p Ins.zero).op) x.s = 0 from h)]
theorem set_keep {l : List Bool} {p : Nat} : l.set p (l.getD p false) = l := by
  apply List.ext_getElem?
  intro i
  by_cases e : p = i
  · subst e
    by_cases h : p < l.length
    · rw [List.getElem?_set_self h, List.getD_eq_getElem?_getD, List.getElem?_eq_getElem h]
      rfl
    · rw [List.getElem?_eq_none (by simp; omega), List.getElem?_eq_none (by omega)]
  · rw [List.getElem?_set_ne e]
/-- What lies beside the table of states. -/
def vfR (gm gd gx : Nat) (many : List Int) (dep txs : List Bool) : List It := [boxI gm (nCells many) 3, boxI gd (bCells dep) 4, boxI gx (bCells txs) 4]
theorem tb_form {w : World} {vt : Value} {T : List Spt} {j : Nat} (h : w.ownsRow 0 3 1 vt T.length (iCells T)) (hj : j < T.length) : ∃ g c, vt = .slice (some ⟨g, 0, none⟩) T.length c ∧ w.cell? ⟨g, j, none⟩ = some (.int .i64 (((T.getD j Spt.zero).key : Nat) : Int)) := by
  obtain ⟨g, c, rfl⟩ : ∃ g c, vt = .slice (some ⟨g, 0, none⟩) T.length c := by
    rcases h.2 with ⟨h1, h2⟩ | ⟨g, cap, cur, h1, _⟩
    · omega
    · exact ⟨g, cap, h1⟩
  refine ⟨g, c, rfl, ?_⟩
  rw [h.cellAt j (by omega)]
  simp [iCells, hj, List.getD_eq_getElem?_getD]
set_option maxRecDepth 100000 in
set_option maxHeartbeats 16000000 in
theorem rVerify_any (la : Option Addr) (n lc : Nat) (l : List Ins) (w : World) (hL : IIn w la n l) :
    Calls Tryz.prog 19 #[.slice la n lc] w fun e w' => e = .returned (.tuple #[.int .i64 (verifyM l).1, .int .i64 (verifyM l).2]) ∧ Kept (fun _ => False) w w' := by
  have hck := rCheck_any la n lc l w hL
  by_cases hc : (checkM l).1 = 0
  · obtain ⟨hn1, hn2, hn3⟩ := checkM_all hc
    have HLk := hid (Lok.of hc)
    have HN : Hid (n = l.length) := hL.1
    have HLl : Hid ((withHalt l).length = n + 1) := by show _ = _; rw [HN.out]; simp [withHalt]
    have HVR : Hid (∀ T : List Spt, T.Nodup → (∀ x, x ∈ T ↔ Rch (withHalt l) x) → verifyM l = readT (withHalt l) T n (n + 1) 0) := fun T h1 h2 => by rw [verify_read hc h1 h2, HN.out]
    have HI : Hid (∀ W, Kept (fun _ => False) w W → IIn W la n l) := fun W k => hL.kept k
    have HH : Hid (∀ x : Spt, x.p = n → x.s.ok → amissS (withHalt l) x = (if 0 < x.s.bas then 156 else 0) ∧ nextS (withHalt l) x = []) := fun x h1 h2 => ⟨halt_amiss (by rw [h1]; exact HN.out) h2, halt_next (by rw [h1]; exact HN.out)⟩
    have HO : Hid (∀ p, p < n → ∃ (m : Nat) (a : Int), m < 23 ∧ (withHalt l).getD p Ins.zero = ⟨(m : Nat), a⟩ ∧ l.getD p Ins.zero = ⟨(m : Nat), a⟩) := fun p hp => by
      have e : (withHalt l).getD p Ins.zero = l.getD p Ins.zero := by
        have := HN.out
        unfold withHalt
        rw [List.getD_eq_getElem?_getD, List.getD_eq_getElem?_getD, List.getElem?_append_left (by omega)]
      have hkn := (wrongAt_zero (hn3 (l.getD p Ins.zero) (by have := HN.out; rw [List.getD_eq_getElem?_getD, List.getElem?_eq_getElem (by omega)]; exact List.getElem_mem _))).1
      rw [e]
      generalize l.getD p Ins.zero = y at *
      obtain ⟨o, a⟩ := y
      have h3 := (known_iff o).1 hkn
      exact ⟨o.toNat, a, by omega, by rw [Int.toNat_of_nonneg (by omega)], by rw [Int.toNat_of_nonneg (by omega)]⟩
    have hn4 : n ≤ 400 := by have := HN.out; omega
    obtain ⟨g, off, rfl⟩ := hL.addr (by have := HN.out; omega)
    rw [hc] at hck
    have hLl0 := HLl.out
    have HF0 := hid (first_inv (L := withHalt l) (by omega))
    rw [hLl0] at HF0
    generalize (checkM l).2 = c2 at *
    generalize verifyM l = RR at *
    generalize withHalt l = L at *
    have b1 : (0 : Int) ≤ (n : Int) := Int.natCast_nonneg _
    have b2 : (n : Int) ≤ 400 := by omega
    have hb1 := makeB ((n + 1) * 33 * 34) (((n : Int) + 1) * 33 * 34) (by omega) (by omega) w
    have s1 := (St.nil w).box (bCells (List.replicate ((n + 1) * 33 * 34) false)) 4
    have s2 := s1.box #[.slice (some ⟨w.heap.size, 0, none⟩) ((n + 1) * 33 * 34) ((n + 1) * 33 * 34), .slice none 0 0] 75
    generalize hwh : w.alloc (.cells (bCells (List.replicate ((n + 1) * 33 * 34) false)) 4) = wh at *
    generalize hgh : w.heap.size = gh at *
    generalize hwt : wh.alloc (.cells #[.slice (some ⟨gh, 0, none⟩) ((n + 1) * 33 * 34) ((n + 1) * 33 * 34), .slice none 0 0] 75) = wt at *
    generalize hkk : wh.heap.size = k at *
    have hm1 := makeI (n + 1) ((n : Int) + 1) (by omega) (by omega) wt
    have s3 := s2.box (nCells (List.replicate (n + 1) 0)) 3
    generalize hwm : wt.alloc (.cells (nCells (List.replicate (n + 1) 0)) 3) = wm at *
    generalize hgm : wt.heap.size = gm at *
    have hm2 := makeB (n + 1) ((n : Int) + 1) (by omega) (by omega) wm
    have s4 := s3.box (bCells (List.replicate (n + 1) false)) 4
    generalize hwd : wm.alloc (.cells (bCells (List.replicate (n + 1) false)) 4) = wd at *
    generalize hgd : wm.heap.size = gd at *
    have hm3 := makeB (n + 1) ((n : Int) + 1) (by omega) (by omega) wd
    have s5 := s4.box (bCells (List.replicate (n + 1) false)) 4
    generalize hwx : wd.alloc (.cells (bCells (List.replicate (n + 1) false)) 4) = wx at *
    generalize hgx : wd.heap.size = gx at *
    have s6 := (s5.own (e := 3) (z := 1) (Kept.refl _ _) (World.ownsRow_nil _ _ _ _)).perm (perm_idx (boxI 0 #[] 0) _ 6 rfl [4, 5, 0, 3, 2, 1] (by decide))
    have s7 : St w (tbL k gh ((n + 1) * 33 * 34) (.slice none 0 0) ⟨List.replicate ((n + 1) * 33 * 34) false, []⟩ ++ vfR gm gd gx (List.replicate (n + 1) 0) (List.replicate (n + 1) false) (List.replicate (n + 1) false)) wx := s6
    have hadd := add_sr s7 (by simp) (n := n + 1) rfl (by omega) (by simp) (y := Spt.zero) ⟨by show 0 < n + 1; omega, ⟨Nat.zero_le _, Nat.zero_le _⟩, fun _ => rfl⟩
    generalize addB Spt.zero ⟨List.replicate ((n + 1) * 33 * 34) false, []⟩ = B0 at *
    generalize List.replicate (n + 1) (0 : Int) = many0 at *
    generalize List.replicate (n + 1) false = fal0 at *
    replace hadd : Calls Tryz.prog 33 #[.pointer (some ⟨k, 0, none⟩), .int .i64 0, .int .i64 0, .int .i64 0] wx fun e w' => e = .returned (.tuple #[]) ∧ ∃ vt', St w (tbL k gh ((n + 1) * 33 * 34) vt' B0 ++ vfR gm gd gx many0 fal0 fal0) w' := hadd
    clear hL hc hn3 s1 s2 s3 s4 s5 s6 s7 hLl0
    go_enter Tryz.func19, Tryz.ntmps19
    go_wp2_with fail
    refine hck.mono ?_
    clear hck
    rintro e w2 ⟨rfl, hw2⟩
    obtain rfl : w = w2 := hw2.symm
    clear hw2
    go_upto_region 10 with (first | simp only [hb1] | simp only [hwh, hgh] | simp only [hwt, hkk] | simp only [hm1] | simp only [hwm, hgm] | simp only [hm2] | simp only [hwd, hgd] | simp only [hm3] | simp only [hwx, hgx] | (go_at_call 33; refine hadd.mono ?_; rintro e w9 ⟨rfl, vt9, s9⟩))
    have HS9 := hid s9
    clear hadd s9 hb1 hm1 hm2 hm3 hwh hgh hwt hkk hwm hgm hwd hgd hwx hgx
    generalize hNN : (n + 1) * 33 * 34 = N at *
    have HNN := hid hNN
    clear hNN
    go_wp2
    go_loopw [11] (fun i wr => ∃ (j : Nat) (B : Bst) (many : List Int) (dep txs : List Bool) (vt : Value), i = .int .i64 j ∧ BInv L B j many dep txs ∧ St w (tbL k gh N vt B ++ vfR gm gd gx many dep txs) wr) (fun i _ => N - (intOf i).toNat)
    case atStart => exact ⟨0, B0, many0, fal0, fal0, vt9, rfl, HF0.out, HS9.out⟩
    case round =>
      clear HS9 HF0
      obtain ⟨j, B, many, dep, txs, vt, rfl, hb, hst⟩ := hrel
      have hTN : B.T.length ≤ N := by have := hb.core.room; have h2 := HLl.out; rw [h2] at this; have := HNN.out; omega
      have hN4 : N ≤ 449922 := by have := HNN.out; omega
      have hj0 : (0 : Int) ≤ (j : Int) := Int.natCast_nonneg _
      have hle := hb.le
      by_cases hlt : j < B.T.length
      · obtain ⟨gt, ct, rfl, c2⟩ := tb_form (hst.get 2 rfl : wr.ownsRow 0 3 1 vt B.T.length (iCells B.T)) hlt
        have c1 : wr.cell? ⟨k, 1, none⟩ = some (.slice (some ⟨gt, 0, none⟩) B.T.length ct) := hst.cell 0 rfl 1
        have hlt1 : (j : Int) < (B.T.length : Int) := by omega
        obtain ⟨x, hx⟩ : ∃ x, B.T.getD j Spt.zero = x := ⟨_, rfl⟩
        have hxm : x ∈ B.T := by rw [← hx, List.getD_eq_getElem?_getD, List.getElem?_eq_getElem hlt]; exact List.getElem_mem hlt
        have hf := hb.core.fine x hxm
        have hstep := hb.step HLk.out hlt hx
        rw [hx] at c2
        obtain ⟨kp1, kp2, kp3⟩ := key_parts hf
        have hpl : x.p < n + 1 := by have := hf.1; rw [HLl.out] at this; exact this
        have hbl := bas_le hf.2.1
        have hdl := hf.2.1.1
        have hkl := key_lt hf
        have hmb := hb.many x.p hf.1
        have hmb2 : ((B.T.take j).filter (fun y => y.p == x.p)).length ≤ j := Nat.le_trans (List.length_filter_le _ _) (by rw [List.length_take]; exact Nat.min_le_left _ _)
        have e1 : ((x.key : Nat) : Int).tmod 34 = (x.s.bas : Int) := by rw [Int.tmod_eq_emod_of_nonneg (by omega)]; omega
        have e2 : ((x.key : Nat) : Int).tdiv 34 = ((x.key / 34 : Nat) : Int) := by rw [Int.tdiv_eq_ediv_of_nonneg (by omega)]; omega
        have e3 : ((x.key / 34 : Nat) : Int).tmod 33 = (x.s.d : Int) := by rw [Int.tmod_eq_emod_of_nonneg (by omega)]; omega
        have e4 : ((x.key / 34 : Nat) : Int).tdiv 33 = (x.p : Int) := by rw [Int.tdiv_eq_ediv_of_nonneg (by omega)]; omega
        have hkl2 : (x.key : Int) ≤ 449922 := by rw [HLl.out] at hkl; have := HNN.out; omega
        have hkd : ((x.key / 34 : Nat) : Int) ≤ 449922 := by omega
        have c3 : wr.cell? ⟨gm, x.p, none⟩ = some (.int .i64 (many.getD x.p 0)) := (hst.cell 3 rfl _).trans (nCells_at _ _ (by rw [hb.lens.1]; exact hf.1))
        have f3 : wr.frozen? ⟨gm, x.p, none⟩ = false := hst.frozen 3 rfl _
        have s1 := hst.write 3 rfl x.p (.int .i64 (many.getD x.p 0 + 1))
        rw [nCells_set] at s1
        generalize hw1 : wr.setCell ⟨gm, x.p, none⟩ (.int .i64 (many.getD x.p 0 + 1)) = w1 at *
        replace s1 : St w (tbL k gh N (.slice (some ⟨gt, 0, none⟩) B.T.length ct) B ++ vfR gm gd gx (many.set x.p (many.getD x.p 0 + 1)) dep txs) w1 := s1
        have hm0 : 0 ≤ many.getD x.p 0 := by omega
        have hm1 : many.getD x.p 0 ≤ 449922 := by omega
        have c4 : w1.cell? ⟨gx, x.p, none⟩ = some (.bool (txs.getD x.p false)) := (s1.cell 5 rfl _).trans (bCells_atF _ _ (by rw [hb.lens.2.2]; exact hf.1))
        have f4 : w1.frozen? ⟨gx, x.p, none⟩ = false := s1.frozen 5 rfl _
        by_cases hpn : x.p = n
        · obtain ⟨ha, hnx⟩ := HH.out x hpn hf.2.1
          rw [hnx, ha] at hstep
          have s2 := fun v => s1.write 5 rfl x.p (.bool v)
          simp only [bCells_set] at s2
          have HS2 : Hid (∀ v, St w (tbL k gh N (.slice (some ⟨gt, 0, none⟩) B.T.length ct) B ++ vfR gm gd gx (many.set x.p (many.getD x.p 0 + 1)) dep (txs.set x.p v)) (w1.setCell ⟨gx, x.p, none⟩ (.bool v))) := s2
          have HST : Hid (BInv L B (j + 1) (many.set x.p (many.getD x.p 0 + 1)) dep (txs.set x.p (txs.getD x.p false || decide (0 < x.s.bas)))) := hid (by
            have h5 : ((if 0 < x.s.bas then (156 : Int) else 0) == 155) = false := by split <;> rfl
            have h6 : ((if 0 < x.s.bas then (156 : Int) else 0) == 156) = decide (0 < x.s.bas) := by by_cases h : 0 < x.s.bas <;> simp [h]
            rw [h5, h6, Bool.or_false, set_keep] at hstep
            exact hstep)
          have HJ := hid hlt
          have HTN := hid hTN
          have t1 : ((x.p : Int) == (n : Int)) = true := by simp [hpn]
          have g3 : (x.p : Int) < ((n + 1 : Nat) : Int) := by omega
          have g4 : (0 : Int) ≤ (x.p : Int) := by omega
          clear hstep s1 s2 hst hb hf hxm hx ha hnx hmb hmb2 kp1 kp2 kp3 hkl hpl hpn hle hlt
          generalize many.getD x.p 0 = mv at *
          generalize txs.getD x.p false = tv at *
          generalize x.key / 34 = kd at *
          generalize x.key = kx at *
          generalize x.s.d = xd at *
          generalize x.s.bas = xb at *
          generalize x.p = xp at *
          have h30 : (0 : Int) ≤ (kx : Int) := by omega
          have h31 : (0 : Int) ≤ (kd : Int) := by omega
          by_cases hb0 : 0 < xb
          · have t2 : decide ((0 : Int) < (xb : Int)) = true := decide_eq_true (by omega)
            have HST2 : Hid (BInv L B (j + 1) (many.set xp (mv + 1)) dep (txs.set xp true)) := hid (by have := HST.out; rwa [decide_eq_true hb0, Bool.or_true] at this)
            clear HST
            cases tv
            all_goals
              go_wp2_with (first | simp only [e1] | simp only [e2] | simp only [e3] | simp only [e4] | simp only [hw1])
              go_roundw
            all_goals first
              | exact ⟨j + 1, _, _, _, _, _, by push_cast; rfl, HST2.out, HS2.out _⟩
              | (have := HJ.out; have := HTN.out; simp [intOf]; omega)
          · have t2 : decide ((0 : Int) < (xb : Int)) = false := decide_eq_false (by omega)
            have HST2 : Hid (BInv L B (j + 1) (many.set xp (mv + 1)) dep (txs.set xp tv)) := hid (by have := HST.out; rwa [decide_eq_false hb0, Bool.or_false] at this)
            clear HST
            cases tv
            all_goals
              go_wp2_with (first | simp only [e1] | simp only [e2] | simp only [e3] | simp only [e4] | simp only [hw1])
              go_roundw
            all_goals first
              | exact ⟨j + 1, _, _, _, _, _, by push_cast; rfl, HST2.out, HS2.out _⟩
              | (have := HJ.out; have := HTN.out; simp [intOf]; omega)
        · have hpn2 : x.p < n := by omega
          obtain ⟨m, a, hm, hop, hop2⟩ := HO.out x.p hpn2
          obtain ⟨y0, y1⟩ := ((HI.out wr hst.same).cells (j := x.p) (by have := HN.out; omega))
          obtain ⟨y0', y1'⟩ := ((HI.out w1 s1.same).cells (j := x.p) (by have := HN.out; omega))
          rw [hop2] at y0 y1 y0' y1'
          simp only at y0 y1 y0' y1'
          have ham : amissM (rowOf (m : Nat)) x.s = amissS L x := by unfold amissS; rw [hop]
          have hqa := fun W => rAmiss_any m hm x.s hf.2.1 W
          rw [ham] at hqa
          have hcase := amiss_cases L x
          have c5 : w1.cell? ⟨gd, x.p, none⟩ = some (.bool (dep.getD x.p false)) := (s1.cell 4 rfl _).trans (bCells_atF _ _ (by rw [hb.lens.2.1]; exact hf.1))
          have f5 : w1.frozen? ⟨gd, x.p, none⟩ = false := s1.frozen 4 rfl _
          have s2 := s1.write 4 rfl x.p (.bool (dep.getD x.p false || amissS L x == 155))
          rw [bCells_set] at s2
          replace s2 : St w (tbL k gh N (.slice (some ⟨gt, 0, none⟩) B.T.length ct) B ++ vfR gm gd gx (many.set x.p (many.getD x.p 0 + 1)) (dep.set x.p (dep.getD x.p false || amissS L x == 155)) txs) (w1.setCell ⟨gd, x.p, none⟩ (.bool (dep.getD x.p false || amissS L x == 155))) := s2
          have c6 : (w1.setCell ⟨gd, x.p, none⟩ (.bool (dep.getD x.p false || amissS L x == 155))).cell? ⟨gx, x.p, none⟩ = some (.bool (txs.getD x.p false)) := (s2.cell 5 rfl _).trans (bCells_atF _ _ (by rw [hb.lens.2.2]; exact hf.1))
          have f6 : (w1.setCell ⟨gd, x.p, none⟩ (.bool (dep.getD x.p false || amissS L x == 155))).frozen? ⟨gx, x.p, none⟩ = false := s2.frozen 5 rfl _
          have s3 := s2.write 5 rfl x.p (.bool (txs.getD x.p false || amissS L x == 156))
          rw [bCells_set] at s3
          replace s3 : St w (tbL k gh N (.slice (some ⟨gt, 0, none⟩) B.T.length ct) B ++ vfR gm gd gx (many.set x.p (many.getD x.p 0 + 1)) (dep.set x.p (dep.getD x.p false || amissS L x == 155)) (txs.set x.p (txs.getD x.p false || amissS L x == 156))) ((w1.setCell ⟨gd, x.p, none⟩ (.bool (dep.getD x.p false || amissS L x == 155))).setCell ⟨gx, x.p, none⟩ (.bool (txs.getD x.p false || amissS L x == 156))) := s3
          obtain ⟨z0, z1⟩ := ((HI.out _ s3.same).cells (j := x.p) (by have := HN.out; omega))
          rw [hop2] at z0 z1
          simp only at z0 z1
          have hfol := fun (h0 : amissS L x = 0) => follow_sr HLk.out s3 (by rw [hb.core.len, HLl.out]; exact HNN.out) (by rw [HLl.out]; exact HNN.out.symm) (by omega) hf h0 hm hop
          have HB2 : Hid (amissS L x ≠ 0 → (nextS L x).foldl (fun B y => addB y B) B = B) := fun h0 => by rw [next_amiss h0]; rfl
          have HJ := hid hlt
          have HTN := hid hTN
          have t1 : ((x.p : Int) == (n : Int)) = false := by simp; omega
          have g3 : (x.p : Int) < ((n + 1 : Nat) : Int) := by omega
          have g4 : (0 : Int) ≤ (x.p : Int) := by omega
          have g5 : (x.p : Int) < (n : Int) := by omega
          have HST := hid hstep
          have HS3 := hid s3
          clear hstep s1 s2 s3 hst hb hf hxm hx hmb hmb2 kp1 kp2 kp3 hkl hpl hpn hpn2 hle hlt hop hop2 ham c4 f4
          generalize (nextS L x).foldl (fun B y => addB y B) B = B2 at *
          generalize hd2 : (dep.getD x.p false || amissS L x == 155) = d2 at *
          generalize ht2 : (txs.getD x.p false || amissS L x == 156) = t2 at *
          generalize amissS L x = bad at *
          generalize many.getD x.p 0 = mv at *
          generalize dep.getD x.p false = dv at *
          generalize txs.getD x.p false = tv at *
          generalize x.key / 34 = kd at *
          generalize x.key = kx at *
          generalize x.s.d = xd at *
          generalize x.s.bas = xb at *
          generalize x.p = xp at *
          have h30 : (0 : Int) ≤ (kx : Int) := by omega
          have h31 : (0 : Int) ≤ (kd : Int) := by omega
          rcases hcase with rfl | rfl | rfl
          · have hfo := hfol rfl
            clear hfol HB2
            cases dv <;> cases tv
            all_goals
              simp at hd2 ht2
              subst hd2 ht2
              go_wp2_with (first | simp only [e1] | simp only [e2] | simp only [e3] | simp only [e4] | simp only [hw1] | (go_at_call 34; refine (hqa _).mono ?_; rintro e w5 ⟨rfl, hw5⟩; obtain rfl : w1 = w5 := hw5.symm; clear hw5) | (go_at_call 35; refine hfo.mono ?_; rintro e w8 ⟨rfl, vt8, s8⟩; have H8 := hid s8; clear s8))
              go_roundw
            all_goals first
              | exact ⟨j + 1, B2, _, _, _, vt8, by push_cast; rfl, HST.out, H8.out⟩
              | (have := HJ.out; have := HTN.out; simp [intOf]; omega)
          · have hB2 := HB2.out (by decide)
            clear hfol HB2
            subst hB2
            cases dv <;> cases tv
            all_goals
              simp at hd2 ht2
              subst hd2 ht2
              go_wp2_with (first | simp only [e1] | simp only [e2] | simp only [e3] | simp only [e4] | simp only [hw1] | (go_at_call 34; refine (hqa _).mono ?_; rintro e w5 ⟨rfl, hw5⟩; obtain rfl : w1 = w5 := hw5.symm; clear hw5))
              go_roundw
            all_goals first
              | exact ⟨j + 1, _, _, _, _, _, by push_cast; rfl, HST.out, HS3.out⟩
              | (have := HJ.out; have := HTN.out; simp [intOf]; omega)
          · have hB2 := HB2.out (by decide)
            clear hfol HB2
            subst hB2
            cases dv <;> cases tv
            all_goals
              simp at hd2 ht2
              subst hd2 ht2
              go_wp2_with (first | simp only [e1] | simp only [e2] | simp only [e3] | simp only [e4] | simp only [hw1] | (go_at_call 34; refine (hqa _).mono ?_; rintro e w5 ⟨rfl, hw5⟩; obtain rfl : w1 = w5 := hw5.symm; clear hw5))
              go_roundw
            all_goals first
              | exact ⟨j + 1, _, _, _, _, _, by push_cast; rfl, HST.out, HS3.out⟩
              | (have := HJ.out; have := HTN.out; simp [intOf]; omega)
      · obtain rfl : j = B.T.length := by omega
        have HR : Hid (RR = readT L B.T n (n + 1) 0) := hid (HVR.out B.T hb.core.nodup hb.all)
        have hlt1 : ¬ ((B.T.length : Nat) : Int) < ((B.T.length : Nat) : Int) := by omega
        obtain ⟨va, vc, rfl⟩ := int_form (hst.get 2 rfl : wr.ownsRow 0 3 1 vt B.T.length (iCells B.T))
        have c1 : wr.cell? ⟨k, 1, none⟩ = some (.slice va B.T.length vc) := hst.cell 0 rfl 1
        have HM : Hid (∀ q, q < n + 1 → wr.cell? ⟨gm, q, none⟩ = some (.int .i64 (((B.T.filter (fun x => x.p == q)).length : Nat) : Int))) := fun q hq => by
          rw [(hst.cell 3 rfl q).trans (nCells_at many q (by rw [hb.lens.1, HLl.out]; exact hq)), hb.many q (by rw [HLl.out]; exact hq), List.take_length]
        have HD : Hid (∀ q, q < n + 1 → wr.cell? ⟨gd, q, none⟩ = some (.bool (B.T.any (fun x => x.p == q && amissS L x == 155)))) := fun q hq => by
          rw [(hst.cell 4 rfl q).trans (bCells_atF dep q (by rw [hb.lens.2.1, HLl.out]; exact hq)), hb.dep q (by rw [HLl.out]; exact hq), List.take_length]
        have HX : Hid (∀ q, q < n + 1 → wr.cell? ⟨gx, q, none⟩ = some (.bool (B.T.any (fun x => x.p == q && amissS L x == 156)))) := fun q hq => by
          rw [(hst.cell 5 rfl q).trans (bCells_atF txs q (by rw [hb.lens.2.2, HLl.out]; exact hq)), hb.txs q (by rw [HLl.out]; exact hq), List.take_length]
        have HK := hid hst.same
        clear hb hst hlt hle
        generalize B.T = T at *
        go_wp2
        go_loop [17] (fun i => ∃ q : Nat, i = .int .i64 q ∧ q ≤ n + 1 ∧ RR = readT L T n (n + 1 - q) q) (fun i => n + 1 - (intOf i).toNat)
        case atStart => exact ⟨0, rfl, Nat.zero_le _, HR.out⟩
        case round =>
          clear HR
          obtain ⟨q, rfl, hq, hl⟩ := hrel
          have HL := hid hl
          clear hl
          by_cases hlq : q < n + 1
          · have HL2 : Hid (RR = if T.any (fun x => x.p == q && amissS L x == 155) then (155, (q : Int)) else if T.any (fun x => x.p == q && amissS L x == 156) then (156, (q : Int)) else if 1 < (T.filter (fun x => x.p == q)).length ∧ q < n then (157, (q : Int)) else readT L T n (n + 1 - (q + 1)) (q + 1)) := by
              have := HL.out
              rw [show n + 1 - q = (n + 1 - (q + 1)) + 1 by omega] at this
              exact this
            have cm := HM.out q hlq
            have cd := HD.out q hlq
            have cx := HX.out q hlq
            generalize (T.any (fun x => x.p == q && amissS L x == 155)) = dv at *
            generalize (T.any (fun x => x.p == q && amissS L x == 156)) = xv at *
            generalize (T.filter (fun x => x.p == q)).length = mv at *
            have h0 : (0 : Int) ≤ (q : Int) := Int.natCast_nonneg _
            have h1 : (q : Int) ≤ (n : Int) := by omega
            have h2 : (q : Int) < ((n + 1 : Nat) : Int) := by omega
            have HLQ := hid hlq
            clear HL HM HD HX hlq
            cases dv with
            | true =>
              have HE : Hid (RR = (155, (q : Int))) := hid (by have := HL2.out; simpa using this)
              clear HL2
              go_wp2
              go_ret2
              exact ⟨by rw [HE.out]; rfl, HK.out⟩
            | false =>
              cases xv with
              | true =>
                have HE : Hid (RR = (156, (q : Int))) := hid (by have := HL2.out; simpa using this)
                clear HL2
                go_wp2
                go_ret2
                exact ⟨by rw [HE.out]; rfl, HK.out⟩
              | false =>
                have HL3 : Hid (RR = if 1 < mv ∧ q < n then (157, (q : Int)) else readT L T n (n + 1 - (q + 1)) (q + 1)) := hid (by have := HL2.out; simpa only [Bool.false_eq_true, if_false] using this)
                clear HL2
                by_cases hmm : 1 < mv
                · have t1 : decide ((1 : Int) < (mv : Int)) = true := decide_eq_true (by omega)
                  by_cases hqn : q < n
                  · have t2 : decide ((q : Int) < (n : Int)) = true := decide_eq_true (by omega)
                    have HE : Hid (RR = (157, (q : Int))) := by have := HL3.out; rwa [if_pos ⟨hmm, hqn⟩] at this
                    clear HL3
                    go_wp2
                    go_ret2
                    exact ⟨by rw [HE.out]; rfl, HK.out⟩
                  · have t2 : decide ((q : Int) < (n : Int)) = false := decide_eq_false (by omega)
                    have HE : Hid (RR = readT L T n (n + 1 - (q + 1)) (q + 1)) := by have := HL3.out; rwa [if_neg (fun h => hqn h.2)] at this
                    have t3 : decide (q < n) = false := decide_eq_false hqn
                    clear HL3 hmm
                    go_wp2
                    go_round
                    case rel => exact ⟨q + 1, by simp, by have := HLQ.out; omega, HE.out⟩
                    case measure => have := HLQ.out; simp [intOf]; omega
                · have t1 : decide ((1 : Int) < (mv : Int)) = false := decide_eq_false (by omega)
                  have HE : Hid (RR = readT L T n (n + 1 - (q + 1)) (q + 1)) := by have := HL3.out; rwa [if_neg (fun h => hmm h.1)] at this
                  have hqn : decide ((q : Int) < (n : Int)) = true ∨ decide ((q : Int) < (n : Int)) = false := by cases decide ((q : Int) < (n : Int)) <;> simp
                  clear HL3 hmm
                  rcases hqn with t2 | t2
                  · go_wp2
                    go_round
                    case rel => exact ⟨q + 1, by simp, by have := HLQ.out; omega, HE.out⟩
                    case measure => have := HLQ.out; simp [intOf]; omega
                  · go_wp2
                    go_round
                    case rel => exact ⟨q + 1, by simp, by have := HLQ.out; omega, HE.out⟩
                    case measure => have := HLQ.out; simp [intOf]; omega
          · have h1 : ¬ (q : Int) ≤ (n : Int) := by omega
            have HE : Hid (RR = (0, 0)) := by have := HL.out; rwa [show n + 1 - q = 0 by omega] at this
            clear HL HM HD HX
            go_wp2
            go_ret2
            exact ⟨by rw [HE.out]; rfl, HK.out⟩
  · have hv : verifyM l = checkM l := by unfold verifyM; rw [if_neg hc]
    rw [hv]
    have tc : ((checkM l).1 != 0) = true := by simpa using hc
    generalize (checkM l).1 = c1 at *
    generalize (checkM l).2 = c2 at *
    clear hc hv hL
    go_enter Tryz.func19, Tryz.ntmps19
    go_wp2_with fail
    refine hck.mono ?_
    rintro e w2 ⟨rfl, rfl⟩
    go_wp2
    go_ret2
    exact ⟨rfl, Kept.refl _ _⟩
end Go.Proofs.YtcchflfeomainaaGreatDoor
