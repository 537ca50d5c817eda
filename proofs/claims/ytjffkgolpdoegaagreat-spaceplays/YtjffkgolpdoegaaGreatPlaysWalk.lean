/- The law SpacePlays, step by step. -/
import Derived.Test.YtjffkgolpdoegaaGreatDoes
import Derived.Test.YtjffkgolpdoegaaGreatUp
namespace Go.Proofs.YtjffkgolpdoegaaGreat
open Go.RowKit
set_option linter.unusedVariables false
set_option linter.unusedSimpArgs false
attribute [local go_sem ↓] Go.wp_at_zero Go.wp_at_succ

/-- Both pairs of spaces, behind kk steps. -/
def PlRel (w : World) (c d : Cfg) (A1 A2 : Ad) (B1 B2 : Bd) (C D : Nat) (kk : Nat) (wr : World) : Prop :=
  ∃ z1 v1 u1 p1 q1 z2 v2 u2 p2 q2, SSt.ok z1 c kk ∧ SSt.ok z2 d kk ∧ St w [rpI B2 d z2 p2 q2, rpI B1 c z1 p1 q1, spI A2 d z2 v2 u2, spI A1 c z1 v1 u1, boxI D #[.int .i64 d.ce, .int .i64 d.sl, .int .i64 d.bi, .int .i64 d.ta, .int .i64 d.ba, .int .i64 d.de] 23, boxI C #[.int .i64 c.ce, .int .i64 c.sl, .int .i64 c.bi, .int .i64 c.ta, .int .i64 c.ba, .int .i64 c.de] 23] wr
theorem cfg_facts {o w : World} {its : List It} {C : Nat} {c : Cfg} (h : St o its w) (i : Nat) (hi : its[i]? = some (boxI C #[.int .i64 c.ce, .int .i64 c.sl, .int .i64 c.bi, .int .i64 c.ta, .int .i64 c.ba, .int .i64 c.de] 23)) : w.cell? ⟨C, 0, none⟩ = some (.int .i64 c.ce) ∧ w.cell? ⟨C, 1, none⟩ = some (.int .i64 c.sl) ∧ w.cell? ⟨C, 2, none⟩ = some (.int .i64 c.bi) ∧ w.cell? ⟨C, 3, none⟩ = some (.int .i64 c.ta) ∧ w.cell? ⟨C, 4, none⟩ = some (.int .i64 c.ba) ∧ w.cell? ⟨C, 5, none⟩ = some (.int .i64 c.de) :=
  ⟨h.cell i hi 0, h.cell i hi 1, h.cell i hi 2, h.cell i hi 3, h.cell i hi 4, h.cell i hi 5⟩

set_option maxRecDepth 100000 in
set_option maxHeartbeats 8000000 in
theorem plays_walk (c d : Cfg) (sa : Option Addr) (len cap : Nat) (ops : Nat → OpD) (w : World) (hs : ScriptAt w sa len ops) (hlen : len ≤ 977343669133) :
    Calls Tryz.prog 3 #[c.val, d.val, .slice sa len cap] w fun e w' => e = .returned (.bool true) ∧ Kept (fun _ => False) w w' := by
  have HS : Hid (ScriptAt w sa len ops) := hs
  clear hs
  have hlen' : (len : Int) ≤ 977343669133 := by omega
  have h0 := ((St.nil w).box #[.int .i64 c.ce, .int .i64 c.sl, .int .i64 c.bi, .int .i64 c.ta, .int .i64 c.ba, .int .i64 c.de] 23).box #[.int .i64 d.ce, .int .i64 d.sl, .int .i64 d.bi, .int .i64 d.ta, .int .i64 d.ba, .int .i64 d.de] 23
  obtain ⟨D, hD⟩ : ∃ D, D = (w.alloc (.cells #[.int .i64 c.ce, .int .i64 c.sl, .int .i64 c.bi, .int .i64 c.ta, .int .i64 c.ba, .int .i64 c.de] 23)).heap.size := ⟨_, rfl⟩
  obtain ⟨C, hC⟩ : ∃ C, C = w.heap.size := ⟨_, rfl⟩
  rw [← hD, ← hC] at h0
  unfold Cfg.val
  go_enter Tryz.func3, Tryz.ntmps3
  go_upto_region 1 with fail
  generalize hW0 : (w.alloc (.cells #[.int .i64 c.ce, .int .i64 c.sl, .int .i64 c.bi, .int .i64 c.ta, .int .i64 c.ba, .int .i64 c.de] 23)).alloc (.cells #[.int .i64 d.ce, .int .i64 d.sl, .int .i64 d.bi, .int .i64 d.ta, .int .i64 d.ba, .int .i64 d.de] 23) = W0 at *
  rw [alloc_size, ← hC] at hD
  try rw [← hC]
  try rw [← hD]
  clear hD hC hW0
  go_wp2_with fail
  refine (up_any _).mono ?_
  rintro e w1 ⟨rfl, k1⟩
  have h1 : St w [boxI D #[.int .i64 d.ce, .int .i64 d.sl, .int .i64 d.bi, .int .i64 d.ta, .int .i64 d.ba, .int .i64 d.de] 23, boxI C #[.int .i64 c.ce, .int .i64 c.sl, .int .i64 c.bi, .int .i64 c.ta, .int .i64 c.ba, .int .i64 c.de] 23] w1 := h0.calm k1
  clear h0 k1
  by_cases hfc : c.fits = true
  · by_cases hfd : d.fits = true
    · have OKC := SSt.ok_zero c hfc 0
      have OKD := SSt.ok_zero d hfd 0
      obtain ⟨c0, c1, c2, c3, c4, c5⟩ := cfg_facts h1 1 rfl
      have hq : Calls Tryz.prog 5 #[.agg #[.int .i64 c.ce, .int .i64 c.sl, .int .i64 c.bi, .int .i64 c.ta, .int .i64 c.ba, .int .i64 c.de]] w1 _ := spNew_st h1 c hfc
      go_wp2_with fail
      refine hq.mono ?_
      rintro e w2 ⟨A1, rfl, h2⟩
      clear hq c0 c1 c2 c3 c4 c5 h1
      unfold spp
      obtain ⟨c0, c1, c2, c3, c4, c5⟩ := cfg_facts h2 1 rfl
      have hq : Calls Tryz.prog 5 #[.agg #[.int .i64 d.ce, .int .i64 d.sl, .int .i64 d.bi, .int .i64 d.ta, .int .i64 d.ba, .int .i64 d.de]] w2 _ := spNew_st h2 d hfd
      go_wp2_with fail
      refine hq.mono ?_
      rintro e w3 ⟨A2, rfl, h3⟩
      clear hq c0 c1 c2 c3 c4 c5 h2
      unfold spp
      obtain ⟨c0, c1, c2, c3, c4, c5⟩ := cfg_facts h3 3 rfl
      have hq : Calls Tryz.prog 6 #[.agg #[.int .i64 c.ce, .int .i64 c.sl, .int .i64 c.bi, .int .i64 c.ta, .int .i64 c.ba, .int .i64 c.de]] w3 _ := rpNew_st h3 c hfc
      go_wp2_with fail
      refine hq.mono ?_
      rintro e w4 ⟨B1, rfl, h4⟩
      clear hq c0 c1 c2 c3 c4 c5 h3
      unfold rpp
      obtain ⟨c0, c1, c2, c3, c4, c5⟩ := cfg_facts h4 3 rfl
      have hq : Calls Tryz.prog 6 #[.agg #[.int .i64 d.ce, .int .i64 d.sl, .int .i64 d.bi, .int .i64 d.ta, .int .i64 d.ba, .int .i64 d.de]] w4 _ := rpNew_st h4 d hfd
      go_wp2_with fail
      refine hq.mono ?_
      rintro e w5 ⟨B2, rfl, h5⟩
      clear hq c0 c1 c2 c3 c4 c5 h4
      unfold rpp
      have hg1 := spGate h5 3 rfl
      have hs1 := spSlots h5 3 rfl
      have hg2 := spGate h5 2 rfl
      have hs2 := spSlots h5 2 rfl
      unfold spp at hg1 hs1 hg2 hs2
      go_wp2_with (first | (go_at_call_of 7 A1; refine hg1.mono ?_; rintro e wq ⟨rfl, rfl⟩) | (go_at_call_of 8 A1; refine hs1.mono ?_; rintro e wq ⟨rfl, rfl⟩) | (go_at_call_of 7 A2; refine hg2.mono ?_; rintro e wq ⟨rfl, rfl⟩) | (go_at_call_of 8 A2; refine hs2.mono ?_; rintro e wq ⟨rfl, rfl⟩))
      clear hg1 hs1 hg2 hs2 hfc hfd
      go_loopw [18, 19] (fun iv _ wr => ∃ kk : Nat, iv = .int .i64 kk ∧ kk ≤ len ∧ PlRel w c d A1 A2 B1 B2 C D kk wr) (fun iv _ _ => len - (intOf iv).toNat)
      case atStart => exact ⟨0, rfl, Nat.zero_le _, _, _, _, _, _, _, _, _, _, _, OKC, OKD, h5⟩
      case round =>
        clear h5 OKC OKD
        obtain ⟨kk, rfl, hkk, z1, v1, u1, p1, q1, z2, v2, u2, p2, q2, ok1, ok2, hS⟩ := hrel
        have hk0 : (0 : Int) ≤ (kk : Int) := Int.natCast_nonneg _
        by_cases hlt : kk < len
        · have hlt1 : (kk : Int) < (len : Int) := by omega
          obtain ⟨b, off, hsa, hops⟩ : ∃ b off, sa = some ⟨b, off, none⟩ ∧ ∀ i, i < len → OpAt w b (off + i * 16) (ops i) := by
            rcases HS.out with h | h
            · omega
            · exact h
          subst hsa
          have hop := (hops kk hlt).kept hS.same
          have hL := (hops kk hlt).list_l
          have hrc := (hops kk hlt).reach_l
          clear hops
          generalize ops kk = op at *
          obtain ⟨o0, o1, o2, o3, o4, o5, o6, o7, o8, o9, o10, o11, o12, o13, o14, o15, _, _⟩ := hop
          by_cases hoth : op.other = false
          · as_aux_lemma =>
              have hq := does_st hS 3 1 (by omega) rfl rfl ok1 (by omega) op hL hrc
              unfold spp rpp at hq
              rw [hoth] at hq o0
              clear hoth hL hrc hS
              go_wp2_with fail
              refine hq.mono ?_
              rintro e wd ⟨rfl, z6, v6, u6, p6, q6, h6, ok6⟩
              clear hq o0 o1 o2 o3 o4 o5 o6 o7 o8 o9 o10 o11 o12 o13 o14 o15
              have h7 : St w [rpI B2 d z2 p2 q2, rpI B1 c z6 p6 q6, spI A2 d z2 v2 u2, spI A1 c z6 v6 u6, boxI D #[.int .i64 d.ce, .int .i64 d.sl, .int .i64 d.bi, .int .i64 d.ta, .int .i64 d.ba, .int .i64 d.de] 23, boxI C #[.int .i64 c.ce, .int .i64 c.sl, .int .i64 c.bi, .int .i64 c.ta, .int .i64 c.ba, .int .i64 c.de] 23] wd := h6
              clear h6
              obtain ⟨P, HP⟩ : ∃ P : World → Prop, P = fun W => St w [rpI B2 d z2 p2 q2, rpI B1 c z6 p6 q6, spI A2 d z2 v2 u2, spI A1 c z6 v6 u6, boxI D #[.int .i64 d.ce, .int .i64 d.sl, .int .i64 d.bi, .int .i64 d.ta, .int .i64 d.ba, .int .i64 d.de] 23, boxI C #[.int .i64 c.ce, .int .i64 c.sl, .int .i64 c.bi, .int .i64 c.ta, .int .i64 c.ba, .int .i64 c.de] 23] W := ⟨_, rfl⟩
              have hH : P wd.drew := by rw [HP]; exact h7.drew
              have CH : Hid (∀ W, P W → W.cell? ⟨A1.sp, 0, none⟩ = some (.pointer (some ⟨A1.m, 0, none⟩)) ∧ W.cell? ⟨B1.sp, 6, none⟩ = some (.pointer (some ⟨B1.m, 0, none⟩)) ∧ W.cell? ⟨B1.m, 0, none⟩ = some (.int .i64 z6.s.st) ∧ W.cell? ⟨B1.m, 2, none⟩ = some (.int .i64 z6.s.dn) ∧ W.cell? ⟨B1.m, 3, none⟩ = some (.int .i64 z6.s.mo) ∧ P W) := by
                intro W h
                have h' := h
                rw [HP] at h'
                exact ⟨spCell h' 3 rfl 0, rpCell h' 1 rfl 6, cell_of_heap (rpMeter h' 1 rfl).heap, cell_of_heap (rpMeter h' 1 rfl).heap, cell_of_heap (rpMeter h' 1 rfl).heap, h⟩
              have C1 : ∀ W, P W → Calls Tryz.prog 10 #[.pointer (some ⟨A1.sp, 0, none⟩)] W fun e w' => e = .returned (.int .i64 z6.s.st) ∧ P w' := by
                intro W h
                have h' := h
                rw [HP] at h'
                refine (spStep h' 3 rfl).mono ?_
                rintro e w' ⟨he, rfl⟩
                exact ⟨he, h⟩
              have C2 : ∀ W, P W → Calls Tryz.prog 11 #[.pointer (some ⟨A1.m, 0, none⟩)] W fun e w' => e = .returned (.int .i64 z6.s.dn) ∧ P w' := by
                intro W h
                have h' := h
                rw [HP] at h'
                refine (spDone h' 3 rfl).mono ?_
                rintro e w' ⟨he, rfl⟩
                exact ⟨he, h⟩
              have C3 : ∀ W, P W → Calls Tryz.prog 12 #[.pointer (some ⟨A1.m, 0, none⟩)] W fun e w' => e = .returned (.int .i64 z6.s.mo) ∧ P w' := by
                intro W h
                have h' := h
                rw [HP] at h'
                refine (spMost h' 3 rfl).mono ?_
                rintro e w' ⟨he, rfl⟩
                exact ⟨he, h⟩
              have HE : Hid (∀ W, P W → PlRel w c d A1 A2 B1 B2 C D (kk + 1) W) := by
                intro W h
                rw [HP] at h
                exact ⟨_, _, _, _, _, _, _, _, _, _, ok6, ok2.more (Nat.le_succ kk), h⟩
              clear HP h7 ok1 ok2 ok6
              generalize z6.s.st = x1 at *
              have nx1 : (x1 != x1) = false := by simp
              generalize z6.s.dn = x2 at *
              have nx2 : (x2 != x2) = false := by simp
              generalize z6.s.mo = x3 at *
              have nx3 : (x3 != x3) = false := by simp
              go_upto_region 21 with fail
              go_region_held3 (fun W => W.cell? ⟨A1.sp, 0, none⟩ = some (.pointer (some ⟨A1.m, 0, none⟩)) ∧ W.cell? ⟨B1.sp, 6, none⟩ = some (.pointer (some ⟨B1.m, 0, none⟩)) ∧ W.cell? ⟨B1.m, 0, none⟩ = some (.int .i64 x1) ∧ W.cell? ⟨B1.m, 2, none⟩ = some (.int .i64 x2) ∧ W.cell? ⟨B1.m, 3, none⟩ = some (.int .i64 x3) ∧ P W)
                (exact CH.out _ hH)
                (first | (go_at_call 10; refine (C1 _ hH).mono ?_; rintro e wx ⟨rfl, hH⟩) | (go_at_call 11; refine (C2 _ hH).mono ?_; rintro e wx ⟨rfl, hH⟩) | (go_at_call 12; refine (C3 _ hH).mono ?_; rintro e wx ⟨rfl, hH⟩))
              go_wp2
              go_roundw
              case rel => exact ⟨kk + 1, by go_num, by omega, HE.out _ hH⟩
              case measure => simp [intOf]; omega
          · have hoth2 : op.other = true := by simpa using hoth
            as_aux_lemma =>
              have hq := does_st hS 2 0 (by omega) rfl rfl ok2 (by omega) op hL hrc
              unfold spp rpp at hq
              rw [hoth2] at hq o0
              clear hoth2
              clear hoth hL hrc hS
              go_wp2_with fail
              refine hq.mono ?_
              rintro e wd ⟨rfl, z6, v6, u6, p6, q6, h6, ok6⟩
              clear hq o0 o1 o2 o3 o4 o5 o6 o7 o8 o9 o10 o11 o12 o13 o14 o15
              have h7 : St w [rpI B2 d z6 p6 q6, rpI B1 c z1 p1 q1, spI A2 d z6 v6 u6, spI A1 c z1 v1 u1, boxI D #[.int .i64 d.ce, .int .i64 d.sl, .int .i64 d.bi, .int .i64 d.ta, .int .i64 d.ba, .int .i64 d.de] 23, boxI C #[.int .i64 c.ce, .int .i64 c.sl, .int .i64 c.bi, .int .i64 c.ta, .int .i64 c.ba, .int .i64 c.de] 23] wd := h6
              clear h6
              obtain ⟨P, HP⟩ : ∃ P : World → Prop, P = fun W => St w [rpI B2 d z6 p6 q6, rpI B1 c z1 p1 q1, spI A2 d z6 v6 u6, spI A1 c z1 v1 u1, boxI D #[.int .i64 d.ce, .int .i64 d.sl, .int .i64 d.bi, .int .i64 d.ta, .int .i64 d.ba, .int .i64 d.de] 23, boxI C #[.int .i64 c.ce, .int .i64 c.sl, .int .i64 c.bi, .int .i64 c.ta, .int .i64 c.ba, .int .i64 c.de] 23] W := ⟨_, rfl⟩
              have hH : P wd.drew := by rw [HP]; exact h7.drew
              have CH : Hid (∀ W, P W → W.cell? ⟨A1.sp, 0, none⟩ = some (.pointer (some ⟨A1.m, 0, none⟩)) ∧ W.cell? ⟨B1.sp, 6, none⟩ = some (.pointer (some ⟨B1.m, 0, none⟩)) ∧ W.cell? ⟨B1.m, 0, none⟩ = some (.int .i64 z1.s.st) ∧ W.cell? ⟨B1.m, 2, none⟩ = some (.int .i64 z1.s.dn) ∧ W.cell? ⟨B1.m, 3, none⟩ = some (.int .i64 z1.s.mo) ∧ P W) := by
                intro W h
                have h' := h
                rw [HP] at h'
                exact ⟨spCell h' 3 rfl 0, rpCell h' 1 rfl 6, cell_of_heap (rpMeter h' 1 rfl).heap, cell_of_heap (rpMeter h' 1 rfl).heap, cell_of_heap (rpMeter h' 1 rfl).heap, h⟩
              have C1 : ∀ W, P W → Calls Tryz.prog 10 #[.pointer (some ⟨A1.sp, 0, none⟩)] W fun e w' => e = .returned (.int .i64 z1.s.st) ∧ P w' := by
                intro W h
                have h' := h
                rw [HP] at h'
                refine (spStep h' 3 rfl).mono ?_
                rintro e w' ⟨he, rfl⟩
                exact ⟨he, h⟩
              have C2 : ∀ W, P W → Calls Tryz.prog 11 #[.pointer (some ⟨A1.m, 0, none⟩)] W fun e w' => e = .returned (.int .i64 z1.s.dn) ∧ P w' := by
                intro W h
                have h' := h
                rw [HP] at h'
                refine (spDone h' 3 rfl).mono ?_
                rintro e w' ⟨he, rfl⟩
                exact ⟨he, h⟩
              have C3 : ∀ W, P W → Calls Tryz.prog 12 #[.pointer (some ⟨A1.m, 0, none⟩)] W fun e w' => e = .returned (.int .i64 z1.s.mo) ∧ P w' := by
                intro W h
                have h' := h
                rw [HP] at h'
                refine (spMost h' 3 rfl).mono ?_
                rintro e w' ⟨he, rfl⟩
                exact ⟨he, h⟩
              have HE : Hid (∀ W, P W → PlRel w c d A1 A2 B1 B2 C D (kk + 1) W) := by
                intro W h
                rw [HP] at h
                exact ⟨_, _, _, _, _, _, _, _, _, _, ok1.more (Nat.le_succ kk), ok6, h⟩
              clear HP h7 ok1 ok2 ok6
              generalize z1.s.st = x1 at *
              have nx1 : (x1 != x1) = false := by simp
              generalize z1.s.dn = x2 at *
              have nx2 : (x2 != x2) = false := by simp
              generalize z1.s.mo = x3 at *
              have nx3 : (x3 != x3) = false := by simp
              go_upto_region 21 with fail
              go_region_held3 (fun W => W.cell? ⟨A1.sp, 0, none⟩ = some (.pointer (some ⟨A1.m, 0, none⟩)) ∧ W.cell? ⟨B1.sp, 6, none⟩ = some (.pointer (some ⟨B1.m, 0, none⟩)) ∧ W.cell? ⟨B1.m, 0, none⟩ = some (.int .i64 x1) ∧ W.cell? ⟨B1.m, 2, none⟩ = some (.int .i64 x2) ∧ W.cell? ⟨B1.m, 3, none⟩ = some (.int .i64 x3) ∧ P W)
                (exact CH.out _ hH)
                (first | (go_at_call 10; refine (C1 _ hH).mono ?_; rintro e wx ⟨rfl, hH⟩) | (go_at_call 11; refine (C2 _ hH).mono ?_; rintro e wx ⟨rfl, hH⟩) | (go_at_call 12; refine (C3 _ hH).mono ?_; rintro e wx ⟨rfl, hH⟩))
              go_wp2
              go_roundw
              case rel => exact ⟨kk + 1, by go_num, by omega, HE.out _ hH⟩
              case measure => simp [intOf]; omega
        · as_aux_lemma =>
            have hlt1 : ¬ (kk : Int) < (len : Int) := by omega
            go_upto_region 23 with fail
            simp only [List.append]
            obtain ⟨nx1, hnx1⟩ : ∃ n, z1.xs.length = n := ⟨_, rfl⟩
            obtain ⟨nh1, hnh1⟩ : ∃ n, z1.hs.length = n := ⟨_, rfl⟩
            obtain ⟨nx2, hnx2⟩ : ∃ n, z2.xs.length = n := ⟨_, rfl⟩
            obtain ⟨nh2, hnh2⟩ : ∃ n, z2.hs.length = n := ⟨_, rfl⟩
            obtain ⟨P, HP⟩ : ∃ P : World → Prop, P = fun W => St w [rpI B2 d z2 p2 q2, rpI B1 c z1 p1 q1, spI A2 d z2 v2 u2, spI A1 c z1 v1 u1, boxI D #[.int .i64 d.ce, .int .i64 d.sl, .int .i64 d.bi, .int .i64 d.ta, .int .i64 d.ba, .int .i64 d.de] 23, boxI C #[.int .i64 c.ce, .int .i64 c.sl, .int .i64 c.bi, .int .i64 c.ta, .int .i64 c.ba, .int .i64 c.de] 23] W := ⟨_, rfl⟩
            have hH : P wr.drew := by rw [HP]; exact hS.drew
            have esl : c.sl = (nh1 : Int) := by have := ok1.hl; omega
            have CH : Hid (∀ W, P W → W.cell? ⟨B1.sp, 8, none⟩ = some (.pointer (some ⟨B1.g, 0, none⟩)) ∧ W.cell? ⟨B1.g, 1, none⟩ = some (.int .i64 z1.x.n) ∧ W.cell? ⟨B1.g, 2, none⟩ = some (.int .i64 z1.x.o) ∧ W.cell? ⟨C, 1, none⟩ = some (.int .i64 nh1) ∧ W.cell? ⟨A1.sp, 0, none⟩ = some (.pointer (some ⟨A1.m, 0, none⟩)) ∧ W.cell? ⟨A2.sp, 0, none⟩ = some (.pointer (some ⟨A2.m, 0, none⟩)) ∧ W.cell? ⟨B1.sp, 6, none⟩ = some (.pointer (some ⟨B1.m, 0, none⟩)) ∧ W.cell? ⟨B2.sp, 6, none⟩ = some (.pointer (some ⟨B2.m, 0, none⟩)) ∧ W.cell? ⟨B1.m, 4, none⟩ = some p1 ∧ W.cell? ⟨B2.m, 4, none⟩ = some p2 ∧ P W) := by
              intro W h
              have h' := h
              rw [HP] at h'
              exact ⟨rpCell h' 1 rfl 8, rpGate h' 1 rfl 1, rpGate h' 1 rfl 2, (h'.cell 5 rfl 1).trans (by rw [esl]; rfl), spCell h' 3 rfl 0, spCell h' 2 rfl 0, rpCell h' 1 rfl 6, rpCell h' 0 rfl 6, cell_of_heap (rpMeter h' 1 rfl).heap, cell_of_heap (rpMeter h' 0 rfl).heap, h⟩
            have N1 : ∀ W, P W → Calls Tryz.prog 13 #[.pointer (some ⟨A1.g, 0, none⟩)] W fun e w' => e = .returned (.agg #[.int .i64 z1.x.n, .int .i64 z1.x.o]) ∧ P w' := by
              intro W h
              rw [HP] at h ⊢
              exact spNow h 3 rfl
            have T1 : ∀ W, P W → Calls Tryz.prog 14 #[.pointer (some ⟨A1.t, 0, none⟩)] W fun e w' => e = .returned (.int .i64 nh1) ∧ P w' := by
              intro W h
              have h' := h
              rw [HP] at h'
              refine (spLen h' 3 rfl).mono ?_
              rintro e w' ⟨he, rfl⟩
              rw [hnh1] at he
              exact ⟨he, h⟩
            have V1 : ∀ W, P W → Calls Tryz.prog 16 #[.pointer (some ⟨A1.sp, 0, none⟩)] W fun e w' => ∃ pa ca ps cs, e = .returned (.agg #[.slice (some ⟨pa, 0, none⟩) nx1 ca, .int .i64 z1.x.n, .int .i64 z1.x.o, .slice (some ⟨ps, 0, none⟩) nh1 cs]) ∧ P w' ∧ Hid (St w (ownI 2 1 (.slice (some ⟨pa, 0, none⟩) nx1 ca) nx1 (clCells z1.xs) :: ownI 142 8 (.slice (some ⟨ps, 0, none⟩) nh1 cs) nh1 (slCells (slots z1.hs z1.ws)) :: [rpI B2 d z2 p2 q2, rpI B1 c z1 p1 q1, spI A2 d z2 v2 u2, spI A1 c z1 v1 u1, boxI D #[.int .i64 d.ce, .int .i64 d.sl, .int .i64 d.bi, .int .i64 d.ta, .int .i64 d.ba, .int .i64 d.de] 23, boxI C #[.int .i64 c.ce, .int .i64 c.sl, .int .i64 c.bi, .int .i64 c.ta, .int .i64 c.ba, .int .i64 c.de] 23]) w') := by
              intro W h
              rw [HP] at h ⊢
              refine (spView h 3 rfl ok1.wl ok1.h1 ok1.h8).mono ?_
              rintro e w' ⟨va, vs, he, h'⟩
              have hx1 : 0 < z1.xs.length := ok1.c1
              have hx2 : 0 < z1.hs.length := ok1.h1
              rw [hnx1, hnh1] at *
              obtain ⟨pa, ca, rfl⟩ := h'.form 0 rfl hx1
              obtain ⟨ps, cs, rfl⟩ := h'.form 1 rfl hx2
              exact ⟨pa, ca, ps, cs, he, St.tail [_, _] h', h'⟩
            have I1 : ∀ W pa ca ps cs, Hid (St w (ownI 2 1 (.slice (some ⟨pa, 0, none⟩) nx1 ca) nx1 (clCells z1.xs) :: ownI 142 8 (.slice (some ⟨ps, 0, none⟩) nh1 cs) nh1 (slCells (slots z1.hs z1.ws)) :: [rpI B2 d z2 p2 q2, rpI B1 c z1 p1 q1, spI A2 d z2 v2 u2, spI A1 c z1 v1 u1, boxI D #[.int .i64 d.ce, .int .i64 d.sl, .int .i64 d.bi, .int .i64 d.ta, .int .i64 d.ba, .int .i64 d.de] 23, boxI C #[.int .i64 c.ce, .int .i64 c.sl, .int .i64 c.bi, .int .i64 c.ta, .int .i64 c.ba, .int .i64 c.de] 23]) W) → Calls Tryz.prog 15 #[.pointer (some ⟨B1.sp, 0, none⟩), .agg #[.slice (some ⟨pa, 0, none⟩) nx1 ca, .int .i64 z1.x.n, .int .i64 z1.x.o, .slice (some ⟨ps, 0, none⟩) nh1 cs]] W fun e w' => e = .returned (.bool true) ∧ P w' := by
              intro W pa ca ps cs h
              rw [HP]
              refine (rpIs h.out 3 0 1 rfl rfl rfl hnx1 hnh1 (by have := ok1.h8; omega)).mono ?_
              rintro e w' ⟨he, hk⟩
              exact ⟨he, St.tail [_, _] (h.out.calm hk)⟩
            have E1 : ∀ W, P W → Calls Tryz.prog 18 #[.pointer (some ⟨A1.sp, 0, none⟩)] W fun e w' => ∃ vl, e = .returned vl ∧ P w' ∧ Hid (St w (ownI 39 10 vl z1.ev.length (evCells z1.ev) :: [rpI B2 d z2 p2 q2, rpI B1 c z1 p1 q1, spI A2 d z2 v2 u2, spI A1 c z1 v1 u1, boxI D #[.int .i64 d.ce, .int .i64 d.sl, .int .i64 d.bi, .int .i64 d.ta, .int .i64 d.ba, .int .i64 d.de] 23, boxI C #[.int .i64 c.ce, .int .i64 c.sl, .int .i64 c.bi, .int .i64 c.ta, .int .i64 c.ba, .int .i64 c.de] 23]) w') := by
              intro W h
              rw [HP] at h ⊢
              refine (spEvents h 3 rfl (by have := ok1.el; omega)).mono ?_
              rintro e w' ⟨vl, he, h'⟩
              exact ⟨vl, he, h'.pop, h'⟩
            have O1 : ∀ W vl, Hid (St w (ownI 39 10 vl z1.ev.length (evCells z1.ev) :: [rpI B2 d z2 p2 q2, rpI B1 c z1 p1 q1, spI A2 d z2 v2 u2, spI A1 c z1 v1 u1, boxI D #[.int .i64 d.ce, .int .i64 d.sl, .int .i64 d.bi, .int .i64 d.ta, .int .i64 d.ba, .int .i64 d.de] 23, boxI C #[.int .i64 c.ce, .int .i64 c.sl, .int .i64 c.bi, .int .i64 c.ta, .int .i64 c.ba, .int .i64 c.de] 23]) W) → Calls Tryz.prog 17 #[.pointer (some ⟨B1.sp, 0, none⟩), vl] W fun e w' => e = .returned (.bool true) ∧ P w' := by
              intro W vl h
              rw [HP]
              refine (rpTold h.out 2 0 rfl rfl (by have := ok1.el; omega)).mono ?_
              rintro e w' ⟨he, q, rfl⟩
              exact ⟨he, (h.out.calm ((Kept.refl _ W).drewN q)).pop⟩
            have G1 : ∀ W, P W → Calls Tryz.prog 20 #[.pointer (some ⟨A1.m, 0, none⟩)] W fun e w' => ∃ vl, e = .returned vl ∧ P w' ∧ Hid (St w (ownI 122 6 vl z1.s.l.length (logCells z1.s.l) :: [rpI B2 d z2 p2 q2, rpI B1 c z1 p1 q1, spI A2 d z2 v2 u2, spI A1 c z1 v1 u1, boxI D #[.int .i64 d.ce, .int .i64 d.sl, .int .i64 d.bi, .int .i64 d.ta, .int .i64 d.ba, .int .i64 d.de] 23, boxI C #[.int .i64 c.ce, .int .i64 c.sl, .int .i64 c.bi, .int .i64 c.ta, .int .i64 c.ba, .int .i64 c.de] 23]) w') := by
              intro W h
              rw [HP] at h ⊢
              refine (spLog h 3 rfl ok1 (by omega)).mono ?_
              rintro e w' ⟨vl, he, h'⟩
              exact ⟨vl, he, h'.pop, h'⟩
            have S1 : ∀ W vl, Hid (St w (ownI 122 6 vl z1.s.l.length (logCells z1.s.l) :: [rpI B2 d z2 p2 q2, rpI B1 c z1 p1 q1, spI A2 d z2 v2 u2, spI A1 c z1 v1 u1, boxI D #[.int .i64 d.ce, .int .i64 d.sl, .int .i64 d.bi, .int .i64 d.ta, .int .i64 d.ba, .int .i64 d.de] 23, boxI C #[.int .i64 c.ce, .int .i64 c.sl, .int .i64 c.bi, .int .i64 c.ta, .int .i64 c.ba, .int .i64 c.de] 23]) W) → Calls Tryz.prog 19 #[vl, p1] W fun e w' => e = .returned (.bool true) ∧ P w' := by
              intro W vl h
              rw [HP]
              have ha : W.ownsRow 0 122 6 vl z1.s.l.length (logCells z1.s.l) := h.out.get 0 rfl
              refine (same_true 0 0 vl p1 z1.s.l W ha (rpMeter h.out 2 rfl).own (by have := ok1.met.len; omega)).mono ?_
              rintro e w' ⟨he, q, rfl⟩
              exact ⟨he, (h.out.calm ((Kept.refl _ W).drewN q)).pop⟩
            have V2 : ∀ W, P W → Calls Tryz.prog 16 #[.pointer (some ⟨A2.sp, 0, none⟩)] W fun e w' => ∃ pa ca ps cs, e = .returned (.agg #[.slice (some ⟨pa, 0, none⟩) nx2 ca, .int .i64 z2.x.n, .int .i64 z2.x.o, .slice (some ⟨ps, 0, none⟩) nh2 cs]) ∧ P w' ∧ Hid (St w (ownI 2 1 (.slice (some ⟨pa, 0, none⟩) nx2 ca) nx2 (clCells z2.xs) :: ownI 142 8 (.slice (some ⟨ps, 0, none⟩) nh2 cs) nh2 (slCells (slots z2.hs z2.ws)) :: [rpI B2 d z2 p2 q2, rpI B1 c z1 p1 q1, spI A2 d z2 v2 u2, spI A1 c z1 v1 u1, boxI D #[.int .i64 d.ce, .int .i64 d.sl, .int .i64 d.bi, .int .i64 d.ta, .int .i64 d.ba, .int .i64 d.de] 23, boxI C #[.int .i64 c.ce, .int .i64 c.sl, .int .i64 c.bi, .int .i64 c.ta, .int .i64 c.ba, .int .i64 c.de] 23]) w') := by
              intro W h
              rw [HP] at h ⊢
              refine (spView h 2 rfl ok2.wl ok2.h1 ok2.h8).mono ?_
              rintro e w' ⟨va, vs, he, h'⟩
              have hx1 : 0 < z2.xs.length := ok2.c1
              have hx2 : 0 < z2.hs.length := ok2.h1
              rw [hnx2, hnh2] at *
              obtain ⟨pa, ca, rfl⟩ := h'.form 0 rfl hx1
              obtain ⟨ps, cs, rfl⟩ := h'.form 1 rfl hx2
              exact ⟨pa, ca, ps, cs, he, St.tail [_, _] h', h'⟩
            have I2 : ∀ W pa ca ps cs, Hid (St w (ownI 2 1 (.slice (some ⟨pa, 0, none⟩) nx2 ca) nx2 (clCells z2.xs) :: ownI 142 8 (.slice (some ⟨ps, 0, none⟩) nh2 cs) nh2 (slCells (slots z2.hs z2.ws)) :: [rpI B2 d z2 p2 q2, rpI B1 c z1 p1 q1, spI A2 d z2 v2 u2, spI A1 c z1 v1 u1, boxI D #[.int .i64 d.ce, .int .i64 d.sl, .int .i64 d.bi, .int .i64 d.ta, .int .i64 d.ba, .int .i64 d.de] 23, boxI C #[.int .i64 c.ce, .int .i64 c.sl, .int .i64 c.bi, .int .i64 c.ta, .int .i64 c.ba, .int .i64 c.de] 23]) W) → Calls Tryz.prog 15 #[.pointer (some ⟨B2.sp, 0, none⟩), .agg #[.slice (some ⟨pa, 0, none⟩) nx2 ca, .int .i64 z2.x.n, .int .i64 z2.x.o, .slice (some ⟨ps, 0, none⟩) nh2 cs]] W fun e w' => e = .returned (.bool true) ∧ P w' := by
              intro W pa ca ps cs h
              rw [HP]
              refine (rpIs h.out 2 0 1 rfl rfl rfl hnx2 hnh2 (by have := ok2.h8; omega)).mono ?_
              rintro e w' ⟨he, hk⟩
              exact ⟨he, St.tail [_, _] (h.out.calm hk)⟩
            have E2 : ∀ W, P W → Calls Tryz.prog 18 #[.pointer (some ⟨A2.sp, 0, none⟩)] W fun e w' => ∃ vl, e = .returned vl ∧ P w' ∧ Hid (St w (ownI 39 10 vl z2.ev.length (evCells z2.ev) :: [rpI B2 d z2 p2 q2, rpI B1 c z1 p1 q1, spI A2 d z2 v2 u2, spI A1 c z1 v1 u1, boxI D #[.int .i64 d.ce, .int .i64 d.sl, .int .i64 d.bi, .int .i64 d.ta, .int .i64 d.ba, .int .i64 d.de] 23, boxI C #[.int .i64 c.ce, .int .i64 c.sl, .int .i64 c.bi, .int .i64 c.ta, .int .i64 c.ba, .int .i64 c.de] 23]) w') := by
              intro W h
              rw [HP] at h ⊢
              refine (spEvents h 2 rfl (by have := ok2.el; omega)).mono ?_
              rintro e w' ⟨vl, he, h'⟩
              exact ⟨vl, he, h'.pop, h'⟩
            have O2 : ∀ W vl, Hid (St w (ownI 39 10 vl z2.ev.length (evCells z2.ev) :: [rpI B2 d z2 p2 q2, rpI B1 c z1 p1 q1, spI A2 d z2 v2 u2, spI A1 c z1 v1 u1, boxI D #[.int .i64 d.ce, .int .i64 d.sl, .int .i64 d.bi, .int .i64 d.ta, .int .i64 d.ba, .int .i64 d.de] 23, boxI C #[.int .i64 c.ce, .int .i64 c.sl, .int .i64 c.bi, .int .i64 c.ta, .int .i64 c.ba, .int .i64 c.de] 23]) W) → Calls Tryz.prog 17 #[.pointer (some ⟨B2.sp, 0, none⟩), vl] W fun e w' => e = .returned (.bool true) ∧ P w' := by
              intro W vl h
              rw [HP]
              refine (rpTold h.out 1 0 rfl rfl (by have := ok2.el; omega)).mono ?_
              rintro e w' ⟨he, q, rfl⟩
              exact ⟨he, (h.out.calm ((Kept.refl _ W).drewN q)).pop⟩
            have G2 : ∀ W, P W → Calls Tryz.prog 20 #[.pointer (some ⟨A2.m, 0, none⟩)] W fun e w' => ∃ vl, e = .returned vl ∧ P w' ∧ Hid (St w (ownI 122 6 vl z2.s.l.length (logCells z2.s.l) :: [rpI B2 d z2 p2 q2, rpI B1 c z1 p1 q1, spI A2 d z2 v2 u2, spI A1 c z1 v1 u1, boxI D #[.int .i64 d.ce, .int .i64 d.sl, .int .i64 d.bi, .int .i64 d.ta, .int .i64 d.ba, .int .i64 d.de] 23, boxI C #[.int .i64 c.ce, .int .i64 c.sl, .int .i64 c.bi, .int .i64 c.ta, .int .i64 c.ba, .int .i64 c.de] 23]) w') := by
              intro W h
              rw [HP] at h ⊢
              refine (spLog h 2 rfl ok2 (by omega)).mono ?_
              rintro e w' ⟨vl, he, h'⟩
              exact ⟨vl, he, h'.pop, h'⟩
            have S2 : ∀ W vl, Hid (St w (ownI 122 6 vl z2.s.l.length (logCells z2.s.l) :: [rpI B2 d z2 p2 q2, rpI B1 c z1 p1 q1, spI A2 d z2 v2 u2, spI A1 c z1 v1 u1, boxI D #[.int .i64 d.ce, .int .i64 d.sl, .int .i64 d.bi, .int .i64 d.ta, .int .i64 d.ba, .int .i64 d.de] 23, boxI C #[.int .i64 c.ce, .int .i64 c.sl, .int .i64 c.bi, .int .i64 c.ta, .int .i64 c.ba, .int .i64 c.de] 23]) W) → Calls Tryz.prog 19 #[vl, p2] W fun e w' => e = .returned (.bool true) ∧ P w' := by
              intro W vl h
              rw [HP]
              have ha : W.ownsRow 0 122 6 vl z2.s.l.length (logCells z2.s.l) := h.out.get 0 rfl
              refine (same_true 0 0 vl p2 z2.s.l W ha (rpMeter h.out 1 rfl).own (by have := ok2.met.len; omega)).mono ?_
              rintro e w' ⟨he, q, rfl⟩
              exact ⟨he, (h.out.calm ((Kept.refl _ W).drewN q)).pop⟩
            have HE : Hid (∀ W, P W → Kept (fun _ => False) w W) := by
              intro W h
              rw [HP] at h
              exact h.same
            have heg := eqGt z1.x.n z1.x.o
            have hnn : ((nh1 : Int) == (nh1 : Int)) = true := by simp
            clear HP hS ok1 ok2 hnx1 hnh1 hnx2 hnh2 esl HS hlt hlt1 hkk hk0
            go_region_held3 (fun W => W.cell? ⟨B1.sp, 8, none⟩ = some (.pointer (some ⟨B1.g, 0, none⟩)) ∧ W.cell? ⟨B1.g, 1, none⟩ = some (.int .i64 z1.x.n) ∧ W.cell? ⟨B1.g, 2, none⟩ = some (.int .i64 z1.x.o) ∧ W.cell? ⟨C, 1, none⟩ = some (.int .i64 nh1) ∧ W.cell? ⟨A1.sp, 0, none⟩ = some (.pointer (some ⟨A1.m, 0, none⟩)) ∧ W.cell? ⟨A2.sp, 0, none⟩ = some (.pointer (some ⟨A2.m, 0, none⟩)) ∧ W.cell? ⟨B1.sp, 6, none⟩ = some (.pointer (some ⟨B1.m, 0, none⟩)) ∧ W.cell? ⟨B2.sp, 6, none⟩ = some (.pointer (some ⟨B2.m, 0, none⟩)) ∧ W.cell? ⟨B1.m, 4, none⟩ = some p1 ∧ W.cell? ⟨B2.m, 4, none⟩ = some p2 ∧ P W)
              (exact CH.out _ hH)
              (first | (go_at_call 13; refine (N1 _ hH).mono ?_; rintro e wx ⟨rfl, hH⟩) | (go_at_call 14; refine (T1 _ hH).mono ?_; rintro e wx ⟨rfl, hH⟩) | (go_at_call_of 16 A1; refine (V1 _ hH).mono ?_; rintro e wx ⟨pa, ca, ps, cs, rfl, hH, hV⟩) | (go_at_call_of 15 B1; refine (I1 _ _ _ _ _ hV).mono ?_; rintro e wx ⟨rfl, hH⟩) | (go_at_call_of 18 A1; refine (E1 _ hH).mono ?_; rintro e wx ⟨vl, rfl, hH, hV⟩) | (go_at_call_of 17 B1; refine (O1 _ _ hV).mono ?_; rintro e wx ⟨rfl, hH⟩) | (go_at_call_of 20 A1; refine (G1 _ hH).mono ?_; rintro e wx ⟨vl, rfl, hH, hV⟩) | (go_at_call_of 19 p1; refine (S1 _ _ hV).mono ?_; rintro e wx ⟨rfl, hH⟩) | (go_at_call_of 16 A2; refine (V2 _ hH).mono ?_; rintro e wx ⟨pa, ca, ps, cs, rfl, hH, hV⟩) | (go_at_call_of 15 B2; refine (I2 _ _ _ _ _ hV).mono ?_; rintro e wx ⟨rfl, hH⟩) | (go_at_call_of 18 A2; refine (E2 _ hH).mono ?_; rintro e wx ⟨vl, rfl, hH, hV⟩) | (go_at_call_of 17 B2; refine (O2 _ _ hV).mono ?_; rintro e wx ⟨rfl, hH⟩) | (go_at_call_of 20 A2; refine (G2 _ hH).mono ?_; rintro e wx ⟨vl, rfl, hH, hV⟩) | (go_at_call_of 19 p2; refine (S2 _ _ hV).mono ?_; rintro e wx ⟨rfl, hH⟩))
            go_wp2
            go_ret
            exact ⟨rfl, HE.out _ hH⟩
    · replace hfd : d.fits = false := by simpa using hfd
      obtain ⟨c0, c1, c2, c3, c4, c5⟩ := cfg_facts h1 1 rfl
      have hq : Calls Tryz.prog 5 #[.agg #[.int .i64 c.ce, .int .i64 c.sl, .int .i64 c.bi, .int .i64 c.ta, .int .i64 c.ba, .int .i64 c.de]] w1 _ := spNew_st h1 c hfc
      go_wp2_with fail
      refine hq.mono ?_
      rintro e w2 ⟨A1, rfl, h2⟩
      clear hq c0 c1 c2 c3 c4 c5 h1
      unfold spp
      obtain ⟨c0, c1, c2, c3, c4, c5⟩ := cfg_facts h2 1 rfl
      have hq : Calls Tryz.prog 5 #[.agg #[.int .i64 d.ce, .int .i64 d.sl, .int .i64 d.bi, .int .i64 d.ta, .int .i64 d.ba, .int .i64 d.de]] w2 _ := spNew_out d hfd w2
      go_wp2_with fail
      refine hq.mono ?_
      rintro e w3 ⟨rfl, k3⟩
      have h3 := h2.calm k3
      clear hq c0 c1 c2 c3 c4 c5 h2 k3
      obtain ⟨c0, c1, c2, c3, c4, c5⟩ := cfg_facts h3 2 rfl
      have hq : Calls Tryz.prog 6 #[.agg #[.int .i64 c.ce, .int .i64 c.sl, .int .i64 c.bi, .int .i64 c.ta, .int .i64 c.ba, .int .i64 c.de]] w3 _ := rpNew_st h3 c hfc
      go_wp2_with fail
      refine hq.mono ?_
      rintro e w4 ⟨B1, rfl, h4⟩
      clear hq c0 c1 c2 c3 c4 c5 h3
      unfold rpp
      obtain ⟨c0, c1, c2, c3, c4, c5⟩ := cfg_facts h4 2 rfl
      have hq : Calls Tryz.prog 6 #[.agg #[.int .i64 d.ce, .int .i64 d.sl, .int .i64 d.bi, .int .i64 d.ta, .int .i64 d.ba, .int .i64 d.de]] w4 _ := rpNew_out d hfd w4
      go_wp2_with fail
      refine hq.mono ?_
      rintro e w5 ⟨rfl, k5⟩
      have h5 := h4.calm k5
      clear hq c0 c1 c2 c3 c4 c5 h4 k5
      have HK : Hid (Kept (fun _ => False) w w5) := h5.same
      clear h5 HS
      go_wp2
      go_ret
      exact ⟨rfl, HK.out⟩
  · replace hfc : c.fits = false := by simpa using hfc
    by_cases hfd : d.fits = true
    · skip
      obtain ⟨c0, c1, c2, c3, c4, c5⟩ := cfg_facts h1 1 rfl
      have hq : Calls Tryz.prog 5 #[.agg #[.int .i64 c.ce, .int .i64 c.sl, .int .i64 c.bi, .int .i64 c.ta, .int .i64 c.ba, .int .i64 c.de]] w1 _ := spNew_out c hfc w1
      go_wp2_with fail
      refine hq.mono ?_
      rintro e w2 ⟨rfl, k2⟩
      have h2 := h1.calm k2
      clear hq c0 c1 c2 c3 c4 c5 h1 k2
      obtain ⟨c0, c1, c2, c3, c4, c5⟩ := cfg_facts h2 0 rfl
      have hq : Calls Tryz.prog 5 #[.agg #[.int .i64 d.ce, .int .i64 d.sl, .int .i64 d.bi, .int .i64 d.ta, .int .i64 d.ba, .int .i64 d.de]] w2 _ := spNew_st h2 d hfd
      go_wp2_with fail
      refine hq.mono ?_
      rintro e w3 ⟨A2, rfl, h3⟩
      clear hq c0 c1 c2 c3 c4 c5 h2
      unfold spp
      obtain ⟨c0, c1, c2, c3, c4, c5⟩ := cfg_facts h3 2 rfl
      have hq : Calls Tryz.prog 6 #[.agg #[.int .i64 c.ce, .int .i64 c.sl, .int .i64 c.bi, .int .i64 c.ta, .int .i64 c.ba, .int .i64 c.de]] w3 _ := rpNew_out c hfc w3
      go_wp2_with fail
      refine hq.mono ?_
      rintro e w4 ⟨rfl, k4⟩
      have h4 := h3.calm k4
      clear hq c0 c1 c2 c3 c4 c5 h3 k4
      obtain ⟨c0, c1, c2, c3, c4, c5⟩ := cfg_facts h4 1 rfl
      have hq : Calls Tryz.prog 6 #[.agg #[.int .i64 d.ce, .int .i64 d.sl, .int .i64 d.bi, .int .i64 d.ta, .int .i64 d.ba, .int .i64 d.de]] w4 _ := rpNew_st h4 d hfd
      go_wp2_with fail
      refine hq.mono ?_
      rintro e w5 ⟨B2, rfl, h5⟩
      clear hq c0 c1 c2 c3 c4 c5 h4
      unfold rpp
      have HK : Hid (Kept (fun _ => False) w w5) := h5.same
      clear h5 HS
      go_wp2
      go_ret
      exact ⟨rfl, HK.out⟩
    · replace hfd : d.fits = false := by simpa using hfd
      obtain ⟨c0, c1, c2, c3, c4, c5⟩ := cfg_facts h1 1 rfl
      have hq : Calls Tryz.prog 5 #[.agg #[.int .i64 c.ce, .int .i64 c.sl, .int .i64 c.bi, .int .i64 c.ta, .int .i64 c.ba, .int .i64 c.de]] w1 _ := spNew_out c hfc w1
      go_wp2_with fail
      refine hq.mono ?_
      rintro e w2 ⟨rfl, k2⟩
      have h2 := h1.calm k2
      clear hq c0 c1 c2 c3 c4 c5 h1 k2
      obtain ⟨c0, c1, c2, c3, c4, c5⟩ := cfg_facts h2 0 rfl
      have hq : Calls Tryz.prog 5 #[.agg #[.int .i64 d.ce, .int .i64 d.sl, .int .i64 d.bi, .int .i64 d.ta, .int .i64 d.ba, .int .i64 d.de]] w2 _ := spNew_out d hfd w2
      go_wp2_with fail
      refine hq.mono ?_
      rintro e w3 ⟨rfl, k3⟩
      have h3 := h2.calm k3
      clear hq c0 c1 c2 c3 c4 c5 h2 k3
      obtain ⟨c0, c1, c2, c3, c4, c5⟩ := cfg_facts h3 1 rfl
      have hq : Calls Tryz.prog 6 #[.agg #[.int .i64 c.ce, .int .i64 c.sl, .int .i64 c.bi, .int .i64 c.ta, .int .i64 c.ba, .int .i64 c.de]] w3 _ := rpNew_out c hfc w3
      go_wp2_with fail
      refine hq.mono ?_
      rintro e w4 ⟨rfl, k4⟩
      have h4 := h3.calm k4
      clear hq c0 c1 c2 c3 c4 c5 h3 k4
      obtain ⟨c0, c1, c2, c3, c4, c5⟩ := cfg_facts h4 0 rfl
      have hq : Calls Tryz.prog 6 #[.agg #[.int .i64 d.ce, .int .i64 d.sl, .int .i64 d.bi, .int .i64 d.ta, .int .i64 d.ba, .int .i64 d.de]] w4 _ := rpNew_out d hfd w4
      go_wp2_with fail
      refine hq.mono ?_
      rintro e w5 ⟨rfl, k5⟩
      have h5 := h4.calm k5
      clear hq c0 c1 c2 c3 c4 c5 h4 k5
      have HK : Hid (Kept (fun _ => False) w w5) := h5.same
      clear h5 HS
      go_wp2
      go_ret
      exact ⟨rfl, HK.out⟩
end Go.Proofs.YtjffkgolpdoegaaGreat
