/- Four threads in memory; a move of one of them. -/
import Derived.Test.YtnchfomoaonbkaaGreatTxS
import Derived.Test.YtnchfomoaonbkaaGreatTxQ
import Derived.Test.YtnchfomoaonbkaaGreatTxR
import Derived.Test.YtnchfomoaonbkaaGreatTxG
namespace Go.Proofs.YtnchfomoaonbkaaGreat
open Go.RowKit
set_option linter.unusedVariables false
set_option linter.unusedSimpArgs false
attribute [local go_sem ↓] Go.wp_at_zero Go.wp_at_succ
def Mv.val (m : Mv) : Value := .agg #[.int .i64 m.th, .int .i64 m.kd, .int .i64 m.n, .int .i64 m.ce, .int .i64 m.x]
def gset (cs : Array Value) (k : Nat) (a b : Int) : Array Value := (cs.setIfInBounds 9 (.int .i64 a)).setIfInBounds (5 + k) (.int .i64 b)
def agn (x : Tt) (sm st : Int) : Int := if sm = 0 ∨ (x.le ≠ 7 ∧ x.le ≠ 9 ∧ x.le ≠ 8 ∧ x.le ≠ 6) then st + 1 else sm
theorem wf_small {a : Int} (h0 : 0 ≤ a) (h1 : a < 256) : (Lit.int .i64 a).wf = true := by
  have e1 : IntKind.i64.min = -9223372036854775808 := by decide
  have e2 : IntKind.i64.max = 9223372036854775807 := by decide
  simp only [Lit.wf, e1, e2, Bool.and_eq_true, decide_eq_true_eq]
  omega
theorem gset_back {cs : Array Value} {k : Nat} {a b : Int} (hk : k < 4) (h : cs[5 + k]? = some (.int .i64 b)) : cs.setIfInBounds 9 (.int .i64 a) = gset cs k a b := by
  unfold gset
  apply Array.ext_getElem?
  intro i
  rw [Array.getElem?_setIfInBounds (i := 5 + k)]
  split
  · rename_i e
    subst e
    rw [Array.getElem?_setIfInBounds_ne (by omega), h]
    have := (Array.getElem?_eq_some_iff.1 h).1
    simp; omega
  · rfl
section
variable {o w : World} {its R : List It} {A : Ad} {c : Cfg} {z : SSt} {v u : Value} {P : TA} {x : Tt}
set_option maxRecDepth 100000 in
set_option maxHeartbeats 4000000 in
theorem gGoes0 {G : Nat} {cs : Array Value} {k : Nat} {sm st : Int} (h : St o (txL c A P x ++ spI A c z v u :: boxI G cs 98 :: R) w) (hk4 : k < 4)
    (h0 : cs[0]? = some (spp A)) (h1 : cs[1 + k]? = some (.pointer (some ⟨P.T, 0, none⟩))) (h5 : cs[5 + k]? = some (.int .i64 sm)) (h9 : cs[9]? = some (.int .i64 st))
    (m : Mv) (hmk : m.th % 4 = k) {n : Nat} (ok : z.ok c n) (hn : n ≤ 900000000) (hx : x.fit c z.hs.length n) (hf : c.fits = true) (hw : WsOk z.ws) (hJ : ∀ y, x.dg = .com y → P.B.J = P.J) (hst : 0 ≤ st) (hst2 : st ≤ 900000000) (hsm : 0 ≤ sm)
    {Q : Ending → World → Prop}
    (q : ∀ P' v' u' w', P'.T = P.T → (∀ y, ((callT x c z.hs.length m (agn x sm st)).next c (callZ x c m (z.turn (k + 1)))).dg = .com y → P'.B.J = P'.J) → St o (txL c A P' ((callT x c z.hs.length m (agn x sm st)).next c (callZ x c m (z.turn (k + 1)))) ++ spI A c ((callZ x c m (z.turn (k + 1))).steps c (callT x c z.hs.length m (agn x sm st))) v' u' :: boxI G (gset cs k (st + 1) (if x.dg.phase = 0 then agn x sm st else sm)) 98 :: R) w' → Q (.returned (.int .i64 ((callT x c z.hs.length m (agn x sm st)).ans (callZ x c m (z.turn (k + 1)))))) w') :
    Calls Tryz.prog 31 #[.pointer (some ⟨G, 0, none⟩), m.val] w Q := by
  have hb := h.box #[.int .i64 m.th, .int .i64 m.kd, .int .i64 m.n, .int .i64 m.ce, .int .i64 m.x] 51
  have hs0 : St o (txL c A P x ++ spI A c z v u :: boxI w.heap.size #[.int .i64 m.th, .int .i64 m.kd, .int .i64 m.n, .int .i64 m.ce, .int .i64 m.x] 51 :: boxI G cs 98 :: R) (w.alloc (.cells #[.int .i64 m.th, .int .i64 m.kd, .int .i64 m.n, .int .i64 m.ce, .int .i64 m.x] 51)) := by
    refine hb.perm ?_
    have p := (List.perm_middle (l₁ := txL c A P x ++ [spI A c z v u]) (l₂ := boxI G cs 98 :: R) (a := boxI w.heap.size #[.int .i64 m.th, .int .i64 m.kd, .int .i64 m.n, .int .i64 m.ce, .int .i64 m.x] 51)).symm
    simpa using p
  clear h hb
  unfold Mv.val
  obtain ⟨mth, mkd, mn, mce, mx⟩ := m
  simp only at *
  have hand := and3 mth
  rw [hmk] at hand
  have hand2 := and255 mce
  have ac0 : 0 ≤ mce % 256 := by omega
  have ac1 : mce % 256 < 256 := by omega
  obtain ⟨fc1, fc2, fc3, fc4⟩ := Cfg.fits_cells hf
  go_enter Tryz.func31, Tryz.ntmps31
  go_upto_region 1 with fail
  generalize w.alloc (.cells #[.int .i64 mth, .int .i64 mkd, .int .i64 mn, .int .i64 mce, .int .i64 mx] 51) = W0 at *
  generalize w.heap.size = MB at *
  have b0 : W0.cell? ⟨MB, 0, none⟩ = some (.int .i64 mth) := hs0.cell 7 rfl 0
  have g0 : W0.cell? ⟨G, 0, none⟩ = some (spp A) := (hs0.cell 8 rfl 0).trans h0
  have g1 : W0.cell? ⟨G, 1 + k, none⟩ = some (.pointer (some ⟨P.T, 0, none⟩)) := (hs0.cell 8 rfl (1 + k)).trans h1
  have g9 : W0.cell? ⟨G, 9, none⟩ = some (.int .i64 st) := (hs0.cell 8 rfl 9).trans h9
  have y9 : W0.frozen? ⟨G, 9, none⟩ = false := hs0.frozen 8 rfl 9
  have k4 : (k : Int) < 4 := by omega
  have k0 : (0 : Int) ≤ (k : Int) := by omega
  unfold spp at g0
  have hs1 := hs0.write 8 rfl 9 (.int .i64 (st + 1))
  go_upto_region 4 with fail
  clear b0 g0 g1 g9 y9 hs0
  have hs1 : St o (txL c A P x ++ spI A c z v u :: boxI MB #[.int .i64 mth, .int .i64 mkd, .int .i64 mn, .int .i64 mce, .int .i64 mx] 51 :: boxI G (cs.setIfInBounds 9 (.int .i64 (st + 1))) 98 :: R) (W0.setCell ⟨G, 9, none⟩ (.int .i64 (st + 1))) := hs1
  generalize W0.setCell ⟨G, 9, none⟩ (.int .i64 (st + 1)) = w1 at *
  have j0 : (cs.setIfInBounds 9 (.int .i64 (st + 1)))[0]? = some (spp A) := by rw [Array.getElem?_setIfInBounds_ne (by omega)]; exact h0
  have g0 : w1.cell? ⟨G, 0, none⟩ = some (spp A) := (hs1.cell 8 rfl 0).trans j0
  have hq := spTurn hs1 6 rfl ok (by omega) (k + 1)
  unfold spp at g0 hq
  clear hs1
  go_wp2_with fail
  refine hq.mono ?_
  rintro e w2 ⟨rfl, s2⟩
  clear hq g0
  have s2 : St o (txL c A P x ++ spI A c (z.turn (k + 1)) v u :: boxI MB #[.int .i64 mth, .int .i64 mkd, .int .i64 mn, .int .i64 mce, .int .i64 mx] 51 :: boxI G (cs.setIfInBounds 9 (.int .i64 (st + 1))) 98 :: R) w2 := s2
  have ok2 := ok.turn (k + 1)
  have hx2 : x.fit c (z.turn (k + 1)).hs.length n := hx
  have hw2 : WsOk (z.turn (k + 1)).ws := hw
  clear ok hx hw
  rw [show z.hs.length = (z.turn (↑k + 1)).hs.length from rfl] at q
  generalize z.turn (k + 1) = z2 at *
  have g0 : w2.cell? ⟨G, 0, none⟩ = some (spp A) := (s2.cell 8 rfl 0).trans j0
  have hC := spConfig s2 6 rfl
  unfold Cfg.val at hC
  unfold spp at g0 hC
  clear s2
  go_wp2_with fail
  refine hC.mono ?_
  rintro e w3 ⟨rfl, s3⟩
  clear hC g0
  have b3 : w3.cell? ⟨MB, 3, none⟩ = some (.int .i64 mce) := s3.cell 7 rfl 3
  have hP := tPhase s3
  clear s3
  have HFin : Hid (∀ P1 v3 u3 cs' W, P1.T = P.T → (∀ y, (callT x c z2.hs.length ⟨mth, mkd, mn, mce, mx⟩ (agn x sm st)).dg = .com y → P1.B.J = P1.J) → cs' = gset cs k (st + 1) (if x.dg.phase = 0 then agn x sm st else sm) → St o (txL c A P1 (callT x c z2.hs.length ⟨mth, mkd, mn, mce, mx⟩ (agn x sm st)) ++ spI A c (callZ x c ⟨mth, mkd, mn, mce, mx⟩ z2) v3 u3 :: boxI MB #[.int .i64 mth, .int .i64 mkd, .int .i64 mn, .int .i64 mce, .int .i64 mx] 51 :: boxI G cs' 98 :: R) W → Calls Tryz.prog 42 #[.pointer (some ⟨P.T, 0, none⟩)] W fun e w' => e = .returned (.int .i64 ((callT x c z2.hs.length ⟨mth, mkd, mn, mce, mx⟩ (agn x sm st)).ans (callZ x c ⟨mth, mkd, mn, mce, mx⟩ z2))) ∧ Hid (Q (.returned (.int .i64 ((callT x c z2.hs.length ⟨mth, mkd, mn, mce, mx⟩ (agn x sm st)).ans (callZ x c ⟨mth, mkd, mn, mce, mx⟩ z2)))) w')) := by
    intro P1 v3 u3 cs' W hT hJ1 hcs hW
    have hz3 := (callZ_ws (c := c) x ⟨mth, mkd, mn, mce, mx⟩ z2).2.1
    have hw3 := (callZ_ws (c := c) x ⟨mth, mkd, mn, mce, mx⟩ z2).1
    have hok3 := ok2.callZ x ⟨mth, mkd, mn, mce, mx⟩
    have hfit := hx2.callT ok2.hl ok2.h1 ok2.h8 ⟨mth, mkd, mn, mce, mx⟩ (agn x sm st)
    have q1 := tStep hW hok3 (by omega) (by rw [hz3]; exact hfit) (by omega) hf (by rw [hw3]; exact hw2) hJ1
    rw [hT] at q1
    refine q1.mono ?_
    rintro e w' ⟨he, P2, v4, u4, hT2, hJ2, s⟩
    subst hcs
    refine ⟨he, q P2 v4 u4 w' hT2 hJ2 (St.popAt (pre := txL c A P2 ((callT x c z2.hs.length ⟨mth, mkd, mn, mce, mx⟩ (agn x sm st)).next c (callZ x c ⟨mth, mkd, mn, mce, mx⟩ z2)) ++ [spI A c ((callZ x c ⟨mth, mkd, mn, mce, mx⟩ z2).steps c (callT x c z2.hs.length ⟨mth, mkd, mn, mce, mx⟩ (agn x sm st))) v4 u4]) (by simpa using s) |> fun t => by simpa using t)⟩
  have HCE : Hid (0 ≤ cellOf c ⟨mth, mkd, mn, mce, mx⟩ ∧ cellOf c ⟨mth, mkd, mn, mce, mx⟩ < c.ce ∧ cellOf c ⟨mth, mkd, mn, mce, mx⟩ < 256) := by
    unfold cellOf
    simp only
    have e1 := Int.emod_nonneg (mce % 256) (show c.ce ≠ 0 by omega)
    have e2 := Int.emod_lt_of_pos (mce % 256) (show 0 < c.ce by omega)
    exact ⟨e1, e2, by omega⟩
  have HXF : Hid (x.fit c z2.hs.length n ∧ z2.ev.length ≤ 2000000000 ∧ (z2.hs.length : Int) = c.sl ∧ z2.hs.length ≤ 8) := ⟨hx2, by have := ok2.el; omega, ok2.hl, ok2.h8⟩
  have HGS : Hid (cs.setIfInBounds 9 (.int .i64 (st + 1)) = gset cs k (st + 1) sm ∧ ∀ b, (cs.setIfInBounds 9 (.int .i64 (st + 1))).setIfInBounds (5 + k) (.int .i64 b) = gset cs k (st + 1) b) := ⟨gset_back hk4 h5, fun b => rfl⟩
  have HJ := hid hJ
  have HCS : Hid ((cs.setIfInBounds 9 (.int .i64 (st + 1)))[5 + k]? = some (.int .i64 sm) ∧ (cs.setIfInBounds 9 (.int .i64 (st + 1)))[9]? = some (.int .i64 (st + 1))) := by
    have := (Array.getElem?_eq_some_iff.1 h9).1
    exact ⟨by rw [Array.getElem?_setIfInBounds_ne (by omega)]; exact h5, by rw [Array.getElem?_setIfInBounds, if_pos rfl, if_pos this]⟩
  have HF := hid hf
  clear hx2 hw2 ok2 hJ h0 h1 h5 h9 j0 q hf
  go_wp2_with (simp only [fldCe])
  refine hP.mono ?_
  rintro e w4 ⟨rfl, s4⟩
  have s4 : St o (txL c A P x ++ spI A c z2 v u :: boxI MB #[.int .i64 mth, .int .i64 mkd, .int .i64 mn, .int .i64 mce, .int .i64 mx] 51 :: boxI G (cs.setIfInBounds 9 (.int .i64 (st + 1))) 98 :: R) w4 := s4
  clear hP b3
  have hcell : mce % 256 % c.ce = cellOf c ⟨mth, mkd, mn, mce, mx⟩ := rfl
  by_cases hp0 : x.dg.phase = 0
  · have e1 : callT x c z2.hs.length ⟨mth, mkd, mn, mce, mx⟩ (agn x sm st) = x.begin_ (agn x sm st) := by unfold callT; rw [if_pos hp0]
    have e2 : callZ x c ⟨mth, mkd, mn, mce, mx⟩ z2 = z2 := by unfold callZ; rw [if_neg (by omega)]
    rw [e1, e2, if_pos hp0] at HFin
    rw [hp0]
    clear e1 e2
    have hL := tLast s4
    have HS4 := hid s4
    have HB : Hid (∀ P0 W cs2 A1, 1 ≤ A1 → A1 = agn x sm st → St o (txL c A P x ++ spI A c z2 v u :: boxI MB #[.int .i64 mth, .int .i64 mkd, .int .i64 mn, .int .i64 mce, .int .i64 mx] 51 :: boxI G cs2 98 :: R) W → P0 = P.T → Calls Tryz.prog 40 #[.pointer (some ⟨P0, 0, none⟩), .int .i64 A1] W fun e w' => e = .returned (.int .i64 0) ∧ ∃ P1, P1.T = P.T ∧ St o (txL c A P1 (x.begin_ (agn x sm st)) ++ spI A c z2 v u :: boxI MB #[.int .i64 mth, .int .i64 mkd, .int .i64 mn, .int .i64 mce, .int .i64 mx] 51 :: boxI G cs2 98 :: R) w') := by
      intro P0 W cs2 A1 hA1 hA2 hW hP0
      subst hP0 hA2
      exact tBegin_ok hW hp0 hA1 HXF.out.1.th1 HXF.out.1.th8
    have HJB : Hid (∀ P1 : TA, ∀ y, (x.begin_ (agn x sm st)).dg = .com y → P1.B.J = P1.J) := by
      intro P1 y e
      exfalso
      unfold Tt.begin_ at e
      split at e
      · cases e
      · rw [phase_zero hp0] at e; cases e
    have g5 : w4.cell? ⟨G, 5 + k, none⟩ = some (.int .i64 sm) := (s4.cell 8 rfl (5 + k)).trans HCS.out.1
    clear s4 hp0
    obtain ⟨ele, hle⟩ : ∃ y, y = x.le := ⟨_, rfl⟩
    rw [← hle] at hL
    have HLE := hid hle
    clear hle
    go_wp2_with fail
    refine hL.mono ?_
    rintro e w5 ⟨rfl, k5⟩
    have s5 := HS4.out.calm k5
    clear hL HS4 k5 g5
    have g5 : w5.cell? ⟨G, 5 + k, none⟩ = some (.int .i64 sm) := (s5.cell 8 rfl (5 + k)).trans HCS.out.1
    have g9 : w5.cell? ⟨G, 9, none⟩ = some (.int .i64 (st + 1)) := (s5.cell 8 rfl 9).trans HCS.out.2
    have y5 : w5.frozen? ⟨G, 5 + k, none⟩ = false := s5.frozen 8 rfl (5 + k)
    have HAG0 : Hid (sm = 0 → agn x sm st = st + 1) := fun hh => if_pos (.inl hh)
    have HAG1 : Hid (ele ≠ 7 → ele ≠ 9 → ele ≠ 8 → ele ≠ 6 → agn x sm st = st + 1) := fun a b d e => if_pos (.inr (by rw [← HLE.out]; exact ⟨a, b, d, e⟩))
    have HAG2 : Hid (sm ≠ 0 → (ele = 7 ∨ ele = 9 ∨ ele = 8 ∨ ele = 6) → agn x sm st = sm) := fun a b => if_neg (fun q => by
      rcases q with q | q
      · exact a q
      · rw [← HLE.out] at q
        rcases b with b | b | b | b
        · exact q.1 b
        · exact q.2.1 b
        · exact q.2.2.1 b
        · exact q.2.2.2 b)
    by_cases hsm0 : sm = 0
    · have HAG := hid (HAG0.out hsm0)
      have z0 : (sm == 0) = true := by simp [hsm0]
      clear HAG0 HAG1 HAG2 hsm0
      have hA : agn x sm st = st + 1 := HAG.out
      have s6 := s5.write 8 rfl (5 + k) (.int .i64 (st + 1))
      have s6 : St o (txL c A P x ++ spI A c z2 v u :: boxI MB #[.int .i64 mth, .int .i64 mkd, .int .i64 mn, .int .i64 mce, .int .i64 mx] 51 :: boxI G (gset cs k (st + 1) (st + 1)) 98 :: R) (w5.setCell ⟨G, 5 + k, none⟩ (.int .i64 (st + 1))) := s6
      have hsz : (gset cs k (st + 1) (st + 1))[5 + k]? = some (.int .i64 (st + 1)) := by
        have := HCS.out.1
        have := (Array.getElem?_eq_some_iff.1 this).1
        unfold gset
        rw [Array.getElem?_setIfInBounds, if_pos rfl, if_pos (by simpa using this)]
      have HSZ := hid hsz
      clear s5 hsz
      go_upto_region 11 with (simp only [fldLE])
      go_region_with (fail)
      all_goals
        have s6 := s6.drew
        have c6 : (w5.setCell ⟨G, 5 + k, none⟩ (.int .i64 (st + 1))).drew.cell? ⟨G, 5 + k, none⟩ = some (.int .i64 (st + 1)) := (s6.cell 8 rfl (5 + k)).trans HSZ.out
        have hB := HB.out P.T _ _ (st + 1) (by omega) hA.symm s6 rfl
        clear s6
        generalize (w5.setCell ⟨G, 5 + k, none⟩ (.int .i64 (st + 1))).drew = w6 at *
        clear g5 g9 y5 hA
        go_wp2_with fail
        refine hB.mono ?_
        rintro e w7 ⟨rfl, P1, hT1, s7⟩
        clear hB c6
        have hq := HFin.out P1 v u _ w7 hT1 (HJB.out P1) (by rw [HAG.out]) s7
        clear s7 HFin HB HJB
        go_wp2_with fail
        refine hq.mono ?_
        rintro e w8 ⟨rfl, HQ⟩
        clear hq
        go_wp2
        exact HQ.out
    · have z0 : (sm == 0) = false := by simpa using hsm0
      have hsm1 : 1 ≤ sm := by omega
      by_cases h7 : ele = 7
      · have HAG := hid (HAG2.out hsm0 (.inl h7))
        clear HAG0 HAG1 HAG2 hsm0 HLE
        subst h7
        have hA : agn x sm st = sm := HAG.out
        have hB := HB.out P.T _ _ sm (by omega) hA.symm s5 rfl
        clear s5 y5 g9 hA
        go_wp2_with (simp only [fldLE])
        refine hB.mono ?_
        rintro e w7 ⟨rfl, P1, hT1, s7⟩
        clear hB g5
        have hq := HFin.out P1 v u _ w7 hT1 (HJB.out P1) (by rw [HAG.out]; exact HGS.out.1) s7
        clear s7 HFin HB HJB
        go_wp2_with fail
        refine hq.mono ?_
        rintro e w8 ⟨rfl, HQ⟩
        clear hq
        go_wp2
        exact HQ.out
      · have z7 : (ele != 7) = true := by simpa using h7
        by_cases h9 : ele = 9
        · have HAG := hid (HAG2.out hsm0 (.inr (.inl h9)))
          clear HAG0 HAG1 HAG2 hsm0 HLE h7
          subst h9
          have hA : agn x sm st = sm := HAG.out
          have hB := HB.out P.T _ _ sm (by omega) hA.symm s5 rfl
          clear s5 y5 g9 hA
          go_wp2_with (simp only [fldLE])
          refine hB.mono ?_
          rintro e w7 ⟨rfl, P1, hT1, s7⟩
          clear hB g5
          have hq := HFin.out P1 v u _ w7 hT1 (HJB.out P1) (by rw [HAG.out]; exact HGS.out.1) s7
          clear s7 HFin HB HJB
          go_wp2_with fail
          refine hq.mono ?_
          rintro e w8 ⟨rfl, HQ⟩
          clear hq
          go_wp2
          exact HQ.out
        · have z9 : (ele != 9) = true := by simpa using h9
          by_cases h8 : ele = 8
          · have HAG := hid (HAG2.out hsm0 (.inr (.inr (.inl h8))))
            clear HAG0 HAG1 HAG2 hsm0 HLE h7 h9
            subst h8
            have hA : agn x sm st = sm := HAG.out
            have hB := HB.out P.T _ _ sm (by omega) hA.symm s5 rfl
            clear s5 y5 g9 hA
            go_wp2_with (simp only [fldLE])
            refine hB.mono ?_
            rintro e w7 ⟨rfl, P1, hT1, s7⟩
            clear hB g5
            have hq := HFin.out P1 v u _ w7 hT1 (HJB.out P1) (by rw [HAG.out]; exact HGS.out.1) s7
            clear s7 HFin HB HJB
            go_wp2_with fail
            refine hq.mono ?_
            rintro e w8 ⟨rfl, HQ⟩
            clear hq
            go_wp2
            exact HQ.out
          · have z8 : (ele != 8) = true := by simpa using h8
            by_cases h6 : ele = 6
            · have HAG := hid (HAG2.out hsm0 (.inr (.inr (.inr h6))))
              clear HAG0 HAG1 HAG2 hsm0 HLE h7 h9 h8
              subst h6
              have hA : agn x sm st = sm := HAG.out
              have hB := HB.out P.T _ _ sm (by omega) hA.symm s5 rfl
              clear s5 y5 g9 hA
              go_wp2_with (simp only [fldLE])
              refine hB.mono ?_
              rintro e w7 ⟨rfl, P1, hT1, s7⟩
              clear hB g5
              have hq := HFin.out P1 v u _ w7 hT1 (HJB.out P1) (by rw [HAG.out]; exact HGS.out.1) s7
              clear s7 HFin HB HJB
              go_wp2_with fail
              refine hq.mono ?_
              rintro e w8 ⟨rfl, HQ⟩
              clear hq
              go_wp2
              exact HQ.out
            · have z6 : (ele != 6) = true := by simpa using h6
              have HAG := hid (HAG1.out h7 h9 h8 h6)
              clear HAG0 HAG1 HAG2 hsm0 HLE h7 h9 h8 h6
              have hA : agn x sm st = st + 1 := HAG.out
              have s6 := s5.write 8 rfl (5 + k) (.int .i64 (st + 1))
              have s6 : St o (txL c A P x ++ spI A c z2 v u :: boxI MB #[.int .i64 mth, .int .i64 mkd, .int .i64 mn, .int .i64 mce, .int .i64 mx] 51 :: boxI G (gset cs k (st + 1) (st + 1)) 98 :: R) (w5.setCell ⟨G, 5 + k, none⟩ (.int .i64 (st + 1))) := s6
              have hsz : (gset cs k (st + 1) (st + 1))[5 + k]? = some (.int .i64 (st + 1)) := by
                have := HCS.out.1
                have := (Array.getElem?_eq_some_iff.1 this).1
                unfold gset
                rw [Array.getElem?_setIfInBounds, if_pos rfl, if_pos (by simpa using this)]
              have HSZ := hid hsz
              clear s5 hsz
              go_upto_region 11 with (simp only [fldLE])
              go_region_with (fail)
              all_goals
                have s6 := s6.drew
                have c6 : (w5.setCell ⟨G, 5 + k, none⟩ (.int .i64 (st + 1))).drew.cell? ⟨G, 5 + k, none⟩ = some (.int .i64 (st + 1)) := (s6.cell 8 rfl (5 + k)).trans HSZ.out
                have hB := HB.out P.T _ _ (st + 1) (by omega) hA.symm s6 rfl
                clear s6
                generalize (w5.setCell ⟨G, 5 + k, none⟩ (.int .i64 (st + 1))).drew = w6 at *
                clear g5 g9 y5 hA
                go_wp2_with fail
                refine hB.mono ?_
                rintro e w7 ⟨rfl, P1, hT1, s7⟩
                clear hB c6
                have hq := HFin.out P1 v u _ w7 hT1 (HJB.out P1) (by rw [HAG.out]) s7
                clear s7 HFin HB HJB
                go_wp2_with fail
                refine hq.mono ?_
                rintro e w8 ⟨rfl, HQ⟩
                clear hq
                go_wp2
                exact HQ.out
  · by_cases hp2 : x.dg.phase = 2
    · rw [hp2]
      rw [if_neg hp0] at HFin
      clear hp0
      have b2 : w4.cell? ⟨MB, 2, none⟩ = some (.int .i64 mn) := s4.cell 7 rfl 2
      have b4 : w4.cell? ⟨MB, 4, none⟩ = some (.int .i64 mx) := s4.cell 7 rfl 4
      have hand3 := and7 mn
      have hr0 : 0 ≤ mn % 8 := by omega
      have hr1 : mn % 8 < 8 := by omega
      have HE1 : Hid (mn % 8 < 3 → callT x c z2.hs.length ⟨mth, mkd, mn, mce, mx⟩ (agn x sm st) = x.read c (cellOf c ⟨mth, mkd, mn, mce, mx⟩) ∧ callZ x c ⟨mth, mkd, mn, mce, mx⟩ z2 = x.readZ (cellOf c ⟨mth, mkd, mn, mce, mx⟩) z2) := fun hh => by
        unfold callT callZ
        rw [if_neg (show ¬ x.dg.phase = 0 by omega), if_pos hp2, if_pos hh, if_pos hp2, if_pos hh]
        exact ⟨rfl, rfl⟩
      have HE2 : Hid (¬ mn % 8 < 3 → mn % 8 < 6 → callT x c z2.hs.length ⟨mth, mkd, mn, mce, mx⟩ (agn x sm st) = x.write c (cellOf c ⟨mth, mkd, mn, mce, mx⟩) mx ∧ callZ x c ⟨mth, mkd, mn, mce, mx⟩ z2 = x.writeZ c (cellOf c ⟨mth, mkd, mn, mce, mx⟩) mx z2) := fun hh hh2 => by
        unfold callT callZ
        rw [if_neg (show ¬ x.dg.phase = 0 by omega), if_pos hp2, if_neg hh, if_pos hh2, if_pos hp2, if_neg hh, if_pos hh2]
        exact ⟨rfl, rfl⟩
      have HE3 : Hid (mn % 8 = 6 → callT x c z2.hs.length ⟨mth, mkd, mn, mce, mx⟩ (agn x sm st) = x.commit c z2.hs.length ∧ callZ x c ⟨mth, mkd, mn, mce, mx⟩ z2 = z2) := fun hh => by
        unfold callT callZ
        rw [if_neg (show ¬ x.dg.phase = 0 by omega), if_pos hp2, if_neg (show ¬ mn % 8 < 3 by omega), if_neg (show ¬ mn % 8 < 6 by omega), if_pos hh, if_pos hp2, if_neg (show ¬ mn % 8 < 3 by omega), if_neg (show ¬ mn % 8 < 6 by omega)]
        exact ⟨rfl, rfl⟩
      have HE4 : Hid (mn % 8 = 7 → callT x c z2.hs.length ⟨mth, mkd, mn, mce, mx⟩ (agn x sm st) = x.abort 3 ∧ callZ x c ⟨mth, mkd, mn, mce, mx⟩ z2 = z2) := fun hh => by
        unfold callT callZ
        rw [if_neg (show ¬ x.dg.phase = 0 by omega), if_pos hp2, if_neg (show ¬ mn % 8 < 3 by omega), if_neg (show ¬ mn % 8 < 6 by omega), if_neg (show ¬ mn % 8 = 6 by omega), if_pos hp2, if_neg (show ¬ mn % 8 < 3 by omega), if_neg (show ¬ mn % 8 < 6 by omega)]
        exact ⟨rfl, rfl⟩
      rw [hcell]
      generalize cellOf c ⟨mth, mkd, mn, mce, mx⟩ = ce at *
      have HS4 := hid s4
      clear s4 hcell
      have hrr : mn % 8 = 0 ∨ mn % 8 = 1 ∨ mn % 8 = 2 ∨ mn % 8 = 3 ∨ mn % 8 = 4 ∨ mn % 8 = 5 ∨ mn % 8 = 6 ∨ mn % 8 = 7 := by omega
      rcases hrr with hr | hr | hr | hr | hr | hr | hr | hr
      · obtain ⟨e1, e2⟩ := HE1.out (by omega)
        rw [e1, e2] at HFin
        clear HE1 HE2 HE3 HE4 e1 e2
        rw [hr] at hand3
        clear hr hr0 hr1
        cases hg : wrGet x.wr ce with
        | some xv =>
          have hq := tRead_own HS4.out hp2 (by have := HXF.out.1.lv (by omega); omega) HXF.out.2.1 hg
          have hnc : ∀ y, (x.read c ce).dg ≠ .com y := by
            intro y e
            unfold Tt.read at e
            rw [if_neg (show ¬ x.dg.phase ≠ 2 by omega), hg] at e
            simp only at e
            rw [phase_two hp2] at e
            cases e
          clear HS4 hg hp2
          go_wp2_with fail
          refine hq.mono ?_
          rintro e w5 ⟨rfl, u5, s5⟩
          clear hq b2 b4
          have hq := HFin.out P v u5 _ w5 rfl (fun y e => absurd e (hnc y)) HGS.out.1 s5
          clear HFin s5 hnc
          go_wp2_with fail
          refine hq.mono ?_
          rintro e wF ⟨rfl, HQ⟩
          clear hq
          go_wp2
          exact HQ.out
        | none =>
          obtain ⟨q0, q1, q2⟩ := HCE.out
          have hq := tRead_in HS4.out hp2 (wf_small q0 q2) hg HXF.out.1.sg (inN_iff.2 ⟨HXF.out.1.s0, by have := HXF.out.1.sn; have := HXF.out.2.2.1; omega⟩) (inN_iff.2 ⟨q0, q1⟩)
          have hnc : ∀ y, (x.read c ce).dg ≠ .com y := by
            intro y e
            unfold Tt.read at e
            rw [if_neg (show ¬ x.dg.phase ≠ 2 by omega), hg] at e
            simp only at e
            rw [if_pos (inN_iff.2 ⟨q0, q1⟩)] at e
            cases e
          clear HS4 hg hp2 q0 q1 q2
          go_wp2_with fail
          refine hq.mono ?_
          rintro e w5 ⟨rfl, P5, hT5, s5⟩
          clear hq b2 b4
          have hq := HFin.out P5 v u _ w5 hT5 (fun y e => absurd e (hnc y)) HGS.out.1 s5
          clear HFin s5 hnc
          go_wp2_with fail
          refine hq.mono ?_
          rintro e wF ⟨rfl, HQ⟩
          clear hq
          go_wp2
          exact HQ.out
      · obtain ⟨e1, e2⟩ := HE1.out (by omega)
        rw [e1, e2] at HFin
        clear HE1 HE2 HE3 HE4 e1 e2
        rw [hr] at hand3
        clear hr hr0 hr1
        cases hg : wrGet x.wr ce with
        | some xv =>
          have hq := tRead_own HS4.out hp2 (by have := HXF.out.1.lv (by omega); omega) HXF.out.2.1 hg
          have hnc : ∀ y, (x.read c ce).dg ≠ .com y := by
            intro y e
            unfold Tt.read at e
            rw [if_neg (show ¬ x.dg.phase ≠ 2 by omega), hg] at e
            simp only at e
            rw [phase_two hp2] at e
            cases e
          clear HS4 hg hp2
          go_wp2_with fail
          refine hq.mono ?_
          rintro e w5 ⟨rfl, u5, s5⟩
          clear hq b2 b4
          have hq := HFin.out P v u5 _ w5 rfl (fun y e => absurd e (hnc y)) HGS.out.1 s5
          clear HFin s5 hnc
          go_wp2_with fail
          refine hq.mono ?_
          rintro e wF ⟨rfl, HQ⟩
          clear hq
          go_wp2
          exact HQ.out
        | none =>
          obtain ⟨q0, q1, q2⟩ := HCE.out
          have hq := tRead_in HS4.out hp2 (wf_small q0 q2) hg HXF.out.1.sg (inN_iff.2 ⟨HXF.out.1.s0, by have := HXF.out.1.sn; have := HXF.out.2.2.1; omega⟩) (inN_iff.2 ⟨q0, q1⟩)
          have hnc : ∀ y, (x.read c ce).dg ≠ .com y := by
            intro y e
            unfold Tt.read at e
            rw [if_neg (show ¬ x.dg.phase ≠ 2 by omega), hg] at e
            simp only at e
            rw [if_pos (inN_iff.2 ⟨q0, q1⟩)] at e
            cases e
          clear HS4 hg hp2 q0 q1 q2
          go_wp2_with fail
          refine hq.mono ?_
          rintro e w5 ⟨rfl, P5, hT5, s5⟩
          clear hq b2 b4
          have hq := HFin.out P5 v u _ w5 hT5 (fun y e => absurd e (hnc y)) HGS.out.1 s5
          clear HFin s5 hnc
          go_wp2_with fail
          refine hq.mono ?_
          rintro e wF ⟨rfl, HQ⟩
          clear hq
          go_wp2
          exact HQ.out
      · obtain ⟨e1, e2⟩ := HE1.out (by omega)
        rw [e1, e2] at HFin
        clear HE1 HE2 HE3 HE4 e1 e2
        rw [hr] at hand3
        clear hr hr0 hr1
        cases hg : wrGet x.wr ce with
        | some xv =>
          have hq := tRead_own HS4.out hp2 (by have := HXF.out.1.lv (by omega); omega) HXF.out.2.1 hg
          have hnc : ∀ y, (x.read c ce).dg ≠ .com y := by
            intro y e
            unfold Tt.read at e
            rw [if_neg (show ¬ x.dg.phase ≠ 2 by omega), hg] at e
            simp only at e
            rw [phase_two hp2] at e
            cases e
          clear HS4 hg hp2
          go_wp2_with fail
          refine hq.mono ?_
          rintro e w5 ⟨rfl, u5, s5⟩
          clear hq b2 b4
          have hq := HFin.out P v u5 _ w5 rfl (fun y e => absurd e (hnc y)) HGS.out.1 s5
          clear HFin s5 hnc
          go_wp2_with fail
          refine hq.mono ?_
          rintro e wF ⟨rfl, HQ⟩
          clear hq
          go_wp2
          exact HQ.out
        | none =>
          obtain ⟨q0, q1, q2⟩ := HCE.out
          have hq := tRead_in HS4.out hp2 (wf_small q0 q2) hg HXF.out.1.sg (inN_iff.2 ⟨HXF.out.1.s0, by have := HXF.out.1.sn; have := HXF.out.2.2.1; omega⟩) (inN_iff.2 ⟨q0, q1⟩)
          have hnc : ∀ y, (x.read c ce).dg ≠ .com y := by
            intro y e
            unfold Tt.read at e
            rw [if_neg (show ¬ x.dg.phase ≠ 2 by omega), hg] at e
            simp only at e
            rw [if_pos (inN_iff.2 ⟨q0, q1⟩)] at e
            cases e
          clear HS4 hg hp2 q0 q1 q2
          go_wp2_with fail
          refine hq.mono ?_
          rintro e w5 ⟨rfl, P5, hT5, s5⟩
          clear hq b2 b4
          have hq := HFin.out P5 v u _ w5 hT5 (fun y e => absurd e (hnc y)) HGS.out.1 s5
          clear HFin s5 hnc
          go_wp2_with fail
          refine hq.mono ?_
          rintro e wF ⟨rfl, HQ⟩
          clear hq
          go_wp2
          exact HQ.out
      · obtain ⟨e1, e2⟩ := HE2.out (by omega) (by omega)
        rw [e1, e2] at HFin
        clear HE1 HE2 HE3 HE4 e1 e2
        rw [hr] at hand3
        clear hr hr0 hr1
        have hnc : ∀ y, (x.write c ce mx).dg ≠ .com y := by
          intro y e
          unfold Tt.write at e
          split at e
          · simp only at e; rw [phase_two hp2] at e; cases e
          · rw [phase_two hp2] at e; cases e
        obtain ⟨q0, q1, q2⟩ := HCE.out
        have hin : inN c.ce ce = true := inN_iff.2 ⟨q0, q1⟩
        have hsp : x.sp ≠ 0 := by have := HXF.out.1.lv (by omega); omega
        by_cases hE : x.writeE c ce = 0
        · have e1 : x.write c ce mx = { x with lo := 3, le := 0, lx := mx, wr := wrPut x.wr ce mx } := by unfold Tt.write; rw [if_pos hE]
          have e2 : x.writeZ c ce mx z2 = z2.noted (x.evn 3 ce mx false 0 0 0) := by unfold Tt.writeZ; rw [if_pos hE]
          have hq : Calls Tryz.prog 43 #[.pointer (some ⟨P.T, 0, none⟩), .int .i64 ce, .int .i64 mx] w4 fun e w' => e = .returned (.int .i64 0) ∧ ∃ P' u', P'.T = P.T ∧ St o (txL c A P' (x.write c ce mx) ++ spI A c (x.writeZ c ce mx z2) v u' :: boxI MB #[.int .i64 mth, .int .i64 mkd, .int .i64 mn, .int .i64 mce, .int .i64 mx] 51 :: boxI G (cs.setIfInBounds 9 (.int .i64 (st + 1))) 98 :: R) w' := by
            rw [e1, e2]
            cases hg : wrGet x.wr ce with
            | some xv => exact tWrite_old HS4.out hp2 hin (wf_small q0 q2) hsp HXF.out.2.1 hg HXF.out.1.wd mx
            | none =>
              have hfl : ¬ wrFull x.wr ce = true := by
                intro hh
                unfold Tt.writeE at hE
                rw [if_neg (show ¬ x.dg.phase ≠ 2 by omega), if_neg (by rw [hin]; simp), if_pos hh] at hE
                omega
              have hlt : x.wr.length < 16 := by
                have := HXF.out.1.wl
                simp [wrFull, hg] at hfl
                omega
              exact tWrite_new HS4.out hp2 hin (wf_small q0 q2) hsp HXF.out.2.1 hg hlt mx
          clear HS4 hp2 q0 q1 q2 hE e1 e2 hin hsp
          go_wp2_with fail
          refine hq.mono ?_
          rintro e w5 ⟨rfl, P5, u5, hT5, s5⟩
          clear hq b2 b4
          have hq := HFin.out P5 v u5 _ w5 hT5 (fun y e => absurd e (hnc y)) HGS.out.1 s5
          clear HFin s5 hnc
          go_wp2_with fail
          refine hq.mono ?_
          rintro e wF ⟨rfl, HQ⟩
          clear hq
          go_wp2
          exact HQ.out
        · have e1 : x.write c ce mx = x := by unfold Tt.write; rw [if_neg hE]
          have e2 : x.writeZ c ce mx z2 = z2 := by unfold Tt.writeZ; rw [if_neg hE]
          have hg : wrGet x.wr ce = none ∧ x.wr.length = 16 := by
            unfold Tt.writeE at hE
            rw [if_neg (show ¬ x.dg.phase ≠ 2 by omega), if_neg (by rw [hin]; simp)] at hE
            split at hE
            · rename_i hh
              simp [wrFull] at hh
              exact hh
            · exact absurd rfl hE
          have hq := tWrite_full HS4.out hp2 hin (wf_small q0 q2) hg.1 hg.2 mx
          rw [e1, e2] at HFin
          rw [e1] at hnc
          clear HS4 hp2 q0 q1 q2 hE e1 e2 hin hsp hg
          go_wp2_with fail
          refine hq.mono ?_
          rintro e w5 ⟨rfl, s5⟩
          clear hq b2 b4
          have hq := HFin.out P v u _ w5 rfl (fun y e => absurd e (hnc y)) HGS.out.1 s5
          clear HFin s5 hnc
          go_wp2_with fail
          refine hq.mono ?_
          rintro e wF ⟨rfl, HQ⟩
          clear hq
          go_wp2
          exact HQ.out
      · obtain ⟨e1, e2⟩ := HE2.out (by omega) (by omega)
        rw [e1, e2] at HFin
        clear HE1 HE2 HE3 HE4 e1 e2
        rw [hr] at hand3
        clear hr hr0 hr1
        have hnc : ∀ y, (x.write c ce mx).dg ≠ .com y := by
          intro y e
          unfold Tt.write at e
          split at e
          · simp only at e; rw [phase_two hp2] at e; cases e
          · rw [phase_two hp2] at e; cases e
        obtain ⟨q0, q1, q2⟩ := HCE.out
        have hin : inN c.ce ce = true := inN_iff.2 ⟨q0, q1⟩
        have hsp : x.sp ≠ 0 := by have := HXF.out.1.lv (by omega); omega
        by_cases hE : x.writeE c ce = 0
        · have e1 : x.write c ce mx = { x with lo := 3, le := 0, lx := mx, wr := wrPut x.wr ce mx } := by unfold Tt.write; rw [if_pos hE]
          have e2 : x.writeZ c ce mx z2 = z2.noted (x.evn 3 ce mx false 0 0 0) := by unfold Tt.writeZ; rw [if_pos hE]
          have hq : Calls Tryz.prog 43 #[.pointer (some ⟨P.T, 0, none⟩), .int .i64 ce, .int .i64 mx] w4 fun e w' => e = .returned (.int .i64 0) ∧ ∃ P' u', P'.T = P.T ∧ St o (txL c A P' (x.write c ce mx) ++ spI A c (x.writeZ c ce mx z2) v u' :: boxI MB #[.int .i64 mth, .int .i64 mkd, .int .i64 mn, .int .i64 mce, .int .i64 mx] 51 :: boxI G (cs.setIfInBounds 9 (.int .i64 (st + 1))) 98 :: R) w' := by
            rw [e1, e2]
            cases hg : wrGet x.wr ce with
            | some xv => exact tWrite_old HS4.out hp2 hin (wf_small q0 q2) hsp HXF.out.2.1 hg HXF.out.1.wd mx
            | none =>
              have hfl : ¬ wrFull x.wr ce = true := by
                intro hh
                unfold Tt.writeE at hE
                rw [if_neg (show ¬ x.dg.phase ≠ 2 by omega), if_neg (by rw [hin]; simp), if_pos hh] at hE
                omega
              have hlt : x.wr.length < 16 := by
                have := HXF.out.1.wl
                simp [wrFull, hg] at hfl
                omega
              exact tWrite_new HS4.out hp2 hin (wf_small q0 q2) hsp HXF.out.2.1 hg hlt mx
          clear HS4 hp2 q0 q1 q2 hE e1 e2 hin hsp
          go_wp2_with fail
          refine hq.mono ?_
          rintro e w5 ⟨rfl, P5, u5, hT5, s5⟩
          clear hq b2 b4
          have hq := HFin.out P5 v u5 _ w5 hT5 (fun y e => absurd e (hnc y)) HGS.out.1 s5
          clear HFin s5 hnc
          go_wp2_with fail
          refine hq.mono ?_
          rintro e wF ⟨rfl, HQ⟩
          clear hq
          go_wp2
          exact HQ.out
        · have e1 : x.write c ce mx = x := by unfold Tt.write; rw [if_neg hE]
          have e2 : x.writeZ c ce mx z2 = z2 := by unfold Tt.writeZ; rw [if_neg hE]
          have hg : wrGet x.wr ce = none ∧ x.wr.length = 16 := by
            unfold Tt.writeE at hE
            rw [if_neg (show ¬ x.dg.phase ≠ 2 by omega), if_neg (by rw [hin]; simp)] at hE
            split at hE
            · rename_i hh
              simp [wrFull] at hh
              exact hh
            · exact absurd rfl hE
          have hq := tWrite_full HS4.out hp2 hin (wf_small q0 q2) hg.1 hg.2 mx
          rw [e1, e2] at HFin
          rw [e1] at hnc
          clear HS4 hp2 q0 q1 q2 hE e1 e2 hin hsp hg
          go_wp2_with fail
          refine hq.mono ?_
          rintro e w5 ⟨rfl, s5⟩
          clear hq b2 b4
          have hq := HFin.out P v u _ w5 rfl (fun y e => absurd e (hnc y)) HGS.out.1 s5
          clear HFin s5 hnc
          go_wp2_with fail
          refine hq.mono ?_
          rintro e wF ⟨rfl, HQ⟩
          clear hq
          go_wp2
          exact HQ.out
      · obtain ⟨e1, e2⟩ := HE2.out (by omega) (by omega)
        rw [e1, e2] at HFin
        clear HE1 HE2 HE3 HE4 e1 e2
        rw [hr] at hand3
        clear hr hr0 hr1
        have hnc : ∀ y, (x.write c ce mx).dg ≠ .com y := by
          intro y e
          unfold Tt.write at e
          split at e
          · simp only at e; rw [phase_two hp2] at e; cases e
          · rw [phase_two hp2] at e; cases e
        obtain ⟨q0, q1, q2⟩ := HCE.out
        have hin : inN c.ce ce = true := inN_iff.2 ⟨q0, q1⟩
        have hsp : x.sp ≠ 0 := by have := HXF.out.1.lv (by omega); omega
        by_cases hE : x.writeE c ce = 0
        · have e1 : x.write c ce mx = { x with lo := 3, le := 0, lx := mx, wr := wrPut x.wr ce mx } := by unfold Tt.write; rw [if_pos hE]
          have e2 : x.writeZ c ce mx z2 = z2.noted (x.evn 3 ce mx false 0 0 0) := by unfold Tt.writeZ; rw [if_pos hE]
          have hq : Calls Tryz.prog 43 #[.pointer (some ⟨P.T, 0, none⟩), .int .i64 ce, .int .i64 mx] w4 fun e w' => e = .returned (.int .i64 0) ∧ ∃ P' u', P'.T = P.T ∧ St o (txL c A P' (x.write c ce mx) ++ spI A c (x.writeZ c ce mx z2) v u' :: boxI MB #[.int .i64 mth, .int .i64 mkd, .int .i64 mn, .int .i64 mce, .int .i64 mx] 51 :: boxI G (cs.setIfInBounds 9 (.int .i64 (st + 1))) 98 :: R) w' := by
            rw [e1, e2]
            cases hg : wrGet x.wr ce with
            | some xv => exact tWrite_old HS4.out hp2 hin (wf_small q0 q2) hsp HXF.out.2.1 hg HXF.out.1.wd mx
            | none =>
              have hfl : ¬ wrFull x.wr ce = true := by
                intro hh
                unfold Tt.writeE at hE
                rw [if_neg (show ¬ x.dg.phase ≠ 2 by omega), if_neg (by rw [hin]; simp), if_pos hh] at hE
                omega
              have hlt : x.wr.length < 16 := by
                have := HXF.out.1.wl
                simp [wrFull, hg] at hfl
                omega
              exact tWrite_new HS4.out hp2 hin (wf_small q0 q2) hsp HXF.out.2.1 hg hlt mx
          clear HS4 hp2 q0 q1 q2 hE e1 e2 hin hsp
          go_wp2_with fail
          refine hq.mono ?_
          rintro e w5 ⟨rfl, P5, u5, hT5, s5⟩
          clear hq b2 b4
          have hq := HFin.out P5 v u5 _ w5 hT5 (fun y e => absurd e (hnc y)) HGS.out.1 s5
          clear HFin s5 hnc
          go_wp2_with fail
          refine hq.mono ?_
          rintro e wF ⟨rfl, HQ⟩
          clear hq
          go_wp2
          exact HQ.out
        · have e1 : x.write c ce mx = x := by unfold Tt.write; rw [if_neg hE]
          have e2 : x.writeZ c ce mx z2 = z2 := by unfold Tt.writeZ; rw [if_neg hE]
          have hg : wrGet x.wr ce = none ∧ x.wr.length = 16 := by
            unfold Tt.writeE at hE
            rw [if_neg (show ¬ x.dg.phase ≠ 2 by omega), if_neg (by rw [hin]; simp)] at hE
            split at hE
            · rename_i hh
              simp [wrFull] at hh
              exact hh
            · exact absurd rfl hE
          have hq := tWrite_full HS4.out hp2 hin (wf_small q0 q2) hg.1 hg.2 mx
          rw [e1, e2] at HFin
          rw [e1] at hnc
          clear HS4 hp2 q0 q1 q2 hE e1 e2 hin hsp hg
          go_wp2_with fail
          refine hq.mono ?_
          rintro e w5 ⟨rfl, s5⟩
          clear hq b2 b4
          have hq := HFin.out P v u _ w5 rfl (fun y e => absurd e (hnc y)) HGS.out.1 s5
          clear HFin s5 hnc
          go_wp2_with fail
          refine hq.mono ?_
          rintro e wF ⟨rfl, HQ⟩
          clear hq
          go_wp2
          exact HQ.out
      · obtain ⟨e1, e2⟩ := HE3.out hr
        rw [e1, e2] at HFin
        clear HE1 HE2 HE3 HE4 e1 e2
        rw [hr] at hand3
        clear hr hr0 hr1
        by_cases hwr : x.wr = []
        · have hq := tCommit_leave HS4.out hp2 hwr z2.hs.length
          have hnc : ∀ y, (x.commit c z2.hs.length).dg ≠ .com y := by
            intro y e
            unfold Tt.commit at e
            rw [if_neg (show ¬ x.dg.phase ≠ 2 by omega), if_pos hwr] at e
            cases e
          clear HS4 hp2 hwr
          go_wp2_with fail
          refine hq.mono ?_
          rintro e w5 ⟨rfl, s5⟩
          clear hq b2 b4
          have hq := HFin.out P v u _ w5 rfl (fun y e => absurd e (hnc y)) HGS.out.1 s5
          clear HFin s5 hnc
          go_wp2_with fail
          refine hq.mono ?_
          rintro e wF ⟨rfl, HQ⟩
          clear hq
          go_wp2
          exact HQ.out
        · have hq := tCommit_ok HS4.out hp2 hwr HXF.out.1.wl (fun p hp => by have a := inN_iff.1 (HXF.out.1.wc p hp); exact wf_small a.1 (by omega)) HF.out HXF.out.2.2.1 HXF.out.1.s0 (HXF.out.1.ck HXF.out.2.2.1 hwr (HXF.out.1.lv (by omega)))
          clear HS4 hp2 hwr
          go_wp2_with fail
          refine hq.mono ?_
          rintro e w5 ⟨rfl, P5, hT5, hJ5, s5⟩
          clear hq b2 b4
          have hq := HFin.out P5 v u _ w5 hT5 (fun _ _ => hJ5) HGS.out.1 s5
          clear HFin s5 hJ5
          go_wp2_with fail
          refine hq.mono ?_
          rintro e wF ⟨rfl, HQ⟩
          clear hq
          go_wp2
          exact HQ.out
      · obtain ⟨e1, e2⟩ := HE4.out hr
        rw [e1, e2] at HFin
        clear HE1 HE2 HE3 HE4 e1 e2
        rw [hr] at hand3
        clear hr hr0 hr1
        have hq := tAbort_ok HS4.out hp2 (e0 := 3) (by decide)
        have hnc : ∀ y, (x.abort 3).dg ≠ .com y := by
          intro y e
          unfold Tt.abort at e
          split at e
          · cases e
          · rw [phase_two hp2] at e; cases e
        clear HS4 hp2
        go_wp2_with fail
        refine hq.mono ?_
        rintro e w5 ⟨rfl, s5⟩
        clear hq b2 b4
        have hq := HFin.out P v u _ w5 rfl (fun y e => absurd e (hnc y)) HGS.out.1 s5
        clear HFin s5 hnc
        go_wp2_with fail
        refine hq.mono ?_
        rintro e wF ⟨rfl, HQ⟩
        clear hq
        go_wp2
        exact HQ.out
    · have e1 : callT x c z2.hs.length ⟨mth, mkd, mn, mce, mx⟩ (agn x sm st) = x := by unfold callT; rw [if_neg hp0, if_neg hp2]
      have e2 : callZ x c ⟨mth, mkd, mn, mce, mx⟩ z2 = z2 := by unfold callZ; rw [if_neg hp2]
      rw [e1, e2, if_neg hp0] at HFin
      have hq := HFin.out P v u _ w4 rfl HJ.out HGS.out.1 s4
      have f0 : (x.dg.phase == 0) = false := by simpa using hp0
      have f2 : (x.dg.phase == 2) = false := by simpa using hp2
      clear HFin s4 e1 e2 hp0 hp2
      generalize x.dg.phase = ph at *
      go_wp2_with fail
      refine hq.mono ?_
      rintro e w5 ⟨rfl, HQ⟩
      clear hq
      go_wp2
      exact HQ.out
end
end Go.Proofs.YtnchfomoaonbkaaGreat
