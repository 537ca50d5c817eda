/- Package opaque: the search's closure, walked. -/
import Derived.Test.YtnmlnjljmikmpaaOs
import Derived.WalkMore
namespace Go.Proofs.Ytnmlnjljmikmpaa
open Go.RowKit Go.Shelf
set_option linter.unusedVariables false
set_option linter.unusedSimpArgs false
attribute [local go_sem ↓] Go.wp_at_zero Go.wp_at_succ

theorem story_cells {o w : World} {g off n : Nat} {L : List Sm} (h : LIn o (some ⟨g, off, none⟩) n L) (k : Kept (fun _ => False) o w) {x : Nat} {z0 z1 z2 z3 z4 z5 z6 z7 z8 : Int} {ms : List Mv} {ma : Option Addr} {mc : Nat} (hm : L[x]? = some ⟨⟨z0, z1, z2, z3, z4, z5, z6, z7, z8, ms⟩, ma, mc⟩) :
    w.cell? ⟨g, off + x * 10, none⟩ = some (.int .i64 z0) ∧ w.cell? ⟨g, off + x * 10 + 1, none⟩ = some (.int .i64 z1) ∧ w.cell? ⟨g, off + x * 10 + 2, none⟩ = some (.int .i64 z2) ∧ w.cell? ⟨g, off + x * 10 + 3, none⟩ = some (.int .i64 z3) ∧ w.cell? ⟨g, off + x * 10 + 4, none⟩ = some (.int .i64 z4) ∧ w.cell? ⟨g, off + x * 10 + 5, none⟩ = some (.int .i64 z5) ∧ w.cell? ⟨g, off + x * 10 + 6, none⟩ = some (.int .i64 z6) ∧ w.cell? ⟨g, off + x * 10 + 7, none⟩ = some (.int .i64 z7) ∧ w.cell? ⟨g, off + x * 10 + 8, none⟩ = some (.int .i64 z8) ∧ w.cell? ⟨g, off + x * 10 + 9, none⟩ = some (.slice ma ms.length mc) := by
  have q := fun i u hu => (h.1.kept k).at (k := 10) (fun _ => rfl) hm i u hu
  have q0 := q 0 _ rfl
  rw [Nat.add_zero] at q0
  exact ⟨q0, q 1 _ rfl, q 2 _ rfl, q 3 _ rfl, q 4 _ rfl, q 5 _ rfl, q 6 _ rfl, q 7 _ rfl, q 8 _ rfl, q 9 _ rfl⟩
/-- What the outer loop of the search keeps. -/
def SrO (o : World) (L : List Sm) (m : Mem) (f n : Nat) (pre : List Nat) (V2 : Nat) (bE : It) (FX : List It) (i : Value) (wr : World) : Prop :=
  ∃ (j : Nat) (v : Value), i = .int .i64 j ∧ j ≤ n ∧ (∀ q, q < j → mayNext (smS L) m pre q = true → ∃ f', f = f' + 1 ∧ dfs (smS L) f' (leaves m ((smS L).getD q Sy.zero)) (pre ++ [q]) = none) ∧ St o (bE :: (ordI V2 v pre ++ FX)) wr
set_option maxRecDepth 100000 in
set_option maxHeartbeats 16000000 in
theorem comp_step {o : World} {start : List Int} {sa : Option Addr} {sn sc V1 V2 V3 V4 GB n : Nat} {la : Option Addr} {lc : Nat} {L : List Sm} {gl : List Gt} (hS0 : RIn iC o sa sn start) (hL0 : LIn o la n L) (hn : n ≤ 7) (hsn : (sn : Int) ≤ 9223372036854775807) (hgl : gl.length = n) (hgo : ∀ (j : Nat) (g : Gt) (m : Sm), gl[j]? = some g → L[j]? = some m → g.of m.s) (f : Nat) (IH : ∀ f', f = f' + 1 → Comp o start sa sn sc V1 V2 V3 V4 GB n la lc L gl f') :
    Comp o start sa sn sc V1 V2 V3 V4 GB n la lc L gl f := by
  intro pre ov mb ls X i v w hpl hnd hlt hv hX hs
  have HQ : Hid (∀ v' w', (∀ r, dfs (smS L) f (memO start ov) pre = some r → St o (ordI V2 v' r ++ (srF V1 V2 V3 V4 GB n la lc gl ++ X)) w' → (fun e w' => (∀ r, dfs (smS L) f (memO start ov) pre = some r → e = .returned (.bool true) ∧ ∃ v', St o (ordI V2 v' r ++ (srF V1 V2 V3 V4 GB n la lc gl ++ X)) w') ∧ (dfs (smS L) f (memO start ov) pre = none → e = .returned (.bool false) ∧ ∃ v', St o (ordI V2 v' pre ++ (srF V1 V2 V3 V4 GB n la lc gl ++ X)) w')) (Ending.returned (.bool true)) w') ∧ (dfs (smS L) f (memO start ov) pre = none → St o (ordI V2 v' pre ++ (srF V1 V2 V3 V4 GB n la lc gl ++ X)) w' → (fun e w' => (∀ r, dfs (smS L) f (memO start ov) pre = some r → e = .returned (.bool true) ∧ ∃ v', St o (ordI V2 v' r ++ (srF V1 V2 V3 V4 GB n la lc gl ++ X)) w') ∧ (dfs (smS L) f (memO start ov) pre = none → e = .returned (.bool false) ∧ ∃ v', St o (ordI V2 v' pre ++ (srF V1 V2 V3 V4 GB n la lc gl ++ X)) w')) (Ending.returned (.bool false)) w')) := hid (fun v' w' => ⟨fun r h s => ⟨fun r' h' => by
    rw [h] at h'
    cases h'
    exact ⟨rfl, v', s⟩, fun h' => by rw [h] at h'; cases h'⟩, fun h s => ⟨fun r' h' => (by rw [h] at h'; cases h'), fun _ => ⟨rfl, v', s⟩⟩⟩)
  generalize (fun (e : Ending) (w' : World) => (∀ r, dfs (smS L) f (memO start ov) pre = some r → e = .returned (.bool true) ∧ ∃ v', St o (ordI V2 v' r ++ (srF V1 V2 V3 V4 GB n la lc gl ++ X)) w') ∧ (dfs (smS L) f (memO start ov) pre = none → e = .returned (.bool false) ∧ ∃ v', St o (ordI V2 v' pre ++ (srF V1 V2 V3 V4 GB n la lc gl ++ X)) w')) = Q at *
  have s1 := hs.box #[.slice sa sn sc, .map (some mb)] 63
  unfold memV
  generalize hw1 : w.alloc (.cells #[.slice sa sn sc, .map (some mb)] 63) = w1 at *
  generalize hE : w.heap.size = E at *
  have c1 := s1.cell 3 rfl 0
  have HS1 := hid s1
  have HN := hid hn
  have HLN : Hid (n = L.length) := hid hL0.1.1
  have HS0 := hid hS0
  have HL0 := hid hL0
  have HGL := hid hgl
  have HGO := hid hgo
  have HIH := hid IH
  have HPL := hid hpl
  have HND := hid hnd
  have HLT := hid hlt
  have HV := hid hv
  have HX := hid hX
  have hn1 : (n : Int) ≤ 7 := by omega
  have hp1 : (pre.length : Int) ≤ 7 := by omega
  clear hs s1 hS0 hL0 hgl hgo IH hpl hnd hlt hv hX hn
  go_enter Try.func36, Try.ntmps36
  go_wp2_with (simp only [hw1, hE])
  go_step3
  go_wp2
  go_step3
  go_upto_region 2 with fail
  clear c1 hw1 hE
  go_loopw [13] (SrO o L (memO start ov) f n pre V2 (boxI E #[.slice sa sn sc, .map (some mb)] 63) (srF V1 V2 V3 V4 GB n la lc gl ++ X)) (fun i _ => n - (intOf i).toNat)
  case atStart => exact ⟨0, v, rfl, Nat.zero_le _, fun q h => by omega, HS1.out⟩
  case round =>
    clear HS1
    obtain ⟨j, v, rfl, hj, hno, hst⟩ := hrel
    by_cases hlt : j < n
    · have hlt' : (j : Int) < (n : Int) := by omega
      have hj0 : (0 : Int) ≤ (j : Int) := by omega
      obtain ⟨g, hg⟩ : ∃ g, gl[j]? = some g := ⟨_, List.getElem?_eq_getElem (by have := HGL.out; omega)⟩
      obtain ⟨mj, hm⟩ : ∃ m, L[j]? = some m := ⟨_, List.getElem?_eq_getElem (by have := HLN.out; omega)⟩
      have HOF := hid (HGO.out j g mj hg hm)
      have r := st_rin hst 4 rfl HGL.out.symm (f := gC) (fun _ => rfl)
      have q := fun i u hu => r.at (k := 3) (fun _ => rfl) hg i u hu
      have q0 := q 0 _ rfl
      have q1 := q 1 _ rfl
      have q2 := q 2 _ rfl
      rw [Nat.zero_add] at q0 q1 q2
      rw [Nat.add_zero] at q0
      have HG := hid hg
      obtain ⟨gb, gaa, gac, gla, glc, gas, glv⟩ := g
      simp only at q0 q1 q2
      obtain ⟨va, vc, rfl⟩ := r_form hst 2 rfl (asI_len pre).symm (fun _ => rfl)
      have s2 := hst.box #[.bool gb, .slice gaa gas.length gac, .slice gla glv.length glc] 67
      generalize hw4 : wr.alloc (.cells #[.bool gb, .slice gaa gas.length gac, .slice gla glv.length glc] 67) = w4 at *
      generalize hB : wr.heap.size = B at *
      have d2 := s2.cell 2 rfl 0
      have HS2 := hid s2
      have HM := hid hm
      have HNO := hid hno
      have HJ : Hid (j + 1 ≤ n ∧ n - (j + 1) < n - j) := hid ⟨by omega, by omega⟩
      have HJL := hid hlt
      clear q r hst s2 hg hm hno hj hlt
      go_upto_region 5 with (simp only [hw4, hB])
      clear q0 q1 q2 d2 hw4 hB
      go_loopw [20] (fun i wr2 => ∃ a : Nat, i = .int .i64 a ∧ a ≤ pre.length ∧ ((pre.take a).any fun b => b == j || ends ((smS L).getD j Sy.zero) ((smS L).getD b Sy.zero)) = false ∧ St o (boxI B #[.bool gb, .slice gaa gas.length gac, .slice gla glv.length glc] 67 :: boxI E #[.slice sa sn sc, .map (some mb)] 63 :: (ordI V2 (.slice va pre.length vc) pre ++ (srF V1 V2 V3 V4 GB n la lc gl ++ X))) wr2) (fun i _ => pre.length - (intOf i).toNat)
      case atStart => exact ⟨0, rfl, Nat.zero_le _, rfl, HS2.out⟩
      case round =>
        clear HS2
        obtain ⟨a, rfl, ha, hany, hst⟩ := hrel
        by_cases halt : a < pre.length
        · have halt' : (a : Int) < (pre.length : Int) := by omega
          have ha0 : (0 : Int) ≤ (a : Int) := by omega
          obtain ⟨b, hb⟩ : ∃ b, pre[a]? = some b := ⟨_, List.getElem?_eq_getElem halt⟩
          have hbn := HLT.out b (List.mem_of_getElem? hb)
          have hb1 : (b : Int) < (n : Int) := by omega
          have hb0 : (0 : Int) ≤ (b : Int) := by omega
          obtain ⟨vg, vcap, hvf⟩ := hst.form 3 rfl (by omega)
          simp only [Value.slice.injEq, true_and] at hvf
          obtain ⟨rfl, rfl⟩ := hvf
          have r := st_rin hst 3 rfl (asI_len pre).symm (f := iC) (fun _ => rfl)
          have q0 := r.at (k := 1) (fun _ => rfl) (j := a) (x := (b : Int)) (by simp [asI, hb]) 0 _ rfl
          rw [Nat.zero_add, Nat.mul_one, Nat.add_zero] at q0
          have HANY := hid hany
          have HB := hid hb
          have HST := hid hst
          have HA : Hid (a + 1 ≤ pre.length ∧ pre.length - (a + 1) < pre.length - a) := hid ⟨by omega, by omega⟩
          have htk := take_snoc hb
          have HTK := hid htk
          clear r hany hb hst htk ha halt
          go_upto_region 7 with fail
          clear q0
          by_cases hbj : b = j
          · subst hbj
            have HNX : Hid (∀ q, q < b + 1 → mayNext (smS L) (memO start ov) pre q = true → ∃ f', f = f' + 1 ∧ dfs (smS L) f' (leaves (memO start ov) ((smS L).getD q Sy.zero)) (pre ++ [q]) = none) := hid (fun q hq hm => by
              rcases Nat.lt_succ_iff_lt_or_eq.1 hq with h | rfl
              · exact HNO.out q h hm
              · exfalso
                have hmem : q ∈ pre := List.mem_of_getElem? HB.out
                simp only [mayNext, Bool.and_eq_true, Bool.not_eq_true', List.any_eq_false] at hm
                exact hm.1 q hmem (by simp))
            have HSX := hid (HST.out.drew.pop)
            clear HST HIH HQ
            have tb : ((b : Int) == (b : Int)) = true := by simp
            go_region
            go_wp2
            go_roundw
            case rel => exact ⟨b + 1, _, by simp, HJ.out.1, HNX.out, HSX.out⟩
            case measure => have := HJ.out.2; simp [intOf]; omega
          · have tb : ((b : Int) == (j : Int)) = false := by simp; omega
            have HBJ := hid hbj
            clear hbj
            obtain ⟨mb_, hmb⟩ : ∃ m, L[b]? = some m := ⟨_, List.getElem?_eq_getElem (by have := HLN.out; omega)⟩
            have he := fun W => ends_any mj mb_ W
            have e1 := smS_at HM.out
            have e2 := smS_at hmb
            have HEN : Hid (ends ((smS L).getD j Sy.zero) ((smS L).getD b Sy.zero) = ends mj.s mb_.s) := hid (by rw [e1, e2])
            generalize ends mj.s mb_.s = eb at he HEN
            obtain ⟨lg, loff, rfl⟩ := HL0.out.1.addr (by omega)
            obtain ⟨⟨z0, z1, z2, z3, z4, z5, z6, z7, z8, ms⟩, ma, mc⟩ := mj
            obtain ⟨⟨y0, y1, y2, y3, y4, y5, y6, y7, y8, ns⟩, na, nc⟩ := mb_
            obtain ⟨a0, a1, a2, a3, a4, a5, a6, a7, a8, a9⟩ := story_cells HL0.out HST.out.drew.same HM.out
            obtain ⟨b0, b1, b2, b3, b4, b5, b6, b7, b8, b9⟩ := story_cells HL0.out HST.out.drew.same hmb
            have c3 := HST.out.drew.cell 6 rfl 0
            unfold syV at he
            simp only at he
            clear e1 e2 hmb
            refine (fun key : ?KEY ∧ True => ?main) ⟨?keyproof, trivial⟩
            case main =>
              go_region_with (go_at_call 37; refine (he _).mono ?_; rintro e w6 ⟨rfl, hk6⟩; have HK6 := hid hk6; clear hk6)
              all_goals
                revert HK6
                revert w6
                exact key.1
            case keyproof =>
              intro w6 HK6
              have HS6 := hid (HST.out.drew.calm HK6.out)
              clear a0 a1 a2 a3 a4 a5 a6 a7 a8 a9 b0 b1 b2 b3 b4 b5 b6 b7 b8 b9 c3 he HST HK6
              cases eb with
              | true =>
                have HNX : Hid (∀ q, q < j + 1 → mayNext (smS L) (memO start ov) pre q = true → ∃ f', f = f' + 1 ∧ dfs (smS L) f' (leaves (memO start ov) ((smS L).getD q Sy.zero)) (pre ++ [q]) = none) := hid (fun q hq hm => by
                  rcases Nat.lt_succ_iff_lt_or_eq.1 hq with h | rfl
                  · exact HNO.out q h hm
                  · exfalso
                    have hmem : b ∈ pre := List.mem_of_getElem? HB.out
                    simp only [mayNext, Bool.and_eq_true, Bool.not_eq_true', List.any_eq_false] at hm
                    exact hm.1 b hmem (by rw [HEN.out]; simp))
                have HSX := hid HS6.out.pop
                clear HS6 HIH HQ
                go_wp2
                go_roundw
                case rel => exact ⟨j + 1, _, by simp, HJ.out.1, HNX.out, HSX.out⟩
                case measure => have := HJ.out.2; simp [intOf]; omega
              | false =>
                have HAN : Hid (((pre.take (a + 1)).any fun b => b == j || ends ((smS L).getD j Sy.zero) ((smS L).getD b Sy.zero)) = false) := hid (by
                  rw [HTK.out, List.any_append, HANY.out]
                  simp only [List.any_cons, List.any_nil, HEN.out, Bool.or_false, Bool.false_or]
                  simpa using HBJ.out)
                clear HIH HQ
                go_wp2
                go_roundw
                case rel => exact ⟨a + 1, by simp, HA.out.1, HAN.out, HS6.out⟩
                case measure => have := HA.out.2; simp [intOf]; omega
        · have hlt2 : ¬ (a : Int) < (pre.length : Int) := by omega
          have e : pre.take a = pre := List.take_of_length_le (by omega)
          rw [e] at hany
          have HANY := hid hany
          have HST := hid hst
          clear hany hst e ha halt
          have hSM := HL0.out.2 mj (List.mem_of_getElem? HM.out)
          have hfg := fr_gist (V1 := V1) (V2 := V2) (V3 := V3) (V4 := V4) (GB := GB) (n := n) (la := la) (lc := lc) HG.out X
          have hfm := fr_map (V1 := V1) (V2 := V2) (V3 := V3) (V4 := V4) (GB := GB) (n := n) (la := la) (lc := lc) (gl := gl) HX.out
          obtain ⟨o1, o2, o3⟩ := HOF.out
          simp only at o1 o2 o3 hfg
          have hal : gas.length ≤ 2932031007317 := by rw [o2]; exact Nat.le_trans (asksM_len _ _) hSM.2.1
          have hll : glv.length ≤ 2932031007317 := by rw [o3]; exact Nat.le_trans (leavesL_len _) hSM.2.1
          have har : ∀ p ∈ gas, -9223372036854775808 ≤ p.1 ∧ p.1 ≤ 9223372036854775807 := fun p hp => by
            rw [o2] at hp
            obtain ⟨y, hy, e⟩ := asksM_mem _ _ p hp
            rw [← e]; exact hSM.2.2 y hy
          have hlr : ∀ p ∈ glv, -9223372036854775808 ≤ p.1 ∧ p.1 ≤ 9223372036854775807 := fun p hp => leavesL_rng hSM.2.2 p (by rw [← o3]; exact hp)
          have HOKS : Hid (mayNext (smS L) (memO start ov) pre j = (!gb && !gas.any fun p => memO start ov p.1 != p.2)) := hid (by
            unfold mayNext
            rw [HANY.out, smS_at HM.out, okS_gist, ← o1, ← o2]
            rfl)
          have HLV : Hid (leaves (memO start ov) ((smS L).getD j Sy.zero) = memO start (ovL ov glv)) := hid (by rw [smS_at HM.out, ovL_mem, o3]; rfl)
          have hex := explains_any (w := wr) (sc := sc) (br := gb) (ac := gac) (la := gla) (ln := glv.length) (lc := glc) (HS0.out.kept HST.out.same) (HST.out.get (4 + (gsI gl).length + i + 4) hfm) HV.out (st_rin HST.out (4 + 2 * j + 4) hfg.1 rfl (fun _ => rfl)) hal har hsn
          unfold memV gistV at hex
          generalize hbb : (!gb && !gas.any fun p => memO start ov p.1 != p.2) = bb at hex HOKS
          have b0 := HST.out.cell 1 rfl 0
          have b1 := HST.out.cell 1 rfl 1
          have g0 := HST.out.cell 0 rfl 0
          have g1 := HST.out.cell 0 rfl 1
          have g2 := HST.out.cell 0 rfl 2
          have HFG := hid hfg
          have HFM := hid hfm
          have HLL := hid hll
          have HLR := hid hlr
          clear hbb hal hll har hlr o1 o2 o3 hfg hfm hSM HOF
          cases bb with
          | false =>
            have HNX : Hid (∀ q, q < j + 1 → mayNext (smS L) (memO start ov) pre q = true → ∃ f', f = f' + 1 ∧ dfs (smS L) f' (leaves (memO start ov) ((smS L).getD q Sy.zero)) (pre ++ [q]) = none) := hid (fun q hq hm => by
              rcases Nat.lt_succ_iff_lt_or_eq.1 hq with h | rfl
              · exact HNO.out q h hm
              · rw [HOKS.out] at hm; cases hm)
            clear HOKS HNO HLV HIH HQ HFG HFM
            go_wp2_with (go_at_call 31; refine hex.mono ?_; rintro e w7 ⟨rfl, hk7⟩; have HSX := hid ((HST.out.calm hk7).pop); clear hk7)
            go_roundw
            case rel => exact ⟨j + 1, _, by simp, HJ.out.1, HNX.out, HSX.out⟩
            case measure => have := HJ.out.2; simp [intOf]; omega
          | true =>
            obtain ⟨f', rfl⟩ : ∃ f', f = f' + 1 := by
              cases f with
              | succ f' => exact ⟨f', rfl⟩
              | zero =>
                exfalso
                have hm := pre_full n pre HND.out HLT.out HPL.out j HJL.out
                have := HANY.out
                rw [List.any_eq_false] at this
                exact this j hm (by simp)
            have hC := HIH.out f' rfl
            go_upto_region 10 with (go_at_call 31; refine hex.mono ?_; rintro e w7 ⟨rfl, hk7⟩; have HS7 := hid (HST.out.calm hk7); clear hk7)
            clear b0 b1 g0 g1 g2 hex HST
            have t1 : St o (lstR iC 3 1 (.slice va pre.length vc) (asI pre) :: (boxI B #[.bool gb, .slice gaa gas.length gac, .slice gla glv.length glc] 67 :: boxI E #[.slice sa sn sc, .map (some mb)] 63 :: boxI V2 #[.slice va pre.length vc] 24 :: (srF V1 V2 V3 V4 GB n la lc gl ++ X))) w7 := by
              have h1 := St.move (l := [_, _, _, _]) HS7.out 4 rfl [3, 0, 1, 2] (by decide)
              show St o (ownI 3 1 _ (asI pre).length _ :: _) w7
              rw [asI_len]
              exact h1
            have c2 := t1.cell 3 rfl 0
            have t2 := t1.alloc (.cells #[.int .i64 j] 3)
            have hrr := r_box (f := iC) (k := 1) (fun _ => rfl) 3 t1 (j : Int) _ rfl
            have hbs := buildI1 w7 j
            have hsz : ((asI pre).length + 1) * 8 ≤ 140737488355328 := by rw [asI_len]; omega
            have HE : Hid (∀ v' w', St o (lstR iC 3 1 v' (asI pre ++ [(j : Int)]) :: (boxI B #[.bool gb, .slice gaa gas.length gac, .slice gla glv.length glc] 67 :: boxI E #[.slice sa sn sc, .map (some mb)] 63 :: boxI V2 #[.slice va pre.length vc] 24 :: (srF V1 V2 V3 V4 GB n la lc gl ++ X))) w' → ∃ gg cap, v' = .slice (some ⟨gg, 0, none⟩) (pre.length + 1) cap ∧ w'.cell? ⟨V2, 0, none⟩ = some (.slice va pre.length vc) ∧ w'.frozen? ⟨V2, 0, none⟩ = false ∧ St o (boxI B #[.bool gb, .slice gaa gas.length gac, .slice gla glv.length glc] 67 :: boxI E #[.slice sa sn sc, .map (some mb)] 63 :: (ordI V2 (.slice (some ⟨gg, 0, none⟩) (pre.length + 1) cap) (pre ++ [j]) ++ (srF V1 V2 V3 V4 GB n la lc gl ++ X))) (w'.setCell ⟨V2, 0, none⟩ (.slice (some ⟨gg, 0, none⟩) (pre.length + 1) cap))) := hid (by
              intro v' w' s7
              obtain ⟨gg, cap, hv'⟩ := s7.form 0 rfl (by simp)
              have hv2 : v' = .slice (some ⟨gg, 0, none⟩) (pre.length + 1) cap := by simpa [asI] using hv'
              subst hv2
              refine ⟨gg, cap, rfl, s7.cell 3 rfl 0, s7.frozen 3 rfl 0, ?_⟩
              have s8 := s7.write 3 rfl 0 (.slice (some ⟨gg, 0, none⟩) (pre.length + 1) cap)
              have s9 := St.move (l := [_, _, _, _]) s8 4 rfl [1, 2, 3, 0] (by decide)
              have e1 : asI pre ++ [(j : Int)] = asI (pre ++ [j]) := by simp [asI]
              have e2 : (asI (pre ++ [j])).length = (pre ++ [j]).length := asI_len _
              simp only [e1, lstR, e2] at s9
              exact s9)
            have HT2 := hid t2
            have HRR := hid hrr
            clear t1 t2 hrr
            go_upto_region 11 with (first | simp only [hbs] | (at_builtin; refine wpList_appR Try.rowI HT2.out rfl _ _ rfl rfl (some ⟨w7.heap.size, 0, none⟩) 1 1 rfl HRR.out (fun e => by cases e) hsz ?_; intro v' w' s7'; obtain ⟨og, ocap, rfl, k0, kf, hend⟩ := HE.out _ _ s7'; have HEND := hid hend; clear s7' hend))
            clear k0 kf c2 hbs HE HT2 HRR HS7
            generalize w'.setCell ⟨V2, 0, none⟩ (.slice (some ⟨og, 0, none⟩) (pre.length + 1) ocap) = w8 at *
            have HCL : Hid (∀ (Y : List It) vq rq W, St o (Y ++ (boxI B #[.bool gb, .slice gaa gas.length gac, .slice gla glv.length glc] 67 :: boxI E #[.slice sa sn sc, .map (some mb)] 63 :: (ordI V2 vq rq ++ (srF V1 V2 V3 V4 GB n la lc gl ++ X)))) W → W.cell? ⟨V4, 0, none⟩ = some (.func (.func 36) #[] #[.pointer (some ⟨V1, 0, none⟩), .pointer (some ⟨V2, 0, none⟩), .pointer (some ⟨V3, 0, none⟩), .pointer (some ⟨V4, 0, none⟩)]) ∧ W.cell? ⟨E, 0, none⟩ = some (.slice sa sn sc) ∧ W.cell? ⟨E, 1, none⟩ = some (.map (some mb)) ∧ W.cell? ⟨B, 0, none⟩ = some (.bool gb) ∧ W.cell? ⟨B, 1, none⟩ = some (.slice gaa gas.length gac) ∧ W.cell? ⟨B, 2, none⟩ = some (.slice gla glv.length glc)) := hid (fun Y vq rq W s => by
              have s := s.only
              exact ⟨s.cell 7 rfl 0, s.cell 1 rfl 0, s.cell 1 rfl 1, s.cell 0 rfl 0, s.cell 0 rfl 1, s.cell 0 rfl 2⟩)
            have hbeh := behind_any (w := w8.drew) (sa := sa) (sn := sn) (sc := sc) (br := gb) (aa := gaa) (an := gas.length) (ac := gac) (la := gla) (ln := glv.length) (lc := glc) (ps := glv) (i := 4 + (gsI gl).length + i + 4) HEND.out.drew HFM.out HV.out (fun Y W s => st_rin s (Y.length + (4 + 2 * j + 1 + 4)) (by rw [List.getElem?_append_right (by omega), show Y.length + (4 + 2 * j + 1 + 4) - Y.length = 4 + 2 * j + 1 + 4 by omega]; exact HFG.out.2) rfl (fun _ => rfl)) HLL.out HLR.out
            have hcomp : ∀ (mb' : Nat) (ls' : List Pr) (Y : List It) (W : World), St o (Y ++ (boxI B #[.bool gb, .slice gaa gas.length gac, .slice gla glv.length glc] 67 :: boxI E #[.slice sa sn sc, .map (some mb)] 63 :: (ordI V2 (.slice (some ⟨og, 0, none⟩) (pre.length + 1) ocap) (pre ++ [j]) ++ (srF V1 V2 V3 V4 GB n la lc gl ++ X)))) W → ValR ls' (ovL ov glv) → ((Y = [] ∧ mb' = mb ∧ ls' = ls) ∨ Y[0]? = some (mapV mb' ls')) → Calls Try.prog 36 #[memV sa sn sc mb', .pointer (some ⟨V1, 0, none⟩), .pointer (some ⟨V2, 0, none⟩), .pointer (some ⟨V3, 0, none⟩), .pointer (some ⟨V4, 0, none⟩)] W fun e w' =>
                (∀ r, dfs (smS L) f' (memO start (ovL ov glv)) (pre ++ [j]) = some r → e = .returned (.bool true) ∧ ∃ v', St o (boxI B #[.bool gb, .slice gaa gas.length gac, .slice gla glv.length glc] 67 :: boxI E #[.slice sa sn sc, .map (some mb)] 63 :: (ordI V2 v' r ++ (srF V1 V2 V3 V4 GB n la lc gl ++ X))) w') ∧ (dfs (smS L) f' (memO start (ovL ov glv)) (pre ++ [j]) = none → e = .returned (.bool false) ∧ ∃ v', St o (boxI B #[.bool gb, .slice gaa gas.length gac, .slice gla glv.length glc] 67 :: boxI E #[.slice sa sn sc, .map (some mb)] 63 :: (ordI V2 v' (pre ++ [j]) ++ (srF V1 V2 V3 V4 GB n la lc gl ++ X))) w') := by
              intro mb' ls' Y W s hv' hor
              have s' : St o (ordI V2 (.slice (some ⟨og, 0, none⟩) (pre.length + 1) ocap) (pre ++ [j]) ++ (srF V1 V2 V3 V4 GB n la lc gl ++ (Y ++ ([boxI B #[.bool gb, .slice gaa gas.length gac, .slice gla glv.length glc] 67, boxI E #[.slice sa sn sc, .map (some mb)] 63] ++ X)))) W := s.perm (perm_srch Y [boxI B #[.bool gb, .slice gaa gas.length gac, .slice gla glv.length glc] 67, boxI E #[.slice sa sn sc, .map (some mb)] 63] (ordI V2 (.slice (some ⟨og, 0, none⟩) (pre.length + 1) ocap) (pre ++ [j])) (srF V1 V2 V3 V4 GB n la lc gl) X)
              have back : ∀ (v' : Value) (r : List Nat) w', St o (ordI V2 v' r ++ (srF V1 V2 V3 V4 GB n la lc gl ++ (Y ++ ([boxI B #[.bool gb, .slice gaa gas.length gac, .slice gla glv.length glc] 67, boxI E #[.slice sa sn sc, .map (some mb)] 63] ++ X)))) w' → St o (boxI B #[.bool gb, .slice gaa gas.length gac, .slice gla glv.length glc] 67 :: boxI E #[.slice sa sn sc, .map (some mb)] 63 :: (ordI V2 v' r ++ (srF V1 V2 V3 V4 GB n la lc gl ++ X))) w' := fun v' r w' s => (s.perm (perm_srch Y [boxI B #[.bool gb, .slice gaa gas.length gac, .slice gla glv.length glc] 67, boxI E #[.slice sa sn sc, .map (some mb)] 63] (ordI V2 v' r) (srF V1 V2 V3 V4 GB n la lc gl) X).symm).only
              obtain ⟨i', hi'⟩ : ∃ i', (Y ++ ([boxI B #[.bool gb, .slice gaa gas.length gac, .slice gla glv.length glc] 67, boxI E #[.slice sa sn sc, .map (some mb)] 63] ++ X))[i']? = some (mapV mb' ls') := by
                rcases hor with ⟨rfl, rfl, rfl⟩ | h
                · exact ⟨i + 2, HX.out⟩
                · exact ⟨0, by
                    rw [List.getElem?_append_left (List.getElem?_eq_some_iff.1 h).1]
                    exact h⟩
              have hlt2 : ∀ p ∈ pre ++ [j], p < n := fun p hp => by
                rcases List.mem_append.1 hp with hp | hp
                · exact HLT.out p hp
                · rw [List.mem_singleton.1 hp]; exact HJL.out
              have hnd2 : (pre ++ [j]).Nodup := by
                rw [List.nodup_append]
                refine ⟨HND.out, by simp, fun x hx y hy => ?_⟩
                rw [List.mem_singleton.1 hy]
                rintro rfl
                have := HANY.out
                rw [List.any_eq_false] at this
                exact this x hx (by simp)
              refine (hC (pre ++ [j]) (ovL ov glv) mb' ls' (Y ++ ([boxI B #[.bool gb, .slice gaa gas.length gac, .slice gla glv.length glc] 67, boxI E #[.slice sa sn sc, .map (some mb)] 63] ++ X)) i' (.slice (some ⟨og, 0, none⟩) (pre.length + 1) ocap) W (by have := HPL.out; simp only [List.length_append, List.length_cons, List.length_nil]; omega) hnd2 hlt2 hv' hi' s').mono ?_
              rintro e w' ⟨h1, h2⟩
              refine ⟨fun r hr => ?_, fun hr => ?_⟩
              · obtain ⟨e1, v', s2⟩ := h1 r hr
                exact ⟨e1, v', back v' r w' s2⟩
              · obtain ⟨e1, v', s2⟩ := h2 hr
                exact ⟨e1, v', back v' _ w' s2⟩
            unfold memV gistV at hbeh
            have HK8 := hid HEND.out.drew
            have HFROM := hid (dfs_from (smS L) f' (memO start ov) pre j (fun q hq hm => by
              obtain ⟨f2, e, h⟩ := HNO.out q hq hm
              obtain rfl : f' = f2 := by omega
              exact h))
            clear hC HIH HFG HFM HX
            cases hd : dfs (smS L) f' (memO start (ovL ov glv)) (pre ++ [j]) with
            | some r =>
              have HRS : Hid (dfs (smS L) (f' + 1) (memO start ov) pre = some r) := hid (HFROM.out.2 r (by have := HLN.out; have := HJL.out; simp only [smS, List.length_map]; omega) HOKS.out (by rw [HLV.out]; exact hd))
              have HRL : Hid (r.length = n) := hid (by have := dfs_len hd; simp only [List.length_append, List.length_cons, List.length_nil] at this; have := HPL.out; omega)
              have hcs := fun mb' ls' Y W s hv' hor => (hcomp mb' ls' Y W s hv' hor).mono (fun e w' h => h.1 r hd)
              clear hcomp hd
              unfold memV at hcs
              go_region_held3 (fun W => W.cell? ⟨V4, 0, none⟩ = some (.func (.func 36) #[] #[.pointer (some ⟨V1, 0, none⟩), .pointer (some ⟨V2, 0, none⟩), .pointer (some ⟨V3, 0, none⟩), .pointer (some ⟨V4, 0, none⟩)]) ∧ W.cell? ⟨E, 0, none⟩ = some (.slice sa sn sc) ∧ W.cell? ⟨E, 1, none⟩ = some (.map (some mb)) ∧ W.cell? ⟨B, 0, none⟩ = some (.bool gb) ∧ W.cell? ⟨B, 1, none⟩ = some (.slice gaa gas.length gac) ∧ W.cell? ⟨B, 2, none⟩ = some (.slice gla glv.length glc)) (first | exact HCL.out [] _ _ _ HK8.out | exact HCL.out _ _ _ _ HS6.out | exact HCL.out [] _ _ _ HS9.out) (first | (go_at_call 38; refine hbeh.mono ?_; rintro e w6 ⟨mb', ls', Y, rfl, s6, hv6, hor6⟩; have HS6 := hid s6; have HV6 := hid hv6; have HOR6 := hid hor6; clear s6 hv6 hor6) | (go_at_call 36; refine (hcs _ _ _ _ HS6.out HV6.out HOR6.out).mono ?_; rintro e w9 ⟨rfl, v9, s9⟩; have HS9 := hid s9; clear s9))
              have s9 := HS9.out
              obtain ⟨ra, rc, rfl⟩ := r_form s9 3 rfl (asI_len r).symm (fun _ => rfl)
              have c2 := s9.cell 2 rfl 0
              have c1 := s9.cell 4 rfl 0
              have HZ := hid ((HQ.out _ w9).1 r HRS.out s9.pop.pop)
              have trn : ((r.length : Int) == (n : Int)) = true := by rw [HRL.out]; simp
              clear s9 HQ HRS HFROM HOKS HNO hbeh hcs HS6 HS9
              go_wp2
              exact HZ.out
            | none =>
              have hcs := fun mb' ls' Y W s hv' hor => (hcomp mb' ls' Y W s hv' hor).mono (fun e w' h => h.2 hd)
              have HNX : Hid (∀ q, q < j + 1 → mayNext (smS L) (memO start ov) pre q = true → ∃ f2, f' + 1 = f2 + 1 ∧ dfs (smS L) f2 (leaves (memO start ov) ((smS L).getD q Sy.zero)) (pre ++ [q]) = none) := hid (fun q hq hm => by
                rcases Nat.lt_succ_iff_lt_or_eq.1 hq with h | rfl
                · exact HNO.out q h hm
                · exact ⟨f', rfl, by rw [HLV.out]; exact hd⟩)
              clear hcomp hd
              unfold memV at hcs
              go_region_held3 (fun W => W.cell? ⟨V4, 0, none⟩ = some (.func (.func 36) #[] #[.pointer (some ⟨V1, 0, none⟩), .pointer (some ⟨V2, 0, none⟩), .pointer (some ⟨V3, 0, none⟩), .pointer (some ⟨V4, 0, none⟩)]) ∧ W.cell? ⟨E, 0, none⟩ = some (.slice sa sn sc) ∧ W.cell? ⟨E, 1, none⟩ = some (.map (some mb)) ∧ W.cell? ⟨B, 0, none⟩ = some (.bool gb) ∧ W.cell? ⟨B, 1, none⟩ = some (.slice gaa gas.length gac) ∧ W.cell? ⟨B, 2, none⟩ = some (.slice gla glv.length glc)) (first | exact HCL.out [] _ _ _ HK8.out | exact HCL.out _ _ _ _ HS6.out | exact HCL.out [] _ _ _ HS9.out) (first | (go_at_call 38; refine hbeh.mono ?_; rintro e w6 ⟨mb', ls', Y, rfl, s6, hv6, hor6⟩; have HS6 := hid s6; have HV6 := hid hv6; have HOR6 := hid hor6; clear s6 hv6 hor6) | (go_at_call 36; refine (hcs _ _ _ _ HS6.out HV6.out HOR6.out).mono ?_; rintro e w9 ⟨rfl, v9, s9⟩; have HS9 := hid s9; clear s9))
              have s9 := HS9.out
              obtain ⟨rg, rc, hv9⟩ := s9.form 3 rfl (by simp)
              simp only [List.length_append, List.length_cons, List.length_nil, Nat.zero_add] at hv9
              subst hv9
              have c2 := s9.cell 2 rfl 0
              have f2 := s9.frozen 2 rfl 0
              have p0 : w9.ownsRow 0 3 1 (.slice (some ⟨rg, 0, none⟩) (pre.length + 1) rc) (pre ++ [j]).length (fl iC (asI (pre ++ [j]))) := s9.get 3 rfl
              rw [show (pre ++ [j]).length = pre.length + 1 by simp] at p0
              obtain ⟨-, hrow⟩ := p0
              have hrc : pre.length + 1 ≤ rc := by
                rcases hrow with ⟨h, _⟩ | ⟨g', cap', cur, h, _, _, hcap, _⟩
                · cases h
                · simp only [Value.slice.injEq, Option.some.injEq, Addr.mk.injEq, and_true, true_and] at h
                  obtain ⟨_, rfl⟩ := h
                  exact hcap
              have hsl := fun W => sliceToI rg (pre.length + 1) rc pre.length (by omega) (by omega) (pre.length : Int) rfl W
              have HSX : Hid (St o (boxI E #[.slice sa sn sc, .map (some mb)] 63 :: (ordI V2 (.slice (some ⟨rg, 0, none⟩) pre.length rc) pre ++ (srF V1 V2 V3 V4 GB n la lc gl ++ X))) (w9.setCell ⟨V2, 0, none⟩ (.slice (some ⟨rg, 0, none⟩) pre.length rc))) := hid (by
                have s10 := s9.write 2 rfl 0 (.slice (some ⟨rg, 0, none⟩) pre.length rc)
                have p1 : (w9.setCell ⟨V2, 0, none⟩ (.slice (some ⟨rg, 0, none⟩) pre.length rc)).ownsRow 0 3 1 (.slice (some ⟨rg, 0, none⟩) (pre.length + 1) rc) (pre ++ [j]).length (fl iC (asI (pre ++ [j]))) := s10.get 3 rfl
                rw [show (pre ++ [j]).length = pre.length + 1 by simp] at p1
                have p2 := own_cutO p1 (m := pre.length) (by omega)
                have e : (fl iC (asI (pre ++ [j]))).take (pre.length * 1) = fl iC (asI pre) := by
                  rw [show asI (pre ++ [j]) = asI pre ++ [(j : Int)] by simp [asI], fl_append, List.take_append_of_le_length (by rw [fl_length (k := 1) (fun _ => rfl), asI_len]; omega), List.take_of_length_le (by rw [fl_length (k := 1) (fun _ => rfl), asI_len]; omega)]
                rw [e] at p2
                exact (s10.set 3 rfl (A' := ownI 3 1 (.slice (some ⟨rg, 0, none⟩) pre.length rc) pre.length (fl iC (asI pre))) (Kept.refl _ _) p2 (own_nodup (.slice (some ⟨rg, 0, none⟩) pre.length rc)) (fun b hb => .inl hb)).pop)
              clear s9 HQ HFROM HOKS HNO hbeh hcs HS6 HS9 hrow hrc
              go_wp2_with (simp only [hsl])
              go_roundw
              case rel => exact ⟨j + 1, _, by simp, HJ.out.1, HNX.out, HSX.out⟩
              case measure => have := HJ.out.2; simp [intOf]; omega
    · have hlt' : ¬ (j : Int) < (n : Int) := by omega
      obtain ⟨va, vc, rfl⟩ := r_form hst 2 rfl (asI_len pre).symm (fun _ => rfl)
      have c2 := hst.cell 1 rfl 0
      have c1 := hst.cell 3 rfl 0
      have hlen : (smS L).length = n := by rw [smS, List.length_map]; exact HLN.out.symm
      cases f with
      | zero =>
        have HZ := hid ((HQ.out _ wr).1 pre rfl hst.pop)
        have tz : ((pre.length : Int) == (n : Int)) = true := by have := HPL.out; simp; omega
        clear hst hno HQ HIH
        go_wp2
        exact HZ.out
      | succ f' =>
        have hd := (dfs_from (smS L) f' (memO start ov) pre j (fun q hq hm => by
          obtain ⟨f2, e, h⟩ := hno q hq hm
          obtain rfl : f' = f2 := by omega
          exact h)).1 (by omega)
        have HZ := hid ((HQ.out _ wr).2 hd hst.pop)
        have tz : ((pre.length : Int) == (n : Int)) = false := by have := HPL.out; simp; omega
        clear hst hno HQ HIH hd
        go_wp2
        exact HZ.out
end Go.Proofs.Ytnmlnjljmikmpaa
