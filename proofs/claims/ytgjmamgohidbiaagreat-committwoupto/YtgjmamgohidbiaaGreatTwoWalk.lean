/- CommitTwo: the walk. -/
import Derived.Test.YtgjmamgohidbiaaGreatApW
import Derived.Test.YtgjmamgohidbiaaGreatBArg
import Derived.BigQuiet
import Derived.Deep.CutBlock
namespace Go.Proofs.YtgjmamgohidbiaaGreat
open Go.RowKit
set_option linter.unusedVariables false
set_option linter.unusedSimpArgs false
attribute [local go_sem ↓] Go.wp_at_zero Go.wp_at_succ

theorem fieldGate (a b : Option Addr) (n m c d : Nat) (x y : Int) (W : World) : (Instr.field 95 (.agg #[.slice a n c, .int .i64 x, .int .i64 y, .slice b m d]) 1).run Tryz.prog W = .ok (.agg #[.int .i64 x, .int .i64 y]) W := by kernel_rfl
theorem fieldCells (a b : Option Addr) (n m c d : Nat) (x y : Int) (W : World) : (Instr.field 95 (.agg #[.slice a n c, .int .i64 x, .int .i64 y, .slice b m d]) 0).run Tryz.prog W = .ok (.slice a n c) W := by kernel_rfl
/-- Whose turn it is. -/
def fstOf (L : Nat) (f : Nat → Bool) (j : Nat) : Bool := if j < L then f j else j % 2 == 0
/-- Both go on: so far at most, or whose turn it is can go on. -/
def Stp (L : Nat) (f : Nat → Bool) (j : Nat) (x y : Cm) : Prop :=
  (j - L) + 2 * (x.rem + y.rem) ≤ 176 ∨ ((j - L) + 2 * (x.rem + y.rem) = 177 ∧ L ≤ j ∧ (if j % 2 = 0 then ¬ (x.done = true ∨ (x.st.past = 0 ∧ y.st.inn = true)) else ¬ (y.done = true ∨ (y.st.past = 0 ∧ x.st.inn = true))))
theorem Stp.x {L : Nat} {f : Nat → Bool} {j : Nat} {x y x' : Cm} {ps qs : List Pr} {z : SSt} (h : Stp L f j x y) (H : Two 0 1 1 2 ps qs z x y) (hd : x.done = false ∨ y.done = false) (hf : fstOf L f j = true) (h1 : x'.rem ≤ x.rem) (h2 : (x.done = true ∨ (x.st.past = 0 ∧ y.st.inn = true)) → x' = x) (h3 : ¬ (x.done = true ∨ (x.st.past = 0 ∧ y.st.inn = true)) → x'.rem < x.rem) : Stp L f (j + 1) x' y := by
  unfold Stp at *
  by_cases hL : j < L
  · rcases h with h | ⟨h, hh, _⟩
    · left; omega
    · omega
  · unfold fstOf at hf
    rw [if_neg hL] at hf
    have he : j % 2 = 0 := by simpa using hf
    rw [if_pos he] at h
    by_cases hc : x.done = true ∨ (x.st.past = 0 ∧ y.st.inn = true)
    · have e := h2 hc
      subst e
      have := H.other hd hc
      rw [if_neg (by omega)]
      rcases h with h | ⟨_, _, h⟩
      · by_cases hq : j + 1 - L + 2 * (x'.rem + y.rem) ≤ 176
        · exact .inl hq
        · exact .inr ⟨by omega, by omega, this⟩
      · exact absurd hc h
    · have := h3 hc
      left
      rcases h with h | ⟨h, _, _⟩ <;> omega
theorem Stp.y {L : Nat} {f : Nat → Bool} {j : Nat} {x y y' : Cm} {ps qs : List Pr} {z : SSt} (h : Stp L f j x y) (H : Two 0 1 1 2 ps qs z x y) (hd : x.done = false ∨ y.done = false) (hf : fstOf L f j = false) (h1 : y'.rem ≤ y.rem) (h2 : (y.done = true ∨ (y.st.past = 0 ∧ x.st.inn = true)) → y' = y) (h3 : ¬ (y.done = true ∨ (y.st.past = 0 ∧ x.st.inn = true)) → y'.rem < y.rem) : Stp L f (j + 1) x y' := by
  unfold Stp at *
  by_cases hL : j < L
  · rcases h with h | ⟨h, hh, _⟩
    · left; omega
    · omega
  · unfold fstOf at hf
    rw [if_neg hL] at hf
    have he : ¬ j % 2 = 0 := by simpa using hf
    rw [if_neg he] at h
    by_cases hc : y.done = true ∨ (y.st.past = 0 ∧ x.st.inn = true)
    · have e := h2 hc
      subst e
      have := H.swap.other hd.symm hc
      rw [if_pos (by omega)]
      rcases h with h | ⟨_, _, h⟩
      · by_cases hq : j + 1 - L + 2 * (x.rem + y'.rem) ≤ 176
        · exact .inl hq
        · exact .inr ⟨by omega, by omega, this⟩
      · exact absurd hc h
    · have := h3 hc
      left
      rcases h with h | ⟨h, _, _⟩ <;> omega
theorem puts_len64 : ∀ (l : List Pr) {xs : List Int}, xs.length = 64 → (puts xs l).length = 64
  | [], _, h => h
  | p :: l, xs, h => puts_len64 l (xs := storeX xs p.ce p.x) (by rw [storeX_len]; exact h)
theorem Stp.over {L : Nat} {f : Nat → Bool} {x y : Cm} (h : Stp L f (L + 200) x y) : False := by
  unfold Stp at h
  omega

set_option maxRecDepth 100000 in
set_option maxHeartbeats 8000000 in
theorem two_walk (bw : Int) (aa : Option Addr) (na ca : Nat) (zs : List Pr) (ab : Option Addr) (nb cb : Nat) (ys : List Pr) (oa : Option Addr) (L lo : Nat) (f : Nat → Bool) (w : World) (hA : PIn w aa na zs) (hna : na ≤ 8796093022208) (hB : PIn w ab nb ys) (hnb : nb ≤ 8796093022208) (hO : BIn w oa L f) (hL : L ≤ 1048576) :
    Calls Tryz.prog 8 #[.int .i64 bw, .slice aa na ca, .slice ab nb cb, .slice oa L lo] w fun e w' => e = .returned (.bool true) ∧ Kept (fun _ => False) w w' := by
  have HA : Hid (PIn w aa na zs) := hA
  have HB : Hid (PIn w ab nb ys) := hB
  have HO : Hid (BIn w oa L f) := hO
  have hL0 : (0 : Int) ≤ (L : Int) := by omega
  have hL1 : (L : Int) ≤ 1048576 := by omega
  clear hA hB hO
  have hq := up_any w
  go_enter Tryz.func8, Tryz.ntmps8
  go_wp2_with fail
  refine hq.mono ?_
  rintro e w1 ⟨rfl, k1⟩
  have s1 := (St.nil w).calm k1
  clear hq k1
  have hq := config_any 0 bw 0 0 w1
  obtain ⟨c, hc⟩ : ∃ c, c = cfgOf 0 bw 0 0 := ⟨_, rfl⟩
  have HF : Hid (TwF c) := by rw [hc]; exact twF bw
  rw [← hc] at hq
  clear hc
  unfold Cfg.val at hq
  go_wp2_with fail
  refine hq.mono ?_
  rintro e w2 ⟨rfl, k2⟩
  have s2 := s1.calm k2
  clear hq k2 s1
  have hq := lives_st s2 HF.out.live
  unfold Cfg.val at hq
  clear s2
  go_wp2_with fail
  refine hq.mono ?_
  rintro e w4 ⟨A, J, v4, rfl, s4⟩
  clear hq
  unfold spp
  have hq := spConfig s4 1 rfl
  unfold spp Cfg.val at hq
  clear s4
  go_wp2_with fail
  refine hq.mono ?_
  rintro e w5 ⟨rfl, s5⟩
  clear hq
  have hq := new_st s5 c HF.out.live.f
  unfold Cfg.val at hq
  clear s5
  go_wp2_with fail
  refine hq.mono ?_
  rintro e w6 ⟨K, rfl, s6⟩
  clear hq
  have hs := spSlots s6 2 rfl
  unfold spp at hs
  have hq := spClaim s6 2 rfl HF.out.live.ok (by omega) 1 2
  rw [HF.out.cl.1, HF.out.cl.2] at hq
  clear s6
  go_wp2_with (go_at_call 42; refine hs.mono ?_; rintro e wq ⟨rfl, rfl⟩)
  refine hq.mono ?_
  rintro e w7 ⟨rfl, v7, s7⟩
  clear hq hs
  simp only [List.set] at s7
  have hs := spSlots s7 2 rfl
  unfold spp at hs
  have hq := spReady s7 2 rfl (HF.out.live.ok.op (claimOp 2) 1 (claim_keeps HF.out.live.ok.hd _ _)) (by omega) 1 1 6
  rw [HF.out.re] at hq
  clear s7
  go_wp2_with (go_at_call 42; refine hs.mono ?_; rintro e wq ⟨rfl, rfl⟩)
  refine hq.mono ?_
  rintro e w8 ⟨rfl, v8, s8'⟩
  have s8 : St w [boxI K (jd c 0) 146, boxI J (jd c 0) 146, spI A c (twoZ c) v8 (.slice none 0 0)] w8 := s8'
  clear hq hs s8'
  have hq := writes_any aa na ca zs w8 (HA.out.kept s8.same) hna
  go_wp2_with fail
  refine hq.mono ?_
  rintro e w9 ⟨vp, ps, rfl, hP, hp0, t9⟩
  have s9 := s8.add t9
  clear hq s8 t9
  obtain ⟨gp, cp, rfl⟩ := s9.form 0 rfl (List.length_pos_iff.2 hp0)
  have hq := writes_any ab nb cb ys w9 (HB.out.kept s9.same) hnb
  go_wp2_with fail
  refine hq.mono ?_
  rintro e w10 ⟨vq, qs, rfl, hQ, hq0, t10⟩
  have s10 := s9.add t10
  clear hq s9 t10
  obtain ⟨gq, cq, rfl⟩ := s10.form 0 rfl (List.length_pos_iff.2 hq0)
  obtain ⟨z, hz⟩ : ∃ z, z = twoZ c := ⟨_, rfl⟩
  have HZ : Hid (z.ok c 4 ∧ z.hs.length = 8 ∧ ∀ ps qs (x y : Cm), WPart ps → WPart qs → Tw 0 1 ps x → Tw 1 2 qs y → x.st = .take → y.st = .take → Two 0 1 1 2 ps qs z x y) := by rw [hz]; exact ⟨HF.out.ok, HF.out.hl, HF.out.two⟩
  rw [← hz] at s10
  clear hz
  have hckx := (HF.out.ck ps hP hp0).1
  have hcky := (HF.out.ck qs hQ hq0).2
  have hl8 : (z.hs.length : Int) = c.sl := by rw [HZ.out.2.1, HF.out.sl]; rfl
  have HFX : Hid ((Cm.new 0 1 1 5 ps (ofR (cesOf ps) c.bi).1 8).fit 8) := by
    have := Cm.fit_new (ge := 1) hckx (ofR_ok (cesOf ps) c.bi) (n := z.hs.length) (by rw [HZ.out.2.1]; decide) hl8
    rw [HZ.out.2.1] at this
    exact this
  have HFY : Hid ((Cm.new 1 1 2 6 qs (ofR (cesOf qs) c.bi).1 8).fit 8) := by
    have := Cm.fit_new (ge := 1) hcky (ofR_ok (cesOf qs) c.bi) (n := z.hs.length) (by rw [HZ.out.2.1]; decide) hl8
    rw [HZ.out.2.1] at this
    exact this
  have PW : ∀ (g cap : Nat) (rs : List Pr) (its : List It) (i : Nat) (W : World), rs ≠ [] → its[i]? = some (ownI 59 2 (.slice (some ⟨g, 0, none⟩) rs.length cap) rs.length (prCells rs)) → St w its W → PIn W (some ⟨g, 0, none⟩) rs.length rs := by
    intro g cap rs its i W h0 hi hW
    obtain ⟨la', lc', e', hP, _⟩ := own_pin (show W.ownsRow 0 59 2 (.slice (some ⟨g, 0, none⟩) rs.length cap) rs.length (prCells rs) from hW.get i hi)
    simp only [Value.slice.injEq, true_and] at e'
    obtain ⟨rfl, -⟩ := e'
    exact hP
  have HPW : Hid _ := PW
  have hq := cmNew_st s10 4 rfl HF.out.live.f hl8 J 0 1 1 5 (some ⟨gp, 0, none⟩) ps.length cp ps (fun W hW => PW gp cp ps _ 1 W hp0 rfl hW) (by have := hP.n; omega) hckx
  unfold spp at hq
  rw [HZ.out.2.1] at hq
  clear s10
  have HP : Hid (WPart ps ∧ ps ≠ []) := ⟨hP, hp0⟩
  have HQ : Hid (WPart qs ∧ qs ≠ []) := ⟨hQ, hq0⟩
  have hpl : ps.length ≤ 16 := hP.n
  have hql : qs.length ≤ 16 := hQ.n
  go_wp2_with fail
  refine hq.mono ?_
  rintro e w11 ⟨B, vl, dl, dv, rfl, hBJ, s11⟩
  clear hq
  have hq := cmNew_st s11 5 rfl HF.out.live.f hl8 K 1 1 2 6 (some ⟨gq, 0, none⟩) qs.length cq qs (fun W hW => PW gq cq qs _ 1 W hq0 rfl hW) (by omega) hcky
  unfold spp at hq
  rw [HZ.out.2.1] at hq
  clear s11 hckx hcky hP hQ PW hl8
  go_wp2_with fail
  refine hq.mono ?_
  rintro e w12 ⟨E, vl2, dl2, dv2, rfl, hEK, s12⟩
  clear hq
  have HT0 : Hid (Two 0 1 1 2 ps qs z (Cm.new 0 1 1 5 ps (ofR (cesOf ps) c.bi).1 8) (Cm.new 1 1 2 6 qs (ofR (cesOf qs) c.bi).1 8)) := HZ.out.2.2 _ _ _ _ HP.out.1 HQ.out.1 (Tw.begins HFX.out) (Tw.begins HFY.out) rfl rfl
  have HS0 : Hid (Stp L f 0 (Cm.new 0 1 1 5 ps (ofR (cesOf ps) c.bi).1 8) (Cm.new 1 1 2 6 qs (ofR (cesOf qs) c.bi).1 8)) := by
    have h1 := Cm.rem_new (so := 0) (th := 1) (sp := 5) (ps := ps) (wr := (ofR (cesOf ps) c.bi).1) hpl
    have h2 := Cm.rem_new (so := 1) (th := 2) (sp := 6) (ps := qs) (wr := (ofR (cesOf qs) c.bi).1) hql
    exact Or.inl (by omega)
  have HOK : Hid (z.ok c 4) := HZ.out.1
  generalize Cm.new 0 1 1 5 ps (ofR (cesOf ps) c.bi).1 8 = x0 at *
  generalize Cm.new 1 1 2 6 qs (ofR (cesOf qs) c.bi).1 8 = y0 at *
  subst hBJ
  subst hEK
  clear HZ HFX HFY
  generalize hPL : ps.length = PL at *
  generalize hQL : qs.length = QL at *
  have HPL : Hid (ps.length = PL) := hPL
  have HQL : Hid (qs.length = QL) := hQL
  clear hPL hQL
  have HLI : Hid (∃ x y z D D2 v vl vd vv dl dv vl2 vd2 vv2 dl2 dv2, St w [cmI A E D2 y vl2 vd2 vv2 dl2 dv2, cmI A B D x vl vd vv dl dv, ownI 59 2 (.slice (some ⟨gq, 0, none⟩) QL cq) QL (prCells qs), ownI 59 2 (.slice (some ⟨gp, 0, none⟩) PL cp) PL (prCells ps), boxI E.J (jd c 0) 146, boxI B.J (jd c 0) 146, spI A c z v (.slice none 0 0)] w12 ∧ Two 0 1 1 2 ps qs z x y ∧ z.ok c (4 + 2 * 0) ∧ Stp L f 0 x y) := ⟨x0, y0, z, _, _, _, _, _, _, _, _, _, _, _, _, _, s12, HT0.out, HOK.out, HS0.out⟩
  clear s12 HT0 HOK HS0
  clear x0 y0 z
  go_wp2_with fail
  obtain ⟨w13, hw13⟩ : ∃ y, y = w12 := ⟨_, rfl⟩
  subst hw13
  go_loopw [24] (fun i wr => ∃ j : Nat, i = .int .i64 j ∧ j ≤ L + 200 ∧ Hid (∃ x y z D D2 v vl vd vv dl dv vl2 vd2 vv2 dl2 dv2, St w [cmI A E D2 y vl2 vd2 vv2 dl2 dv2, cmI A B D x vl vd vv dl dv, ownI 59 2 (.slice (some ⟨gq, 0, none⟩) QL cq) QL (prCells qs), ownI 59 2 (.slice (some ⟨gp, 0, none⟩) PL cp) PL (prCells ps), boxI E.J (jd c 0) 146, boxI B.J (jd c 0) 146, spI A c z v (.slice none 0 0)] wr ∧ Two 0 1 1 2 ps qs z x y ∧ z.ok c (4 + 2 * j) ∧ Stp L f j x y)) (fun i _ => L + 200 - (intOf i).toNat)
  case atStart => exact ⟨0, rfl, by omega, HLI⟩
  case round =>
    clear HLI vl dl dv vl2 dl2 dv2
    obtain ⟨j, rfl, hj, HR⟩ := hrel
    obtain ⟨x, y, z, D, D2, v, vl, vd, vv, dl, dv, vl2, vd2, vv2, dl2, dv2, sj, hT, hok, hstp⟩ := HR.out
    clear HR
    have HT : Hid (Two 0 1 1 2 ps qs z x y) := hT
    have HK : Hid (z.ok c (4 + 2 * j)) := hok
    have HST : Hid (Stp L f j x y) := hstp
    have hj0 : (0 : Int) ≤ (j : Int) := by omega
    have hj1 : (j : Int) ≤ (L : Int) + 200 := by omega
    have hdx := cmDone sj 1 rfl
    have hdy := cmDone sj 0 rfl
    have HS : Hid _ := sj
    clear sj hT hok hstp
    go_upto_region 15 with fail
    go_cut [130] from 116 to 182 (fun u wx => u = .bool (decide (j < L + 200) && (!x.done || !y.done)) ∧ wx = wr)
    case first =>
      by_cases hlt : j < L + 200
      · have h1 : (j : Int) < (L : Int) + 200 := by omega
        have e1 : decide (j < L + 200) = true := by simpa using hlt
        rcases (show x.done = false ∨ x.done = true by cases x.done <;> simp) with hx | hx
        · rw [hx] at hdx
          go_wp2_with fail
          refine hdx.mono ?_
          rintro e wq ⟨rfl, rfl⟩
          go_wp2_with fail
          go_meet
          exact ⟨by rw [e1, hx]; rfl, rfl⟩
        · rw [hx] at hdx
          go_wp2_with fail
          refine hdx.mono ?_
          rintro e wq ⟨rfl, rfl⟩
          go_wp2_with fail
          refine hdy.mono ?_
          rintro e wq ⟨rfl, rfl⟩
          go_wp2_with fail
          go_meet
          exact ⟨by rw [e1, hx]; rfl, rfl⟩
      · have h1 : ¬ (j : Int) < (L : Int) + 200 := by omega
        have e1 : decide (j < L + 200) = false := by simpa using hlt
        go_wp2_with fail
        go_meet
        exact ⟨by rw [e1]; rfl, rfl⟩
    case rest =>
      obtain ⟨rfl, rfl⟩ := hcut
      obtain ⟨wr, hwr⟩ : ∃ y, y = wc := ⟨_, rfl⟩
      subst hwr
      by_cases hgo : (decide (j < L + 200) && (!x.done || !y.done)) = true
      · rw [hgo]
        have HLT : Hid (j < L + 200 ∧ (x.done = false ∨ y.done = false)) := by
          simp only [Bool.and_eq_true, decide_eq_true_eq, Bool.or_eq_true, Bool.not_eq_true'] at hgo
          exact hgo
        clear hgo hdx hdy
        have m1 := and1 (j : Int)
        go_upto_region 17 with fail
        go_cut [25] from 116 to 182 (fun u wx => u = .bool (fstOf L f j) ∧ wx = wr)
        case first =>
          by_cases hlt : j < L
          · have h1 : (j : Int) < (L : Int) := by omega
            have h2 : ¬ (j : Int) ≥ (L : Int) := by omega
            have e1 : fstOf L f j = f j := by simp [fstOf, hlt]
            obtain ⟨b, off, rfl, hc⟩ : ∃ b off, oa = some ⟨b, off, none⟩ ∧ ∀ i, i < L → wr.cell? ⟨b, off + i, none⟩ = some (.bool (f i)) := by
              rcases HO.out.kept HS.out.same with h | h
              · omega
              · exact h
            have hcj := hc j hlt
            clear hc
            go_wp2_with fail
            go_meet
            exact ⟨by rw [e1], rfl⟩
          · have h1 : ¬ (j : Int) < (L : Int) := by omega
            have h2 : (j : Int) ≥ (L : Int) := by omega
            by_cases hev : j % 2 = 0
            · have e1 : fstOf L f j = true := by simp [fstOf, hlt, hev]
              have m2 : bits .and .i64 (j : Int) 1 = 0 := by rw [m1]; omega
              clear m1
              go_wp2_with (simp only [m2])
              go_meet
              exact ⟨by rw [e1], rfl⟩
            · have e1 : fstOf L f j = false := by simp [fstOf, hlt, hev]
              have m2 : bits .and .i64 (j : Int) 1 = 1 := by rw [m1]; omega
              clear m1
              go_wp2_with (simp only [m2])
              go_meet
              exact ⟨by rw [e1], rfl⟩
        case rest =>
          obtain ⟨rfl, rfl⟩ := hcut
          obtain ⟨wr, hwr⟩ : ∃ y, y = wc := ⟨_, rfl⟩
          subst hwr
          clear m1
          have W0 : Hid (WsOk z.ws) := fun a ha => ⟨0, by rw [HT.out.w a ha]; rfl, by decide⟩
          have L8 : Hid (z.hs.length = 8) := by
            have h1 := HK.out.hl
            rw [HF.out.sl] at h1
            show _ = _
            omega
          have hxn := HK.out.g0
          have htm : Int.tmod z.x.n 2 = z.x.n % 2 := Int.tmod_eq_emod_of_nonneg hxn
          clear hxn
          have hgt := spGate HS.out 6 rfl
          have hnw := spNow HS.out 6 rfl
          unfold spp at hgt
          unfold Gt.val at hnw
          rcases (show fstOf L f j = true ∨ fstOf L f j = false by cases fstOf L f j <;> simp) with hfs | hfs
          · as_aux_lemma =>
              rw [hfs]
              obtain ⟨q1, q2, q3, q4, q5, q6⟩ := (HT.out.turn 1).step HF.out.live.f HF.out.ta (by decide) (by decide) (by decide) (by decide) (by decide) (by decide) rfl
              have HTW : Hid (Two 0 1 1 2 ps qs ((z.turn 1).commits x) (x.next c (z.turn 1) 0) y) := q1
              have HSP : Hid (Stp L f (j + 1) (x.next c (z.turn 1) 0) y) := HST.out.x HT.out HLT.out.2 hfs q4 q5 q6
              have HOK : Hid (((z.turn 1).commits x).ok c (4 + 2 * (j + 1))) := (HK.out.turn 1).commits x
              have HQ3 : Hid _ := q3
              have HQ2 : Hid _ := q2
              clear q1 q2 q3 q4 q5 q6
              go_wp2_with (go_at_call 48; refine hgt.mono ?_; rintro e wq ⟨rfl, rfl⟩)
              refine hnw.mono ?_
              rintro e w14 ⟨rfl, s14⟩
              clear hgt hnw HS
              have s15 := s14.box #[.int .i64 z.x.n, .int .i64 z.x.o] 92
              clear s14
              go_upto_region 24 with fail
              generalize w14.alloc (.cells #[.int .i64 z.x.n, .int .i64 z.x.o] 92) = w15 at *
              generalize w14.heap.size = M at *
              have hq := spTurn s15 7 rfl HK.out (by omega) 1
              unfold spp at hq
              clear s15
              go_wp2_with fail
              refine hq.mono ?_
              rintro e w16 ⟨rfl, s16⟩
              clear hq
              simp only [List.set] at s16
              have hq := cmStep s16 7 6 2 (by decide) (by decide) (by decide) rfl rfl rfl HF.out.live.f (Int.le_refl 0) (by show x.fit z.hs.length; rw [L8.out]; exact (HT.out.X.fit)) (HK.out.turn 1) (by omega) W0.out
              clear s16
              go_wp2_with fail
              refine hq.mono ?_
              rintro e w17 ⟨rfl, D', v', vl', vd', vv', dl', dv', s17⟩
              clear hq
              rw [HQ2.out] at s17
              simp only [List.set] at s17
              have hnu := cmNumber s17 2 rfl
              have c0 : w17.cell? ⟨M, 0, none⟩ = some (.int .i64 z.x.n) := s17.cell 0 rfl 0
              have c1 : w17.cell? ⟨M, 1, none⟩ = some (.int .i64 z.x.o) := s17.cell 0 rfl 1
              have HS7 : Hid _ := s17.pop
              clear s17
              have hz3 : (x.ans (z.turn 1) == 2) = ((z.x.n % 2 == 1) && (z.x.o != 1) && ((x.next c (z.turn 1) 0).num == 0)) := HQ3.out
              clear HQ3
              obtain ⟨an, han⟩ : ∃ an, an = x.ans (z.turn 1) := ⟨_, rfl⟩
              obtain ⟨nm, hnm⟩ : ∃ nm, nm = (x.next c (z.turn 1) 0).num := ⟨_, rfl⟩
              rw [← han, ← hnm] at hz3
              rw [← han]
              rw [← hnm] at hnu
              obtain ⟨gn, hgn⟩ : ∃ gn, gn = z.x.n := ⟨_, rfl⟩
              obtain ⟨gw, hgw⟩ : ∃ gw, gw = z.x.o := ⟨_, rfl⟩
              rw [← hgn] at c0 hz3 htm
              rw [← hgw] at c1 hz3
              clear han hnm hgn hgw
              go_upto_region 26 with fail
              go_cut [182] from 116 to 182 (fun u wx => u = .bool false ∧ wx = w17)
              case first =>
                rcases (show (gn % 2 == 1) = false ∨ (gn % 2 == 1) = true by cases (gn % 2 == 1) <;> simp) with h1 | h1
                · have ha : (an == 2) = false := by rw [hz3, h1]; rfl
                  clear hz3 hnu
                  go_wp2_with (simp only [htm])
                  go_meet
                  exact ⟨rfl, rfl⟩
                · rcases (show (gw != 1) = false ∨ (gw != 1) = true by cases (gw != 1) <;> simp) with h2 | h2
                  · have ha : (an == 2) = false := by rw [hz3, h1, h2]; rfl
                    clear hz3 hnu
                    go_wp2_with (simp only [htm])
                    go_meet
                    exact ⟨rfl, rfl⟩
                  · rcases (show (nm == 0) = false ∨ (nm == 0) = true by cases (nm == 0) <;> simp) with h3 | h3
                    · have ha : (an == 2) = false := by rw [hz3, h1, h2, h3]; rfl
                      clear hz3
                      go_wp2_with (first | simp only [htm] | (refine hnu.mono ?_; rintro e wq ⟨rfl, rfl⟩))
                      go_meet
                      exact ⟨rfl, rfl⟩
                    · have ha : (an == 2) = true := by rw [hz3, h1, h2, h3]; rfl
                      clear hz3
                      go_wp2_with (first | simp only [htm] | (refine hnu.mono ?_; rintro e wq ⟨rfl, rfl⟩))
                      go_meet
                      exact ⟨rfl, rfl⟩
              case rest =>
                obtain ⟨rfl, rfl⟩ := hcut
                clear hz3 hnu htm c0 c1
                have hlt := HLT.out.1
                go_wp2
                go_roundw
                case rel => exact ⟨j + 1, by go_num, by omega, ⟨_, _, _, _, _, _, _, _, _, _, _, _, _, _, _, _, HS7.out, HTW.out, HOK.out, HSP.out⟩⟩
                case measure => simp [intOf]; omega
          · as_aux_lemma =>
              rw [hfs]
              obtain ⟨q1, q2, q3, q4, q5, q6⟩ := ((HT.out.swap).turn 2).step HF.out.live.f HF.out.ta (by decide) (by decide) (by decide) (by decide) (by decide) (by decide) rfl
              have HTW : Hid (Two 0 1 1 2 ps qs ((z.turn 2).commits y) x (y.next c (z.turn 2) 0)) := q1.swap
              have HSP : Hid (Stp L f (j + 1) x (y.next c (z.turn 2) 0)) := HST.out.y HT.out HLT.out.2 hfs q4 q5 q6
              have HOK : Hid (((z.turn 2).commits y).ok c (4 + 2 * (j + 1))) := (HK.out.turn 2).commits y
              have HQ3 : Hid _ := q3
              have HQ2 : Hid _ := q2
              clear q1 q2 q3 q4 q5 q6
              go_wp2_with (go_at_call 48; refine hgt.mono ?_; rintro e wq ⟨rfl, rfl⟩)
              refine hnw.mono ?_
              rintro e w14 ⟨rfl, s14⟩
              clear hgt hnw HS
              have s15 := s14.box #[.int .i64 z.x.n, .int .i64 z.x.o] 92
              clear s14
              go_upto_region 24 with fail
              generalize w14.alloc (.cells #[.int .i64 z.x.n, .int .i64 z.x.o] 92) = w15 at *
              generalize w14.heap.size = M at *
              have hq := spTurn s15 7 rfl HK.out (by omega) 2
              unfold spp at hq
              clear s15
              go_wp2_with fail
              refine hq.mono ?_
              rintro e w16 ⟨rfl, s16⟩
              clear hq
              simp only [List.set] at s16
              have hq := cmStep s16 7 5 1 (by decide) (by decide) (by decide) rfl rfl rfl HF.out.live.f (Int.le_refl 0) (by show y.fit z.hs.length; rw [L8.out]; exact (HT.out.Y.fit)) (HK.out.turn 2) (by omega) W0.out
              clear s16
              go_wp2_with fail
              refine hq.mono ?_
              rintro e w17 ⟨rfl, D', v', vl', vd', vv', dl', dv', s17⟩
              clear hq
              rw [HQ2.out] at s17
              simp only [List.set] at s17
              have hnu := cmNumber s17 1 rfl
              have c0 : w17.cell? ⟨M, 0, none⟩ = some (.int .i64 z.x.n) := s17.cell 0 rfl 0
              have c1 : w17.cell? ⟨M, 1, none⟩ = some (.int .i64 z.x.o) := s17.cell 0 rfl 1
              have HS7 : Hid _ := s17.pop
              clear s17
              have hz3 : (y.ans (z.turn 2) == 2) = ((z.x.n % 2 == 1) && (z.x.o != 2) && ((y.next c (z.turn 2) 0).num == 0)) := HQ3.out
              clear HQ3
              obtain ⟨an, han⟩ : ∃ an, an = y.ans (z.turn 2) := ⟨_, rfl⟩
              obtain ⟨nm, hnm⟩ : ∃ nm, nm = (y.next c (z.turn 2) 0).num := ⟨_, rfl⟩
              rw [← han, ← hnm] at hz3
              rw [← han]
              rw [← hnm] at hnu
              obtain ⟨gn, hgn⟩ : ∃ gn, gn = z.x.n := ⟨_, rfl⟩
              obtain ⟨gw, hgw⟩ : ∃ gw, gw = z.x.o := ⟨_, rfl⟩
              rw [← hgn] at c0 hz3 htm
              rw [← hgw] at c1 hz3
              clear han hnm hgn hgw
              go_upto_region 26 with fail
              go_cut [182] from 116 to 182 (fun u wx => u = .bool false ∧ wx = w17)
              case first =>
                rcases (show (gn % 2 == 1) = false ∨ (gn % 2 == 1) = true by cases (gn % 2 == 1) <;> simp) with h1 | h1
                · have ha : (an == 2) = false := by rw [hz3, h1]; rfl
                  clear hz3 hnu
                  go_wp2_with (simp only [htm])
                  go_meet
                  exact ⟨rfl, rfl⟩
                · rcases (show (gw != 2) = false ∨ (gw != 2) = true by cases (gw != 2) <;> simp) with h2 | h2
                  · have ha : (an == 2) = false := by rw [hz3, h1, h2]; rfl
                    clear hz3 hnu
                    go_wp2_with (simp only [htm])
                    go_meet
                    exact ⟨rfl, rfl⟩
                  · rcases (show (nm == 0) = false ∨ (nm == 0) = true by cases (nm == 0) <;> simp) with h3 | h3
                    · have ha : (an == 2) = false := by rw [hz3, h1, h2, h3]; rfl
                      clear hz3
                      go_wp2_with (first | simp only [htm] | (refine hnu.mono ?_; rintro e wq ⟨rfl, rfl⟩))
                      go_meet
                      exact ⟨rfl, rfl⟩
                    · have ha : (an == 2) = true := by rw [hz3, h1, h2, h3]; rfl
                      clear hz3
                      go_wp2_with (first | simp only [htm] | (refine hnu.mono ?_; rintro e wq ⟨rfl, rfl⟩))
                      go_meet
                      exact ⟨rfl, rfl⟩
              case rest =>
                obtain ⟨rfl, rfl⟩ := hcut
                clear hz3 hnu htm c0 c1
                have hlt := HLT.out.1
                go_wp2
                go_roundw
                case rel => exact ⟨j + 1, by go_num, by omega, ⟨_, _, _, _, _, _, _, _, _, _, _, _, _, _, _, _, HS7.out, HTW.out, HOK.out, HSP.out⟩⟩
                case measure => simp [intOf]; omega
      · have hbb : x.done = true ∧ y.done = true := by
          by_cases hlt : j < L + 200
          · have e1 : decide (j < L + 200) = true := by simpa using hlt
            rw [e1] at hgo
            cases hx : x.done <;> cases hy : y.done <;> simp_all
          · have e1 : j = L + 200 := by omega
            have h2 := HST.out
            rw [e1] at h2
            exact h2.over.elim
        have hgf : (decide (j < L + 200) && (!x.done || !y.done)) = false := by simpa using hgo
        rw [hgf]
        rw [hbb.1] at hdx
        rw [hbb.2] at hdy
        have over : ∀ q : Cm, q.done = true → q.st.inn = false ∧ q.st.past = 2 ∧ q.stored = q.wr := fun q e => by
          unfold Cm.done at e
          cases hq : q.st <;> simp_all [Stg.isOver, Stg.inn, Stg.past, Cm.stored]
        obtain ⟨ix, px, stx⟩ := over x hbb.1
        obtain ⟨iy, py, sty⟩ := over y hbb.2
        rw [HT.out.X.wr] at stx
        rw [HT.out.Y.wr] at sty
        have hex := cmEnd HS.out 1 rfl
        have hey := cmEnd HS.out 0 rfl
        have hxe : x.end_ = 0 := by unfold Cm.end_; rw [if_pos hbb.1]; exact HT.out.X.e
        have hye : y.end_ = 0 := by unfold Cm.end_; rw [if_pos hbb.2]; exact HT.out.Y.e
        rw [hxe] at hex
        rw [hye] at hey
        have hg4 : z.x.n = 4 := by rw [HT.out.gn, px, py]; rfl
        have hg0 : z.x.o = 0 := HT.out.g0 ix iy
        have t1 := HK.out
        have hvw := spView HS.out 6 rfl t1.wl t1.h1 t1.h8
        rw [hg4, hg0] at hvw
        unfold spp at hvw
        clear hgo hgf hbb over ix px iy py hxe hye hg4 hg0 t1 HST
        go_wp2_with fail
        refine hdx.mono ?_
        rintro e wq ⟨rfl, rfl⟩
        go_wp2_with fail
        refine hdy.mono ?_
        rintro e wq ⟨rfl, rfl⟩
        go_wp2_with fail
        refine hex.mono ?_
        rintro e wq ⟨rfl, rfl⟩
        go_wp2_with fail
        refine hey.mono ?_
        rintro e wq ⟨rfl, rfl⟩
        go_wp2_with fail
        refine hvw.mono ?_
        rintro e w15 ⟨va, vb, rfl, s15⟩
        clear hdx hdy hex hey hvw HS
        obtain ⟨pa, ca1, rfl⟩ := own_form (n := z.xs.length) (s15.get 0 rfl)
        obtain ⟨pb, cb1, rfl⟩ := own_form (n := z.hs.length) (s15.get 1 rfl)
        have s16 := s15.pop.pop
        clear s15
        have hfg := fun W => fieldGate pa pb z.xs.length z.hs.length ca1 cb1 4 0 W
        have hng := fun W => neGt 4 0 W
        have s17 := s16.box (clCells (List.replicate 64 0)).toArray 130
        clear s16
        go_upto_region 31 with (first | simp only [hfg] | simp only [hng])
        have hcs : (#[.int .i64 0, .int .i64 0, .int .i64 0, .int .i64 0, .int .i64 0, .int .i64 0, .int .i64 0, .int .i64 0, .int .i64 0, .int .i64 0, .int .i64 0, .int .i64 0, .int .i64 0, .int .i64 0, .int .i64 0, .int .i64 0, .int .i64 0, .int .i64 0, .int .i64 0, .int .i64 0, .int .i64 0, .int .i64 0, .int .i64 0, .int .i64 0, .int .i64 0, .int .i64 0, .int .i64 0, .int .i64 0, .int .i64 0, .int .i64 0, .int .i64 0, .int .i64 0, .int .i64 0, .int .i64 0, .int .i64 0, .int .i64 0, .int .i64 0, .int .i64 0, .int .i64 0, .int .i64 0, .int .i64 0, .int .i64 0, .int .i64 0, .int .i64 0, .int .i64 0, .int .i64 0, .int .i64 0, .int .i64 0, .int .i64 0, .int .i64 0, .int .i64 0, .int .i64 0, .int .i64 0, .int .i64 0, .int .i64 0, .int .i64 0, .int .i64 0, .int .i64 0, .int .i64 0, .int .i64 0, .int .i64 0, .int .i64 0, .int .i64 0, .int .i64 0] : Array Value) = (clCells (List.replicate 64 0)).toArray := rfl
        rw [hcs]
        clear hcs
        obtain ⟨ZB, hZB⟩ : ∃ ZB : List Int, ZB = List.replicate 64 0 := ⟨_, rfl⟩
        have HZL : Hid (ZB.length = 64) := by show _ = _; rw [hZB, List.length_replicate]
        have HZB : Hid (ZB = List.replicate 64 0) := hZB
        rw [← hZB] at s17 ⊢
        clear hZB
        generalize w15.alloc (.cells (clCells ZB).toArray 130) = w16 at *
        generalize w15.heap.size = M at *
        have hnx := cmNumber s17 2 rfl
        have hny := cmNumber s17 1 rfl
        clear hfg hng
        by_cases hgt : x.num > y.num
        · as_aux_lemma =>
              go_wp2_with fail
              refine hnx.mono ?_
              rintro e wq ⟨rfl, rfl⟩
              go_wp2_with fail
              refine hny.mono ?_
              rintro e wq ⟨rfl, rfl⟩
              clear hnx hny
              go_wp2_with fail
              go_loopw [33] (fun i wr => ∃ k : Nat, i = .int .i64 k ∧ k ≤ QL ∧ St w (boxI M (clCells (puts (ZB) (qs.take k))).toArray 130 :: [cmI A E D2 y vl2 vd2 vv2 dl2 dv2, cmI A B D x vl vd vv dl dv, ownI 59 2 (.slice (some ⟨gq, 0, none⟩) QL cq) QL (prCells qs), ownI 59 2 (.slice (some ⟨gp, 0, none⟩) PL cp) PL (prCells ps), boxI E.J (jd c 0) 146, boxI B.J (jd c 0) 146, spI A c z v (.slice none 0 0)]) wr) (fun i _ => QL - (intOf i).toNat)
              case atStart => exact ⟨0, rfl, Nat.zero_le _, s17⟩
              case round =>
                clear s17
                obtain ⟨k, rfl, hk, hS⟩ := hrel
                have hk0 : (0 : Int) ≤ (k : Int) := by omega
                by_cases hlt : k < QL
                · as_aux_lemma =>
                    have h1 : (k : Int) < (QL : Int) := by omega
                    have hkl : k < qs.length := by have := HQL.out; omega
                    have hPI : PIn wr (some ⟨gq, 0, none⟩) qs.length qs := HPW.out gq cq qs _ 3 wr (by intro e; rw [e] at hkl; simp at hkl) (by rw [HQL.out]; rfl) hS
                    obtain ⟨c0, c1⟩ := hPI.cells hkl
                    simp only [Nat.zero_add] at c0 c1
                    have hm : qs.getD k Pr.zero ∈ qs := by rw [List.getD_eq_getElem?_getD, List.getElem?_eq_getElem hkl]; exact List.getElem_mem hkl
                    have hr := HQ.out.1.r _ hm
                    have HTK : Hid (qs.take (k + 1) = qs.take k ++ [qs.getD k Pr.zero]) := by
                      show _ = _
                      rw [List.take_succ_eq_append_getElem hkl, List.getD_eq_getElem?_getD, List.getElem?_eq_getElem hkl]; rfl
                    generalize qs.getD k Pr.zero = pk at *
                    obtain ⟨ce, px⟩ := pk
                    simp only at c0 c1 hr
                    obtain ⟨cn, rfl⟩ := Int.eq_ofNat_of_zero_le hr.1
                    have r0 : (0 : Int) ≤ (cn : Int) := by omega
                    have r1 : (cn : Int) < 64 := hr.2
                    have d0 : wr.drew.cell? ⟨gq, k * 2, none⟩ = some (.int .i64 (cn : Int)) := c0
                    have d1 : wr.drew.cell? ⟨gq, k * 2 + 1, none⟩ = some (.int .i64 px) := c1
                    have f0 : wr.frozen? ⟨M, cn, none⟩ = false := hS.frozen 0 rfl cn
                    have f1 : wr.drew.frozen? ⟨M, cn, none⟩ = false := f0
                    have hl := puts_len64 (qs.take k) (HZL.out)
                    obtain ⟨XL, hXL⟩ : ∃ XL, XL = puts (ZB) (qs.take k) := ⟨_, rfl⟩
                    have HXL : Hid (XL = puts (ZB) (qs.take k)) := hXL
                    rw [← hXL] at hS hl
                    clear hXL
                    have hcn : cn < XL.length := by omega
                    have ho : wr.cell? ⟨M, cn, none⟩ = some (.int .i64 (XL[cn]'hcn)) := by
                      have e := hS.cell 0 rfl cn
                      rw [List.getElem?_toArray, clCells_at XL cn hcn] at e
                      exact e
                    have ho1 : wr.drew.cell? ⟨M, cn, none⟩ = some (.int .i64 (XL[cn]'hcn)) := ho
                    generalize XL[cn]'hcn = uo at ho ho1
                    have HS2 : Hid (∀ W, W = (wr.drew).setCell ⟨M, cn, none⟩ (.int .i64 px) → St w (boxI M (clCells (puts (ZB) (qs.take (k + 1)))).toArray 130 :: [cmI A E D2 y vl2 vd2 vv2 dl2 dv2, cmI A B D x vl vd vv dl dv, ownI 59 2 (.slice (some ⟨gq, 0, none⟩) QL cq) QL (prCells qs), ownI 59 2 (.slice (some ⟨gp, 0, none⟩) PL cp) PL (prCells ps), boxI E.J (jd c 0) 146, boxI B.J (jd c 0) 146, spI A c z v (.slice none 0 0)]) W) := by
                      intro W hW
                      have e : puts (ZB) (qs.take (k + 1)) = XL.set cn px := by
                        rw [HTK.out, puts_one, ← HXL.out]
                        show storeX _ (cn : Int) px = _
                        unfold storeX
                        rw [if_pos (by simp [cin]; omega)]
                        simp
                      have t := (hS.drew).write 0 rfl cn (.int .i64 px)
                      have e2 : ((clCells XL).toArray).setIfInBounds cn (.int .i64 px) = (clCells (XL.set cn px)).toArray := by
                        rw [← clCells_set]
                        simp
                      rw [hW, e, ← e2]
                      exact t
                    clear hS hPI hm hr HTK hkl
                    go_wp2_with fail
                    go_region
                    all_goals
                      go_wp2
                      go_roundw
                      case rel => exact ⟨k + 1, by go_num, by omega, HS2.out _ rfl⟩
                      case measure => simp [intOf]; omega
                · obtain rfl : QL = k := by omega
                  have h1 : ¬ (QL : Int) < (QL : Int) := by omega
                  have htk : qs.take QL = qs := by rw [← HQL.out, List.take_length]
                  rw [htk] at hS
                  clear htk
                  obtain ⟨w20, hw20⟩ : ∃ y, y = wr := ⟨_, rfl⟩
                  subst hw20
                  go_wp2_with fail
                  go_loopw [34] (fun i wr => ∃ k : Nat, i = .int .i64 k ∧ k ≤ PL ∧ St w (boxI M (clCells (puts (puts ZB qs) (ps.take k))).toArray 130 :: [cmI A E D2 y vl2 vd2 vv2 dl2 dv2, cmI A B D x vl vd vv dl dv, ownI 59 2 (.slice (some ⟨gq, 0, none⟩) QL cq) QL (prCells qs), ownI 59 2 (.slice (some ⟨gp, 0, none⟩) PL cp) PL (prCells ps), boxI E.J (jd c 0) 146, boxI B.J (jd c 0) 146, spI A c z v (.slice none 0 0)]) wr) (fun i _ => PL - (intOf i).toNat)
                  case atStart => exact ⟨0, rfl, Nat.zero_le _, hS⟩
                  case round =>
                    clear hS
                    obtain ⟨k, rfl, hk, hS⟩ := hrel
                    have hk0 : (0 : Int) ≤ (k : Int) := by omega
                    by_cases hlt : k < PL
                    · as_aux_lemma =>
                        have h1 : (k : Int) < (PL : Int) := by omega
                        have hkl : k < ps.length := by have := HPL.out; omega
                        have hPI : PIn wr (some ⟨gp, 0, none⟩) ps.length ps := HPW.out gp cp ps _ 4 wr (by intro e; rw [e] at hkl; simp at hkl) (by rw [HPL.out]; rfl) hS
                        obtain ⟨c0, c1⟩ := hPI.cells hkl
                        simp only [Nat.zero_add] at c0 c1
                        have hm : ps.getD k Pr.zero ∈ ps := by rw [List.getD_eq_getElem?_getD, List.getElem?_eq_getElem hkl]; exact List.getElem_mem hkl
                        have hr := HP.out.1.r _ hm
                        have HTK : Hid (ps.take (k + 1) = ps.take k ++ [ps.getD k Pr.zero]) := by
                          show _ = _
                          rw [List.take_succ_eq_append_getElem hkl, List.getD_eq_getElem?_getD, List.getElem?_eq_getElem hkl]; rfl
                        generalize ps.getD k Pr.zero = pk at *
                        obtain ⟨ce, px⟩ := pk
                        simp only at c0 c1 hr
                        obtain ⟨cn, rfl⟩ := Int.eq_ofNat_of_zero_le hr.1
                        have r0 : (0 : Int) ≤ (cn : Int) := by omega
                        have r1 : (cn : Int) < 64 := hr.2
                        have d0 : wr.drew.cell? ⟨gp, k * 2, none⟩ = some (.int .i64 (cn : Int)) := c0
                        have d1 : wr.drew.cell? ⟨gp, k * 2 + 1, none⟩ = some (.int .i64 px) := c1
                        have f0 : wr.frozen? ⟨M, cn, none⟩ = false := hS.frozen 0 rfl cn
                        have f1 : wr.drew.frozen? ⟨M, cn, none⟩ = false := f0
                        have hl := puts_len64 (ps.take k) (puts_len64 qs HZL.out)
                        obtain ⟨XL, hXL⟩ : ∃ XL, XL = puts (puts ZB qs) (ps.take k) := ⟨_, rfl⟩
                        have HXL : Hid (XL = puts (puts ZB qs) (ps.take k)) := hXL
                        rw [← hXL] at hS hl
                        clear hXL
                        have hcn : cn < XL.length := by omega
                        have ho : wr.cell? ⟨M, cn, none⟩ = some (.int .i64 (XL[cn]'hcn)) := by
                          have e := hS.cell 0 rfl cn
                          rw [List.getElem?_toArray, clCells_at XL cn hcn] at e
                          exact e
                        have ho1 : wr.drew.cell? ⟨M, cn, none⟩ = some (.int .i64 (XL[cn]'hcn)) := ho
                        generalize XL[cn]'hcn = uo at ho ho1
                        have HS2 : Hid (∀ W, W = (wr.drew).setCell ⟨M, cn, none⟩ (.int .i64 px) → St w (boxI M (clCells (puts (puts ZB qs) (ps.take (k + 1)))).toArray 130 :: [cmI A E D2 y vl2 vd2 vv2 dl2 dv2, cmI A B D x vl vd vv dl dv, ownI 59 2 (.slice (some ⟨gq, 0, none⟩) QL cq) QL (prCells qs), ownI 59 2 (.slice (some ⟨gp, 0, none⟩) PL cp) PL (prCells ps), boxI E.J (jd c 0) 146, boxI B.J (jd c 0) 146, spI A c z v (.slice none 0 0)]) W) := by
                          intro W hW
                          have e : puts (puts ZB qs) (ps.take (k + 1)) = XL.set cn px := by
                            rw [HTK.out, puts_one, ← HXL.out]
                            show storeX _ (cn : Int) px = _
                            unfold storeX
                            rw [if_pos (by simp [cin]; omega)]
                            simp
                          have t := (hS.drew).write 0 rfl cn (.int .i64 px)
                          have e2 : ((clCells XL).toArray).setIfInBounds cn (.int .i64 px) = (clCells (XL.set cn px)).toArray := by
                            rw [← clCells_set]
                            simp
                          rw [hW, e, ← e2]
                          exact t
                        clear hS hPI hm hr HTK hkl
                        go_wp2_with fail
                        go_region
                        all_goals
                          go_wp2
                          go_roundw
                          case rel => exact ⟨k + 1, by go_num, by omega, HS2.out _ rfl⟩
                          case measure => simp [intOf]; omega
                    · obtain rfl : PL = k := by omega
                      have h1 : ¬ (PL : Int) < (PL : Int) := by omega
                      have htk : ps.take PL = ps := by rw [← HPL.out, List.take_length]
                      rw [htk] at hS
                      clear htk
                      obtain ⟨w21, hw21⟩ : ∃ y, y = wr := ⟨_, rfl⟩
                      subst hw21
                      have HXS : Hid (z.xs = puts (puts ZB qs) ps) := by
                        have h := HT.out.c2 (by omega)
                        rw [stx, sty, ← HZB.out] at h
                        exact h
                      have HLS : Hid (sts z.s.l = List.replicate QL ((2 : Nat) : Int) ++ List.replicate PL ((1 : Nat) : Int)) := by
                        have h := HT.out.l2 (by omega)
                        rw [stx, sty] at h
                        simp only [repT, HPL.out, HQL.out] at h
                        exact h
                      rw [← HXS.out] at hS
                      have t1 := HK.out
                      have hvw := spView hS 7 rfl t1.wl t1.h1 t1.h8
                      unfold spp at hvw
                      have HOK : Hid (z.ok c (4 + 2 * j)) := t1
                      clear hS t1
                      go_wp2_with fail
                      refine hvw.mono ?_
                      rintro e w22 ⟨va, vb, rfl, s22⟩
                      clear hvw
                      obtain ⟨qa, ca2, rfl⟩ := s22.form 0 rfl (by rw [HT.out.xl]; decide)
                      obtain ⟨qb, cb2, rfl⟩ := own_form (n := z.hs.length) (s22.get 1 rfl)
                      have hfc := fun W => fieldCells (some ⟨qa, 0, none⟩) qb z.xs.length z.hs.length ca2 cb2 z.x.n z.x.o W
                      have HXC : Hid (∀ k, k < 64 → w22.cell? ⟨qa, k, none⟩ = some (.int .i64 (z.xs.getD k 0)) ∧ w22.cell? ⟨M, k, none⟩ = some (.int .i64 (z.xs.getD k 0))) := by
                        intro k hk
                        have hl := HT.out.xl
                        have e : z.xs.getD k 0 = z.xs[k]'(by omega) := by rw [List.getD_eq_getElem?_getD, List.getElem?_eq_getElem (by omega)]; rfl
                        have e1 := clCells_at z.xs k (by omega)
                        rw [← e] at e1
                        refine ⟨(s22.ownCell 0 rfl k (by rw [hl]; omega)).trans e1, (s22.cell 2 rfl k).trans ?_⟩
                        rw [List.getElem?_toArray]
                        exact e1
                      have HS22 : Hid (∀ nn, St w _ (w22.drewN nn)) := fun nn => s22.calm ((Kept.refl _ _).drewN nn)
                      clear s22
                      have hx64 : (z.xs.length : Int) = 64 := by rw [HT.out.xl]; rfl
                      go_wp2_with (simp only [hfc])
                      go_loopw [36] (fun i wr => ∃ (k nn : Nat), i = .int .i64 k ∧ k ≤ 64 ∧ wr = w22.drewN nn) (fun i _ => 64 - (intOf i).toNat)
                      case atStart => exact ⟨0, 0, rfl, Nat.zero_le _, rfl⟩
                      case round =>
                        obtain ⟨k, nn, rfl, hk, rfl⟩ := hrel
                        have hk0 : (0 : Int) ≤ (k : Int) := by omega
                        by_cases hlt : k < 64
                        · as_aux_lemma =>
                            have h1 : (k : Int) < 64 := by omega
                            have h2 : (k : Int) < (z.xs.length : Int) := by omega
                            obtain ⟨c0, c1⟩ := HXC.out k hlt
                            clear HXC HS22 hfc
                            generalize z.xs.getD k 0 = u at *
                            generalize z.xs.length = XL at *
                            go_wp2_with fail
                            go_quiet (fail)
                            go_wp2
                            go_roundw
                            case rel => exact ⟨k + 1, _, by go_num, by omega, rfl⟩
                            case measure => simp [intOf]; omega
                        · obtain rfl : 64 = k := by omega
                          have hq := apart_st (HS22.out nn) 9 rfl HOK.out (by omega) (a := 2) (b := 1) (m := QL) (k := PL) (by decide) (by decide) (by decide) HLS.out
                          unfold spp at hq
                          clear HXC HS22 hfc
                          go_wp2_with fail
                          refine hq.mono ?_
                          rintro e w23 ⟨rfl, s23⟩
                          have HKK : Hid (Kept (fun _ => False) w w23) := s23.same
                          clear hq s23
                          go_wp2
                          go_ret
                          exact ⟨rfl, HKK.out⟩

        · as_aux_lemma =>
              go_wp2_with fail
              refine hnx.mono ?_
              rintro e wq ⟨rfl, rfl⟩
              go_wp2_with fail
              refine hny.mono ?_
              rintro e wq ⟨rfl, rfl⟩
              clear hnx hny
              go_wp2_with fail
              go_loopw [33] (fun i wr => ∃ k : Nat, i = .int .i64 k ∧ k ≤ PL ∧ St w (boxI M (clCells (puts (ZB) (ps.take k))).toArray 130 :: [cmI A E D2 y vl2 vd2 vv2 dl2 dv2, cmI A B D x vl vd vv dl dv, ownI 59 2 (.slice (some ⟨gq, 0, none⟩) QL cq) QL (prCells qs), ownI 59 2 (.slice (some ⟨gp, 0, none⟩) PL cp) PL (prCells ps), boxI E.J (jd c 0) 146, boxI B.J (jd c 0) 146, spI A c z v (.slice none 0 0)]) wr) (fun i _ => PL - (intOf i).toNat)
              case atStart => exact ⟨0, rfl, Nat.zero_le _, s17⟩
              case round =>
                clear s17
                obtain ⟨k, rfl, hk, hS⟩ := hrel
                have hk0 : (0 : Int) ≤ (k : Int) := by omega
                by_cases hlt : k < PL
                · as_aux_lemma =>
                    have h1 : (k : Int) < (PL : Int) := by omega
                    have hkl : k < ps.length := by have := HPL.out; omega
                    have hPI : PIn wr (some ⟨gp, 0, none⟩) ps.length ps := HPW.out gp cp ps _ 4 wr (by intro e; rw [e] at hkl; simp at hkl) (by rw [HPL.out]; rfl) hS
                    obtain ⟨c0, c1⟩ := hPI.cells hkl
                    simp only [Nat.zero_add] at c0 c1
                    have hm : ps.getD k Pr.zero ∈ ps := by rw [List.getD_eq_getElem?_getD, List.getElem?_eq_getElem hkl]; exact List.getElem_mem hkl
                    have hr := HP.out.1.r _ hm
                    have HTK : Hid (ps.take (k + 1) = ps.take k ++ [ps.getD k Pr.zero]) := by
                      show _ = _
                      rw [List.take_succ_eq_append_getElem hkl, List.getD_eq_getElem?_getD, List.getElem?_eq_getElem hkl]; rfl
                    generalize ps.getD k Pr.zero = pk at *
                    obtain ⟨ce, px⟩ := pk
                    simp only at c0 c1 hr
                    obtain ⟨cn, rfl⟩ := Int.eq_ofNat_of_zero_le hr.1
                    have r0 : (0 : Int) ≤ (cn : Int) := by omega
                    have r1 : (cn : Int) < 64 := hr.2
                    have d0 : wr.drew.cell? ⟨gp, k * 2, none⟩ = some (.int .i64 (cn : Int)) := c0
                    have d1 : wr.drew.cell? ⟨gp, k * 2 + 1, none⟩ = some (.int .i64 px) := c1
                    have f0 : wr.frozen? ⟨M, cn, none⟩ = false := hS.frozen 0 rfl cn
                    have f1 : wr.drew.frozen? ⟨M, cn, none⟩ = false := f0
                    have hl := puts_len64 (ps.take k) (HZL.out)
                    obtain ⟨XL, hXL⟩ : ∃ XL, XL = puts (ZB) (ps.take k) := ⟨_, rfl⟩
                    have HXL : Hid (XL = puts (ZB) (ps.take k)) := hXL
                    rw [← hXL] at hS hl
                    clear hXL
                    have hcn : cn < XL.length := by omega
                    have ho : wr.cell? ⟨M, cn, none⟩ = some (.int .i64 (XL[cn]'hcn)) := by
                      have e := hS.cell 0 rfl cn
                      rw [List.getElem?_toArray, clCells_at XL cn hcn] at e
                      exact e
                    have ho1 : wr.drew.cell? ⟨M, cn, none⟩ = some (.int .i64 (XL[cn]'hcn)) := ho
                    generalize XL[cn]'hcn = uo at ho ho1
                    have HS2 : Hid (∀ W, W = (wr.drew).setCell ⟨M, cn, none⟩ (.int .i64 px) → St w (boxI M (clCells (puts (ZB) (ps.take (k + 1)))).toArray 130 :: [cmI A E D2 y vl2 vd2 vv2 dl2 dv2, cmI A B D x vl vd vv dl dv, ownI 59 2 (.slice (some ⟨gq, 0, none⟩) QL cq) QL (prCells qs), ownI 59 2 (.slice (some ⟨gp, 0, none⟩) PL cp) PL (prCells ps), boxI E.J (jd c 0) 146, boxI B.J (jd c 0) 146, spI A c z v (.slice none 0 0)]) W) := by
                      intro W hW
                      have e : puts (ZB) (ps.take (k + 1)) = XL.set cn px := by
                        rw [HTK.out, puts_one, ← HXL.out]
                        show storeX _ (cn : Int) px = _
                        unfold storeX
                        rw [if_pos (by simp [cin]; omega)]
                        simp
                      have t := (hS.drew).write 0 rfl cn (.int .i64 px)
                      have e2 : ((clCells XL).toArray).setIfInBounds cn (.int .i64 px) = (clCells (XL.set cn px)).toArray := by
                        rw [← clCells_set]
                        simp
                      rw [hW, e, ← e2]
                      exact t
                    clear hS hPI hm hr HTK hkl
                    go_wp2_with fail
                    go_region
                    all_goals
                      go_wp2
                      go_roundw
                      case rel => exact ⟨k + 1, by go_num, by omega, HS2.out _ rfl⟩
                      case measure => simp [intOf]; omega
                · obtain rfl : PL = k := by omega
                  have h1 : ¬ (PL : Int) < (PL : Int) := by omega
                  have htk : ps.take PL = ps := by rw [← HPL.out, List.take_length]
                  rw [htk] at hS
                  clear htk
                  obtain ⟨w20, hw20⟩ : ∃ y, y = wr := ⟨_, rfl⟩
                  subst hw20
                  go_wp2_with fail
                  go_loopw [34] (fun i wr => ∃ k : Nat, i = .int .i64 k ∧ k ≤ QL ∧ St w (boxI M (clCells (puts (puts ZB ps) (qs.take k))).toArray 130 :: [cmI A E D2 y vl2 vd2 vv2 dl2 dv2, cmI A B D x vl vd vv dl dv, ownI 59 2 (.slice (some ⟨gq, 0, none⟩) QL cq) QL (prCells qs), ownI 59 2 (.slice (some ⟨gp, 0, none⟩) PL cp) PL (prCells ps), boxI E.J (jd c 0) 146, boxI B.J (jd c 0) 146, spI A c z v (.slice none 0 0)]) wr) (fun i _ => QL - (intOf i).toNat)
                  case atStart => exact ⟨0, rfl, Nat.zero_le _, hS⟩
                  case round =>
                    clear hS
                    obtain ⟨k, rfl, hk, hS⟩ := hrel
                    have hk0 : (0 : Int) ≤ (k : Int) := by omega
                    by_cases hlt : k < QL
                    · as_aux_lemma =>
                        have h1 : (k : Int) < (QL : Int) := by omega
                        have hkl : k < qs.length := by have := HQL.out; omega
                        have hPI : PIn wr (some ⟨gq, 0, none⟩) qs.length qs := HPW.out gq cq qs _ 3 wr (by intro e; rw [e] at hkl; simp at hkl) (by rw [HQL.out]; rfl) hS
                        obtain ⟨c0, c1⟩ := hPI.cells hkl
                        simp only [Nat.zero_add] at c0 c1
                        have hm : qs.getD k Pr.zero ∈ qs := by rw [List.getD_eq_getElem?_getD, List.getElem?_eq_getElem hkl]; exact List.getElem_mem hkl
                        have hr := HQ.out.1.r _ hm
                        have HTK : Hid (qs.take (k + 1) = qs.take k ++ [qs.getD k Pr.zero]) := by
                          show _ = _
                          rw [List.take_succ_eq_append_getElem hkl, List.getD_eq_getElem?_getD, List.getElem?_eq_getElem hkl]; rfl
                        generalize qs.getD k Pr.zero = pk at *
                        obtain ⟨ce, px⟩ := pk
                        simp only at c0 c1 hr
                        obtain ⟨cn, rfl⟩ := Int.eq_ofNat_of_zero_le hr.1
                        have r0 : (0 : Int) ≤ (cn : Int) := by omega
                        have r1 : (cn : Int) < 64 := hr.2
                        have d0 : wr.drew.cell? ⟨gq, k * 2, none⟩ = some (.int .i64 (cn : Int)) := c0
                        have d1 : wr.drew.cell? ⟨gq, k * 2 + 1, none⟩ = some (.int .i64 px) := c1
                        have f0 : wr.frozen? ⟨M, cn, none⟩ = false := hS.frozen 0 rfl cn
                        have f1 : wr.drew.frozen? ⟨M, cn, none⟩ = false := f0
                        have hl := puts_len64 (qs.take k) (puts_len64 ps HZL.out)
                        obtain ⟨XL, hXL⟩ : ∃ XL, XL = puts (puts ZB ps) (qs.take k) := ⟨_, rfl⟩
                        have HXL : Hid (XL = puts (puts ZB ps) (qs.take k)) := hXL
                        rw [← hXL] at hS hl
                        clear hXL
                        have hcn : cn < XL.length := by omega
                        have ho : wr.cell? ⟨M, cn, none⟩ = some (.int .i64 (XL[cn]'hcn)) := by
                          have e := hS.cell 0 rfl cn
                          rw [List.getElem?_toArray, clCells_at XL cn hcn] at e
                          exact e
                        have ho1 : wr.drew.cell? ⟨M, cn, none⟩ = some (.int .i64 (XL[cn]'hcn)) := ho
                        generalize XL[cn]'hcn = uo at ho ho1
                        have HS2 : Hid (∀ W, W = (wr.drew).setCell ⟨M, cn, none⟩ (.int .i64 px) → St w (boxI M (clCells (puts (puts ZB ps) (qs.take (k + 1)))).toArray 130 :: [cmI A E D2 y vl2 vd2 vv2 dl2 dv2, cmI A B D x vl vd vv dl dv, ownI 59 2 (.slice (some ⟨gq, 0, none⟩) QL cq) QL (prCells qs), ownI 59 2 (.slice (some ⟨gp, 0, none⟩) PL cp) PL (prCells ps), boxI E.J (jd c 0) 146, boxI B.J (jd c 0) 146, spI A c z v (.slice none 0 0)]) W) := by
                          intro W hW
                          have e : puts (puts ZB ps) (qs.take (k + 1)) = XL.set cn px := by
                            rw [HTK.out, puts_one, ← HXL.out]
                            show storeX _ (cn : Int) px = _
                            unfold storeX
                            rw [if_pos (by simp [cin]; omega)]
                            simp
                          have t := (hS.drew).write 0 rfl cn (.int .i64 px)
                          have e2 : ((clCells XL).toArray).setIfInBounds cn (.int .i64 px) = (clCells (XL.set cn px)).toArray := by
                            rw [← clCells_set]
                            simp
                          rw [hW, e, ← e2]
                          exact t
                        clear hS hPI hm hr HTK hkl
                        go_wp2_with fail
                        go_region
                        all_goals
                          go_wp2
                          go_roundw
                          case rel => exact ⟨k + 1, by go_num, by omega, HS2.out _ rfl⟩
                          case measure => simp [intOf]; omega
                    · obtain rfl : QL = k := by omega
                      have h1 : ¬ (QL : Int) < (QL : Int) := by omega
                      have htk : qs.take QL = qs := by rw [← HQL.out, List.take_length]
                      rw [htk] at hS
                      clear htk
                      obtain ⟨w21, hw21⟩ : ∃ y, y = wr := ⟨_, rfl⟩
                      subst hw21
                      have HXS : Hid (z.xs = puts (puts ZB ps) qs) := by
                        have h := HT.out.c1 (by omega)
                        rw [stx, sty, ← HZB.out] at h
                        exact h
                      have HLS : Hid (sts z.s.l = List.replicate PL ((1 : Nat) : Int) ++ List.replicate QL ((2 : Nat) : Int)) := by
                        have h := HT.out.l1 (by omega)
                        rw [stx, sty] at h
                        simp only [repT, HPL.out, HQL.out] at h
                        exact h
                      rw [← HXS.out] at hS
                      have t1 := HK.out
                      have hvw := spView hS 7 rfl t1.wl t1.h1 t1.h8
                      unfold spp at hvw
                      have HOK : Hid (z.ok c (4 + 2 * j)) := t1
                      clear hS t1
                      go_wp2_with fail
                      refine hvw.mono ?_
                      rintro e w22 ⟨va, vb, rfl, s22⟩
                      clear hvw
                      obtain ⟨qa, ca2, rfl⟩ := s22.form 0 rfl (by rw [HT.out.xl]; decide)
                      obtain ⟨qb, cb2, rfl⟩ := own_form (n := z.hs.length) (s22.get 1 rfl)
                      have hfc := fun W => fieldCells (some ⟨qa, 0, none⟩) qb z.xs.length z.hs.length ca2 cb2 z.x.n z.x.o W
                      have HXC : Hid (∀ k, k < 64 → w22.cell? ⟨qa, k, none⟩ = some (.int .i64 (z.xs.getD k 0)) ∧ w22.cell? ⟨M, k, none⟩ = some (.int .i64 (z.xs.getD k 0))) := by
                        intro k hk
                        have hl := HT.out.xl
                        have e : z.xs.getD k 0 = z.xs[k]'(by omega) := by rw [List.getD_eq_getElem?_getD, List.getElem?_eq_getElem (by omega)]; rfl
                        have e1 := clCells_at z.xs k (by omega)
                        rw [← e] at e1
                        refine ⟨(s22.ownCell 0 rfl k (by rw [hl]; omega)).trans e1, (s22.cell 2 rfl k).trans ?_⟩
                        rw [List.getElem?_toArray]
                        exact e1
                      have HS22 : Hid (∀ nn, St w _ (w22.drewN nn)) := fun nn => s22.calm ((Kept.refl _ _).drewN nn)
                      clear s22
                      have hx64 : (z.xs.length : Int) = 64 := by rw [HT.out.xl]; rfl
                      go_wp2_with (simp only [hfc])
                      go_loopw [36] (fun i wr => ∃ (k nn : Nat), i = .int .i64 k ∧ k ≤ 64 ∧ wr = w22.drewN nn) (fun i _ => 64 - (intOf i).toNat)
                      case atStart => exact ⟨0, 0, rfl, Nat.zero_le _, rfl⟩
                      case round =>
                        obtain ⟨k, nn, rfl, hk, rfl⟩ := hrel
                        have hk0 : (0 : Int) ≤ (k : Int) := by omega
                        by_cases hlt : k < 64
                        · as_aux_lemma =>
                            have h1 : (k : Int) < 64 := by omega
                            have h2 : (k : Int) < (z.xs.length : Int) := by omega
                            obtain ⟨c0, c1⟩ := HXC.out k hlt
                            clear HXC HS22 hfc
                            generalize z.xs.getD k 0 = u at *
                            generalize z.xs.length = XL at *
                            go_wp2_with fail
                            go_quiet (fail)
                            go_wp2
                            go_roundw
                            case rel => exact ⟨k + 1, _, by go_num, by omega, rfl⟩
                            case measure => simp [intOf]; omega
                        · obtain rfl : 64 = k := by omega
                          have hq := apart_st (HS22.out nn) 9 rfl HOK.out (by omega) (a := 1) (b := 2) (m := PL) (k := QL) (by decide) (by decide) (by decide) HLS.out
                          unfold spp at hq
                          clear HXC HS22 hfc
                          go_wp2_with fail
                          refine hq.mono ?_
                          rintro e w23 ⟨rfl, s23⟩
                          have HKK : Hid (Kept (fun _ => False) w w23) := s23.same
                          clear hq s23
                          go_wp2
                          go_ret
                          exact ⟨rfl, HKK.out⟩

end Go.Proofs.YtgjmamgohidbiaaGreat
