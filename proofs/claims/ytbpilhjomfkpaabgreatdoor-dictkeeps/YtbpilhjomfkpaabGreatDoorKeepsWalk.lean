/- DictKeeps, walked. -/
import Derived.Test.YtbpilhjomfkpaabGreatDoorKpM
import Derived.Test.YtbpilhjomfkpaabGreatDoorDiU
import Derived.Test.YtbpilhjomfkpaabGreatDoorAr
import Derived.Laws.CopyOwn
namespace Go.Proofs.YtbpilhjomfkpaabGreatDoor
open Go.RowKit
set_option linter.unusedVariables false
set_option linter.unusedSimpArgs false
attribute [local go_sem ↓] Go.wp_at_zero Go.wp_at_succ

section
variable {w : World}
set_option maxRecDepth 100000 in
set_option maxHeartbeats 1000000 in
theorem sameInts_any (la lb : Option Addr) (na nb ca cb : Nat) (a b : List Int) (hA : XIn w la na a) (hB : XIn w lb nb b) (hn : na ≤ 8796093022208000) :
    Calls Tryz.prog 17 #[.slice la na ca, .slice lb nb cb] w fun e w' => e = .returned (.bool (decide (a = b))) ∧ Kept (fun _ => False) w w' := by
  have HA := hid hA
  have HB := hid hB
  by_cases hl : na = nb
  · subst hl
    have t0 : ((na : Int) != na) = false := by simp
    have HLe : Hid (a.length = na ∧ b.length = na) := ⟨hA.1.symm, hB.1.symm⟩
    clear hA hB
    go_enter Tryz.func17, Tryz.ntmps17
    go_wp2
    go_loopw [5] (fun i wr => ∃ j : Nat, i = .int .i64 j ∧ j ≤ na ∧ (∀ k, k < j → a.getD k 0 = b.getD k 0) ∧ Kept (fun _ => False) w wr) (fun i _ => na - (intOf i).toNat)
    case atStart => exact ⟨0, rfl, Nat.zero_le _, fun k h => by omega, Kept.refl _ _⟩
    case round =>
      obtain ⟨j, rfl, hj, hs, hk⟩ := hrel
      have HS := hid hs
      clear hs
      by_cases hlt : j < na
      · obtain ⟨ga, oa, rfl⟩ := HA.out.addr (by omega)
        obtain ⟨gb, ob, rfl⟩ := HB.out.addr (by omega)
        have x0 := (HA.out.kept hk.drew).cell hlt
        have y0 := (HB.out.kept hk.drew).cell hlt
        have h0 : (0 : Int) ≤ (j : Int) := Int.natCast_nonneg _
        have h1 : (j : Int) < (na : Int) := by omega
        have HN : Hid (a.getD j 0 ≠ b.getD j 0 → decide (a = b) = false) := fun h => by
          rw [decide_eq_false_iff_not]
          intro e
          exact h (by rw [e])
        have HY : Hid (a.getD j 0 = b.getD j 0 → ∀ k, k < j + 1 → a.getD k 0 = b.getD k 0) := fun h k hk => by
          by_cases e : k = j
          · rw [e]; exact h
          · exact HS.out k (by omega)
        generalize a.getD j 0 = x at *
        generalize b.getD j 0 = y at *
        by_cases hxy : x = y
        · have hv : (x != y) = false := by simp [hxy]
          have HY2 := hid (HY.out hxy)
          clear HS HN HY hxy
          go_upto_region 6 with fail
          go_region
          go_wp2
          go_roundw
          case rel => exact ⟨j + 1, by simp, by omega, HY2.out, hk.drew⟩
          case measure => simp [intOf]; omega
        · have hv : (x != y) = true := by simpa using hxy
          have HF := hid (HN.out hxy)
          clear HS HN HY hxy
          go_upto_region 6 with fail
          go_region
          go_wp2
          go_ret
          exact ⟨by rw [HF.out]; rfl, hk.drew⟩
      · have h1 : ¬ (j : Int) < (na : Int) := by omega
        have HF : Hid (decide (a = b) = true) := by
          show decide (a = b) = true
          rw [decide_eq_true_eq]
          apply List.ext_getElem (by rw [HLe.out.1, HLe.out.2])
          intro k k1 k2
          have := HS.out k (by have := HLe.out.1; omega)
          simpa [List.getD_eq_getElem?_getD, k1, k2] using this
        clear HS
        go_wp2
        go_ret
        exact ⟨by rw [HF.out]; rfl, hk⟩
  · have t0 : ((na : Int) != nb) = true := by simp; omega
    have hf : decide (a = b) = false := by
      rw [decide_eq_false_iff_not]
      intro e
      exact hl (by rw [hA.1, hB.1, e])
    rw [hf]
    clear hA hB HA HB hf
    go_enter Tryz.func17, Tryz.ntmps17
    go_wp2
    go_ret
    exact ⟨rfl, Kept.refl _ _⟩
end
/-- What a DictGet of a list gives. -/
def GetE (l : List Pr) (z : Int) (W : World) (e : Ending) (w' : World) : Prop :=
  ∃ v ta tc, e = .returned (.tuple #[v, .slice ta (getT l z).length tc, .int .i64 0]) ∧ St W [ownI 2 1 (.slice ta (getT l z).length tc) (getT l z).length (xC (getT l z))] w'
theorem get_ok {la : Option Addr} {m lc : Nat} {l : List Pr} {n z : Int} {W : World} (hX : EIn W la m l) (hm : m ≤ 4611686018427387904) (hk : ∀ p ∈ l, Rg p.1) (hz : Rg z) (hok : okS l n ⟨2, 0, 0, z, 0⟩ = true) :
    Calls Tryz.prog 20 #[.slice la m lc, .int .i64 n, .agg #[.int .i64 2, .int .i64 0, .int .i64 0, .int .i64 z, .int .i64 0]] W (GetE l z W) := by
  refine Calls.mono (Do_any (d := ⟨2, 0, 0, z, 0⟩) (n := n) (lc := lc) hX hm hk hz) ?_
  intro e w' h
  unfold DoE at h
  rw [if_pos hok, doS_get] at h
  obtain ⟨v, t, rfl, s⟩ := h
  have s1 : St W [ownI 2 1 t (getT l z).length (xC (getT l z))] w' := St.cut (A := [_]) (B := [_]) s
  obtain ⟨ta, tc, rfl, -, -, -⟩ := own_xin (show w'.ownsRow 0 2 1 t (getT l z).length (xC (getT l z)) from s1.get 0 rfl)
  exact ⟨v, ta, tc, rfl, s1⟩
theorem get_len (l : List Pr) (z : Int) : (getT l z).length = 1 ∨ (getT l z).length = 2 := by
  unfold getT
  cases atP l z <;> simp
theorem st_xinK {o0 w : World} {its : List It} {la : Option Addr} {n lc : Nat} {zs : List Int} (h : St o0 its w) (i : Nat) (hi : its[i]? = some (ownI 2 1 (.slice la n lc) n (xC zs))) (hn : n = zs.length) : XIn w la n zs := by
  subst hn
  obtain ⟨la', lc', e, hx, _⟩ := own_xin (show w.ownsRow 0 2 1 (.slice la zs.length lc) zs.length (xC zs) from h.get i hi)
  simp only [Value.slice.injEq] at e
  obtain ⟨rfl, _, rfl⟩ := e
  exact hx
set_option maxRecDepth 100000 in
set_option maxHeartbeats 8000000 in
theorem keeps_walk (la : Option Addr) (m lc : Nat) (l : List Pr) (n x y v : Int) (puts : Bool) (w : World) (hE : Env w) (hl : CameE w la m lc l) (hx : Rg x) (hy : Rg y) :
    Calls Tryz.prog 4 #[.slice la m lc, .int .i64 n, .int .i64 x, .int .i64 y, .int .i64 v, .bool puts] w fun e w' => e = .returned (.bool true) ∧ Kept (fun _ => False) w w' := by
  obtain ⟨hEI, hmc, hm16, hnil, hkr⟩ := hl
  have hA := awake_any _ hE
  have hm9 : (m : Int) ≤ 8796093022208 := by omega
  have hsame := kp_same l n x v y puts
  have HP : Hid (∀ W, Kept (fun _ => False) w W → Calls Tryz.prog 20 #[.slice la m lc, .int .i64 n, (kpD puts x v).val] W (DoE l n (kpD puts x v) W)) := hid (fun W k => Do_any (d := kpD puts x v) (hEI.kept k) (by omega) hkr (by unfold kpD; cases puts <;> exact hx))
  cases hok : okS l n ⟨2, 0, 0, y, 0⟩ with
  | false =>
    have HG1 : Hid (∀ W, Kept (fun _ => False) w W → Calls Tryz.prog 20 #[.slice la m lc, .int .i64 n, .agg #[.int .i64 2, .int .i64 0, .int .i64 0, .int .i64 y, .int .i64 0]] W fun e w' => e = .returned (.tuple #[.slice none 0 0, .slice none 0 0, .int .i64 190]) ∧ Kept (fun _ => False) W w') := hid (fun W k => (Do_any (d := ⟨2, 0, 0, y, 0⟩) (hEI.kept k) (by omega) hkr hy).mono (fun e w' h => by
      unfold DoE at h
      rw [if_neg (by rw [hok]; decide)] at h
      exact h))
    have HP1 : Hid (∀ W, Kept (fun _ => False) w W → Calls Tryz.prog 20 #[.slice la m lc, .int .i64 n, (kpD puts x v).val] W fun e w' => e = .returned (.tuple #[.slice none 0 0, .slice none 0 0, .int .i64 190]) ∧ Kept (fun _ => False) W w') := hid (fun W k => (HP.out W k).mono (fun e w' h => by
      unfold DoE at h
      rw [if_neg (by rw [hsame, hok]; decide)] at h
      exact h))
    clear HP hE hEI hkr hx hy hok hsame
    cases puts with
    | false =>
      go_enter Tryz.func4, Tryz.ntmps4
      go_upto_region 5 with (first | (go_at_call 5; refine hA.mono ?_; rintro e w1 ⟨rfl, k1⟩))
      have sM := ((St.nil w).calm k1).box #[.int .i64 3, .int .i64 0, .int .i64 0, .int .i64 x, .int .i64 0] 34
      generalize w1.alloc (.cells #[.int .i64 3, .int .i64 0, .int .i64 0, .int .i64 x, .int .i64 0] 34) = w2 at *
      generalize w1.heap.size = M at *
      have g1 := HG1.out w2 sM.same
      have HSM := hid sM
      clear sM HG1 k1
      go_upto_region 6 with (go_at_call 20; refine g1.mono ?_; rintro e w3 ⟨rfl, k3⟩)
      have s3 := HSM.out.calm k3
      have c0 : w3.cell? ⟨M, 0, none⟩ = some (.int .i64 3) := s3.cell 0 rfl 0
      have c1 : w3.cell? ⟨M, 1, none⟩ = some (.int .i64 0) := s3.cell 0 rfl 1
      have c2 : w3.cell? ⟨M, 2, none⟩ = some (.int .i64 0) := s3.cell 0 rfl 2
      have c3 : w3.cell? ⟨M, 3, none⟩ = some (.int .i64 x) := s3.cell 0 rfl 3
      have c4 : w3.cell? ⟨M, 4, none⟩ = some (.int .i64 0) := s3.cell 0 rfl 4
      have p1 : Calls Tryz.prog 20 #[.slice la m lc, .int .i64 n, .agg #[.int .i64 3, .int .i64 0, .int .i64 0, .int .i64 x, .int .i64 0]] w3 fun e w' => e = .returned (.tuple #[.slice none 0 0, .slice none 0 0, .int .i64 190]) ∧ Kept (fun _ => False) w3 w' := HP1.out w3 s3.same
      have HK3 := hid s3.same
      clear s3 HSM HP1 g1 k3
      go_wp2_with (go_at_call 20; refine p1.mono ?_; rintro e w4 ⟨rfl, k4⟩)
      go_ret
      exact ⟨rfl, HK3.out.trans k4 (fun _ _ f => f)⟩
    | true =>
      go_enter Tryz.func4, Tryz.ntmps4
      go_upto_region 5 with (first | (go_at_call 5; refine hA.mono ?_; rintro e w1 ⟨rfl, k1⟩))
      have sM := ((St.nil w).calm k1).box #[.int .i64 1, .int .i64 0, .int .i64 0, .int .i64 x, .int .i64 v] 34
      generalize w1.alloc (.cells #[.int .i64 1, .int .i64 0, .int .i64 0, .int .i64 x, .int .i64 v] 34) = w2 at *
      generalize w1.heap.size = M at *
      have g1 := HG1.out w2 sM.same
      have HSM := hid sM
      clear sM HG1 k1
      go_upto_region 6 with (go_at_call 20; refine g1.mono ?_; rintro e w3 ⟨rfl, k3⟩)
      have s3 := HSM.out.calm k3
      have c0 : w3.cell? ⟨M, 0, none⟩ = some (.int .i64 1) := s3.cell 0 rfl 0
      have c1 : w3.cell? ⟨M, 1, none⟩ = some (.int .i64 0) := s3.cell 0 rfl 1
      have c2 : w3.cell? ⟨M, 2, none⟩ = some (.int .i64 0) := s3.cell 0 rfl 2
      have c3 : w3.cell? ⟨M, 3, none⟩ = some (.int .i64 x) := s3.cell 0 rfl 3
      have c4 : w3.cell? ⟨M, 4, none⟩ = some (.int .i64 v) := s3.cell 0 rfl 4
      have p1 : Calls Tryz.prog 20 #[.slice la m lc, .int .i64 n, .agg #[.int .i64 1, .int .i64 0, .int .i64 0, .int .i64 x, .int .i64 v]] w3 fun e w' => e = .returned (.tuple #[.slice none 0 0, .slice none 0 0, .int .i64 190]) ∧ Kept (fun _ => False) w3 w' := HP1.out w3 s3.same
      have HK3 := hid s3.same
      clear s3 HSM HP1 g1 k3
      go_wp2_with (go_at_call 20; refine p1.mono ?_; rintro e w4 ⟨rfl, k4⟩)
      go_ret
      exact ⟨rfl, HK3.out.trans k4 (fun _ _ f => f)⟩
  | true =>
    have HG2 : Hid (∀ W, Kept (fun _ => False) w W → Calls Tryz.prog 20 #[.slice la m lc, .int .i64 n, .agg #[.int .i64 2, .int .i64 0, .int .i64 0, .int .i64 y, .int .i64 0]] W (GetE l y W)) := hid (fun W k => get_ok (hEI.kept k) (by omega) hkr hy hok)
    obtain ⟨tt, htt, hgx⟩ := kp_told (l := l) (n := n) (x := x) (v := v) puts
    have hot : Hid (y ≠ x → getT (doS l n (kpD puts x v)).1 y = getT l y) := hid (fun h => by unfold getT; rw [kp_other puts h])
    have hlen := kp_len (x := x) (v := v) puts (by unfold okS at hok; simp only [Bool.and_eq_true, decide_eq_true_eq] at hok; exact hok.2.1)
    have hn60 : n ≤ 60 := by
      unfold okS at hok
      simp only [Bool.and_eq_true, decide_eq_true_eq] at hok
      exact (roomS_pos hok.1).2.1
    have HP2 : Hid (∀ W, Kept (fun _ => False) w W → Calls Tryz.prog 20 #[.slice la m lc, .int .i64 n, (kpD puts x v).val] W fun e w' => ∃ ga gc ta tc, e = .returned (.tuple #[.slice ga (doS l n (kpD puts x v)).1.length gc, .slice (some ⟨ta, 0, none⟩) 1 tc, .int .i64 0]) ∧ St W [ownI 2 1 (.slice (some ⟨ta, 0, none⟩) 1 tc) 1 (xC [tt]), lstE (.slice ga (doS l n (kpD puts x v)).1.length gc) (doS l n (kpD puts x v)).1] w') := hid (fun W k => (HP.out W k).mono (fun e w' h => by
      unfold DoE at h
      rw [if_pos (by rw [hsame, hok]), htt] at h
      obtain ⟨va, t, rfl, s⟩ := h
      obtain ⟨ga, gc, e1, -, -, -⟩ := own_ein (show w'.ownsRow 0 70 2 va _ (eC _) from s.get 1 rfl)
      subst e1
      have s2 : St W [ownI 2 1 t 1 (xC [tt]), lstE (.slice ga (doS l n (kpD puts x v)).1.length gc) (doS l n (kpD puts x v)).1] w' := s
      obtain ⟨ta, tc, rfl⟩ := s2.form 0 rfl (by decide)
      exact ⟨ga, gc, ta, tc, rfl, s2⟩))
    have HA2 : Hid (∀ (z : Int) (ga : Option Addr) (gc : Nat) (W : World), Rg z → EIn W ga (doS l n (kpD puts x v)).1.length (doS l n (kpD puts x v)).1 → Calls Tryz.prog 20 #[.slice ga (doS l n (kpD puts x v)).1.length gc, .int .i64 n, .agg #[.int .i64 2, .int .i64 0, .int .i64 0, .int .i64 z, .int .i64 0]] W (GetE (doS l n (kpD puts x v)).1 z W)) := hid (fun z ga gc W hz hX => get_ok hX (by omega) (kp_keys puts hkr hx) hz (kp_ok (y := y) puts hok))
    have hX9 := hid hx
    have hY9 := hid hy
    have hl1 := get_len l y
    have hl2 := get_len (doS l n (kpD puts x v)).1 y
    generalize hAA : (doS l n (kpD puts x v)).1 = A at *
    generalize hLY : getT l y = ly at *
    generalize hAY : getT A y = ay at *
    have HSm : Hid (∀ (W : World) (a1 a2 : Option Addr) (c1 c2 : Nat), XIn W a1 ay.length ay → XIn W a2 ly.length ly → Calls Tryz.prog 17 #[.slice a1 ay.length c1, .slice a2 ly.length c2] W fun e w' => e = .returned (.bool (decide (ay = ly))) ∧ Kept (fun _ => False) W w') := hid (fun W a1 a2 c1 c2 h1 h2 => sameInts_any a1 a2 _ _ c1 c2 ay ly h1 h2 (by omega))
    have HGY := hid hLY
    have HAY := hid hAY
    clear HP hE hEI hkr hx hy hok hsame htt hlen hAA hLY hAY
    cases puts with
    | false =>
      simp only [Bool.false_eq_true, false_and, if_false] at hgx
      have HGX := hid hgx
      clear hgx
      go_enter Tryz.func4, Tryz.ntmps4
      go_upto_region 5 with (first | (go_at_call 5; refine hA.mono ?_; rintro e w1 ⟨rfl, k1⟩))
      have sM := ((St.nil w).calm k1).box #[.int .i64 3, .int .i64 0, .int .i64 0, .int .i64 x, .int .i64 0] 34
      generalize w1.alloc (.cells #[.int .i64 3, .int .i64 0, .int .i64 0, .int .i64 x, .int .i64 0] 34) = w2 at *
      generalize w1.heap.size = M at *
      have g1 := HG2.out w2 sM.same
      unfold GetE at g1
      rw [HGY.out] at g1
      have HSM := hid sM
      clear sM HG2 k1
      go_upto_region 6 with (go_at_call 20; refine g1.mono ?_; rintro e w3 ⟨v3, t3, tc3, rfl, s3⟩)
      have HS3 := hid s3
      have sM3 := HSM.out.calm s3.same
      have c0 : w3.cell? ⟨M, 0, none⟩ = some (.int .i64 3) := sM3.cell 0 rfl 0
      have c1 : w3.cell? ⟨M, 1, none⟩ = some (.int .i64 0) := sM3.cell 0 rfl 1
      have c2 : w3.cell? ⟨M, 2, none⟩ = some (.int .i64 0) := sM3.cell 0 rfl 2
      have c3 : w3.cell? ⟨M, 3, none⟩ = some (.int .i64 x) := sM3.cell 0 rfl 3
      have c4 : w3.cell? ⟨M, 4, none⟩ = some (.int .i64 0) := sM3.cell 0 rfl 4
      have HK3 := hid sM3.same
      have p1 : Calls Tryz.prog 20 #[.slice la m lc, .int .i64 n, .agg #[.int .i64 3, .int .i64 0, .int .i64 0, .int .i64 x, .int .i64 0]] w3 fun e w' => ∃ ga gc ta tc, e = .returned (.tuple #[.slice ga A.length gc, .slice (some ⟨ta, 0, none⟩) 1 tc, .int .i64 0]) ∧ St w3 [ownI 2 1 (.slice (some ⟨ta, 0, none⟩) 1 tc) 1 (xC [tt]), lstE (.slice ga A.length gc) A] w' := HP2.out w3 sM3.same
      clear s3 sM3 HSM HP2 g1
      go_upto_region 9 with (go_at_call 20; refine p1.mono ?_; rintro e w4 ⟨ga, gc, ta, tc, rfl, s4⟩)
      have HS4 := hid s4
      have a1 := HA2.out x ga gc w4 hX9.out (st_ein s4 1 rfl rfl)
      unfold GetE at a1
      rw [HGX.out] at a1
      clear s4 p1 c0 c1 c2 c3 c4
      go_upto_region 10 with (go_at_call 20; refine a1.mono ?_; rintro e w5 ⟨v5, t5, tc5, rfl, s5⟩)
      have s5' : St w4 [ownI 2 1 (.slice t5 1 tc5) 1 (xC [0])] w5 := s5
      obtain ⟨g5, c5, e5⟩ := s5'.form 0 rfl (by decide)
      simp only [Value.slice.injEq, true_and] at e5
      obtain ⟨rfl, rfl⟩ := e5
      have HS5 := hid s5'
      have a2 := HA2.out y ga gc w5 hY9.out ((st_ein HS4.out 1 rfl rfl).kept s5'.same)
      unfold GetE at a2
      rw [HAY.out] at a2
      clear s5 s5' a1 HA2
      go_upto_region 11 with (go_at_call 20; refine a2.mono ?_; rintro e w6 ⟨v6, t6, tc6, rfl, s6⟩)
      have k46 := hid (HS5.out.same.trans s6.same (fun _ _ f => f))
      have k36 := hid (HS4.out.same.trans k46.out (fun _ _ f => f))
      have sm := HSm.out w6 t6 t3 tc6 tc3 (st_xinK s6 0 rfl rfl) ((st_xinK HS3.out 0 rfl rfl).kept k36.out)
      have HK6 := hid (HK3.out.trans k36.out (fun _ _ f => f))
      have HT : Hid (∀ W, Kept (fun _ => False) w6 W → W.cell? ⟨ta, 0, none⟩ = some (.int .i64 tt)) := hid (fun W k => (HS4.out.calm (k46.out.trans k (fun _ _ f => f))).ownCell 0 rfl 0 (by decide))
      have HH : Hid (∀ W, Kept (fun _ => False) w6 W → St w4 [ownI 2 1 (.slice (some ⟨g5, 0, none⟩) 1 tc5) 1 (xC [0])] W) := hid (fun W k => HS5.out.calm (s6.same.trans k (fun _ _ f => f)))
      have b1 : Hid (∀ b : Bool, decide (ay = ly) = b → b = false → x = y) := hid (fun b h hb => Classical.byContradiction (fun hne => by
        have := hot.out (fun e => hne e.symm)
        rw [this] at h
        simp at h
        rw [h] at hb
        cases hb))
      generalize decide (ay = ly) = bb at *
      have HB := hid (b1.out bb rfl)
      clear b1 s6 a2 HSm hot HS3 HS4 HS5 k46 k36 HAY HGY HGX
      generalize ay.length = nay at *
      generalize ly.length = nly at *
      have h1 : ∀ W, Kept (fun _ => False) w6 W → W.cell? ⟨g5, 0, none⟩ = some (.int .i64 0) := fun W k => (HH.out W k).ownCell 0 rfl 0 (by decide)
      replace h1 := hid h1
      clear HH
      go_upto_region 14 with (go_at_call 17; refine sm.mono ?_; rintro e w7 ⟨rfl, k7⟩)
      have d1 := h1.out w7 k7
      have d2 := HT.out w7 k7
      clear HT h1 sm
      cases bb with
      | true =>
        go_wp2
        go_ret
        exact ⟨rfl, HK6.out.trans k7 (fun _ _ f => f)⟩
      | false =>
        obtain rfl := HB.out rfl
        have txy : (x != x) = false := by simp
        go_wp2
        go_ret
        exact ⟨rfl, HK6.out.trans k7 (fun _ _ f => f)⟩
    | true =>
      by_cases h2 : tt = 2
      · subst h2
        simp only [ne_eq, not_true_eq_false, and_false, if_false] at hgx
        have HGX := hid hgx
        clear hgx
        go_enter Tryz.func4, Tryz.ntmps4
        go_upto_region 5 with (first | (go_at_call 5; refine hA.mono ?_; rintro e w1 ⟨rfl, k1⟩))
        have sM := ((St.nil w).calm k1).box #[.int .i64 1, .int .i64 0, .int .i64 0, .int .i64 x, .int .i64 v] 34
        generalize w1.alloc (.cells #[.int .i64 1, .int .i64 0, .int .i64 0, .int .i64 x, .int .i64 v] 34) = w2 at *
        generalize w1.heap.size = M at *
        have g1 := HG2.out w2 sM.same
        unfold GetE at g1
        rw [HGY.out] at g1
        have HSM := hid sM
        clear sM HG2 k1
        go_upto_region 6 with (go_at_call 20; refine g1.mono ?_; rintro e w3 ⟨v3, t3, tc3, rfl, s3⟩)
        have HS3 := hid s3
        have sM3 := HSM.out.calm s3.same
        have c0 : w3.cell? ⟨M, 0, none⟩ = some (.int .i64 1) := sM3.cell 0 rfl 0
        have c1 : w3.cell? ⟨M, 1, none⟩ = some (.int .i64 0) := sM3.cell 0 rfl 1
        have c2 : w3.cell? ⟨M, 2, none⟩ = some (.int .i64 0) := sM3.cell 0 rfl 2
        have c3 : w3.cell? ⟨M, 3, none⟩ = some (.int .i64 x) := sM3.cell 0 rfl 3
        have c4 : w3.cell? ⟨M, 4, none⟩ = some (.int .i64 v) := sM3.cell 0 rfl 4
        have HK3 := hid sM3.same
        have p1 : Calls Tryz.prog 20 #[.slice la m lc, .int .i64 n, .agg #[.int .i64 1, .int .i64 0, .int .i64 0, .int .i64 x, .int .i64 v]] w3 fun e w' => ∃ ga gc ta tc, e = .returned (.tuple #[.slice ga A.length gc, .slice (some ⟨ta, 0, none⟩) 1 tc, .int .i64 0]) ∧ St w3 [ownI 2 1 (.slice (some ⟨ta, 0, none⟩) 1 tc) 1 (xC [2]), lstE (.slice ga A.length gc) A] w' := HP2.out w3 sM3.same
        clear s3 sM3 HSM HP2 g1
        go_upto_region 9 with (go_at_call 20; refine p1.mono ?_; rintro e w4 ⟨ga, gc, ta, tc, rfl, s4⟩)
        have HS4 := hid s4
        have a1 := HA2.out x ga gc w4 hX9.out (st_ein s4 1 rfl rfl)
        unfold GetE at a1
        rw [HGX.out] at a1
        clear s4 p1 c0 c1 c2 c3 c4
        go_upto_region 10 with (go_at_call 20; refine a1.mono ?_; rintro e w5 ⟨v5, t5, tc5, rfl, s5⟩)
        have s5' : St w4 [ownI 2 1 (.slice t5 1 tc5) 1 (xC [0])] w5 := s5
        obtain ⟨g5, c5, e5⟩ := s5'.form 0 rfl (by decide)
        simp only [Value.slice.injEq, true_and] at e5
        obtain ⟨rfl, rfl⟩ := e5
        have HS5 := hid s5'
        have a2 := HA2.out y ga gc w5 hY9.out ((st_ein HS4.out 1 rfl rfl).kept s5'.same)
        unfold GetE at a2
        rw [HAY.out] at a2
        clear s5 s5' a1 HA2
        go_upto_region 11 with (go_at_call 20; refine a2.mono ?_; rintro e w6 ⟨v6, t6, tc6, rfl, s6⟩)
        have k46 := hid (HS5.out.same.trans s6.same (fun _ _ f => f))
        have k36 := hid (HS4.out.same.trans k46.out (fun _ _ f => f))
        have sm := HSm.out w6 t6 t3 tc6 tc3 (st_xinK s6 0 rfl rfl) ((st_xinK HS3.out 0 rfl rfl).kept k36.out)
        have HK6 := hid (HK3.out.trans k36.out (fun _ _ f => f))
        have HT : Hid (∀ W, Kept (fun _ => False) w6 W → W.cell? ⟨ta, 0, none⟩ = some (.int .i64 2)) := hid (fun W k => (HS4.out.calm (k46.out.trans k (fun _ _ f => f))).ownCell 0 rfl 0 (by decide))
        have HH : Hid (∀ W, Kept (fun _ => False) w6 W → St w4 [ownI 2 1 (.slice (some ⟨g5, 0, none⟩) 1 tc5) 1 (xC [0])] W) := hid (fun W k => HS5.out.calm (s6.same.trans k (fun _ _ f => f)))
        have b1 : Hid (∀ b : Bool, decide (ay = ly) = b → b = false → x = y) := hid (fun b h hb => Classical.byContradiction (fun hne => by
          have := hot.out (fun e => hne e.symm)
          rw [this] at h
          simp at h
          rw [h] at hb
          cases hb))
        generalize decide (ay = ly) = bb at *
        have HB := hid (b1.out bb rfl)
        clear b1 s6 a2 HSm hot HS3 HS4 HS5 k46 k36 HAY HGY HGX
        generalize ay.length = nay at *
        generalize ly.length = nly at *
        have h1 : ∀ W, Kept (fun _ => False) w6 W → W.cell? ⟨g5, 0, none⟩ = some (.int .i64 0) := fun W k => (HH.out W k).ownCell 0 rfl 0 (by decide)
        replace h1 := hid h1
        clear HH
        go_upto_region 14 with (go_at_call 17; refine sm.mono ?_; rintro e w7 ⟨rfl, k7⟩)
        have d1 := h1.out w7 k7
        have d2 := HT.out w7 k7
        clear HT h1 sm
        cases bb with
        | true =>
          go_wp2
          go_ret
          exact ⟨rfl, HK6.out.trans k7 (fun _ _ f => f)⟩
        | false =>
          obtain rfl := HB.out rfl
          have txy : (x != x) = false := by simp
          go_wp2
          go_ret
          exact ⟨rfl, HK6.out.trans k7 (fun _ _ f => f)⟩
      · have tt2 : (tt != 2) = true := by simpa using h2
        simp only [ne_eq, h2, not_false_eq_true, and_self, if_true] at hgx
        clear h2
        have HGX := hid hgx
        clear hgx
        go_enter Tryz.func4, Tryz.ntmps4
        go_upto_region 5 with (first | (go_at_call 5; refine hA.mono ?_; rintro e w1 ⟨rfl, k1⟩))
        have sM := ((St.nil w).calm k1).box #[.int .i64 1, .int .i64 0, .int .i64 0, .int .i64 x, .int .i64 v] 34
        generalize w1.alloc (.cells #[.int .i64 1, .int .i64 0, .int .i64 0, .int .i64 x, .int .i64 v] 34) = w2 at *
        generalize w1.heap.size = M at *
        have g1 := HG2.out w2 sM.same
        unfold GetE at g1
        rw [HGY.out] at g1
        have HSM := hid sM
        clear sM HG2 k1
        go_upto_region 6 with (go_at_call 20; refine g1.mono ?_; rintro e w3 ⟨v3, t3, tc3, rfl, s3⟩)
        have HS3 := hid s3
        have sM3 := HSM.out.calm s3.same
        have c0 : w3.cell? ⟨M, 0, none⟩ = some (.int .i64 1) := sM3.cell 0 rfl 0
        have c1 : w3.cell? ⟨M, 1, none⟩ = some (.int .i64 0) := sM3.cell 0 rfl 1
        have c2 : w3.cell? ⟨M, 2, none⟩ = some (.int .i64 0) := sM3.cell 0 rfl 2
        have c3 : w3.cell? ⟨M, 3, none⟩ = some (.int .i64 x) := sM3.cell 0 rfl 3
        have c4 : w3.cell? ⟨M, 4, none⟩ = some (.int .i64 v) := sM3.cell 0 rfl 4
        have HK3 := hid sM3.same
        have p1 : Calls Tryz.prog 20 #[.slice la m lc, .int .i64 n, .agg #[.int .i64 1, .int .i64 0, .int .i64 0, .int .i64 x, .int .i64 v]] w3 fun e w' => ∃ ga gc ta tc, e = .returned (.tuple #[.slice ga A.length gc, .slice (some ⟨ta, 0, none⟩) 1 tc, .int .i64 0]) ∧ St w3 [ownI 2 1 (.slice (some ⟨ta, 0, none⟩) 1 tc) 1 (xC [tt]), lstE (.slice ga A.length gc) A] w' := HP2.out w3 sM3.same
        clear s3 sM3 HSM HP2 g1
        go_upto_region 9 with (go_at_call 20; refine p1.mono ?_; rintro e w4 ⟨ga, gc, ta, tc, rfl, s4⟩)
        have HS4 := hid s4
        have a1 := HA2.out x ga gc w4 hX9.out (st_ein s4 1 rfl rfl)
        unfold GetE at a1
        rw [HGX.out] at a1
        clear s4 p1 c0 c1 c2 c3 c4
        go_upto_region 10 with (go_at_call 20; refine a1.mono ?_; rintro e w5 ⟨v5, t5, tc5, rfl, s5⟩)
        have s5' : St w4 [ownI 2 1 (.slice t5 2 tc5) 2 (xC [1, v])] w5 := s5
        obtain ⟨g5, c5, e5⟩ := s5'.form 0 rfl (by decide)
        simp only [Value.slice.injEq, true_and] at e5
        obtain ⟨rfl, rfl⟩ := e5
        have HS5 := hid s5'
        have a2 := HA2.out y ga gc w5 hY9.out ((st_ein HS4.out 1 rfl rfl).kept s5'.same)
        unfold GetE at a2
        rw [HAY.out] at a2
        clear s5 s5' a1 HA2
        go_upto_region 11 with (go_at_call 20; refine a2.mono ?_; rintro e w6 ⟨v6, t6, tc6, rfl, s6⟩)
        have k46 := hid (HS5.out.same.trans s6.same (fun _ _ f => f))
        have k36 := hid (HS4.out.same.trans k46.out (fun _ _ f => f))
        have sm := HSm.out w6 t6 t3 tc6 tc3 (st_xinK s6 0 rfl rfl) ((st_xinK HS3.out 0 rfl rfl).kept k36.out)
        have HK6 := hid (HK3.out.trans k36.out (fun _ _ f => f))
        have HT : Hid (∀ W, Kept (fun _ => False) w6 W → W.cell? ⟨ta, 0, none⟩ = some (.int .i64 tt)) := hid (fun W k => (HS4.out.calm (k46.out.trans k (fun _ _ f => f))).ownCell 0 rfl 0 (by decide))
        have HH : Hid (∀ W, Kept (fun _ => False) w6 W → St w4 [ownI 2 1 (.slice (some ⟨g5, 0, none⟩) 2 tc5) 2 (xC [1, v])] W) := hid (fun W k => HS5.out.calm (s6.same.trans k (fun _ _ f => f)))
        have b1 : Hid (∀ b : Bool, decide (ay = ly) = b → b = false → x = y) := hid (fun b h hb => Classical.byContradiction (fun hne => by
          have := hot.out (fun e => hne e.symm)
          rw [this] at h
          simp at h
          rw [h] at hb
          cases hb))
        generalize decide (ay = ly) = bb at *
        have HB := hid (b1.out bb rfl)
        clear b1 s6 a2 HSm hot HS3 HS4 HS5 k46 k36 HAY HGY HGX
        generalize ay.length = nay at *
        generalize ly.length = nly at *
        have h1 : ∀ W, Kept (fun _ => False) w6 W → W.cell? ⟨g5, 0, none⟩ = some (.int .i64 1) := fun W k => (HH.out W k).ownCell 0 rfl 0 (by decide)
        replace h1 := hid h1
        have h3 : ∀ W, Kept (fun _ => False) w6 W → W.cell? ⟨g5, 1, none⟩ = some (.int .i64 v) := fun W k => (HH.out W k).ownCell 0 rfl 1 (by decide)
        replace h3 := hid h3
        clear HH
        go_upto_region 14 with (go_at_call 17; refine sm.mono ?_; rintro e w7 ⟨rfl, k7⟩)
        have d1 := h1.out w7 k7
        have d2 := HT.out w7 k7
        have d3 := h3.out w7 k7
        clear h3
        clear HT h1 sm
        cases bb with
        | true =>
          go_wp2
          go_ret
          exact ⟨rfl, HK6.out.trans k7 (fun _ _ f => f)⟩
        | false =>
          obtain rfl := HB.out rfl
          have txy : (x != x) = false := by simp
          go_wp2
          go_ret
          exact ⟨rfl, HK6.out.trans k7 (fun _ _ f => f)⟩
end Go.Proofs.YtbpilhjomfkpaabGreatDoor
