/- Package dict: reached, usedPlaces, allReached. Package dict: rise, mayBe, put, done. -/
import Derived.Test.YtbpilhjomfkpaaaGreatDoorDiA
import Derived.Maps.RangeWalk
import Derived.Laws.StructEq
import Derived.Deep.RegionWith
import Derived.Deep.Cut
namespace Go.Proofs.YtbpilhjomfkpaaaGreatDoor
open Go.RowKit
set_option linter.unusedVariables false
set_option linter.unusedSimpArgs false
attribute [local go_sem ↓] Go.wp_at_zero Go.wp_at_succ

theorem mod_next (a n : Nat) (hn : 0 < n) : ((a : Int) + 1).tmod (n : Int) = (((a + 1) % n : Nat) : Int) := by
  rw [Int.tmod_eq_emod_of_nonneg (by omega)]
  push_cast
  rfl
set_option maxHeartbeats 1000000 in
theorem reached_any (g o lc n : Nat) (c : List Int) (x : Int) (p : Nat) (w : World) (hX : XIn w (some ⟨g, o, none⟩) (1 + 3 * n) c) (hn : 0 < n) (hn2 : n ≤ 60) (hp : p < n) (hx : -9223372036854775808 ≤ x ∧ x ≤ 9223372036854775807) :
    Calls Tryz.prog 61 #[.slice (some ⟨g, o, none⟩) (1 + 3 * n) lc, .int .i64 x, .int .i64 p] w fun e w' => e = .returned (.bool (reachM c n x p)) ∧ w' = w := by
  have hP := placesOf_any (some ⟨g, o, none⟩) lc n hn2 w
  have hH := home_any x n hn hn2 hx.1 hx.2 w
  have HR : Hid (∀ r, noFree c n (homeM x n) (wayM n (homeM x n) p) = r → reachM c n x p = r) := hid (fun r h => h)
  have hlt := home_lt x hn
  generalize reachM c n x p = r at *
  generalize homeM x n = h0 at *
  have HX := hid hX
  clear hX hx
  have hm1 : ((1 + 3 * n : Nat) : Int) ≤ 200 := by omega
  have hlen := hid (rfl : 1 + 3 * n = 1 + 3 * n)
  have hst := fun (j : Nat) (hj : j ≤ 1000000) (w : World) => stateAt_any j hj w
  replace hst := hid hst
  have t0 : ((n : Int) == 0) = false := by simp; omega
  go_enter Tryz.func61, Tryz.ntmps61
  go_wp2_with (first | (go_at_call 59; refine hP.mono ?_; rintro e w ⟨rfl, rfl⟩) | (go_at_call 68; refine hH.mono ?_; rintro e w ⟨rfl, rfl⟩))
  go_loopw [8] (fun v wr => ∃ a : Nat, v = .int .i64 a ∧ a < n ∧ wr = w ∧ noFree c n a (wayM n a p) = r) (fun v _ => wayM n (intOf v).toNat p)
  case atStart => exact ⟨h0, rfl, hlt, rfl, (HR.out _ rfl).symm⟩
  case round =>
    obtain ⟨a, rfl, ha, hw, hr⟩ := hrel
    subst hw
    by_cases he : a = p
    · subst he
      have t1 : ((a : Int) != (a : Int)) = false := by simp
      rw [way_zero] at hr
      simp only [noFree] at hr
      subst hr
      go_wp2
      go_ret
      exact ⟨rfl, rfl⟩
    · have t1 : ((a : Int) != (p : Int)) = true := by simp; omega
      rw [way_next ha hp he] at hr
      simp only [noFree] at hr
      have hs := hst.out a (by omega) wr
      have c1 := HX.out.cell (j := 1 + 3 * a) (by omega)
      have hc : c.getD (1 + 3 * a) 0 = stA c a := rfl
      rw [hc] at c1
      have hmn := mod_next a n hn
      have hnx : (a + 1) % n < n := Nat.mod_lt _ hn
      have hq1 : ((1 + 3 * a : Nat) : Int) < ((1 + 3 * n : Nat) : Int) := by omega
      have hq0 : (0 : Int) ≤ ((1 + 3 * a : Nat) : Int) := by omega
      have hway := hid (way_next ha hp he)
      generalize stA c a = s at *
      have ha6 : (a : Int) ≤ 60 := by omega
      generalize hqq : 1 + 3 * a = q at *
      generalize hmm : 1 + 3 * n = m at *
      clear hc hqq hmm
      by_cases hs0 : s = 0
      · subst hs0
        simp only [ne_eq, not_true_eq_false, decide_false, Bool.false_and] at hr
        subst hr
        go_wp2_with (go_at_call 32; refine hs.mono ?_; rintro e w1 ⟨rfl, rfl⟩)
        go_ret
        exact ⟨rfl, rfl⟩
      · have ts : (s == 0) = false := by simpa using hs0
        simp only [ne_eq, hs0, not_false_eq_true, decide_true, Bool.true_and] at hr
        have HR2 := hid hr
        clear hr hs0
        have hnx2 : (((a + 1) % n : Nat) : Int) ≤ 60 := by omega
        have hnx0 : (0 : Int) ≤ (((a + 1) % n : Nat) : Int) := by omega
        have HNX := hid hnx
        generalize hz : (a + 1) % n = z at *
        go_wp2_with (first | (go_at_call 32; refine hs.mono ?_; rintro e w1 ⟨rfl, rfl⟩) | simp only [hmn])
        go_roundw
        case rel => exact ⟨z, rfl, HNX.out, by simp, HR2.out⟩
        case measure =>
          have := hway.out
          simp [intOf]
          omega
/-- How usedPlaces ends. -/
def UsedE (c : List Int) (n : Nat) (o : World) (R : List It) (e : Ending) (w' : World) : Prop :=
  match usedM c n with
  | some ls => ∃ b, e = .returned (.tuple #[.map (some b), .bool true]) ∧ St o (mapV b ls :: R) w'
  | none => e = .returned (.tuple #[.map none, .bool false]) ∧ St o R w'
set_option maxRecDepth 100000 in
set_option maxHeartbeats 4000000 in
theorem usedPlaces_any {o0 w : World} {R : List It} (h : St o0 R w) (g o lc n : Nat) (c : List Int) (hX : XIn o0 (some ⟨g, o, none⟩) (1 + 3 * n) c) (hn2 : n ≤ 60) (hc : ∀ i, -9223372036854775808 ≤ c.getD i 0 ∧ c.getD i 0 ≤ 9223372036854775807) :
    Calls Tryz.prog 34 #[.slice (some ⟨g, o, none⟩) (1 + 3 * n) lc] w (UsedE c n o0 R) := by
  have hP := placesOf_any (some ⟨g, o, none⟩) lc n hn2
  have hst := hid fun (j : Nat) (hj : j ≤ 1000000) (w : World) => stateAt_any j hj w
  have hky := hid fun (j : Nat) (hj : j ≤ 1000000) (w : World) => keyAt_any j hj w
  have hmm := @run_makeMap Tryz.prog
  have HX := hid hX
  have s0 := h.newMap
  have HN : Hid (usedM c n = none → ∀ w', St o0 R w' → UsedE c n o0 R (.returned (.tuple #[.map none, .bool false])) w') := hid (fun h w' s => by
    unfold UsedE; rw [h]; exact ⟨rfl, s⟩)
  have HY : Hid (∀ ls, usedM c n = some ls → ∀ b w', St o0 (mapV b ls :: R) w' → UsedE c n o0 R (.returned (.tuple #[.map (some b), .bool true])) w') := hid (fun ls h b w' s => by
    unfold UsedE; rw [h]; exact ⟨b, rfl, s⟩)
  have HC := hid hc
  generalize UsedE c n o0 R = Q at *
  generalize hw1 : w.alloc (.map #[] 0) = w1 at *
  generalize hB : w.heap.size = B at *
  have HS := hid s0
  clear hX s0 h hc
  have hn6 : (n : Int) ≤ 60 := by omega
  go_enter Tryz.func34, Tryz.ntmps34
  go_wp2_with (first | simp only [hw1, hB] | (go_at_call 59; refine (hP _).mono ?_; rintro e w2 ⟨rfl, rfl⟩))
  go_loopw [2, 11] (fun m i wr => ∃ (j : Nat) (ls : List Pr), i = .int .i64 j ∧ j ≤ n ∧ m = .map (some B) ∧ usedM c j = some ls ∧ St o0 (mapV B ls :: R) wr) (fun _ i _ => n - (intOf i).toNat)
  case atStart => exact ⟨0, [], rfl, Nat.zero_le _, rfl, rfl, HS.out⟩
  case round =>
    obtain ⟨j, ls, rfl, hj, rfl, hu, hs⟩ := hrel
    by_cases hlt : j < n
    · have hlt' : (j : Int) < (n : Int) := by omega
      have hj0 : (0 : Int) ≤ (j : Int) := by omega
      have hsj := hst.out j (by omega) wr
      have hkj := hky.out j (by omega) wr
      have hXr := HX.out.kept hs.same
      have c1 := hXr.cell (j := 1 + 3 * j) (by omega)
      have c2 := hXr.cell (j := 2 + 3 * j) (by omega)
      have e1 : c.getD (1 + 3 * j) 0 = stA c j := rfl
      have e2 : c.getD (2 + 3 * j) 0 = keyA c j := rfl
      have hkr := HC.out (2 + 3 * j)
      rw [e1] at c1
      rw [e2] at c2 hkr
      have hus : usedM c (j + 1) = if stA c j = 0 ∨ stA c j = 2 then some ls else if stA c j = 1 then (match atP ls (keyA c j) with | some _ => none | none => some ((keyA c j, (j : Int)) :: ls)) else none := by
        rw [usedM, hu]
        rfl
      have HNo : Hid (usedM c (j + 1) = none → ∀ w', St o0 (mapV B ls :: R) w' → Q (.returned (.tuple #[.map none, .bool false])) w') := hid (fun h w' s => HN.out (usedM_none (by omega) h) w' s.pop)
      obtain ⟨U, hU⟩ : ∃ U, U = usedM c (j + 1) := ⟨_, rfl⟩
      rw [← hU] at hus HNo
      have HU := hid hU
      clear hU
      have q1 : ((1 + 3 * j : Nat) : Int) < ((1 + 3 * n : Nat) : Int) := by omega
      have q2 : ((2 + 3 * j : Nat) : Int) < ((1 + 3 * n : Nat) : Int) := by omega
      have q3 : (0 : Int) ≤ ((1 + 3 * j : Nat) : Int) := by omega
      have q4 : (0 : Int) ≤ ((2 + 3 * j : Nat) : Int) := by omega
      have HJ : Hid (j + 1 ≤ n ∧ n - (j + 1) < n - j) := hid ⟨by omega, by omega⟩
      clear hXr e1 e2 hu hlt hj
      generalize 1 + 3 * j = p1 at *
      generalize 2 + 3 * j = p2 at *
      generalize 1 + 3 * n = m at *
      generalize stA c j = s at *
      generalize keyA c j = key at *
      by_cases h0 : s = 0
      · subst h0
        simp only [true_or, if_true] at hus
        have HS2 := hid hs
        have HUS := hid hus
        clear hs hus hkj c2
        go_wp2_with (go_at_call 32; refine hsj.mono ?_; rintro e w1 ⟨rfl, rfl⟩)
        go_roundw
        case rel => exact ⟨j + 1, ls, by simp, HJ.out.1, rfl, HU.out.symm.trans HUS.out, HS2.out⟩
        case measure => have := HJ.out.2; simp [intOf]; omega
      · have t0 : (s == 0) = false := by simpa using h0
        by_cases h2 : s = 2
        · subst h2
          simp only [or_true, if_true] at hus
          have HS2 := hid hs
          have HUS := hid hus
          clear hs hus hkj c2 h0
          go_wp2_with (go_at_call 32; refine hsj.mono ?_; rintro e w1 ⟨rfl, rfl⟩)
          go_roundw
          case rel => exact ⟨j + 1, ls, by simp, HJ.out.1, rfl, HU.out.symm.trans HUS.out, HS2.out⟩
          case measure => have := HJ.out.2; simp [intOf]; omega
        · have t2 : (s == 2) = false := by simpa using h2
          rw [if_neg (by simp [h0, h2])] at hus
          by_cases h1 : s = 1
          · subst h1
            simp only [if_true] at hus
            cases hat : atP ls key with
            | some v =>
              rw [hat] at hus
              have hlk := lookV_some (P := Tryz.prog) (t := 74) (hs.get 0 rfl) Tryz.underlying2 Tryz.underlying74 (atP_some hat)
              have HQ := hid (HNo.out hus wr hs)
              clear hs hus HNo hat h0 h2
              go_wp2_with (first | (go_at_call 32; refine hsj.mono ?_; rintro e w1 ⟨rfl, rfl⟩) | (go_at_call 60; refine hkj.mono ?_; rintro e w1 ⟨rfl, rfl⟩) | simp only [hlk])
              exact HQ.out
            | none =>
              rw [hat] at hus
              have hlk := lookV_none (P := Tryz.prog) (t := 74) (hs.get 0 rfl) Tryz.underlying2 Tryz.underlying74 (Tryz.zeroValue3 wr) hkr (atP_none hat)
              obtain ⟨w2, hup, -, s2⟩ := storeV_new (P := Tryz.prog) (t := 74) (v := (j : Int)) hs Tryz.underlying2 Tryz.underlying74 hkr (atP_none hat)
              have HS2 := hid s2
              have HUS := hid hus
              clear hs hus HNo hat h0 h2 s2
              go_wp2_with (first | (go_at_call 32; refine hsj.mono ?_; rintro e w1 ⟨rfl, rfl⟩) | (go_at_call 60; refine hkj.mono ?_; rintro e w1 ⟨rfl, rfl⟩) | simp only [hlk] | simp only [hup])
              go_roundw
              case rel => exact ⟨j + 1, _, by simp, HJ.out.1, rfl, HU.out.symm.trans HUS.out, HS2.out⟩
              case measure => have := HJ.out.2; simp [intOf]; omega
          · have t1 : (s == 1) = false := by simpa using h1
            rw [if_neg h1] at hus
            have HQ := hid (HNo.out hus wr hs)
            clear hs hus HNo h0 h2 h1
            go_wp2_with (first | (go_at_call 32; refine hsj.mono ?_; rintro e w1 ⟨rfl, rfl⟩))
            exact HQ.out
    · obtain rfl : j = n := by omega
      have HQ := hid (HY.out ls hu B wr hs)
      clear hs hu
      go_wp2
      exact HQ.out
set_option maxRecDepth 100000 in
set_option maxHeartbeats 4000000 in
theorem allReached_any {o0 w : World} {R : List It} {b : Nat} {ls : List Pr} (h : St o0 (mapV b ls :: R) w) (g o lc n : Nat) (c : List Int) (hX : XIn o0 (some ⟨g, o, none⟩) (1 + 3 * n) c) (hn : 0 < n) (hn2 : n ≤ 60) (hls : ∀ p ∈ ls, ∃ k : Nat, k < n ∧ p.2 = (k : Int)) :
    Calls Tryz.prog 35 #[.slice (some ⟨g, o, none⟩) (1 + 3 * n) lc, .map (some b)] w fun e w' => e = .returned (.bool (ls.all fun p => reachM c n p.1 p.2.toNat)) ∧ St o0 (mapV b ls :: R) w' := by
  obtain ⟨w1, hrg, hsz, s1⟩ := rangeV (P := Tryz.prog) (t := 74) h Tryz.underlying74
  have hG := mapGood h
  generalize w.heap.size = r at *
  have HX := hid hX
  have HS := hid s1
  have HL := hid hls
  have HG := hid hG
  generalize hF : (fun p : Pr => reachM c n p.1 p.2.toNat) = f at *
  have HR : Hid (∀ (k : Int) (q : Nat) (W : World), (k, (q : Int)) ∈ ls → q < n → Kept (fun _ => False) o0 W → Calls Tryz.prog 61 #[.slice (some ⟨g, o, none⟩) (1 + 3 * n) lc, .int .i64 k, .int .i64 q] W fun e w' => e = .returned (.bool (f (k, (q : Int)))) ∧ w' = W) := hid (fun k q W hm hq hk => by
    have := reached_any g o lc n c k q W (HX.out.kept hk) hn hn2 hq (HG.out.2 _ hm)
    rw [← hF]
    exact this)
  clear hX s1 h hls hG hsz hF
  go_enter Tryz.func35, Tryz.ntmps35
  go_wp2_with (simp only [hrg])
  go_loopw [5] (fun _ wr => ∃ rest, St o0 (rngV b r ls rest :: R) wr ∧ ls.all f = rest.all f) (fun _ wr => wr.rangeLeft b r)
  case atStart => exact ⟨ls, HS.out, rfl⟩
  case round =>
    obtain ⟨rest, hs, hall⟩ := hrel
    have HM := hid (rngLeft hs)
    go_wp2_with (at_next; refine wpList_nextV _ rfl _ rfl rfl hs ?_ ?_)
    · intro h0
      subst h0
      have HQ := hid (endV hs)
      have HA := hid hall
      clear hs hall
      go_wp2
      go_ret
      exact ⟨by rw [HA.out]; rfl, HQ.out⟩
    · intro k x rest' w2 hp hm hs2 hst hen
      obtain ⟨q, hq, hx⟩ := HL.out _ hm
      simp only at hx
      subst hx
      have hcall := HR.out k q w2 hm hq hst.same
      have hall2 : ls.all f = (f (k, (q : Int)) && rest'.all f) := by rw [hall, hp.all_eq]; rfl
      have hlen : rest'.length < rest.length := by have := hp.length_eq; simp at this; omega
      have HS2 := hid hst
      have HA2 := hid hall2
      clear hst hall2 hall hs hm hp
      cases hf : f (k, (q : Int)) with
      | true =>
        rw [hf] at hcall
        have HA3 : Hid (ls.all f = rest'.all f) := hid (by rw [HA2.out, hf]; rfl)
        have HLe := hid hlen
        clear hlen HA2 hf
        go_wp2_with (first | simp only [hen] | (go_at_call 61; refine hcall.mono ?_; rintro e w3 ⟨rfl, rfl⟩))
        go_roundw
        case rel => exact ⟨rest', HS2.out, HA3.out⟩
        case measure =>
          have := HLe.out
          rw [HM.out, rngLeft HS2.out]
          exact this
      | false =>
        rw [hf] at hcall
        have HA3 : Hid (ls.all f = false) := hid (by rw [HA2.out, hf]; rfl)
        have HQ := hid (endV HS2.out)
        clear hlen HA2 hf
        go_wp2_with (first | simp only [hen] | (go_at_call 61; refine hcall.mono ?_; rintro e w3 ⟨rfl, rfl⟩))
        go_ret
        exact ⟨by rw [HA3.out]; rfl, HQ.out⟩
end Go.Proofs.YtbpilhjomfkpaaaGreatDoor

namespace Go.Proofs.YtbpilhjomfkpaaaGreatDoor
open Go.RowKit
set_option linter.unusedVariables false
set_option linter.unusedSimpArgs false
attribute [local go_sem ↓] Go.wp_at_zero Go.wp_at_succ

theorem rises_step {l : List Pr} {q : Nat} (h : q + 1 < l.length) : risesP (l.drop q) = (decide ((l.getD q (0, 0)).1 < (l.getD (q + 1) (0, 0)).1) && risesP (l.drop (q + 1))) := by
  rw [List.drop_eq_getElem_cons (by omega : q < l.length), List.drop_eq_getElem_cons h]
  simp [risesP, List.getD_eq_getElem?_getD, h, (by omega : q < l.length)]
theorem rises_last {l : List Pr} {q : Nat} (h : l.length ≤ q + 1) : risesP (l.drop q) = true := by
  have hl : (l.drop q).length ≤ 1 := by rw [List.length_drop]; omega
  match hd : l.drop q, hl with
  | [], _ => rfl
  | [p], _ => rfl
  | _ :: _ :: _, h2 => simp [hd] at h2
set_option maxHeartbeats 1000000 in
theorem rise_any (la : Option Addr) (m lc : Nat) (l : List Pr) (w : World) (hE : EIn w la m l) (hm : m ≤ 4611686018427387904) :
    Calls Tryz.prog 40 #[.slice la m lc] w fun e w' => e = .returned (.bool (risesP l)) ∧ Kept (fun _ => False) w w' := by
  have HE := hid hE
  have hml := hid hE.1
  clear hE
  have hm9 : (m : Int) ≤ 4611686018427387904 := by omega
  go_enter Tryz.func40, Tryz.ntmps40
  go_wp2
  go_loopw [3] (fun v wr => ∃ q : Nat, v = .int .i64 ((q : Int) + 1) ∧ q ≤ m ∧ Kept (fun _ => False) w wr ∧ risesP l = risesP (l.drop q)) (fun v _ => m + 1 - (intOf v).toNat)
  case atStart => exact ⟨0, rfl, Nat.zero_le _, Kept.refl _ _, rfl⟩
  case round =>
    obtain ⟨q, rfl, hq, hk, hr⟩ := hrel
    by_cases hlt : q + 1 < m
    · obtain ⟨g, o, rfl⟩ := HE.out.addr (by omega)
      have hE2 := HE.out.kept (hk.trans (kept_drew wr) (fun _ _ f => f))
      obtain ⟨x0, -⟩ := hE2.cells (j := q) (by omega)
      obtain ⟨x1, -⟩ := hE2.cells (j := q + 1) (by omega)
      rw [rises_step (by rw [← hml.out]; exact hlt)] at hr
      generalize (l.getD q (0, 0)).1 = a at *
      generalize (l.getD (q + 1) (0, 0)).1 = b at *
      have t1 : (q : Int) + 1 < (m : Int) := by omega
      have t2 : (q : Int) < (m : Int) := by omega
      have t3 : (0 : Int) ≤ (q : Int) := by omega
      have HK := hid (hk.trans (kept_drew wr) (fun _ _ f => f))
      have HL := hid hlt
      clear hE2 hk hlt
      by_cases hab : a < b
      · have tt : decide (b ≤ a) = false := by simp; omega
        simp only [hab, decide_true, Bool.true_and] at hr
        have HR := hid hr
        clear hr hab
        go_upto_region 4 with fail
        go_region
        all_goals go_wp2
        all_goals go_roundw
        case rel => exact ⟨q + 1, by push_cast; rfl, by have := HL.out; omega, HK.out, HR.out⟩
        case measure => have := HL.out; simp [intOf]; omega
      · have tt : decide (b ≤ a) = true := by simp; omega
        simp only [hab, decide_false, Bool.false_and] at hr
        have HR := hid hr
        clear hr hab
        go_upto_region 4 with fail
        go_region
        all_goals go_wp2
        all_goals go_ret
        all_goals exact ⟨by rw [HR.out]; rfl, HK.out⟩
    · have t1 : ¬ (q : Int) + 1 < (m : Int) := by omega
      rw [rises_last (by rw [← hml.out]; omega)] at hr
      have HR := hid hr
      clear hr
      go_wp2
      go_ret
      exact ⟨by rw [HR.out]; rfl, hk⟩
set_option maxRecDepth 100000 in
theorem eqDd (a b c d e b' c' d' e' : Int) (w : World) : (binOp .eql 45 (.agg #[.int .i64 a, .int .i64 b, .int .i64 c, .int .i64 d, .int .i64 e]) (.agg #[.int .i64 a, .int .i64 b', .int .i64 c', .int .i64 d', .int .i64 e'])).run Tryz.prog w = .ok (.bool (decide (b = b') && (decide (c = c') && (decide (d = d') && decide (e = e'))))) w := by
  rw [run_eql_struct, run_equalIn_struct w 9999 45 _ _ (by kernel_rfl) (by kernel_rfl)]
  have hi0 : ∀ (x y : Int) (w : World), (Op.equalIn 9999 3 (.int .i64 x) (.int .i64 y)).run Tryz.prog w = .ok (x == y) w := fun x y w => run_equalIn_int w 9998 3 .i64 .i64 x y Tryz.underlying3
  have hi1 : ∀ (x y : Int) (w : World), (Op.equalIn 9999 2 (.int .i64 x) (.int .i64 y)).run Tryz.prog w = .ok (x == y) w := fun x y w => run_equalIn_int w 9998 2 .i64 .i64 x y Tryz.underlying2
  have p0 : ∀ (a b c d e : Int) w, (part 3 #[.int .i64 a, .int .i64 b, .int .i64 c, .int .i64 d, .int .i64 e] 0).run Tryz.prog w = .ok (.int .i64 a) w := fun a b c d e w => run_part_plain (P := Tryz.prog) w (by kernel_rfl) rfl
  have p1 : ∀ (a b c d e : Int) w, (part 3 #[.int .i64 a, .int .i64 b, .int .i64 c, .int .i64 d, .int .i64 e] 1).run Tryz.prog w = .ok (.int .i64 b) w := fun a b c d e w => run_part_plain (P := Tryz.prog) w (by kernel_rfl) rfl
  have p2 : ∀ (a b c d e : Int) w, (part 3 #[.int .i64 a, .int .i64 b, .int .i64 c, .int .i64 d, .int .i64 e] 2).run Tryz.prog w = .ok (.int .i64 c) w := fun a b c d e w => run_part_plain (P := Tryz.prog) w (by kernel_rfl) rfl
  have p3 : ∀ (a b c d e : Int) w, (part 2 #[.int .i64 a, .int .i64 b, .int .i64 c, .int .i64 d, .int .i64 e] 3).run Tryz.prog w = .ok (.int .i64 d) w := fun a b c d e w => run_part_plain (P := Tryz.prog) w (by kernel_rfl) rfl
  have p4 : ∀ (a b c d e : Int) w, (part 2 #[.int .i64 a, .int .i64 b, .int .i64 c, .int .i64 d, .int .i64 e] 4).run Tryz.prog w = .ok (.int .i64 e) w := fun a b c d e w => run_part_plain (P := Tryz.prog) w (by kernel_rfl) rfl
  by_cases h1 : b = b'
  · by_cases h2 : c = c'
    · by_cases h3 : d = d'
      · by_cases h4 : e = e' <;> simp [Program.fieldsOf, Tryz.underlying45, Op.eqFields, Sem.run_bind, p0, p1, p2, p3, p4, hi0, hi1, h1, h2, h3, h4]
      · simp [Program.fieldsOf, Tryz.underlying45, Op.eqFields, Sem.run_bind, p0, p1, p2, p3, p4, hi0, hi1, h1, h2, h3]
    · simp [Program.fieldsOf, Tryz.underlying45, Op.eqFields, Sem.run_bind, p0, p1, p2, p3, p4, hi0, hi1, h1, h2]
  · simp [Program.fieldsOf, Tryz.underlying45, Op.eqFields, Sem.run_bind, p0, p1, p2, p3, p4, hi0, hi1, h1]
theorem guardDd (x y : Operand) (xs ys : Array Value) (w : World) : (eqGuard .eql 45 x y (.agg xs) (.agg ys)).run Tryz.prog w = .ok () w := by kernel_rfl
theorem may_is (op a b x y : Int) : mayS ⟨op, a, b, x, y⟩ = if op = 1 ∨ op = 4 then (decide (a = 0) && (decide (b = 0) && (decide (x = x) && decide (y = y)))) else if op = 2 ∨ op = 3 then (decide (a = 0) && (decide (b = 0) && (decide (x = x) && decide (y = 0)))) else if op = 5 then (decide (a = 0) && (decide (b = 0) && (decide (x = 0) && decide (y = 0)))) else false := by
  unfold mayS
  by_cases h1 : op = 1 ∨ op = 4
  · rw [if_pos h1]
    rcases h1 with rfl | rfl <;> simp
  · rw [if_neg h1]
    by_cases h2 : op = 2 ∨ op = 3
    · rw [if_pos h2]
      rcases h2 with rfl | rfl <;> simp
    · rw [if_neg h2]
      by_cases h3 : op = 5
      · subst h3; simp
      · rw [if_neg h3]
        simp only [not_or] at h1 h2
        simp [h1, h2, h3]
set_option maxRecDepth 100000 in
set_option maxHeartbeats 4000000 in
theorem smay_any (d : Dd) (w : World) : Calls Tryz.prog 41 #[d.val] w fun e w' => e = .returned (.bool (mayS d)) ∧ Kept (fun _ => False) w w' := by
  obtain ⟨op, a, b, x, y⟩ := d
  show Calls _ _ #[.agg #[.int .i64 op, .int .i64 a, .int .i64 b, .int .i64 x, .int .i64 y]] _ _
  rw [may_is]
  have heq := eqDd op a b x y
  have hgd := guardDd
  have hM : (w.alloc (.cells #[.int .i64 op, .int .i64 a, .int .i64 b, .int .i64 x, .int .i64 y] 45)).heap.size = w.heap.size + 1 := by simp
  have s1 := ((St.nil w).box #[.int .i64 op, .int .i64 a, .int .i64 b, .int .i64 x, .int .i64 y] 45).box #[.int .i64 op, .int .i64 0, .int .i64 0, .int .i64 0, .int .i64 0] 45
  rw [hM] at s1
  by_cases h1 : op = 1 ∨ op = 4
  · rw [if_pos h1]
    have HK : Hid (∀ zz : Array Value, Kept (fun _ => False) w ((w.alloc (.cells #[.int .i64 op, .int .i64 a, .int .i64 b, .int .i64 x, .int .i64 y] 45)).alloc (.cells zz 45)).drew) := hid (fun zz => ((kept_alloc w _).alloc _).drew)
    rcases h1 with rfl | rfl
    · have HQ : Hid (∀ W, Kept (fun _ => False) w W → Kept (fun _ => False) w W) := hid (fun W k => k)
      go_enter Tryz.func41, Tryz.ntmps41
      go_upto_region 6 with fail
      generalize (w.alloc (.cells #[.int .i64 1, .int .i64 a, .int .i64 b, .int .i64 x, .int .i64 y] 45)).alloc (.cells #[.int .i64 1, .int .i64 0, .int .i64 0, .int .i64 0, .int .i64 0] 45) = w2 at *
      clear hM HK
      generalize hM1 : w.heap.size = M at *
      have s2 := s1
      have g3 : w2.cell? ⟨M, 3, none⟩ = some (.int .i64 x) := s1.cell 1 rfl 3
      have g4 : w2.cell? ⟨M, 4, none⟩ = some (.int .i64 y) := s1.cell 1 rfl 4
      have o3 : w2.cell? ⟨M + 1, 3, none⟩ = some (.int .i64 0) := s1.cell 0 rfl 3
      have f3 : w2.frozen? ⟨M + 1, 3, none⟩ = false := s1.frozen 0 rfl 3
      have o4 : w2.cell? ⟨M + 1, 4, none⟩ = some (.int .i64 0) := s1.cell 0 rfl 4
      have f4 : w2.frozen? ⟨M + 1, 4, none⟩ = false := s1.frozen 0 rfl 4
      have s3 := s2.write 0 rfl 3 (.int .i64 x)
      have s4 := (s3.write 0 rfl 4 (.int .i64 y)).drew
      have HS4 := hid s4
      clear s1 s2 s3 s4
      go_region
      all_goals
        generalize ((w2.setCell ⟨M + 1, 3, none⟩ (.int .i64 x)).setCell ⟨M + 1, 4, none⟩ (.int .i64 y)).drew = w4 at *
        have s4 := HS4.out
        have a0 : w4.cell? ⟨M, 0, none⟩ = some (.int .i64 1) := s4.cell 1 rfl 0
        have a1 : w4.cell? ⟨M, 1, none⟩ = some (.int .i64 a) := s4.cell 1 rfl 1
        have a2 : w4.cell? ⟨M, 2, none⟩ = some (.int .i64 b) := s4.cell 1 rfl 2
        have a3 : w4.cell? ⟨M, 3, none⟩ = some (.int .i64 x) := s4.cell 1 rfl 3
        have a4 : w4.cell? ⟨M, 4, none⟩ = some (.int .i64 y) := s4.cell 1 rfl 4
        have b0 : w4.cell? ⟨M + 1, 0, none⟩ = some (.int .i64 1) := s4.cell 0 rfl 0
        have b1 : w4.cell? ⟨M + 1, 1, none⟩ = some (.int .i64 0) := s4.cell 0 rfl 1
        have b2 : w4.cell? ⟨M + 1, 2, none⟩ = some (.int .i64 0) := s4.cell 0 rfl 2
        have b3 : w4.cell? ⟨M + 1, 3, none⟩ = some (.int .i64 x) := s4.cell 0 rfl 3
        have b4 : w4.cell? ⟨M + 1, 4, none⟩ = some (.int .i64 y) := s4.cell 0 rfl 4
        have HK4 := hid s4.same
        clear s4 g3 g4 o3 f3 o4 f4
        go_wp2_with (simp only [heq, hgd])
        go_ret
        exact ⟨by simp, HK4.out⟩
    · have HQ : Hid (∀ W, Kept (fun _ => False) w W → Kept (fun _ => False) w W) := hid (fun W k => k)
      go_enter Tryz.func41, Tryz.ntmps41
      go_upto_region 6 with fail
      generalize (w.alloc (.cells #[.int .i64 4, .int .i64 a, .int .i64 b, .int .i64 x, .int .i64 y] 45)).alloc (.cells #[.int .i64 4, .int .i64 0, .int .i64 0, .int .i64 0, .int .i64 0] 45) = w2 at *
      clear hM HK
      generalize hM1 : w.heap.size = M at *
      have s2 := s1
      have g3 : w2.cell? ⟨M, 3, none⟩ = some (.int .i64 x) := s1.cell 1 rfl 3
      have g4 : w2.cell? ⟨M, 4, none⟩ = some (.int .i64 y) := s1.cell 1 rfl 4
      have o3 : w2.cell? ⟨M + 1, 3, none⟩ = some (.int .i64 0) := s1.cell 0 rfl 3
      have f3 : w2.frozen? ⟨M + 1, 3, none⟩ = false := s1.frozen 0 rfl 3
      have o4 : w2.cell? ⟨M + 1, 4, none⟩ = some (.int .i64 0) := s1.cell 0 rfl 4
      have f4 : w2.frozen? ⟨M + 1, 4, none⟩ = false := s1.frozen 0 rfl 4
      have s3 := s2.write 0 rfl 3 (.int .i64 x)
      have s4 := (s3.write 0 rfl 4 (.int .i64 y)).drew
      have HS4 := hid s4
      clear s1 s2 s3 s4
      go_region
      all_goals
        generalize ((w2.setCell ⟨M + 1, 3, none⟩ (.int .i64 x)).setCell ⟨M + 1, 4, none⟩ (.int .i64 y)).drew = w4 at *
        have s4 := HS4.out
        have a0 : w4.cell? ⟨M, 0, none⟩ = some (.int .i64 4) := s4.cell 1 rfl 0
        have a1 : w4.cell? ⟨M, 1, none⟩ = some (.int .i64 a) := s4.cell 1 rfl 1
        have a2 : w4.cell? ⟨M, 2, none⟩ = some (.int .i64 b) := s4.cell 1 rfl 2
        have a3 : w4.cell? ⟨M, 3, none⟩ = some (.int .i64 x) := s4.cell 1 rfl 3
        have a4 : w4.cell? ⟨M, 4, none⟩ = some (.int .i64 y) := s4.cell 1 rfl 4
        have b0 : w4.cell? ⟨M + 1, 0, none⟩ = some (.int .i64 4) := s4.cell 0 rfl 0
        have b1 : w4.cell? ⟨M + 1, 1, none⟩ = some (.int .i64 0) := s4.cell 0 rfl 1
        have b2 : w4.cell? ⟨M + 1, 2, none⟩ = some (.int .i64 0) := s4.cell 0 rfl 2
        have b3 : w4.cell? ⟨M + 1, 3, none⟩ = some (.int .i64 x) := s4.cell 0 rfl 3
        have b4 : w4.cell? ⟨M + 1, 4, none⟩ = some (.int .i64 y) := s4.cell 0 rfl 4
        have HK4 := hid s4.same
        clear s4 g3 g4 o3 f3 o4 f4
        go_wp2_with (simp only [heq, hgd])
        go_ret
        exact ⟨by simp, HK4.out⟩
  · rw [if_neg h1]
    have HK : Hid (∀ zz : Array Value, Kept (fun _ => False) w ((w.alloc (.cells #[.int .i64 op, .int .i64 a, .int .i64 b, .int .i64 x, .int .i64 y] 45)).alloc (.cells zz 45))) := hid (fun zz => (kept_alloc w _).alloc _)
    clear s1
    by_cases h2 : op = 2 ∨ op = 3
    · rw [if_pos h2]
      rcases h2 with rfl | rfl
      · go_enter Tryz.func41, Tryz.ntmps41
        go_wp2_with (simp only [heq, hgd])
        go_ret
        exact ⟨rfl, HK.out _⟩
      · go_enter Tryz.func41, Tryz.ntmps41
        go_wp2_with (simp only [heq, hgd])
        go_ret
        exact ⟨rfl, HK.out _⟩
    · rw [if_neg h2]
      by_cases h3 : op = 5
      · rw [if_pos h3]
        subst h3
        go_enter Tryz.func41, Tryz.ntmps41
        go_wp2_with (simp only [heq, hgd])
        go_ret
        exact ⟨rfl, HK.out _⟩
      · rw [if_neg h3]
        have t1 : (op == 1) = false := by simp; omega
        have t2 : (op == 2) = false := by simp; omega
        have t3 : (op == 3) = false := by simp; omega
        have t4 : (op == 4) = false := by simp; omega
        have t5 : (op == 5) = false := by simp; omega
        clear h1 h2 h3
        go_enter Tryz.func41, Tryz.ntmps41
        go_wp2_with (simp only [heq, hgd])
        go_ret
        exact ⟨rfl, HK.out _⟩
end Go.Proofs.YtbpilhjomfkpaaaGreatDoor
