/- Package dict: Read, where no more is known than the ranges of the keys that are used. -/
import Derived.Test.YtbpilhjomfkpaaaGreatDoorDiG
namespace Go.Proofs.YtbpilhjomfkpaaaGreatDoor
open Go.RowKit
set_option linter.unusedVariables false
set_option linter.unusedSimpArgs false
attribute [local go_sem ↓] Go.wp_at_zero Go.wp_at_succ

theorem usedM_goodW {c : List Int} (hc : ∀ i, stA c i = 1 → -9223372036854775808 ≤ keyA c i ∧ keyA c i ≤ 9223372036854775807) : ∀ {i : Nat} {ls : List Pr}, usedM c i = some ls → Good ls ∧ ls.length ≤ i ∧ ∀ p ∈ ls, ∃ k : Nat, k < i ∧ p.2 = (k : Int)
  | 0, ls, h => by
    simp only [usedM, Option.some.injEq] at h
    subst h
    exact ⟨⟨List.Pairwise.nil, by simp⟩, by simp, by simp⟩
  | i + 1, ls, h => by
    rw [usedM] at h
    split at h
    · cases h
    · rename_i ls0 h0
      obtain ⟨g1, g2, g3⟩ := usedM_goodW hc h0
      have up : ∀ p ∈ ls0, ∃ k : Nat, k < i + 1 ∧ p.2 = (k : Int) := fun p hp => by
        obtain ⟨k, h1, h2⟩ := g3 p hp
        exact ⟨k, by omega, h2⟩
      split at h
      · simp only [Option.some.injEq] at h
        subst h
        exact ⟨g1, by omega, up⟩
      · split at h
        · rename_i hs1
          split at h
          · cases h
          · rename_i hn
            simp only [Option.some.injEq] at h
            subst h
            refine ⟨⟨List.pairwise_cons.2 ⟨fun p hp => (atP_none hn p hp).symm, g1.1⟩, fun p hp => ?_⟩, by simp; omega, fun p hp => ?_⟩
            · rcases List.mem_cons.1 hp with rfl | hp
              · exact hc _ hs1
              · exact g1.2 p hp
            · rcases List.mem_cons.1 hp with rfl | hp
              · exact ⟨i, by omega, rfl⟩
              · exact up p hp
        · cases h
set_option maxRecDepth 100000 in
set_option maxHeartbeats 4000000 in
theorem usedPlaces_anyW {o0 w : World} {R : List It} (h : St o0 R w) (g o lc n : Nat) (c : List Int) (hX : XIn o0 (some ⟨g, o, none⟩) (1 + 3 * n) c) (hn2 : n ≤ 60) (hc : ∀ i, stA c i = 1 → -9223372036854775808 ≤ keyA c i ∧ keyA c i ≤ 9223372036854775807) :
    Calls Tryz.prog 34 #[.slice (some ⟨g, o, none⟩) (1 + 3 * n) lc] w (UsedE c n o0 R) := by
  have hP := placesOf_any (some ⟨g, o, none⟩) lc n hn2
  have hst := hid fun (j : Nat) (hj : j ≤ 1000000) (w : World) => stateAt_any j hj w
  have hky := hid fun (j : Nat) (hj : j ≤ 1000000) (w : World) => keyAt_any j hj w
  have hmm := @run_makeMap Tryz.prog
  have HX := hid hX
  have s0 := h.newMap
  have HN : Hid (usedM c n = none → ∀ w', St o0 R w' → UsedE c n o0 R (.returned (.tuple #[.map none, .bool false])) w') := hid (fun h w' s => by
    unfold UsedE; rw [h]; exact ⟨rfl, s⟩)
  have HY : Hid (∀ ls, usedM c n = some ls → ∀ b w', St o0 (mapV b ls :: R) w' → UsedE c n o0 R (.returned (.tuple #[.map (some b), .bool true])) w') := hid (fun ls h b w' s => by
    unfold UsedE; rw [h]; exact ⟨b, rfl, s⟩)
  have HC := hid hc
  generalize UsedE c n o0 R = Q at *
  generalize hw1 : w.alloc (.map #[] 0) = w1 at *
  generalize hB : w.heap.size = B at *
  have HS := hid s0
  clear hX s0 h hc
  have hn6 : (n : Int) ≤ 60 := by omega
  go_enter Tryz.func34, Tryz.ntmps34
  go_wp2_with (first | simp only [hw1, hB] | (go_at_call 59; refine (hP _).mono ?_; rintro e w2 ⟨rfl, rfl⟩))
  go_loopw [2, 11] (fun m i wr => ∃ (j : Nat) (ls : List Pr), i = .int .i64 j ∧ j ≤ n ∧ m = .map (some B) ∧ usedM c j = some ls ∧ St o0 (mapV B ls :: R) wr) (fun _ i _ => n - (intOf i).toNat)
  case atStart => exact ⟨0, [], rfl, Nat.zero_le _, rfl, rfl, HS.out⟩
  case round =>
    obtain ⟨j, ls, rfl, hj, rfl, hu, hs⟩ := hrel
    by_cases hlt : j < n
    · have hlt' : (j : Int) < (n : Int) := by omega
      have hj0 : (0 : Int) ≤ (j : Int) := by omega
      have hsj := hst.out j (by omega) wr
      have hkj := hky.out j (by omega) wr
      have hXr := HX.out.kept hs.same
      have c1 := hXr.cell (j := 1 + 3 * j) (by omega)
      have c2 := hXr.cell (j := 2 + 3 * j) (by omega)
      have e1 : c.getD (1 + 3 * j) 0 = stA c j := rfl
      have e2 : c.getD (2 + 3 * j) 0 = keyA c j := rfl
      have HKR := hid (HC.out j)
      rw [e1] at c1
      rw [e2] at c2
      have hus : usedM c (j + 1) = if stA c j = 0 ∨ stA c j = 2 then some ls else if stA c j = 1 then (match atP ls (keyA c j) with | some _ => none | none => some ((keyA c j, (j : Int)) :: ls)) else none := by
        rw [usedM, hu]
        rfl
      have HNo : Hid (usedM c (j + 1) = none → ∀ w', St o0 (mapV B ls :: R) w' → Q (.returned (.tuple #[.map none, .bool false])) w') := hid (fun h w' s => HN.out (usedM_none (by omega) h) w' s.pop)
      obtain ⟨U, hU⟩ : ∃ U, U = usedM c (j + 1) := ⟨_, rfl⟩
      rw [← hU] at hus HNo
      have HU := hid hU
      clear hU
      have q1 : ((1 + 3 * j : Nat) : Int) < ((1 + 3 * n : Nat) : Int) := by omega
      have q2 : ((2 + 3 * j : Nat) : Int) < ((1 + 3 * n : Nat) : Int) := by omega
      have q3 : (0 : Int) ≤ ((1 + 3 * j : Nat) : Int) := by omega
      have q4 : (0 : Int) ≤ ((2 + 3 * j : Nat) : Int) := by omega
      have HJ : Hid (j + 1 ≤ n ∧ n - (j + 1) < n - j) := hid ⟨by omega, by omega⟩
      clear hXr e1 e2 hu hlt hj
      generalize 1 + 3 * j = p1 at *
      generalize 2 + 3 * j = p2 at *
      generalize 1 + 3 * n = m at *
      generalize stA c j = s at *
      generalize keyA c j = key at *
      by_cases h0 : s = 0
      · subst h0
        simp only [true_or, if_true] at hus
        have HS2 := hid hs
        have HUS := hid hus
        clear hs hus hkj c2
        go_wp2_with (go_at_call 32; refine hsj.mono ?_; rintro e w1 ⟨rfl, rfl⟩)
        go_roundw
        case rel => exact ⟨j + 1, ls, by simp, HJ.out.1, rfl, HU.out.symm.trans HUS.out, HS2.out⟩
        case measure => have := HJ.out.2; simp [intOf]; omega
      · have t0 : (s == 0) = false := by simpa using h0
        by_cases h2 : s = 2
        · subst h2
          simp only [or_true, if_true] at hus
          have HS2 := hid hs
          have HUS := hid hus
          clear hs hus hkj c2 h0
          go_wp2_with (go_at_call 32; refine hsj.mono ?_; rintro e w1 ⟨rfl, rfl⟩)
          go_roundw
          case rel => exact ⟨j + 1, ls, by simp, HJ.out.1, rfl, HU.out.symm.trans HUS.out, HS2.out⟩
          case measure => have := HJ.out.2; simp [intOf]; omega
        · have t2 : (s == 2) = false := by simpa using h2
          rw [if_neg (by simp [h0, h2])] at hus
          by_cases h1 : s = 1
          · subst h1
            simp only [if_true] at hus
            cases hat : atP ls key with
            | some v =>
              rw [hat] at hus
              have hlk := lookV_some (P := Tryz.prog) (t := 74) (hs.get 0 rfl) Tryz.underlying2 Tryz.underlying74 (atP_some hat)
              have HQ := hid (HNo.out hus wr hs)
              clear hs hus HNo hat h0 h2
              go_wp2_with (first | (go_at_call 32; refine hsj.mono ?_; rintro e w1 ⟨rfl, rfl⟩) | (go_at_call 60; refine hkj.mono ?_; rintro e w1 ⟨rfl, rfl⟩) | simp only [hlk])
              exact HQ.out
            | none =>
              rw [hat] at hus
              have hkr := HKR.out rfl
              have hlk := lookV_none (P := Tryz.prog) (t := 74) (hs.get 0 rfl) Tryz.underlying2 Tryz.underlying74 (Tryz.zeroValue3 wr) hkr (atP_none hat)
              obtain ⟨w2, hup, -, s2⟩ := storeV_new (P := Tryz.prog) (t := 74) (v := (j : Int)) hs Tryz.underlying2 Tryz.underlying74 hkr (atP_none hat)
              have HS2 := hid s2
              have HUS := hid hus
              clear hs hus HNo hat h0 h2 s2
              go_wp2_with (first | (go_at_call 32; refine hsj.mono ?_; rintro e w1 ⟨rfl, rfl⟩) | (go_at_call 60; refine hkj.mono ?_; rintro e w1 ⟨rfl, rfl⟩) | simp only [hlk] | simp only [hup])
              go_roundw
              case rel => exact ⟨j + 1, _, by simp, HJ.out.1, rfl, HU.out.symm.trans HUS.out, HS2.out⟩
              case measure => have := HJ.out.2; simp [intOf]; omega
          · have t1 : (s == 1) = false := by simpa using h1
            rw [if_neg h1] at hus
            have HQ := hid (HNo.out hus wr hs)
            clear hs hus HNo h0 h2 h1
            go_wp2_with (first | (go_at_call 32; refine hsj.mono ?_; rintro e w1 ⟨rfl, rfl⟩))
            exact HQ.out
    · obtain rfl : j = n := by omega
      have HQ := hid (HY.out ls hu B wr hs)
      clear hs hu
      go_wp2
      exact HQ.out
set_option maxRecDepth 100000 in
set_option maxHeartbeats 8000000 in
theorem Read_anyW (la : Option Addr) (m lc : Nat) (zs : List Int) (base n : Int) (w : World) (hX : XIn w la m zs) (hc : m ≤ lc) (hm : m ≤ 9223372036854775807) (hz : ∀ i, stA ((zs.drop base.toNat).take (1 + 3 * n.toNat)) i = 1 → Rg (keyA ((zs.drop base.toNat).take (1 + 3 * n.toNat)) i)) :
    Calls Tryz.prog 17 #[.slice la m lc, .int .i64 base, .int .i64 n] w (ReadE zs base n w) := by
  have hF := fits_any base n m w (by omega) (by omega)
  have hml := hX.1
  by_cases h : fitsS base n m = true
  · rw [h] at hF
    have hfz : fitsS base n zs.length = true := by rw [← hml]; exact h
    unfold fitsS at h
    simp only [Bool.and_eq_true, decide_eq_true_eq] at h
    obtain ⟨h0, hb0, hb1⟩ := h
    obtain ⟨h1, h2, h3⟩ := roomS_pos h0
    have hR := Room_any n w
    rw [h3] at hb1 hR
    obtain ⟨k, rfl⟩ : ∃ k : Nat, n = (k : Int) := ⟨n.toNat, by omega⟩
    obtain ⟨i, rfl⟩ : ∃ i : Nat, base = (i : Int) := ⟨base.toNat, by omega⟩
    obtain ⟨g, o, rfl⟩ := hX.addr (by omega)
    have hsl := slicePart g o m lc i (1 + 3 * k) (by omega) (by omega) hc (i : Int) ((i : Int) + (1 + 3 * (k : Int))) rfl (by push_cast; rfl) w
    have hP := hX.part i (1 + 3 * k) (by omega)
    have hcr := hz
    simp only [Int.toNat_natCast] at hcr
    have c0 : w.cell? ⟨g, o + i, none⟩ = some (.int .i64 (((zs.drop i).take (1 + 3 * k)).getD 0 0)) := hP.cell (j := 0) (by omega)
    have hi1 : (i : Int) + (1 + 3 * (k : Int)) ≤ 9223372036854775807 := by omega
    have HQ : Hid (∀ e w', (match readS ((zs.drop i).take (1 + 3 * k)) k with
        | some ks => ∃ v, e = .returned (.tuple #[v, .int .i64 0]) ∧ St w [lstE v ks] w'
        | none => e = .returned (.tuple #[.slice none 0 0, .int .i64 191]) ∧ Kept (fun _ => False) w w') → ReadE zs (i : Int) (k : Int) w e w') := fun e w' hh => by
      unfold ReadE
      rw [if_pos hfz]
      simp only [Int.toNat_natCast]
      exact hh
    generalize ReadE zs (i : Int) (k : Int) w = Q at *
    generalize (zs.drop i).take (1 + 3 * k) = P at *
    have hk : k ≤ 60 := by omega
    have hk1 : 0 < k := by omega
    have hq2 : (0 : Int) < ((1 + 3 * k : Nat) : Int) := by omega
    have hus := usedPlaces_anyW (St.nil w) g (o + i) (lc - i) k P hP hk hcr
    clear hX hfz h0 h3 hb0 hb1 hml hz
    have HP := hid hP
    clear hP
    unfold UsedE at hus
    unfold readS at HQ
    have hgd' := hid (fun (ls : List Pr) (h : usedM P k = some ls) => usedM_goodW hcr h)
    cases hu : usedM P k with
    | none =>
      rw [hu] at hus HQ
      have HQ1 := hid (HQ.out _ · ⟨rfl, ·⟩)
      clear hu HQ hgd' hcr
      go_enter Tryz.func17, Tryz.ntmps17
      go_upto_region 5 with (first | (go_at_call 33; refine hF.mono ?_; rintro e w ⟨rfl, rfl⟩) | (go_at_call 10; refine hR.mono ?_; rintro e w ⟨rfl, rfl⟩) | simp only [hsl] | (go_at_call 34; refine hus.mono ?_; rintro e w2 ⟨rfl, s2⟩))
      have HK2 := hid s2.drew.same
      clear s2
      go_region
      all_goals go_wp2
      all_goals exact HQ1.out _ HK2.out
    | some ls =>
      rw [hu] at hus HQ
      obtain ⟨gd, gl, gp⟩ := hgd'.out ls hu
      clear hgd' hu
      have HG := hid gd
      have HGp := hid gp
      have hl6 : (ls.length : Int) ≤ 60 := by omega
      have hcell : Hid (∀ W its, St w its W → W.cell? ⟨g, o + i, none⟩ = some (.int .i64 (P.getD 0 0))) := hid (fun W its hs => by
          have := hs.same
          rw [World.cell?_of_block (this.block g (World.block_lt_of_cell? w _ c0) (fun f => f))]
          exact c0)
      have HLe : Hid (∀ b W R, St w (mapV b ls :: R) W → ∀ ty, (Builtin.len_ #[74] ty #[.map (some b)]).run Tryz.prog W = .ok (.int .i64 (ls.length : Nat)) W) := hid (fun b W R hs ty => lenV (hs.get 0 rfl) Tryz.underlying74 ty)
      have HAl : Hid (∀ b W, St w [mapV b ls] W → Calls Tryz.prog 35 #[.slice (some ⟨g, o + i, none⟩) (1 + 3 * k) (lc - i), .map (some b)] W fun e w' => e = .returned (.bool (ls.all fun p => reachM P k p.1 p.2.toNat)) ∧ St w [mapV b ls] w') := hid (fun b W hs => allReached_any hs g (o + i) (lc - i) k P HP.out hk1 hk HGp.out)
      by_cases hlz : (ls.length : Int) = P.getD 0 0
      · cases hal : (ls.all fun p => reachM P k p.1 p.2.toNat) with
        | false =>
          rw [hal] at HAl
          simp only [hal, Bool.false_eq_true, and_false, if_false] at HQ
          have HQ1 := hid (HQ.out _ · ⟨rfl, ·⟩)
          have tz : (((ls.length : Nat) : Int) != P.getD 0 0) = false := by simpa using hlz
          have HZ : Hid (∀ b W R, St w (mapV b ls :: R) W → True) := hid (fun _ _ _ _ => trivial)
          generalize P.getD 0 0 = z at *
          generalize ((ls.length : Nat) : Int) = lz at *
          clear HQ hal hcr HP gl gp gd hlz
          go_enter Tryz.func17, Tryz.ntmps17
          go_upto_region 5 with (first | (go_at_call 33; refine hF.mono ?_; rintro e w ⟨rfl, rfl⟩) | (go_at_call 10; refine hR.mono ?_; rintro e w ⟨rfl, rfl⟩) | simp only [hsl] | (go_at_call 34; refine hus.mono ?_; rintro e w2 ⟨b, rfl, s2⟩))
          have hc2 := hcell.out _ _ s2.drew
          have hle := HLe.out b _ _ s2.drew
          have hac := HAl.out b _ s2.drew
          clear s2
          go_region_with (first | simp only [hle] | (go_at_call 35; refine hac.mono ?_; rintro e w3 ⟨rfl, s3⟩; have HK3 := hid s3.same; clear s3))
          all_goals go_wp2
          all_goals exact HQ1.out _ HK3.out
        | true =>
          rw [hal] at HAl
          simp only [hal, hlz, and_self, if_true] at HQ
          have tz : (((ls.length : Nat) : Int) != P.getD 0 0) = false := by simpa using hlz
          have HL6 : Hid (ls.length ≤ 60) := hid (by omega)
          have HV : Hid (∀ (q : Nat) (W : World) (its : List It), q < k → St w its W → W.cell? ⟨g, o + i + (3 + 3 * q), none⟩ = some (.int .i64 (valA P q))) := hid (fun q W its hq hs => (HP.out.kept hs.same).cell (j := 3 + 3 * q) (by omega))
          have hval := hid fun (j : Nat) (hj : j ≤ 1000000) (w : World) => valueAt_any j hj w
          generalize hff : (fun q : Int => valA P q.toNat) = f at *
          have HFf : Hid (∀ q : Nat, valA P q = f (q : Int)) := hid (fun q => by rw [← hff]; rfl)
          have HQ1 : Hid (∀ v w' R L, L = sortP (ls.map fun p => (p.1, f p.2)) → St w (lstE v L :: R) w' → Q (.returned (.tuple #[v, .int .i64 0])) w') := hid (fun v w' R L hL s => HQ.out _ _ ⟨v, rfl, by rw [hL, ← hff] at s; exact s.one⟩)
          have hmm := @run_makeMap Tryz.prog
          generalize P.getD 0 0 = z at *
          generalize ((ls.length : Nat) : Int) = lz at *
          clear HQ hal hcr HP gl gp gd hlz hff
          go_enter Tryz.func17, Tryz.ntmps17
          go_upto_region 5 with (first | (go_at_call 33; refine hF.mono ?_; rintro e w ⟨rfl, rfl⟩) | (go_at_call 10; refine hR.mono ?_; rintro e w ⟨rfl, rfl⟩) | simp only [hsl] | (go_at_call 34; refine hus.mono ?_; rintro e w2 ⟨b, rfl, s2⟩))
          have hc2 := hcell.out _ _ s2.drew
          have hle := HLe.out b _ _ s2.drew
          have hac := HAl.out b _ s2.drew
          clear s2 hus
          refine (fun key : ?KEY ∧ True => ?main) ⟨?keyproof, trivial⟩
          case main =>
            go_region_with (first | simp only [hle] | (go_at_call 35; refine hac.mono ?_; rintro e w3 ⟨rfl, s3⟩; have HS3 := hid s3; clear s3))
            all_goals
              revert HS3
              revert w3
              exact key.1
          case keyproof =>
            intro w3 HS3
            clear hac hle hc2
            have s4 := (HS3.out.newMap).perm (List.Perm.swap _ _ _)
            generalize hw4 : w3.alloc (.map #[] 0) = w4 at *
            generalize hV : w3.heap.size = V at *
            obtain ⟨w5, hrg, -, s5⟩ := rangeV (P := Tryz.prog) (t := 74) s4 Tryz.underlying74
            generalize w4.heap.size = r at *
            have HS5 := hid s5
            clear s4 s5
            go_wp2_with (first | simp only [hw4, hV] | simp only [hrg])
            go_loopw [12] (fun _ wr => ∃ rest acc, St w [rngV b r ls rest, mapV V acc] wr ∧ (acc ++ rest.map (fun p => (p.1, f p.2))).Perm (ls.map (fun p => (p.1, f p.2)))) (fun _ wr => wr.rangeLeft b r)
            case atStart => exact ⟨ls, [], HS5.out, List.Perm.refl _⟩
            case round =>
              obtain ⟨rest, acc, hs, hperm⟩ := hrel
              have HMs := hid (rngLeft hs)
              go_wp2_with (at_next; refine wpList_nextV _ rfl _ rfl rfl hs ?_ ?_)
              · intro h0
                subst h0
                rw [List.map_nil, List.append_nil] at hperm
                have s6 := (endV hs).perm (List.Perm.swap _ _ _)
                have hdd : (ls.map fun p => (p.1, f p.2)).Pairwise (fun p q => p.1 ≠ q.1) := List.pairwise_map.2 HG.out.1
                have hio := inOrder_any s6 (L := sortP (ls.map fun p => (p.1, f p.2))) (sortP_rises hdd) ((sortP_perm _).trans hperm.symm) (by rw [hperm.length_eq, List.length_map]; have := HL6.out; omega)
                generalize hL : sortP (ls.map fun p => (p.1, f p.2)) = L at *
                have HL := hid hL.symm
                clear hs hperm s6 hdd hL
                go_wp2_with (go_at_call 37; refine hio.mono ?_; rintro e w6 ⟨v6, rfl, s7⟩; have HS7 := hid s7; clear s7)
                exact HQ1.out _ _ _ _ rfl HS7.out
              · intro ky x rest' w6 hpr hmem hs6 hst hen
                obtain ⟨q, hq, hxq⟩ := HGp.out _ hmem
                simp only at hxq
                subst hxq
                have hlen : rest'.length < rest.length := by have := hpr.length_eq; simp at this; omega
                obtain ⟨hnw, hpp⟩ := valued_new f HG.out hperm hpr
                have hkr := HG.out.2 _ hmem
                have s7 := hst.perm (List.Perm.swap _ _ _)
                have c7 := HV.out q w6 _ hq hst
                rw [HFf.out q] at c7
                have hvq := hval.out q (by omega) w6
                obtain ⟨w8, hup, -, s8⟩ := storeV_new (P := Tryz.prog) (t := 78) (v := f (q : Int)) s7 Tryz.underlying2 Tryz.underlying78 hkr hnw
                have HS8 := hid (s8.perm (List.Perm.swap _ _ _))
                have HPp := hid hpp
                have HLn := hid hlen
                have q1 : ((3 + 3 * q : Nat) : Int) < ((1 + 3 * k : Nat) : Int) := by omega
                have q0 : (0 : Int) ≤ ((3 + 3 * q : Nat) : Int) := by omega
                generalize 3 + 3 * q = qq at *
                generalize hkk : 1 + 3 * k = kk at *
                have HKK := hid hkk
                clear hkk
                generalize f (q : Int) = fq at *
                clear s7 s8 hnw hpp hst hs hperm hpr hmem hlen hkr HS5 hs6 hq
                go_wp2_with (first | simp only [hen] | (go_at_call 36; refine hvq.mono ?_; rintro e w6 ⟨rfl, rfl⟩) | simp only [hup])
                go_roundw
                case rel => exact ⟨⟨rest', _, HS8.out, HPp.out⟩, HKK.out.symm⟩
                case measure =>
                  rw [HMs.out, rngLeft HS8.out]
                  exact HLn.out
      · simp only [hlz, false_and, if_false] at HQ
        have HQ1 := hid (HQ.out _ · ⟨rfl, ·⟩)
        have tz : (((ls.length : Nat) : Int) != P.getD 0 0) = true := by simpa using hlz
        generalize P.getD 0 0 = z at *
        generalize ((ls.length : Nat) : Int) = lz at *
        clear HQ hcr HP gl gp gd hlz HAl
        go_enter Tryz.func17, Tryz.ntmps17
        go_upto_region 5 with (first | (go_at_call 33; refine hF.mono ?_; rintro e w ⟨rfl, rfl⟩) | (go_at_call 10; refine hR.mono ?_; rintro e w ⟨rfl, rfl⟩) | simp only [hsl] | (go_at_call 34; refine hus.mono ?_; rintro e w2 ⟨b, rfl, s2⟩))
        have hc2 := hcell.out _ _ s2.drew
        have hle := HLe.out b _ _ s2.drew
        have HK3 := hid s2.drew.same
        clear s2
        go_region
        all_goals go_wp2
        all_goals exact HQ1.out _ HK3.out
  · have hno : fitsS base n m = false := by simpa using h
    rw [hno] at hF
    have HQ : Hid (ReadE zs base n w (.returned (.tuple #[.slice none 0 0, .int .i64 190])) w) := hid (by
      unfold ReadE
      rw [if_neg (by rw [← hml]; exact h)]
      exact ⟨rfl, Kept.refl _ _⟩)
    generalize ReadE zs base n w = Q at *
    clear h hno hX hml hz
    go_enter Tryz.func17, Tryz.ntmps17
    go_wp2_with (go_at_call 33; refine hF.mono ?_; rintro e w ⟨rfl, rfl⟩)
    exact HQ.out
end Go.Proofs.YtbpilhjomfkpaaaGreatDoor
