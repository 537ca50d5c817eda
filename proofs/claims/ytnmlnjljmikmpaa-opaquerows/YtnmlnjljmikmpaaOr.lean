/- Package opaque: Check. -/
import Derived.Test.YtnmlnjljmikmpaaOl
namespace Go.Proofs.Ytnmlnjljmikmpaa
open Go.RowKit Go.Shelf
set_option linter.unusedVariables false
set_option linter.unusedSimpArgs false
attribute [local go_sem ↓] Go.wp_at_zero Go.wp_at_succ

theorem read_next {l : List Sy} {o : List Int} {j x : Nat} {m : Mem} (h : o[j]? = some (x : Int)) (h0 : readBad m (pick l (o.take j)) 0 = none) (hj : j ≤ o.length) :
    readBad m (pick l (o.take (j + 1))) 0 = (if okS (memB m (pick l (o.take j))) (l.getD x Sy.zero) = true then none else some j) ∧ memB m (pick l (o.take (j + 1))) = leaves (memB m (pick l (o.take j))) (l.getD x Sy.zero) := by
  rw [pick_next h, readBad_append, h0, memB_append]
  simp only [readBad, memB]
  have : (pick l (o.take j)).length = j := by simp [pick]; omega
  rw [this, Nat.zero_add]
  exact ⟨rfl, trivial⟩
theorem read_stays {l : List Sy} {o : List Int} {j k : Nat} {m : Mem} (h : readBad m (pick l (o.take j)) 0 = some k) : readBad m (pick l o) 0 = some k := by
  have e : pick l o = pick l (o.take j) ++ pick l (o.drop j) := by rw [pick, pick, pick, ← List.map_append, List.take_append_drop]
  rw [e, readBad_append, h]
theorem chk_no {start : List Int} {l : List Sy} {o : List Int} (h : ¬ eachOnce o l.length) : chk start l o = (220, 0) := by unfold chk; rw [if_neg h]
theorem chk_late {start : List Int} {l : List Sy} {o : List Int} {i : Nat} (h : eachOnce o l.length) (h1 : lateAt minI (pick l o) 0 = some i) : chk start l o = (221, (i : Int)) := by unfold chk; rw [if_pos h, h1]
theorem chk_read {start : List Int} {l : List Sy} {o : List Int} {i : Nat} (h : eachOnce o l.length) (h1 : lateAt minI (pick l o) 0 = none) (h2 : readBad (startM start) (pick l o) 0 = some i) : chk start l o = (222, (i : Int)) := by unfold chk; rw [if_pos h, h1]; simp only; rw [h2]
theorem chk_fine {start : List Int} {l : List Sy} {o : List Int} (h : eachOnce o l.length) (h1 : lateAt minI (pick l o) 0 = none) (h2 : readBad (startM start) (pick l o) 0 = none) : chk start l o = (0, 0) := by unfold chk; rw [if_pos h, h1]; simp only; rw [h2]
theorem okS_gist (mem : Mem) (s : Sy) : okS mem s = (!brokeM (fun _ => none) s.ms && !(asksM (fun _ => none) s.ms).any fun p => mem p.1 != p.2) := okMs_gist mem s.ms _
set_option maxRecDepth 100000 in
set_option maxHeartbeats 8000000 in
theorem check_any {w : World} {sa la oa : Option Addr} {sn sc n lc k oc : Nat} {start o : List Int} {L : List Sm} (hs : RIn iC w sa sn start) (hl : LIn w la n L) (ho : RIn iC w oa k o) (hn : n ≤ 1466015503701) (hk : (k : Int) ≤ 9223372036854775807) (hsn : (sn : Int) ≤ 9223372036854775807) :
    Calls Try.prog 13 #[.slice sa sn sc, .slice la n lc, .slice oa k oc] w fun e w' => e = .returned (.tuple #[.int .i64 (chk start (smS L) o).1, .int .i64 (chk start (smS L) o).2]) ∧ Kept (fun _ => False) w w' := by
  have HLN : Hid (n = L.length) := hid hl.1.1
  have hlen : (smS L).length = n := by rw [smS, List.length_map, HLN.out]
  have HQ : Hid (∀ a b w', chk start (smS L) o = (a, b) → Kept (fun _ => False) w w' → (fun e w' => e = .returned (.tuple #[.int .i64 (chk start (smS L) o).1, .int .i64 (chk start (smS L) o).2]) ∧ Kept (fun _ => False) w w') (Ending.returned (.tuple #[.int .i64 a, .int .i64 b])) w') := hid (fun a b w' h k => ⟨by rw [h], k⟩)
  generalize (fun (e : Ending) (w' : World) => e = .returned (.tuple #[.int .i64 (chk start (smS L) o).1, .int .i64 (chk start (smS L) o).2]) ∧ Kept (fun _ => False) w w') = Q at *
  have h1 := eachOnce_any (lc := oc) ho n hn hk
  by_cases hon : eachOnce o n
  · have t1 : decide (eachOnce o n) = true := by simpa using hon
    rw [t1] at h1
    have HO := hid hon
    obtain ⟨hol, hor, -⟩ := hon
    have h2 := fun W (kk : Kept (fun _ => False) w W) => late_any (w := W) (lc := lc) (oc := oc) (hl.kept kk) (ho.kept kk) hor (by omega) hk
    have HOR := hid hor
    have HOL := hid hol
    have HON : Hid (k = o.length) := hid ho.1
    have HLB : Hid (lateAt minI (pick (smS L) o) 0 = lateAt minI (pick (smS L) o) 0) := hid rfl
    have HHL := hid hlen
    generalize hla : lateAt minI (pick (smS L) o) 0 = lt at h2
    have HLA := hid hla
    clear hlen hol hor t1 hla HLB
    have H2 := hid h2
    clear h2
    cases lt with
    | some i =>
      have HZ : Hid (∀ w', Kept (fun _ => False) w w' → Q (Ending.returned (.tuple #[.int .i64 221, .int .i64 i])) w') := hid (fun w' kk => HQ.out 221 i w' (chk_late (by rw [HHL.out]; exact HO.out) HLA.out) kk)
      clear hs hl ho
      go_enter Try.func13, Try.ntmps13
      go_wp2_with (first | (go_at_call 27; refine h1.mono ?_; rintro e w1 ⟨rfl, hk1⟩; have HK1 := hid hk1; clear hk1) | (go_at_call 28; refine (H2.out _ HK1.out).mono ?_; rintro e w2 ⟨rfl, hk2⟩; have HK2 := hid (HK1.out.trans hk2 (fun _ _ f => f)); clear hk2))
      exact HZ.out _ HK2.out
    | none =>
      have HS0 := hid hs
      have HL0 := hid hl
      have HI0 := hid ho
      have hnm := fun W => newMemory_any (St.nil W) sa sn sc
      clear hs hl ho
      go_enter Try.func13, Try.ntmps13
      go_upto_region 6 with (first | (go_at_call 27; refine h1.mono ?_; rintro e w1 ⟨rfl, hk1⟩; have HK1 := hid hk1; clear hk1) | (go_at_call 28; refine (H2.out _ HK1.out).mono ?_; rintro e w2 ⟨rfl, hk2⟩; have HK2 := hid (HK1.out.trans hk2 (fun _ _ f => f)); clear hk2))
      clear h1 H2
      go_upto_region 8 with (go_at_call 29; refine (hnm _).mono ?_; rintro e w3 ⟨mb, rfl, s3⟩; have HS3 := hid ((s3.base HK2.out).box #[.slice sa sn sc, .map (some mb)] 63); clear s3)
      clear hnm
      generalize w3.alloc (.cells #[.slice sa sn sc, .map (some mb)] 63) = w4 at *
      generalize w3.heap.size = BM at *
      go_loopw [31] (fun i wr => ∃ (j : Nat) (ls : List Pr) (ov : Int → Option Int), i = .int .i64 j ∧ j ≤ k ∧ ValR ls ov ∧ memO start ov = memB (startM start) (pick (smS L) (o.take j)) ∧ readBad (startM start) (pick (smS L) (o.take j)) 0 = none ∧ St w [boxI BM #[.slice sa sn sc, .map (some mb)] 63, mapV mb ls] wr) (fun i _ => k - (intOf i).toNat)
      case atStart => exact ⟨0, [], fun _ => none, rfl, Nat.zero_le _, valR_nil, rfl, rfl, HS3.out⟩
      case round =>
        clear HS3 HK2
        obtain ⟨j, ls, ov, rfl, hj, hv, hmem, hno, hst⟩ := hrel
        by_cases hlt : j < k
        · have hlt' : (j : Int) < (k : Int) := by omega
          have hj0 : (0 : Int) ≤ (j : Int) := by omega
          obtain ⟨og, ooff, rfl⟩ := HI0.out.addr (by omega)
          obtain ⟨xi, hx⟩ : ∃ x, o[j]? = some x := ⟨_, List.getElem?_eq_getElem (by have := HON.out; omega)⟩
          have hxr := HOR.out xi (List.mem_of_getElem? hx)
          obtain ⟨x, rfl⟩ : ∃ x : Nat, xi = (x : Int) := ⟨xi.toNat, by omega⟩
          have hx1 : (x : Int) < (n : Int) := hxr.2
          have hx0 : (0 : Int) ≤ (x : Int) := hxr.1
          obtain ⟨lg, loff, rfl⟩ := HL0.out.1.addr (by omega)
          obtain ⟨m, hm⟩ : ∃ m, L[x]? = some m := ⟨_, List.getElem?_eq_getElem (by have := HLN.out; omega)⟩
          obtain ⟨hn1, hn2⟩ := read_next (l := smS L) (m := startM start) hx hno (by have := HON.out; omega)
          rw [smS_at hm, ← hmem, okS_gist] at hn1
          rw [smS_at hm, ← hmem] at hn2
          have hSM := HL0.out.2 m (List.mem_of_getElem? hm)
          have hg := gist_any (w := wr) m (hSM.kept hst.same)
          have har : ∀ p ∈ asksM (fun _ => none) m.s.ms, -9223372036854775808 ≤ p.1 ∧ p.1 ≤ 9223372036854775807 := fun p hp => by
            obtain ⟨y, hy, e⟩ := asksM_mem _ _ p hp
            rw [← e]; exact hSM.2.2 y hy
          have hal : (asksM (fun _ => none) m.s.ms).length ≤ 2932031007317 := Nat.le_trans (asksM_len _ _) hSM.2.1
          have hlr := leavesL_rng hSM.2.2
          have hll : (leavesL m.s).length ≤ 2932031007317 := Nat.le_trans (leavesL_len _) hSM.2.1
          have HLE : Hid (leaves (memO start ov) m.s = memO start (ovL ov (leavesL m.s))) := hid (by rw [ovL_mem]; rfl)
          rw [HLE.out] at hn2
          generalize asksM (fun _ => none) m.s.ms = ps at *
          generalize brokeM (fun _ => none) m.s.ms = bk at *
          generalize leavesL m.s = lv at *
          have p0 := (HI0.out.kept hst.same).at (k := 1) (fun _ => rfl) hx 0 _ rfl
          rw [Nat.mul_one, Nat.add_zero] at p0
          obtain ⟨⟨z0, z1, z2, z3, z4, z5, z6, z7, z8, ms⟩, ma, mc⟩ := m
          have q := fun i u hu => (HL0.out.1.kept hst.same).at (k := 10) (fun _ => rfl) hm i u hu
          have q0 := q 0 _ rfl
          have q1 := q 1 _ rfl
          have q2 := q 2 _ rfl
          have q3 := q 3 _ rfl
          have q4 := q 4 _ rfl
          have q5 := q 5 _ rfl
          have q6 := q 6 _ rfl
          have q7 := q 7 _ rfl
          have q8 := q 8 _ rfl
          have q9 := q 9 _ rfl
          rw [Nat.add_zero] at q0
          simp only at q0 q1 q2 q3 q4 q5 q6 q7 q8 q9
          unfold syV gistV at hg
          simp only at hg
          have HJ : Hid (j + 1 ≤ k ∧ k - (j + 1) < k - j) := hid ⟨by omega, by omega⟩
          have HST := hid hst
          have HV := hid hv
          have HN1 := hid hn1
          have HN2 := hid hn2
          have HAR := hid har
          have HLR := hid hlr
          clear q hst hv hn1 hn2 har hlr hx hxr hm hSM hno hmem hj hlt HLE
          go_upto_region 11 with (go_at_call 30; refine hg.mono ?_; rintro e w5 ⟨aa, ac, ga, gc, rfl, s5⟩; have HS5 := hid ((St.over HST.out s5).box #[.bool bk, .slice aa ps.length ac, .slice ga lv.length gc] 67); clear s5)
          clear p0 q0 q1 q2 q3 q4 q5 q6 q7 q8 q9 hg
          generalize w5.alloc (.cells #[.bool bk, .slice aa ps.length ac, .slice ga lv.length gc] 67) = w6 at *
          generalize w5.heap.size = BG at *
          have s6 := HS5.out
          have b0 := s6.cell 3 rfl 0
          have b1 := s6.cell 3 rfl 1
          have g0 := s6.cell 0 rfl 0
          have g1 := s6.cell 0 rfl 1
          have g2 := s6.cell 0 rfl 2
          have hex := explains_any (w := w6) (sc := sc) (br := bk) (ac := ac) (la := ga) (ln := lv.length) (lc := gc) (HS0.out.kept s6.same) (s6.get 4 rfl) HV.out (st_rin s6 1 rfl rfl (fun _ => rfl)) hal HAR.out hsn
          unfold memV gistV at hex
          generalize hbb : (!bk && !ps.any fun p => memO start ov p.1 != p.2) = bb at hex
          have HBB := hid hbb
          clear hbb s6
          cases bb with
          | false =>
            have HZ : Hid (∀ w', Kept (fun _ => False) w w' → Q (Ending.returned (.tuple #[.int .i64 222, .int .i64 j])) w') := hid (fun w' kk => HQ.out 222 j w' (chk_read (by rw [HHL.out]; exact HO.out) HLA.out (read_stays (by rw [HN1.out, HBB.out]; rfl))) kk)
            clear HN1 HN2 HBB HQ
            go_wp2_with (go_at_call 31; refine hex.mono ?_; rintro e w7 ⟨rfl, hk7⟩; have HS7 := hid (HS5.out.calm hk7); clear hk7)
            exact HZ.out _ HS7.out.same
          | true =>
            have HNO : Hid (readBad (startM start) (pick (smS L) (o.take (j + 1))) 0 = none) := hid (by rw [HN1.out, HBB.out]; rfl)
            clear HN1 HBB HQ
            go_upto_region 13 with (go_at_call 31; refine hex.mono ?_; rintro e w7 ⟨rfl, hk7⟩; have HS7 := hid (HS5.out.calm hk7); clear hk7)
            clear b0 b1 g0 g1 g2 hex
            have s7 := HS7.out
            have b0 := s7.cell 3 rfl 0
            have b1 := s7.cell 3 rfl 1
            have g0 := s7.cell 0 rfl 0
            have g1 := s7.cell 0 rfl 1
            have g2 := s7.cell 0 rfl 2
            have hput := put_any (sa := sa) (sn := sn) (sc := sc) (br := bk) (aa := aa) (an := ps.length) (ac := ac) (lc := gc) (la := ga) (ln := lv.length) (St.move (l := [_, _, _, _, _]) (T := []) s7 5 rfl [4, 0, 1, 2, 3] (by decide)) HV.out (fun ls' W hs => st_rin hs 3 rfl rfl (fun _ => rfl)) hll HLR.out
            unfold memV gistV at hput
            clear s7
            go_wp2_with (go_at_call 32; refine hput.mono ?_; rintro e w8 ⟨rfl, ls8, hv8, s8⟩; have HS8 := hid (St.cut (A := [_, _]) (B := [_, _, _]) (St.move (l := [_, _, _, _, _]) (T := []) s8 5 rfl [4, 0, 1, 2, 3] (by decide))); have HV8 := hid hv8; clear s8 hv8)
            go_roundw
            case rel => exact ⟨j + 1, ls8, _, by simp, HJ.out.1, HV8.out, HN2.out.symm, HNO.out, HS8.out⟩
            case measure => have := HJ.out.2; simp [intOf]; omega
        · have hlt' : ¬ (j : Int) < (k : Int) := by omega
          have e : o.take j = o := List.take_of_length_le (by have := HON.out; omega)
          rw [e] at hno
          have HZ := hid (HQ.out 0 0 wr (chk_fine (by rw [HHL.out]; exact HO.out) HLA.out hno) hst.same)
          clear hst hv hno hmem e HQ HS0 HL0 HI0
          go_wp2
          exact HZ.out
  · have t1 : decide (eachOnce o n) = false := by simpa using hon
    rw [t1] at h1
    have HZ : Hid (∀ w', Kept (fun _ => False) w w' → Q (Ending.returned (.tuple #[.int .i64 220, .int .i64 0])) w') := hid (fun w' kk => HQ.out 220 0 w' (chk_no (by rw [hlen]; exact hon)) kk)
    clear hon t1 hs hl ho hlen
    go_enter Try.func13, Try.ntmps13
    go_wp2_with (go_at_call 27; refine h1.mono ?_; rintro e w1 ⟨rfl, hk1⟩; have HK1 := hid hk1; clear hk1)
    exact HZ.out _ HK1.out
end Go.Proofs.Ytnmlnjljmikmpaa
