/- Package opaque: gistOf. -/
import Derived.Test.YtnmlnjljmikmpaaOk
namespace Go.Proofs.Ytnmlnjljmikmpaa
open Go.RowKit Go.Shelf
set_option linter.unusedVariables false
set_option linter.unusedSimpArgs false
attribute [local go_sem ↓] Go.wp_at_zero Go.wp_at_succ

def ownF (o : Int → Option Int) (ms : List Mv) : Int → Option Int := ms.foldl (fun o m => if m.wr then ownSet o m.ce m.x else o) o
theorem asksM_snoc (m : Mv) : ∀ (a : List Mv) (o : Int → Option Int), asksM o (a ++ [m]) = asksM o a ++ (if m.wr then [] else match ownF o a m.ce with | none => [(m.ce, m.x)] | some _ => [])
  | [], o => by
    simp only [List.nil_append, asksM, ownF, List.foldl_nil]
    cases m.wr <;> simp <;> cases o m.ce <;> rfl
  | y :: a, o => by
    simp only [List.cons_append, asksM]
    have e : ownF o (y :: a) = ownF (if y.wr then ownSet o y.ce y.x else o) a := rfl
    cases hw : y.wr with
    | true => simp only [if_true]; rw [asksM_snoc m a, e, hw]; simp
    | false =>
      simp only [Bool.false_eq_true, if_false]
      rw [e, hw]
      simp only [Bool.false_eq_true, if_false]
      cases ho : o y.ce with
      | none => simp only; rw [asksM_snoc m a]; rfl
      | some z => simp only; rw [asksM_snoc m a]
theorem brokeM_snoc (m : Mv) : ∀ (a : List Mv) (o : Int → Option Int), brokeM o (a ++ [m]) = (brokeM o a || (if m.wr then false else match ownF o a m.ce with | none => false | some y => y != m.x))
  | [], o => by
    simp only [List.nil_append, brokeM, ownF, List.foldl_nil]
    cases m.wr <;> simp <;> cases o m.ce <;> simp
  | y :: a, o => by
    simp only [List.cons_append, brokeM]
    have e : ownF o (y :: a) = ownF (if y.wr then ownSet o y.ce y.x else o) a := rfl
    cases hw : y.wr with
    | true => simp only [if_true]; rw [brokeM_snoc m a, e, hw]; simp
    | false =>
      simp only [Bool.false_eq_true, if_false]
      rw [e, hw]
      simp only [Bool.false_eq_true, if_false]
      cases ho : o y.ce with
      | none => simp only; rw [brokeM_snoc m a]
      | some z => simp only; rw [brokeM_snoc m a, Bool.or_assoc]
theorem ownF_snoc (m : Mv) (a : List Mv) (o : Int → Option Int) : ownF o (a ++ [m]) = if m.wr then ownSet (ownF o a) m.ce m.x else ownF o a := by simp [ownF]
theorem asksM_len : ∀ (ms : List Mv) (o : Int → Option Int), (asksM o ms).length ≤ ms.length
  | [], o => by simp [asksM]
  | m :: r, o => by
    unfold asksM
    split
    · have := asksM_len r (ownSet o m.ce m.x); simp only [List.length_cons]; omega
    · split
      · have := asksM_len r o; simp only [List.length_cons]; omega
      · have := asksM_len r o; simp only [List.length_cons]; omega
theorem asksM_mem : ∀ (ms : List Mv) (o : Int → Option Int) (p : Pr), p ∈ asksM o ms → ∃ m ∈ ms, m.ce = p.1
  | [], o, p, h => by simp [asksM] at h
  | m :: r, o, p, h => by
    unfold asksM at h
    split at h
    · obtain ⟨x, hx, e⟩ := asksM_mem r _ p h
      exact ⟨x, by simp [hx], e⟩
    · split at h
      · rcases List.mem_cons.1 h with rfl | h
        · exact ⟨m, by simp, rfl⟩
        · obtain ⟨x, hx, e⟩ := asksM_mem r _ p h
          exact ⟨x, by simp [hx], e⟩
      · obtain ⟨x, hx, e⟩ := asksM_mem r _ p h
        exact ⟨x, by simp [hx], e⟩
theorem putP_mem {l : List Pr} {c x : Int} {p : Pr} (h : p ∈ putP l c x) : p ∈ l ∨ p.1 = c := by
  unfold putP at h
  split at h
  · rcases List.mem_or_eq_of_mem_set h with h | rfl
    · exact .inl h
    · exact .inr rfl
  · rcases List.mem_append.1 h with h | h
    · exact .inl h
    · rw [List.mem_singleton.1 h]; exact .inr rfl
theorem wrs_mem : ∀ (ms : List Mv) (l : List Pr) (p : Pr), p ∈ ms.foldl (fun l m => putP l m.ce m.x) l → p ∈ l ∨ ∃ m ∈ ms, m.ce = p.1
  | [], l, p, h => .inl h
  | m :: r, l, p, h => by
    rw [List.foldl_cons] at h
    rcases wrs_mem r _ p h with h | ⟨x, hx, e⟩
    · rcases putP_mem h with h | h
      · exact .inl h
      · exact .inr ⟨m, by simp, h.symm⟩
    · exact .inr ⟨x, by simp [hx], e⟩
theorem leavesL_rng {s : Sy} (h : ∀ m ∈ s.ms, -9223372036854775808 ≤ m.ce ∧ m.ce ≤ 9223372036854775807) : ∀ p ∈ leavesL s, -9223372036854775808 ≤ p.1 ∧ p.1 ≤ 9223372036854775807 := by
  intro p hp
  unfold leavesL at hp
  split at hp
  · rcases wrs_mem _ _ p hp with hp | ⟨m, hm, e⟩
    · simp at hp
    · rw [← e]
      exact h m (List.mem_filter.1 hm).1
  · simp at hp
theorem leavesL_len (s : Sy) : (leavesL s).length ≤ s.ms.length := by
  unfold leavesL
  split
  · exact wrM_len s.ms
  · simp
set_option maxRecDepth 100000 in
set_option maxHeartbeats 8000000 in
theorem gist_any {w : World} (m : Sm) (hm : SIn w m) : Calls Try.prog 30 #[syV m] w fun e w' => ∃ (aa : Option Addr) (ac : Nat) (la : Option Addr) (lc : Nat), e = .returned (gistV (brokeM (fun _ => none) m.s.ms) aa (asksM (fun _ => none) m.s.ms).length ac la (leavesL m.s).length lc) ∧ St w [lstR pC 86 2 (.slice aa (asksM (fun _ => none) m.s.ms).length ac) (asksM (fun _ => none) m.s.ms), lstR pC 86 2 (.slice la (leavesL m.s).length lc) (leavesL m.s)] w' := by
  have HSM := hid hm
  obtain ⟨hl, hb, hce⟩ := hm
  have HW := hid (fun W (k : Kept (fun _ => False) w W) => writes_all m (HSM.out.kept k))
  clear HSM
  have HLV : Hid (leavesL m.s = if m.s.ft = 1 then wrM m.s.ms else []) := hid rfl
  generalize leavesL m.s = LV at *
  obtain ⟨⟨z0, z1, z2, z3, z4, z5, z6, z7, z8, ms⟩, la, lc⟩ := m
  simp only at hl hb hce HW HLV ⊢
  have hmm := @run_makeMap Try.prog
  have s1 := (((St.nil w).box #[.int .i64 z0, .int .i64 z1, .int .i64 z2, .int .i64 z3, .int .i64 z4, .int .i64 z5, .int .i64 z6, .int .i64 z7, .int .i64 z8, .slice la ms.length lc] 44).box #[.bool false, .slice none 0 0, .slice none 0 0] 67).box #[.bool false, .slice none 0 0, .slice none 0 0] 67
  simp only [alloc_size, Nat.add_assoc] at s1
  unfold syV at HW ⊢
  unfold gistV
  simp only at HW ⊢
  generalize hw1 : ((w.alloc (.cells #[.int .i64 z0, .int .i64 z1, .int .i64 z2, .int .i64 z3, .int .i64 z4, .int .i64 z5, .int .i64 z6, .int .i64 z7, .int .i64 z8, .slice la ms.length lc] 44)).alloc (.cells #[.bool false, .slice none 0 0, .slice none 0 0] 67)).alloc (.cells #[.bool false, .slice none 0 0, .slice none 0 0] 67) = w1 at *
  generalize hE : w.heap.size = E at *
  have s2 := s1.newMap
  generalize hw2 : w1.alloc (.map #[] 0) = w2 at *
  generalize hM : w1.heap.size = M at *
  have c9 := s2.cell 3 rfl 9
  have s3 := r_nil pC 86 2 s2
  have HS3 := hid (St.move (l := [_, _, _, _, _]) (T := []) s3 5 rfl [2, 0, 1, 4, 3] (by decide))
  have HL := hid hl
  have HB := hid hb
  have HCE := hid hce
  have hb1 : (ms.length : Int) ≤ 2932031007317 := by omega
  clear s1 s2 s3 hl hb hce
  go_enter Try.func30, Try.ntmps30
  go_upto_region 4 with (first | simp only [hw1, hE] | simp only [hw2, hM])
  clear c9 hw1 hE hw2 hM hmm
  go_loopw [13] (fun i wr => ∃ (j : Nat) (ls : List Pr) (v : Value), i = .int .i64 j ∧ j ≤ ms.length ∧ ValR ls (ownF (fun _ => none) (ms.take j)) ∧ St w [boxI (E + 2) #[.bool (brokeM (fun _ => none) (ms.take j)), v, .slice none 0 0] 67, lstR pC 86 2 v (asksM (fun _ => none) (ms.take j)), mapV M ls, boxI E #[.int .i64 z0, .int .i64 z1, .int .i64 z2, .int .i64 z3, .int .i64 z4, .int .i64 z5, .int .i64 z6, .int .i64 z7, .int .i64 z8, .slice la ms.length lc] 44, boxI (E + 1) #[.bool false, .slice none 0 0, .slice none 0 0] 67] wr) (fun i _ => ms.length - (intOf i).toNat)
  case atStart => exact ⟨0, [], .slice none 0 0, rfl, Nat.zero_le _, valR_nil, HS3.out⟩
  case round =>
    clear HS3
    obtain ⟨j, ls, v, rfl, hj, hv, hs⟩ := hrel
    by_cases hlt : j < ms.length
    · have hlt' : (j : Int) < (ms.length : Int) := by omega
      have hj0 : (0 : Int) ≤ (j : Int) := by omega
      obtain ⟨g, off, rfl⟩ := HL.out.addr (by omega)
      obtain ⟨x, hx⟩ : ∃ x, ms[j]? = some x := ⟨_, List.getElem?_eq_getElem hlt⟩
      have hrg := HCE.out x (List.mem_of_getElem? hx)
      have htk := take_snoc hx
      have q := fun i u hu => (HL.out.kept hs.same).at (k := 6) (fun _ => rfl) hx i u hu
      have q0 := q 0 _ rfl
      have q1 := q 1 _ rfl
      have q2 := q 2 _ rfl
      have q3 := q 3 _ rfl
      have q4 := q 4 _ rfl
      have q5 := q 5 _ rfl
      rw [Nat.add_zero] at q0
      have ha := asksM_snoc x (ms.take j) (fun _ => none)
      have hbk := brokeM_snoc x (ms.take j) (fun _ => none)
      have ho := ownF_snoc x (ms.take j) (fun _ => none)
      rw [← htk] at ha hbk ho
      have hal : (asksM (fun _ => none) (ms.take j)).length ≤ ms.length := by have := asksM_len (ms.take j) (fun _ => none); simp only [List.length_take] at this; omega
      obtain ⟨x0, x1, x2, x3, x4, x5⟩ := x
      simp only at q0 q1 q2 q3 q4 q5 hrg ha hbk ho
      obtain ⟨va, vc, rfl, -, -, -⟩ := r_rin hs 1 rfl (fun _ => rfl)
      have s1 := hs.box #[.int .i64 x0, .bool x1, .int .i64 x2, .int .i64 x3, .bool x4, .int .i64 x5] 46
      generalize hw4 : wr.alloc (.cells #[.int .i64 x0, .bool x1, .int .i64 x2, .int .i64 x3, .bool x4, .int .i64 x5] 46) = w4 at *
      generalize hB : wr.heap.size = B at *
      have hlk := mapLook (s1.get 3 rfl) hv hrg
      have d1 := s1.cell 0 rfl 1
      have d2 := s1.cell 0 rfl 2
      have d3 := s1.cell 0 rfl 3
      have HJ : Hid (j + 1 ≤ ms.length ∧ ms.length - (j + 1) < ms.length - j) := hid ⟨by omega, by omega⟩
      generalize asksM (fun _ => none) (ms.take j) = ps at *
      generalize brokeM (fun _ => none) (ms.take j) = bk at *
      generalize ownF (fun _ => none) (ms.take j) = ow at *
      clear q hs hx hj hlt htk
      cases x1 with
      | true =>
        simp only [if_true, List.append_nil, Bool.or_false] at ha hbk ho
        have HA := hid ha
        have HBK := hid hbk
        have HO := hid ho
        clear ha hbk ho
        obtain ⟨w5, ls5, hup, hv5, s5⟩ := mapPut (St.move (l := [_, _, _, _, _, _]) (T := []) s1 6 rfl [3, 1, 2, 4, 5, 0] (by decide)) hv x3 hrg
        have HS5 := hid (St.cut (A := [_, _, _, _, _]) (B := [_]) (St.move (l := [_, _, _, _, _, _]) (T := []) s5 6 rfl [1, 2, 0, 3, 4, 5] (by decide)))
        have HV5 := hid hv5
        clear s1 s5 hv hv5
        go_wp2_with (first | simp only [hw4, hB] | simp only [hlk] | simp only [hup])
        go_roundw
        case rel => exact ⟨j + 1, ls5, _, by simp, HJ.out.1, by rw [HO.out]; exact HV5.out, by rw [HA.out, HBK.out]; exact HS5.out⟩
        case measure => have := HJ.out.2; simp [intOf]; omega
      | false =>
        simp only [Bool.false_eq_true, if_false] at ha hbk ho
        have HO := hid ho
        clear ho
        cases hov : ow x2 with
        | none =>
          rw [hov] at ha hbk hlk
          simp only [Bool.or_false] at ha hbk
          simp only [Option.getD_none, Option.isSome_none] at hlk
          have HA := hid ha
          have HBK := hid hbk
          clear ha hbk
          have g0 := s1.cell 1 rfl 1
          have t1 : St w (lstR pC 86 2 (.slice va ps.length vc) ps :: (boxI B #[.int .i64 x0, .bool false, .int .i64 x2, .int .i64 x3, .bool x4, .int .i64 x5] 46 :: boxI (E + 2) #[.bool bk, .slice va ps.length vc, .slice none 0 0] 67 :: mapV M ls :: boxI E #[.int .i64 z0, .int .i64 z1, .int .i64 z2, .int .i64 z3, .int .i64 z4, .int .i64 z5, .int .i64 z6, .int .i64 z7, .int .i64 z8, .slice (some ⟨g, off, none⟩) ms.length lc] 44 :: [boxI (E + 1) #[.bool false, .slice none 0 0, .slice none 0 0] 67])) w4 := St.move (l := [_, _, _, _, _, _]) (T := []) s1 6 rfl [2, 0, 1, 3, 4, 5] (by decide)
          have t2 := t1.alloc (.cells #[.int .i64 x2, .int .i64 x3] 86)
          have hrr := r_box (f := pC) (k := 2) (fun _ => rfl) 86 t1 (x2, x3) _ rfl
          have hbs := buildP w4 x2 x3
          have HPL := hid (show (ps.length + 1) * 16 ≤ 140737488355328 by have := HB.out; omega)
          have HE : Hid (∀ v' w', St w (lstR pC 86 2 v' (ps ++ [(x2, x3)]) :: (boxI B #[.int .i64 x0, .bool false, .int .i64 x2, .int .i64 x3, .bool x4, .int .i64 x5] 46 :: boxI (E + 2) #[.bool bk, .slice va ps.length vc, .slice none 0 0] 67 :: mapV M ls :: boxI E #[.int .i64 z0, .int .i64 z1, .int .i64 z2, .int .i64 z3, .int .i64 z4, .int .i64 z5, .int .i64 z6, .int .i64 z7, .int .i64 z8, .slice (some ⟨g, off, none⟩) ms.length lc] 44 :: [boxI (E + 1) #[.bool false, .slice none 0 0, .slice none 0 0] 67])) w' → ∃ gg cap, v' = .slice (some ⟨gg, 0, none⟩) (ps.length + 1) cap ∧ w'.cell? ⟨E + 2, 1, none⟩ = some (.slice va ps.length vc) ∧ w'.frozen? ⟨E + 2, 1, none⟩ = false ∧ St w [boxI (E + 2) #[.bool bk, v', .slice none 0 0] 67, lstR pC 86 2 v' (ps ++ [(x2, x3)]), mapV M ls, boxI E #[.int .i64 z0, .int .i64 z1, .int .i64 z2, .int .i64 z3, .int .i64 z4, .int .i64 z5, .int .i64 z6, .int .i64 z7, .int .i64 z8, .slice (some ⟨g, off, none⟩) ms.length lc] 44, boxI (E + 1) #[.bool false, .slice none 0 0, .slice none 0 0] 67] (w'.setCell ⟨E + 2, 1, none⟩ v')) := hid (by
            intro v' w' s7
            obtain ⟨g', cap, hv'⟩ := s7.form 0 rfl (by simp)
            have s8 := s7.write 2 rfl 1 v'
            refine ⟨g', cap, by simpa using hv', s7.cell 2 rfl 1, s7.frozen 2 rfl 1, ?_⟩
            exact (St.move (l := [_, _, _, _, _, _]) (T := []) s8 6 rfl [1, 2, 0, 3, 4, 5] (by decide)).pop)
          have HT2 := hid t2
          have HRR := hid hrr
          have HV5 := hid hv
          clear s1 t1 t2 hrr hv hov
          go_wp2_with (first | simp only [hw4, hB] | simp only [hlk] | simp only [hbs] | (at_builtin; refine wpList_appR Try.rowP HT2.out rfl _ _ rfl rfl (some ⟨w4.heap.size, 0, none⟩) 1 1 rfl HRR.out (fun e => by cases e) HPL.out ?_; intro v' w' s7'; obtain ⟨g', cap', rfl, k0, kf, hend⟩ := HE.out _ _ s7'; have HEND := hid hend; clear s7' hend))
          go_roundw
          case rel => exact ⟨j + 1, ls, _, by simp, HJ.out.1, by rw [HO.out]; exact HV5.out, by rw [HA.out, HBK.out]; exact HEND.out⟩
          case measure => have := HJ.out.2; simp [intOf]; omega
        | some y =>
          rw [hov] at ha hbk hlk
          simp only [List.append_nil] at ha hbk
          simp only [Option.getD_some, Option.isSome_some] at hlk
          have HA := hid ha
          clear ha
          by_cases hy : y = x3
          · subst hy
            have t0 : (y != y) = false := by simp
            rw [t0, Bool.or_false] at hbk
            have HBK := hid hbk
            clear hbk
            have HS5 := hid s1.pop
            have HV5 := hid hv
            clear s1 hv hov
            go_wp2_with (first | simp only [hw4, hB] | simp only [hlk])
            go_roundw
            case rel => exact ⟨j + 1, ls, _, by simp, HJ.out.1, by rw [HO.out]; exact HV5.out, by rw [HA.out, HBK.out]; exact HS5.out⟩
            case measure => have := HJ.out.2; simp [intOf]; omega
          · have t0 : (y != x3) = true := by simpa using hy
            rw [t0, Bool.or_true] at hbk
            have HBK := hid hbk
            clear hbk
            have b0 := s1.cell 1 rfl 0
            have f0 := s1.frozen 1 rfl 0
            have HS5 := hid (s1.write 1 rfl 0 (.bool true)).pop
            have HV5 := hid hv
            clear s1 hv hov hy
            go_wp2_with (first | simp only [hw4, hB] | simp only [hlk])
            go_roundw
            case rel => exact ⟨j + 1, ls, _, by simp, HJ.out.1, by rw [HO.out]; exact HV5.out, by rw [HA.out, HBK.out]; exact HS5.out⟩
            case measure => have := HJ.out.2; simp [intOf]; omega
    · obtain rfl : j = ms.length := by omega
      have hlt' : ¬ (ms.length : Int) < (ms.length : Int) := by omega
      rw [List.take_length] at hs
      generalize hps : asksM (fun _ => none) ms = ps at hs
      generalize hbk : brokeM (fun _ => none) ms = bk at hs
      have HPS := hid hps
      have HBK := hid hbk
      clear hps hbk
      obtain ⟨va, vc, rfl, -, -, -⟩ := r_rin hs 1 rfl (fun _ => rfl)
      have c4 := hs.cell 3 rfl 4
      by_cases h4 : z4 = 1
      · subst h4
        have c0 := hs.cell 3 rfl 0
        have c1 := hs.cell 3 rfl 1
        have c2 := hs.cell 3 rfl 2
        have c3 := hs.cell 3 rfl 3
        have c5 := hs.cell 3 rfl 5
        have c6 := hs.cell 3 rfl 6
        have c7 := hs.cell 3 rfl 7
        have c8 := hs.cell 3 rfl 8
        have c9 := hs.cell 3 rfl 9
        have hwr := HW.out wr hs.same
        have HLV2 : Hid (LV = wrM ms) := hid (by rw [HLV.out]; rfl)
        rw [← HLV2.out] at hwr
        have HS := hid hs
        clear hs hv HW HLV HL
        go_upto_region 16 with (go_at_call 48; refine hwr.mono ?_; rintro e w6 ⟨vw, rfl, s6⟩; obtain ⟨wa, wc, rfl, -, -, -⟩ := r_rin s6 0 rfl (fun _ => rfl); have s7 := St.over HS.out s6; have b2 := s7.cell 1 rfl 2; have f2 := s7.frozen 1 rfl 2; have s8 := s7.write 1 rfl 2 (.slice wa LV.length wc); have HS8 := hid s8; clear s6 s7 s8)
        clear c0 c1 c2 c3 c4 c5 c6 c7 c8 c9 hwr b2 f2
        generalize w6.setCell ⟨E + 2, 2, none⟩ (.slice wa LV.length wc) = w8 at *
        have s8 := HS8.out
        have b0 := s8.cell 1 rfl 0
        have b1 := s8.cell 1 rfl 1
        have b2 := s8.cell 1 rfl 2
        have d0 := s8.cell 5 rfl 0
        have d1 := s8.cell 5 rfl 1
        have d2 := s8.cell 5 rfl 2
        have f0 := s8.frozen 5 rfl 0
        have f1 := s8.frozen 5 rfl 1
        have f2 := s8.frozen 5 rfl 2
        have s9 := ((s8.write 5 rfl 0 (.bool bk)).write 5 rfl 1 (.slice va ps.length vc)).write 5 rfl 2 (.slice wa LV.length wc)
        have e0 := s9.cell 5 rfl 0
        have e1 := s9.cell 5 rfl 1
        have e2 := s9.cell 5 rfl 2
        have HS9 := hid (St.cut (A := [_, _]) (B := [_, _, _, _]) (St.move (l := [_, _, _, _, _, _]) (T := []) s9 6 rfl [2, 0, 1, 3, 4, 5] (by decide)))
        clear s8 s9 HS8 HS
        go_wp2
        refine bodyPost_ret (v := gistV bk va ps.length vc wa LV.length wc) ?_ rfl ⟨va, vc, wa, wc, by rw [HPS.out, HBK.out], by rw [HPS.out]; exact HS9.out⟩
        simp [results, Try.f30, go_sem, e0, e1, e2]
      · have t4 : (z4 == 1) = false := by simpa using h4
        have HLV2 : Hid (LV = []) := hid (by rw [HLV.out, if_neg h4])
        obtain rfl := HLV2.out
        clear h4 HLV2 HLV HW hv HL
        have b0 := hs.cell 0 rfl 0
        have b1 := hs.cell 0 rfl 1
        have b2 := hs.cell 0 rfl 2
        have d0 := hs.cell 4 rfl 0
        have d1 := hs.cell 4 rfl 1
        have d2 := hs.cell 4 rfl 2
        have f0 := hs.frozen 4 rfl 0
        have f1 := hs.frozen 4 rfl 1
        have f2 := hs.frozen 4 rfl 2
        have s9 := ((hs.write 4 rfl 0 (.bool bk)).write 4 rfl 1 (.slice va ps.length vc)).write 4 rfl 2 (.slice none 0 0)
        have e0 := s9.cell 4 rfl 0
        have e1 := s9.cell 4 rfl 1
        have e2 := s9.cell 4 rfl 2
        have sN := r_nil pC 86 2 s9
        have HS9 := hid (St.cut (A := [_, _]) (B := [_, _, _, _]) (St.move (l := [_, _, _, _, _, _]) (T := []) sN 6 rfl [2, 0, 1, 3, 4, 5] (by decide)))
        clear hs s9 sN
        go_wp2
        refine bodyPost_ret (v := gistV bk va ps.length vc none 0 0) ?_ rfl ⟨va, vc, none, 0, by rw [HPS.out, HBK.out], by rw [HPS.out]; exact HS9.out⟩
        simp [results, Try.f30, go_sem, e0, e1, e2]
end Go.Proofs.Ytnmlnjljmikmpaa
