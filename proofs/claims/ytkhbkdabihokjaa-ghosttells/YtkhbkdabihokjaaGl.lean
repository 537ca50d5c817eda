/- Package ghost: Count. -/
import Derived.Test.YtkhbkdabihokjaaGk
namespace Go.Proofs.Ytkhbkdabihokjaa
open Go.RowKit Go.Shelf
set_option linter.unusedVariables false
set_option linter.unusedSimpArgs false
attribute [local go_sem ↓] Go.wp_at_zero Go.wp_at_succ
attribute [local go_sem] Oper.semAt_some

abbrev tlC (a b c d : Int) : Array Value := #[.int .i64 a, .int .i64 b, .int .i64 c, .int .i64 d]
def doomN (L : List Sm) : Nat := (L.filter fun m => m.s.e == 7).length
set_option maxRecDepth 100000 in
set_option maxHeartbeats 4000000 in
theorem count_any {w : World} {la : Option Addr} {n lc : Nat} {L : List Sm} (hl : RIn sC w la n L) (hn : n ≤ 1466015503701) : Calls Try.prog 24 #[.slice la n lc] w fun e w' => e = .returned (.agg (tlC ((n : Int) - ((L.filter Sm.commits).length : Nat) - ((L.filter Sm.aborts).length : Nat)) ((L.filter Sm.commits).length : Nat) ((L.filter Sm.aborts).length : Nat) (doomN (L.filter Sm.aborts) : Nat))) ∧ Kept (fun _ => False) w w' := by
  refine (callsIn_wide (n := 9)).1 ?_
  have a1 := ((St.nil w).box (tlC 0 0 0 0) 50).box (tlC 0 0 0 0) 50
  simp only [alloc_size] at a1
  generalize hw1 : (w.alloc (.cells (tlC 0 0 0 0) 50)).alloc (.cells (tlC 0 0 0 0) 50) = w1 at *
  generalize hE : w.heap.size = E at *
  have hT := thoseStory_any a1 la n lc 35
  have hf1 : Fence.wide.fn 39 := trivial
  have HLN := hid hl.1
  have HL := hid hl
  have hn1 : (n : Int) ≤ 1466015503701 := by omega
  refine callsIn_of_wp_marks Try.func24 rfl trivial ?_
  simp only [Try.ntmps24, List.size_toArray, List.length_cons, List.length_nil, Nat.reduceAdd, Nat.reduceSub, Array.replicate_succ, Array.replicate_zero, List.push_toArray, List.append_toArray, List.nil_append, List.cons_append]
  gi_wp2_with (first | simp only [hw1, hE] | (gi_at_call 39; refine (callsIn_wide.2 hT).mono ?_; rintro e w2 ⟨b1, b2, rfl, a2⟩))
  clear hT hw1 a1
  have HFL : Hid (∀ (p : Sm → Bool) (pre : List Sm) (x : Sm) (r : List Sm), pre ++ x :: r = L.filter p → pre.length + 1 ≤ n) := hid (fun p pre x r hr => by
    have h1 : (pre ++ x :: r).length ≤ L.length := by rw [hr]; exact List.length_filter_le _ _
    simp only [List.length_append, List.length_cons] at h1
    have := HLN.out
    omega)
  refine rf_law (o := w) (T := []) (enc := syV) rfl (enters_of Try.func51 (by kernel_rfl) rfl) (those_commits (lc := lc) hl (by omega) b1 b2) rfl
    (fun pre X => X = [boxI (E + 1) (tlC 0 (pre.length : Nat) 0 0) 50, boxI E (tlC 0 0 0 0) 50] ∧ Hid (pre.length ≤ n))
    (fun c pre X => False)
    n (fun pre X hX => hX.2.out) ⟨_, ⟨rfl, hid (by simp)⟩, St.move (l := [_, _, _, _]) (T := []) a2 4 rfl [2, 3, 0, 1] (by decide)⟩
    (fun x => { tmps := #[.slice la n lc, undef, .pointer (some ⟨E, 0, none⟩), .pointer (some ⟨E + 1, 0, none⟩), undef, .slice la n lc, .func (.func 51) #[] #[.pointer (some ⟨b1, 0, none⟩), .pointer (some ⟨b2, 0, none⟩)], syV x, undef, undef, undef, undef, undef, undef, undef, undef, undef, undef, undef, undef, undef, undef, undef, undef, undef, undef, undef, undef, undef, undef, undef, undef, undef, undef, undef, undef], defers := [] })
    ?assign ?round ?done ?stop
  case assign =>
    intro l' x W' C hC
    gi_wp2
    exact hC
  case round =>
    rintro l' T' pre x W' ⟨r, hr⟩ ⟨_, ⟨rfl, hle⟩, hs⟩
    have hfl := HFL.out _ _ _ _ hr
    have e1 := hs.cell 0 rfl 1
    have f1 := hs.frozen 0 rfl 1
    have t1 := hs.write 0 rfl 1 (.int .i64 ((pre.length : Int) + 1))
    have HE : Hid (∀ a, EndsR w (fun pre X => X = [boxI (E + 1) (tlC 0 (pre.length : Nat) 0 0) 50, boxI E (tlC 0 0 0 0) 50] ∧ Hid (pre.length ≤ n)) (fun c pre X => False) (thRqStory b1 b2 35 la n lc ++ T') (pre ++ [x]) .normal a (W'.setCell ⟨E + 1, 1, none⟩ (.int .i64 ((pre.length : Int) + 1)))) := hid (fun a => ⟨_, ⟨rfl, hid (by simp; omega)⟩, by
      rw [show (((pre ++ [x]).length : Nat) : Int) = (pre.length : Int) + 1 by simp]
      exact t1⟩)
    generalize EndsR w (fun pre X => X = [boxI (E + 1) (tlC 0 (pre.length : Nat) 0 0) 50, boxI E (tlC 0 0 0 0) 50] ∧ Hid (pre.length ≤ n)) (fun c pre X => False) (thRqStory b1 b2 35 la n lc ++ T') (pre ++ [x]) = EN at *
    have hq1 : (pre.length : Int) ≤ 1466015503701 := by omega
    have hq0 : (0 : Int) ≤ (pre.length : Int) := by omega
    clear hs t1 hr hle hfl
    gi_wp2
    exact HE.out _
  case done =>
    rintro D xs W' rfl ⟨_, ⟨rfl, hle⟩, hs⟩
    generalize hcN : (L.filter Sm.commits).length = cN at *
    have hT2 := thoseStory_any hs la n lc 43
    have HCN := hid hle.out
    gi_wp2_with (gi_at_call 39; refine (callsIn_wide.2 hT2).mono ?_; rintro e w3 ⟨b3, b4, rfl, a3⟩)
    clear hT2 hs
    refine rf_law2 (o := w) (T := dfrI D :: (thRqStory b1 b2 35 la n lc ++ [])) (enc := syV) rfl (enters_of Try.func51 (by kernel_rfl) rfl) (those_aborts (lc := lc) HL.out (by omega) b3 b4) rfl
      (fun pre X => X = [boxI (E + 1) (tlC 0 (cN : Nat) (pre.length : Nat) (doomN pre : Nat)) 50, boxI E (tlC 0 0 0 0) 50] ∧ Hid (pre.length ≤ n))
      (fun c pre X => False)
      n (fun pre X hX => hX.2.out) ⟨_, ⟨rfl, hid (by simp)⟩, St.move (l := [_, _, _, _]) a3 4 rfl [2, 3, 0, 1] (by decide)⟩
      (fun x => #[.int .i64 x.s.th, .int .i64 x.s.sp, .int .i64 x.s.bg, .int .i64 x.s.en, .int .i64 x.s.ft, .int .i64 x.s.e, .int .i64 x.s.by_, .int .i64 x.s.op, .int .i64 x.s.ga, .slice x.la x.s.ms.length x.lc]) 36
      (fun x B => { tmps := #[.slice la n lc, undef, .pointer (some ⟨E, 0, none⟩), .pointer (some ⟨E + 1, 0, none⟩), .pointer (some ⟨B, 0, none⟩), .slice la n lc, .func (.func 51) #[] #[.pointer (some ⟨b1, 0, none⟩), .pointer (some ⟨b2, 0, none⟩)], undef, undef, undef, undef, undef, .slice la n lc, .func (.func 51) #[] #[.pointer (some ⟨b3, 0, none⟩), .pointer (some ⟨b4, 0, none⟩)], syV x, undef, undef, undef, undef, undef, undef, undef, undef, undef, undef, undef, undef, undef, undef, undef, undef, undef, undef, undef, undef, undef], defers := [] })
      ?assign2 ?round2 ?done2 ?stop2
    case assign2 =>
      intro l' x W'' C hC
      gi_wp2
      exact hC
    case round2 =>
      rintro l' T' pre x B W'' ⟨r, hr⟩ ⟨_, ⟨rfl, hle2⟩, hs⟩
      obtain ⟨⟨s0, s1, s2, s3, s4, s5, s6, s7, s8, sms⟩, sla, slc⟩ := x
      have hfl := HFL.out _ _ _ _ hr
      have e2 := hs.cell 0 rfl 2
      have f2 := hs.frozen 0 rfl 2
      have t1 := hs.write 0 rfl 2 (.int .i64 ((pre.length : Int) + 1))
      have e5 := t1.cell 4 rfl 5
      have hdl : doomN pre ≤ pre.length := List.length_filter_le _ _
      have hq1 : (pre.length : Int) ≤ 1466015503701 := by omega
      have hq0 : (0 : Int) ≤ (pre.length : Int) := by omega
      by_cases h7 : s5 = 7
      · subst h7
        have e3 := t1.cell 0 rfl 3
        have f3 := t1.frozen 0 rfl 3
        have t2 := t1.write 0 rfl 3 (.int .i64 ((doomN pre : Int) + 1))
        have HE : Hid (∀ a, EndsR w (fun pre X => X = [boxI (E + 1) (tlC 0 (cN : Nat) (pre.length : Nat) (doomN pre : Nat)) 50, boxI E (tlC 0 0 0 0) 50] ∧ Hid (pre.length ≤ n)) (fun c pre X => False) (thRqStory b3 b4 43 la n lc ++ (boxI B #[.int .i64 s0, .int .i64 s1, .int .i64 s2, .int .i64 s3, .int .i64 s4, .int .i64 7, .int .i64 s6, .int .i64 s7, .int .i64 s8, .slice sla sms.length slc] 36 :: T')) (pre ++ [⟨⟨s0, s1, s2, s3, s4, 7, s6, s7, s8, sms⟩, sla, slc⟩]) .normal a ((W''.setCell ⟨E + 1, 2, none⟩ (.int .i64 ((pre.length : Int) + 1))).setCell ⟨E + 1, 3, none⟩ (.int .i64 ((doomN pre : Int) + 1)))) := hid (fun a => ⟨_, ⟨rfl, hid (by simp; omega)⟩, by
          rw [show (((pre ++ [(⟨⟨s0, s1, s2, s3, s4, 7, s6, s7, s8, sms⟩, sla, slc⟩ : Sm)]).length : Nat) : Int) = (pre.length : Int) + 1 by simp, show ((doomN (pre ++ [(⟨⟨s0, s1, s2, s3, s4, 7, s6, s7, s8, sms⟩, sla, slc⟩ : Sm)]) : Nat) : Int) = (doomN pre : Int) + 1 by simp [doomN]]
          exact t2⟩)
        generalize EndsR w (fun pre X => X = [boxI (E + 1) (tlC 0 (cN : Nat) (pre.length : Nat) (doomN pre : Nat)) 50, boxI E (tlC 0 0 0 0) 50] ∧ Hid (pre.length ≤ n)) (fun c pre X => False) (thRqStory b3 b4 43 la n lc ++ (boxI B #[.int .i64 s0, .int .i64 s1, .int .i64 s2, .int .i64 s3, .int .i64 s4, .int .i64 7, .int .i64 s6, .int .i64 s7, .int .i64 s8, .slice sla sms.length slc] 36 :: T')) (pre ++ [⟨⟨s0, s1, s2, s3, s4, 7, s6, s7, s8, sms⟩, sla, slc⟩]) = EN at *
        have hd1 : (doomN pre : Int) ≤ 1466015503701 := by omega
        have hd0 : (0 : Int) ≤ (doomN pre : Int) := by omega
        clear hs t1 t2 hr hle2 hfl hdl
        generalize doomN pre = dn at *
        gi_wp2
        exact HE.out _
      · have t7 : (s5 == 7) = false := by simpa using h7
        have HE : Hid (∀ a, EndsR w (fun pre X => X = [boxI (E + 1) (tlC 0 (cN : Nat) (pre.length : Nat) (doomN pre : Nat)) 50, boxI E (tlC 0 0 0 0) 50] ∧ Hid (pre.length ≤ n)) (fun c pre X => False) (thRqStory b3 b4 43 la n lc ++ (boxI B #[.int .i64 s0, .int .i64 s1, .int .i64 s2, .int .i64 s3, .int .i64 s4, .int .i64 s5, .int .i64 s6, .int .i64 s7, .int .i64 s8, .slice sla sms.length slc] 36 :: T')) (pre ++ [⟨⟨s0, s1, s2, s3, s4, s5, s6, s7, s8, sms⟩, sla, slc⟩]) .normal a (W''.setCell ⟨E + 1, 2, none⟩ (.int .i64 ((pre.length : Int) + 1)))) := hid (fun a => ⟨_, ⟨rfl, hid (by simp; omega)⟩, by
          rw [show (((pre ++ [(⟨⟨s0, s1, s2, s3, s4, s5, s6, s7, s8, sms⟩, sla, slc⟩ : Sm)]).length : Nat) : Int) = (pre.length : Int) + 1 by simp, show ((doomN (pre ++ [(⟨⟨s0, s1, s2, s3, s4, s5, s6, s7, s8, sms⟩, sla, slc⟩ : Sm)]) : Nat) : Int) = (doomN pre : Int) by simp [doomN, h7]]
          exact t1⟩)
        generalize EndsR w (fun pre X => X = [boxI (E + 1) (tlC 0 (cN : Nat) (pre.length : Nat) (doomN pre : Nat)) 50, boxI E (tlC 0 0 0 0) 50] ∧ Hid (pre.length ≤ n)) (fun c pre X => False) (thRqStory b3 b4 43 la n lc ++ (boxI B #[.int .i64 s0, .int .i64 s1, .int .i64 s2, .int .i64 s3, .int .i64 s4, .int .i64 s5, .int .i64 s6, .int .i64 s7, .int .i64 s8, .slice sla sms.length slc] 36 :: T')) (pre ++ [⟨⟨s0, s1, s2, s3, s4, s5, s6, s7, s8, sms⟩, sla, slc⟩]) = EN at *
        clear hs t1 hr hle2 hfl hdl h7
        gi_wp2
        exact HE.out _
    case done2 =>
      rintro D2 xs W'' rfl ⟨_, ⟨rfl, hle2⟩, hs⟩
      generalize haN : (L.filter Sm.aborts).length = aN at *
      generalize hdN : doomN (L.filter Sm.aborts) = dN at *
      have e1 := hs.cell 0 rfl 1
      have e2 := hs.cell 0 rfl 2
      have e0 := hs.cell 0 rfl 0
      have f0 := hs.frozen 0 rfl 0
      have t1 := hs.write 0 rfl 0 (.int .i64 ((n : Int) - (cN : Int) - (aN : Int)))
      have g0 := t1.cell 0 rfl 0
      have g1 := t1.cell 0 rfl 1
      have g2 := t1.cell 0 rfl 2
      have g3 := t1.cell 0 rfl 3
      have r0 := t1.cell 1 rfl 0
      have q0 := t1.frozen 1 rfl 0
      have t2 := t1.write 1 rfl 0 (.int .i64 ((n : Int) - (cN : Int) - (aN : Int)))
      have r1 := t2.cell 1 rfl 1
      have q1 := t2.frozen 1 rfl 1
      have t3 := t2.write 1 rfl 1 (.int .i64 (cN : Int))
      have r2 := t3.cell 1 rfl 2
      have q2 := t3.frozen 1 rfl 2
      have t4 := t3.write 1 rfl 2 (.int .i64 (aN : Int))
      have r3 := t4.cell 1 rfl 3
      have q3 := t4.frozen 1 rfl 3
      have t5 := t4.write 1 rfl 3 (.int .i64 (dN : Int))
      have hc1 : (cN : Int) ≤ 1466015503701 := by have := HCN.out; omega
      have hc0 : (0 : Int) ≤ (cN : Int) := by omega
      have ha1 : (aN : Int) ≤ 1466015503701 := by have := hle2.out; omega
      have ha0 : (0 : Int) ≤ (aN : Int) := by omega
      have HT5 := hid t5
      have HEQ := hid (And.intro hcN (And.intro haN hdN))
      clear hs t1 t2 t3 t4 t5 hle hle2 hcN haN hdN
      gi_wp2
      clear e0 e1 e2 f0 g0 g1 g2 g3 r0 r1 r2 r3 q0 q1 q2 q3
      generalize ((((W''.setCell ⟨E + 1, 0, none⟩ (.int .i64 ((n : Int) - (cN : Int) - (aN : Int)))).setCell ⟨E, 0, none⟩ (.int .i64 ((n : Int) - (cN : Int) - (aN : Int)))).setCell ⟨E, 1, none⟩ (.int .i64 (cN : Int))).setCell ⟨E, 2, none⟩ (.int .i64 (aN : Int))).setCell ⟨E, 3, none⟩ (.int .i64 (dN : Int)) = W5 at *
      have s6 := St.move (l := [_, _, _, _, _, _, _, _]) (T := []) HT5.out 8 rfl [2, 5, 1, 0, 3, 4, 6, 7] (by decide)
      have hd2 : W5.heap[D2]? = some (.deferred (some [])) := s6.get 0 rfl
      have s7 := s6.shutD
      have hd1 : (W5.putObj D2 (.deferred none)).heap[D]? = some (.deferred (some [])) := s7.get 0 rfl
      have s8 := s7.shutD
      have r0 := s8.cell 0 rfl 0
      have r1 := s8.cell 0 rfl 1
      have r2 := s8.cell 0 rfl 2
      have r3 := s8.cell 0 rfl 3
      have HK := hid s8.same
      clear s6 s7 s8 HT5
      obtain ⟨q1, q2, q3⟩ := HEQ.out
      rw [q1, q2, q3]
      refine ⟨by simp, .inl ⟨_, _, rfl, run_takeDeferred hd2, ?_⟩⟩
      refine ⟨by simp, .inl ⟨_, _, rfl, run_takeDeferred hd1, ?_⟩⟩
      exact ⟨.agg (tlC ((n : Int) - (cN : Int) - (aN : Int)) cN aN dN), by simp [results, Try.f24, go_sem, r0, r1, r2, r3], rfl, HK.out⟩
    case stop2 =>
      rintro D c pre W' _ ⟨_, hf, _⟩
      exact hf.elim
  case stop =>
    rintro D c pre W' _ ⟨_, hf, _⟩
    exact hf.elim
end Go.Proofs.Ytkhbkdabihokjaa
