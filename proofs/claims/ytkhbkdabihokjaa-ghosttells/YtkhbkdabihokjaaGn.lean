/- The library's Collect at stories. -/
import Derived.Test.YtkhbkdabihokjaaGl
namespace Go.Proofs.Ytkhbkdabihokjaa
open Go.RowKit Go.Shelf
set_option linter.unusedVariables false
set_option linter.unusedSimpArgs false
attribute [local go_sem ↓] Go.wp_at_zero Go.wp_at_succ
attribute [local go_sem] Oper.semAt_some

theorem buildSv (W : World) (s0 s1 s2 s3 s4 s5 s6 s7 s8 : Int) (la : Option Addr) (n lc : Nat) : (Instr.buildSlice 27 1 #[(0, .agg #[.int .i64 s0, .int .i64 s1, .int .i64 s2, .int .i64 s3, .int .i64 s4, .int .i64 s5, .int .i64 s6, .int .i64 s7, .int .i64 s8, .slice la n lc])]).run Try.prog W = .ok (.slice (some ⟨W.heap.size, 0, none⟩) 1 1) (W.alloc (.cells #[.int .i64 s0, .int .i64 s1, .int .i64 s2, .int .i64 s3, .int .i64 s4, .int .i64 s5, .int .i64 s6, .int .i64 s7, .int .i64 s8, .slice la n lc] 36)) := by kernel_rfl
set_option maxRecDepth 100000 in
set_option maxHeartbeats 4000000 in
theorem appendSeq_any {o w : World} {R : List It} {la : Option Addr} {n lc : Nat} {L : List Sm} (hl : RIn sC o la n L) (hn : n ≤ 1466015503701) (b1 b2 : Nat) (h : St o (thRqStory b1 b2 35 la n lc ++ R) w) :
    Calls Try.prog 50 #[.slice none 0 0, .func (.func 51) #[] #[.pointer (some ⟨b1, 0, none⟩), .pointer (some ⟨b2, 0, none⟩)]] w fun e w' => ∃ v, e = .returned v ∧ St o (lstR sC 36 10 v (L.filter Sm.commits) :: R) w' := by
  refine (callsIn_wide (n := 9)).1 ?_
  have a1 := h.box #[.slice none 0 0] 27
  generalize hw1 : w.alloc (.cells #[.slice none 0 0] 27) = w1 at *
  generalize hE : w.heap.size = E at *
  have HLN := hid hl.1
  have HSZ := hid hn
  refine callsIn_of_wp_marks Try.func50 rfl trivial ?_
  simp only [Try.ntmps50, List.size_toArray, List.length_cons, List.length_nil, Nat.reduceAdd, Nat.reduceSub, Array.replicate_succ, Array.replicate_zero, List.push_toArray, List.append_toArray, List.nil_append, List.cons_append]
  gi_wp2_with (simp only [hw1, hE])
  refine rf_law2 (o := o) (T := R) (enc := syV) rfl (enters_of Try.func51 (by kernel_rfl) rfl) (those_commits (lc := lc) hl (by omega) b1 b2) rfl
    (fun pre X => ∃ v, X = [boxI E #[v] 27, lstR sC 36 10 v pre] ∧ Hid (pre.length ≤ n))
    (fun c pre X => False)
    n (fun pre X hX => by obtain ⟨v, _, h⟩ := hX; exact h.out) ⟨_, ⟨.slice none 0 0, rfl, hid (by simp)⟩, (r_nil sC 36 10 a1).perm (List.Perm.swap _ _ _)⟩
    (fun x => #[.int .i64 x.s.th, .int .i64 x.s.sp, .int .i64 x.s.bg, .int .i64 x.s.en, .int .i64 x.s.ft, .int .i64 x.s.e, .int .i64 x.s.by_, .int .i64 x.s.op, .int .i64 x.s.ga, .slice x.la x.s.ms.length x.lc]) 36
    (fun x B => { tmps := #[.slice none 0 0, .func (.func 51) #[] #[.pointer (some ⟨b1, 0, none⟩), .pointer (some ⟨b2, 0, none⟩)], .pointer (some ⟨E, 0, none⟩), undef, .slice none 0 0, .pointer (some ⟨B, 0, none⟩), .func (.func 51) #[] #[.pointer (some ⟨b1, 0, none⟩), .pointer (some ⟨b2, 0, none⟩)], syV x, undef, undef, undef, undef, undef], defers := [] })
    ?assign ?round ?done ?stop
  case assign =>
    intro l' x W' C hC
    gi_wp2
    exact hC
  case round =>
    rintro l' T' pre x B W' ⟨r, hr⟩ ⟨_, ⟨v, rfl, hle⟩, hs⟩
    obtain ⟨⟨s0, s1, s2, s3, s4, s5, s6, s7, s8, sms⟩, sla, slc⟩ := x
    have hfl : pre.length + 1 ≤ n := by
      have h1 : (pre ++ (⟨⟨s0, s1, s2, s3, s4, s5, s6, s7, s8, sms⟩, sla, slc⟩ : Sm) :: r).length ≤ L.length := by rw [hr]; exact List.length_filter_le _ _
      simp only [List.length_append, List.length_cons] at h1
      have := HLN.out
      omega
    obtain ⟨va, vc, rfl, -, -, -⟩ := r_rin hs 1 rfl (fun _ => rfl)
    have hs1 : St o (lstR sC 36 10 (.slice va pre.length vc) pre :: boxI E #[.slice va pre.length vc] 27 :: (thRqStory b1 b2 35 la n lc ++ (boxI B #[.int .i64 s0, .int .i64 s1, .int .i64 s2, .int .i64 s3, .int .i64 s4, .int .i64 s5, .int .i64 s6, .int .i64 s7, .int .i64 s8, .slice sla sms.length slc] 36 :: T'))) W' := hs.perm (List.Perm.swap _ _ _)
    have t2 := hs1.alloc (.cells #[.int .i64 s0, .int .i64 s1, .int .i64 s2, .int .i64 s3, .int .i64 s4, .int .i64 s5, .int .i64 s6, .int .i64 s7, .int .i64 s8, .slice sla sms.length slc] 36)
    have hrr := r_box (f := sC) sC_len 36 hs1 ⟨⟨s0, s1, s2, s3, s4, s5, s6, s7, s8, sms⟩, sla, slc⟩ _ rfl
    have e0 := hs.cell 0 rfl 0
    have m0 := hs.cell 4 rfl 0
    have m1 := hs.cell 4 rfl 1
    have m2 := hs.cell 4 rfl 2
    have m3 := hs.cell 4 rfl 3
    have m4 := hs.cell 4 rfl 4
    have m5 := hs.cell 4 rfl 5
    have m6 := hs.cell 4 rfl 6
    have m7 := hs.cell 4 rfl 7
    have m8 := hs.cell 4 rfl 8
    have m9 := hs.cell 4 rfl 9
    have hbs := buildSv W' s0 s1 s2 s3 s4 s5 s6 s7 s8 sla sms.length slc
    have HN := hid (show (pre.length + 1) * 96 ≤ 140737488355328 by have := HSZ.out; omega)
    have HE : Hid (∀ v' w', St o (lstR sC 36 10 v' (pre ++ [⟨⟨s0, s1, s2, s3, s4, s5, s6, s7, s8, sms⟩, sla, slc⟩]) :: boxI E #[.slice va pre.length vc] 27 :: (thRqStory b1 b2 35 la n lc ++ (boxI B #[.int .i64 s0, .int .i64 s1, .int .i64 s2, .int .i64 s3, .int .i64 s4, .int .i64 s5, .int .i64 s6, .int .i64 s7, .int .i64 s8, .slice sla sms.length slc] 36 :: T'))) w' → ∃ g cap, v' = .slice (some ⟨g, 0, none⟩) (pre.length + 1) cap ∧ w'.cell? ⟨E, 0, none⟩ = some (.slice va pre.length vc) ∧ w'.frozen? ⟨E, 0, none⟩ = false ∧ ∀ a, EndsR o (fun pre X => ∃ v, X = [boxI E #[v] 27, lstR sC 36 10 v pre] ∧ Hid (pre.length ≤ n)) (fun c pre X => False) (thRqStory b1 b2 35 la n lc ++ (boxI B #[.int .i64 s0, .int .i64 s1, .int .i64 s2, .int .i64 s3, .int .i64 s4, .int .i64 s5, .int .i64 s6, .int .i64 s7, .int .i64 s8, .slice sla sms.length slc] 36 :: T')) (pre ++ [⟨⟨s0, s1, s2, s3, s4, s5, s6, s7, s8, sms⟩, sla, slc⟩]) .normal a (w'.setCell ⟨E, 0, none⟩ v')) := hid (by
      intro v' w' s7'
      obtain ⟨g, cap, hv⟩ := s7'.form 0 rfl (by simp)
      refine ⟨g, cap, by simpa using hv, s7'.cell 1 rfl 0, s7'.frozen 1 rfl 0, fun a => ⟨_, ⟨v', rfl, hid (by simp; omega)⟩, ?_⟩⟩
      have s8' := s7'.write 1 rfl 0 v'
      exact s8'.perm (List.Perm.swap _ _ _))
    generalize EndsR o (fun pre X => ∃ v, X = [boxI E #[v] 27, lstR sC 36 10 v pre] ∧ Hid (pre.length ≤ n)) (fun c pre X => False) (thRqStory b1 b2 35 la n lc ++ (boxI B #[.int .i64 s0, .int .i64 s1, .int .i64 s2, .int .i64 s3, .int .i64 s4, .int .i64 s5, .int .i64 s6, .int .i64 s7, .int .i64 s8, .slice sla sms.length slc] 36 :: T')) (pre ++ [⟨⟨s0, s1, s2, s3, s4, s5, s6, s7, s8, sms⟩, sla, slc⟩]) = EN at *
    have HT2 := hid t2
    have HRR := hid hrr
    clear t2 hrr hs hs1 hr hfl hle
    gi_wp2_with (first | simp only [hbs] | (gi_at_builtin; refine wpListIn_appR Try.rowS HT2.out rfl _ _ rfl rfl (some ⟨W'.heap.size, 0, none⟩) 1 1 rfl HRR.out (fun e => by cases e) HN.out ?_; intro v' w' s7'; obtain ⟨g', cap', rfl, k0, kf, hend⟩ := HE.out _ _ s7'; have HEND := hid hend; clear s7' hend))
    exact HEND.out _
  case done =>
    rintro D xs W' rfl ⟨_, ⟨v, rfl, hle⟩, hs⟩
    obtain ⟨va, vc, rfl, -, -, -⟩ := r_rin hs 1 rfl (fun _ => rfl)
    have e0 := hs.cell 0 rfl 0
    have hs1 := (St.move (l := [_, _, _, _, _]) hs 5 rfl [2, 0, 3, 4, 1] (by decide))
    have hd : W'.heap[D]? = some (.deferred (some [])) := hs1.get 0 rfl
    have hP := hid (St.pop (St.pop (St.pop hs1.shutD)))
    clear hs hs1
    gi_wp2
    refine ⟨by simp, .inl ⟨_, _, rfl, run_takeDeferred hd, ?_⟩⟩
    exact ⟨_, by simp [results, Try.f50, go_sem], _, rfl, hP.out⟩
  case stop =>
    rintro D c pre W' _ ⟨_, hf, _⟩
    exact hf.elim
theorem collect_any {o w : World} {R : List It} {la : Option Addr} {n lc : Nat} {L : List Sm} (hl : RIn sC o la n L) (hn : n ≤ 1466015503701) (b1 b2 : Nat) (h : St o (thRqStory b1 b2 35 la n lc ++ R) w) :
    Calls Try.prog 38 #[.func (.func 51) #[] #[.pointer (some ⟨b1, 0, none⟩), .pointer (some ⟨b2, 0, none⟩)]] w fun e w' => ∃ v, e = .returned v ∧ St o (lstR sC 36 10 v (L.filter Sm.commits) :: R) w' := by
  have hA := appendSeq_any hl hn b1 b2 h
  clear h hl
  go_enter Try.func38, Try.ntmps38
  go_wp2_with (go_at_call 50; refine hA.mono ?_; rintro e w2 ⟨v, rfl, s2⟩; have HS2 := hid s2; clear s2)
  go_ret
  exact ⟨_, rfl, HS2.out⟩
set_option maxRecDepth 100000 in
set_option maxHeartbeats 4000000 in
theorem insert_one (v : Value) (f : Value) (w : World) : Calls Try.prog 54 #[v, .int .i64 0, .int .i64 1, f] w fun e w' => e = .returned (.tuple #[]) ∧ w' = w := by
  go_enter Try.func54, Try.ntmps54
  go_wp2
  refine wp_loop_rounds 1 ?_
  simp only [rounds_succ]
  go_wp2
  go_end0
  exact ⟨rfl, rfl⟩
set_option maxRecDepth 100000 in
set_option maxHeartbeats 4000000 in
theorem stable_one (v : Value) (f : Value) (w : World) : Calls Try.prog 52 #[v, .int .i64 1, f] w fun e w' => e = .returned (.tuple #[]) ∧ w' = w := by
  have hI := insert_one v f w
  go_enter Try.func52, Try.ntmps52
  go_wp2
  refine wp_loop_rounds 1 ?_
  simp only [rounds_succ]
  go_wp2_with (go_at_call 54; refine hI.mono ?_; rintro e w2 ⟨rfl, rfl⟩)
  refine wp_loop_rounds 1 ?_
  simp only [rounds_succ]
  go_wp2
  go_end0
  exact ⟨rfl, rfl⟩
theorem sort_one (la : Option Addr) (lc : Nat) (f : Value) (w : World) : Calls Try.prog 40 #[.slice la 1 lc, f] w fun e w' => e = .returned (.tuple #[]) ∧ w' = w := by
  have hI := stable_one (.slice la 1 lc) f w
  go_enter Try.func40, Try.ntmps40
  go_wp2_with (go_at_call 52; refine hI.mono ?_; rintro e w2 ⟨rfl, rfl⟩)
  go_end0
  exact ⟨rfl, rfl⟩
end Go.Proofs.Ytkhbkdabihokjaa
