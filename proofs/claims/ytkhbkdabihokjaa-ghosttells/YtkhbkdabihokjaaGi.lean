/- Package ghost: Reads. -/
import Derived.Test.YtkhbkdabihokjaaGh
import Derived.Test.YtkhbkdabihokjaaRg
namespace Go.Proofs.Ytkhbkdabihokjaa
open Go.RowKit Go.Shelf
set_option linter.unusedVariables false
set_option linter.unusedSimpArgs false
attribute [local go_sem ↓] Go.wp_at_zero Go.wp_at_succ
attribute [local go_sem] Oper.semAt_some

/-- A story, its moves in memory. -/
def SIn (w : World) (m : Sm) : Prop := RIn mC w m.la m.s.ms.length m.s.ms ∧ m.s.ms.length ≤ 2932031007317 ∧ ∀ x ∈ m.s.ms, -9223372036854775808 ≤ x.ce ∧ x.ce ≤ 9223372036854775807
def rdM (ms : List Mv) : List Pr := (ms.filter Mv.out).map fun m => (m.ce, m.x)
theorem buildP (W : World) (a b : Int) : (Instr.buildSlice 40 1 #[(0, .agg #[.int .i64 a, .int .i64 b])]).run Try.prog W = .ok (.slice (some ⟨W.heap.size, 0, none⟩) 1 1) (W.alloc (.cells #[.int .i64 a, .int .i64 b] 57)) := by kernel_rfl
set_option maxRecDepth 100000 in
set_option maxHeartbeats 4000000 in
theorem reads_any {w : World} (m : Sm) (hm : SIn w m) : Calls Try.prog 14 #[syV m] w fun e w' => ∃ v, e = .returned v ∧ St w [lstR pC 57 2 v (rdM m.s.ms)] w' := by
  refine (callsIn_wide (n := 9)).1 ?_
  obtain ⟨hl, hb, _⟩ := hm
  obtain ⟨⟨s0, s1, s2, s3, s4, s5, s6, s7, s8, ms⟩, la, lc⟩ := m
  simp only at hl hb
  have a1 := ((St.nil w).box #[.int .i64 s0, .int .i64 s1, .int .i64 s2, .int .i64 s3, .int .i64 s4, .int .i64 s5, .int .i64 s6, .int .i64 s7, .int .i64 s8, .slice la ms.length lc] 36).box #[.slice none 0 0] 40
  rw [alloc_size] at a1
  unfold syV
  simp only
  generalize hw1 : (w.alloc (.cells #[.int .i64 s0, .int .i64 s1, .int .i64 s2, .int .i64 s3, .int .i64 s4, .int .i64 s5, .int .i64 s6, .int .i64 s7, .int .i64 s8, .slice la ms.length lc] 36)).alloc (.cells #[.slice none 0 0] 40) = w1 at *
  generalize hE : w.heap.size = E at *
  have c9 := a1.cell 1 rfl 9
  have hT := thoseMove_any a1 la ms.length lc 33
  have hf1 : Fence.wide.fn 32 := trivial
  refine callsIn_of_wp_marks Try.func14 rfl trivial ?_
  simp only [Try.ntmps14, List.size_toArray, List.length_cons, List.length_nil, Nat.reduceAdd, Nat.reduceSub, Array.replicate_succ, Array.replicate_zero, List.push_toArray, List.append_toArray, List.nil_append, List.cons_append]
  gi_wp2_with (first | simp only [hw1, hE] | (gi_at_call 32; refine (callsIn_wide.2 hT).mono ?_; rintro e w2 ⟨b1, b2, rfl, a2⟩))
  clear c9 hT hw1 a1
  have HSZ : Hid (ms.length ≤ 2932031007317) := hid hb
  refine rf_law2 (o := w) (T := []) (enc := mvV) rfl (enters_of Try.func48 (by kernel_rfl) rfl) (those_looksOut (lc := lc) hl (by omega) b1 b2) rfl
    (fun pre X => ∃ v, X = [boxI (E + 1) #[v] 40, lstR pC 57 2 v (pre.map fun m => (m.ce, m.x)), boxI E #[.int .i64 s0, .int .i64 s1, .int .i64 s2, .int .i64 s3, .int .i64 s4, .int .i64 s5, .int .i64 s6, .int .i64 s7, .int .i64 s8, .slice la ms.length lc] 36] ∧ Hid (pre.length ≤ ms.length))
    (fun c pre X => False)
    ms.length (fun pre X hX => by obtain ⟨v, _, h⟩ := hX; exact h.out) ⟨_, ⟨.slice none 0 0, rfl, hid (by simp)⟩, ?h0⟩
    (fun x => #[.int .i64 x.st, .bool x.wr, .int .i64 x.ce, .int .i64 x.x, .bool x.ow, .int .i64 x.ga]) 38
    (fun x B => { tmps := #[.agg #[.int .i64 s0, .int .i64 s1, .int .i64 s2, .int .i64 s3, .int .i64 s4, .int .i64 s5, .int .i64 s6, .int .i64 s7, .int .i64 s8, .slice la ms.length lc], .pointer (some ⟨E, 0, none⟩), .slice none 0 0, .pointer (some ⟨E + 1, 0, none⟩), .pointer (some ⟨B, 0, none⟩), .pointer (some ⟨E, 9, none⟩), .slice la ms.length lc, .func (.func 48) #[] #[.pointer (some ⟨b1, 0, none⟩), .pointer (some ⟨b2, 0, none⟩)], mvV x, undef, undef, undef, undef, undef, undef, undef, undef, undef], defers := [] })
    ?assign ?round ?done ?stop
  case h0 => exact St.move (l := [_, _, _, _, _]) (T := []) (r_nil pC 57 2 a2) 5 rfl [3, 0, 4, 1, 2] (by decide)
  case assign =>
    intro l' x W' C hC
    gi_wp2
    exact hC
  case round =>
    rintro l' T' pre x B W' ⟨r, hr⟩ ⟨_, ⟨v, rfl, hle⟩, hs⟩
    obtain ⟨xst, xwr, xce, xx, xow, xga⟩ := x
    have hfl : pre.length + 1 ≤ ms.length := by
      have h1 : (pre ++ (⟨xst, xwr, xce, xx, xow, xga⟩ : Mv) :: r).length ≤ ms.length := by rw [hr]; exact List.length_filter_le _ _
      simp only [List.length_append, List.length_cons] at h1
      omega
    obtain ⟨ps, hps⟩ : ∃ ps, ps = pre.map fun m : Mv => (m.ce, m.x) := ⟨_, rfl⟩
    rw [← hps] at hs
    have hpl : ps.length = pre.length := by rw [hps, List.length_map]
    obtain ⟨va, vc, rfl, -, -, -⟩ := r_rin hs 1 rfl (fun _ => rfl)
    have hs1 : St w (lstR pC 57 2 (.slice va ps.length vc) ps :: (boxI (E + 1) #[.slice va ps.length vc] 40 :: boxI E #[.int .i64 s0, .int .i64 s1, .int .i64 s2, .int .i64 s3, .int .i64 s4, .int .i64 s5, .int .i64 s6, .int .i64 s7, .int .i64 s8, .slice la ms.length lc] 36 :: (thRqMove b1 b2 33 la ms.length lc ++ (boxI B #[.int .i64 xst, .bool xwr, .int .i64 xce, .int .i64 xx, .bool xow, .int .i64 xga] 38 :: T')))) W' := hs.perm (List.Perm.swap _ _ _)
    have t2 := hs1.alloc (.cells #[.int .i64 xce, .int .i64 xx] 57)
    have hrr := r_box (f := pC) (k := 2) (fun _ => rfl) 57 hs1 (xce, xx) _ rfl
    have e0 := hs.cell 0 rfl 0
    have e2 := hs.cell 5 rfl 2
    have e3 := hs.cell 5 rfl 3
    have hbs := buildP W' xce xx
    have HN := hid (show (ps.length + 1) * 16 ≤ 140737488355328 by have := HSZ.out; omega)
    have HE : Hid (∀ v' w', St w (lstR pC 57 2 v' (ps ++ [(xce, xx)]) :: (boxI (E + 1) #[.slice va ps.length vc] 40 :: boxI E #[.int .i64 s0, .int .i64 s1, .int .i64 s2, .int .i64 s3, .int .i64 s4, .int .i64 s5, .int .i64 s6, .int .i64 s7, .int .i64 s8, .slice la ms.length lc] 36 :: (thRqMove b1 b2 33 la ms.length lc ++ (boxI B #[.int .i64 xst, .bool xwr, .int .i64 xce, .int .i64 xx, .bool xow, .int .i64 xga] 38 :: T')))) w' → ∃ g cap, v' = .slice (some ⟨g, 0, none⟩) (ps.length + 1) cap ∧ w'.cell? ⟨E + 1, 0, none⟩ = some (.slice va ps.length vc) ∧ w'.frozen? ⟨E + 1, 0, none⟩ = false ∧ ∀ a, EndsR w (fun pre X => ∃ v, X = [boxI (E + 1) #[v] 40, lstR pC 57 2 v (pre.map fun m : Mv => (m.ce, m.x)), boxI E #[.int .i64 s0, .int .i64 s1, .int .i64 s2, .int .i64 s3, .int .i64 s4, .int .i64 s5, .int .i64 s6, .int .i64 s7, .int .i64 s8, .slice la ms.length lc] 36] ∧ Hid (pre.length ≤ ms.length)) (fun c pre X => False) (thRqMove b1 b2 33 la ms.length lc ++ (boxI B #[.int .i64 xst, .bool xwr, .int .i64 xce, .int .i64 xx, .bool xow, .int .i64 xga] 38 :: T')) (pre ++ [⟨xst, xwr, xce, xx, xow, xga⟩]) .normal a (w'.setCell ⟨E + 1, 0, none⟩ v')) := hid (by
      intro v' w' s7
      obtain ⟨g, cap, hv⟩ := s7.form 0 rfl (by simp)
      refine ⟨g, cap, by simpa using hv, s7.cell 1 rfl 0, s7.frozen 1 rfl 0, fun a => ⟨_, ⟨v', rfl, hid (by simp; omega)⟩, ?_⟩⟩
      have s8 := s7.write 1 rfl 0 v'
      rw [List.map_append, ← hps]
      exact s8.perm (List.Perm.swap _ _ _))
    generalize EndsR w (fun pre X => ∃ v, X = [boxI (E + 1) #[v] 40, lstR pC 57 2 v (pre.map fun m : Mv => (m.ce, m.x)), boxI E #[.int .i64 s0, .int .i64 s1, .int .i64 s2, .int .i64 s3, .int .i64 s4, .int .i64 s5, .int .i64 s6, .int .i64 s7, .int .i64 s8, .slice la ms.length lc] 36] ∧ Hid (pre.length ≤ ms.length)) (fun c pre X => False) (thRqMove b1 b2 33 la ms.length lc ++ (boxI B #[.int .i64 xst, .bool xwr, .int .i64 xce, .int .i64 xx, .bool xow, .int .i64 xga] 38 :: T')) (pre ++ [⟨xst, xwr, xce, xx, xow, xga⟩]) = EN at *
    have HT2 := hid t2
    have HRR := hid hrr
    clear t2 hrr hs hs1 hr hfl hps hpl
    gi_wp2_with (first | simp only [hbs] | (gi_at_builtin; refine wpListIn_appR Try.rowP HT2.out rfl _ _ rfl rfl (some ⟨W'.heap.size, 0, none⟩) 1 1 rfl HRR.out (fun e => by cases e) HN.out ?_; intro v' w' s7'; obtain ⟨g', cap', rfl, k0, kf, hend⟩ := HE.out _ _ s7'; have HEND := hid hend; clear s7' hend))
    exact HEND.out _
  case done =>
    rintro D xs W' rfl ⟨_, ⟨v, rfl, hle⟩, hs⟩
    obtain ⟨va, vc, rfl, -, -, -⟩ := r_rin hs 1 rfl (fun _ => rfl)
    have e0 := hs.cell 0 rfl 0
    have hs1 := (St.move (l := [_, _, _, _]) hs 4 rfl [3, 1, 0, 2] (by decide))
    have hd : W'.heap[D]? = some (.deferred (some [])) := hs1.get 0 rfl
    have hP := hid (St.cut (A := [_]) hs1.shutD)
    clear hs hs1
    gi_wp2
    refine ⟨by simp, .inl ⟨_, _, rfl, run_takeDeferred hd, ?_⟩⟩
    exact ⟨_, by simp [results, Try.f14, go_sem], _, rfl, hP.out⟩
  case stop =>
    rintro D c pre W' _ ⟨_, hf, _⟩
    exact hf.elim
end Go.Proofs.Ytkhbkdabihokjaa
