/- The head of all statements: the chapter's example. -/
import Derived.Test.YtkhbkdabihokjaaGp
import Derived.Test.YtkhbkdabihokjaaGl
namespace Go.Proofs.Ytkhbkdabihokjaa
open Go.RowKit Go.Shelf
set_option linter.unusedVariables false
set_option linter.unusedSimpArgs false
attribute [local go_sem ↓] Go.wp_at_zero Go.wp_at_succ

def exF : List Ev := [⟨1, 1, 1, 1, 0, 0, false, 0, 0, 0⟩, ⟨6, 2, 1, 1, 0, 0, false, 0, 0, 0⟩]
abbrev exM (g c : Nat) : Sm := ⟨exS, some ⟨g, 0, none⟩, c⟩
abbrev exC (g c : Nat) : Array Value := #[.int .i64 1, .int .i64 1, .int .i64 1, .int .i64 5, .int .i64 1, .int .i64 0, .int .i64 0, .int .i64 2, .int .i64 5, .slice (some ⟨g, 0, none⟩) 3 c]
theorem ex_sin {o w : World} {its : List It} {g c : Nat} (h : St o its w) (i : Nat) (hi : its[i]? = some (lstR mC 38 6 (.slice (some ⟨g, 0, none⟩) 3 c) exS.ms)) : SIn w (exM g c) :=
  ⟨st_rin h i hi rfl (fun _ => rfl), by show 3 ≤ _; omega, by simp [exS]⟩
theorem buildE2 (W : World) : (Instr.buildSlice 23 2 #[(0, evV ⟨1, 1, 1, 1, 0, 0, false, 0, 0, 0⟩), (1, evV ⟨6, 2, 1, 1, 0, 0, false, 0, 0, 0⟩)]).run Try.prog W = .ok (.slice (some ⟨W.heap.size, 0, none⟩) 2 2) (W.alloc (.cells (fl eC exF).toArray 26)) := by kernel_rfl
theorem buildM3 (W : World) : (Instr.buildSlice 34 3 #[(0, mvV ⟨2, false, 3, 7, false, 4⟩), (1, mvV ⟨3, true, 3, 8, false, 0⟩), (2, mvV ⟨4, false, 3, 8, true, 0⟩)]).run Try.prog W = .ok (.slice (some ⟨W.heap.size, 0, none⟩) 3 3) (W.alloc (.cells (fl mC exS.ms).toArray 38)) := by kernel_rfl
theorem buildX4 (W : World) : (Instr.buildSlice 46 4 #[(0, .int .i64 0), (1, .int .i64 0), (2, .int .i64 0), (3, .int .i64 7)]).run Try.prog W = .ok (.slice (some ⟨W.heap.size, 0, none⟩) 4 4) (W.alloc (.cells #[.int .i64 0, .int .i64 0, .int .i64 0, .int .i64 7] 2)) := by kernel_rfl
theorem one_of_map {α β : Type} {f : α → β} {L : List α} {b : β} (h : L.map f = [b]) : ∃ a, L = [a] ∧ f a = b := by
  cases L with
  | nil => simp at h
  | cons a r =>
    simp only [List.map_cons, List.cons.injEq, List.map_eq_nil_iff] at h
    obtain ⟨h1, rfl⟩ := h
    exact ⟨a, rfl, h1⟩
theorem ex_build {o W : World} {la : Option Addr} (h : St o [lstR eC 26 10 (.slice la 5 5) exE] W) : Calls Try.prog 11 #[.slice la 5 5] W fun e w' => ∃ g cap mg mc, e = .returned (.tuple #[.slice (some ⟨g, 0, none⟩) 1 cap, .int .i64 0, .int .i64 0]) ∧ St o [lstR sC 36 10 (.slice (some ⟨g, 0, none⟩) 1 cap) [exM mg mc], lstR mC 38 6 (.slice (some ⟨mg, 0, none⟩) 3 mc) exS.ms] w' := by
  refine (build_any (st_rin h 0 rfl rfl (fun _ => rfl)) (by decide)).mono ?_
  rintro e w' ⟨sv, L, rfl, hL, s⟩
  rw [ex_built.1] at hL
  obtain ⟨⟨s1, mla, mc⟩, rfl, e1⟩ := one_of_map hL
  simp only at e1
  subst e1
  obtain ⟨g, cap, rfl⟩ := s.form 0 rfl (by simp)
  obtain ⟨mg, mc', e2⟩ := s.form 1 rfl (by simp [exS])
  simp only [Value.slice.injEq, true_and] at e2
  obtain ⟨rfl, rfl⟩ := e2
  rw [ex_built.2.1, ex_built.2.2]
  exact ⟨g, cap, mg, _, rfl, s.base h.same⟩
theorem ex_build2 {o W : World} {its : List It} (h : St o its W) : Calls Try.prog 11 #[.slice (some ⟨W.heap.size, 0, none⟩) 2 2] (W.alloc (.cells (fl eC exF).toArray 26)) fun e w' => ∃ sv, e = .returned (.tuple #[sv, .int .i64 1, .int .i64 210]) ∧ St o its w' := by
  have s1 := r_new (f := eC) (k := 10) (fun _ => rfl) 26 h exF (by unfold maxLen; decide)
  refine (build_any (st_rin s1 0 rfl rfl (fun _ => rfl)) (by decide)).mono ?_
  rintro e w' ⟨sv, L, rfl, hL, s⟩
  rw [show outP exF = 1 from ex_slots.1, show outE exF = 210 from ex_slots.2]
  exact ⟨sv, rfl, (s1.calm s.same).pop⟩
theorem ex_reads {o W : World} {its : List It} {K c : Nat} (h : St o its W) (hm : SIn W (exM K c)) : Calls Try.prog 14 #[.agg (exC K c)] W fun e w' => ∃ g d, e = .returned (.slice (some ⟨g, 0, none⟩) 1 d) ∧ St o (lstR pC 57 2 (.slice (some ⟨g, 0, none⟩) 1 d) [(3, 7)] :: its) w' := by
  refine (reads_any (exM K c) hm).mono ?_
  rintro e w' ⟨v, rfl, s⟩
  rw [show rdM (exM K c).s.ms = [(3, 7)] from ex_told.1] at s
  have h2 := h.over s
  obtain ⟨g, d, rfl⟩ := h2.form 0 rfl (by simp)
  exact ⟨g, d, rfl, h2⟩
theorem ex_writes {o W : World} {its : List It} {K c : Nat} (h : St o its W) (hm : SIn W (exM K c)) : Calls Try.prog 15 #[.agg (exC K c)] W fun e w' => ∃ g d, e = .returned (.slice (some ⟨g, 0, none⟩) 1 d) ∧ St o (lstR pC 57 2 (.slice (some ⟨g, 0, none⟩) 1 d) [(3, 8)] :: its) w' := by
  refine (writes_all (exM K c) hm).mono ?_
  rintro e w' ⟨v, rfl, s⟩
  rw [show wrM (exM K c).s.ms = [(3, 8)] from ex_told.2.1] at s
  have h2 := h.over s
  obtain ⟨g, d, rfl⟩ := h2.form 0 rfl (by simp)
  exact ⟨g, d, rfl, h2⟩
theorem ex_point {o W : World} {its : List It} {K c : Nat} (h : St o its W) (hm : SIn W (exM K c)) : Calls Try.prog 16 #[.agg (exC K c)] W fun e w' => e = .returned (.tuple #[.int .i64 5, .int .i64 5]) ∧ St o its w' := by
  refine (point_yes (exM K c) hm ⟨rfl, rfl⟩).mono ?_
  rintro e w' ⟨rfl, k⟩
  rw [show pointM (exM K c).s = (5, 5) from ex_told.2.2]
  exact ⟨rfl, h.calm k⟩
theorem ex_final {o W : World} {its : List It} {mg mc cap g : Nat} (h : St o its W) (hl : RIn sC W (some ⟨g, 0, none⟩) 1 [exM mg mc]) (hm : SIn W (exM mg mc)) : Calls Try.prog 21 #[.slice (some ⟨W.heap.size, 0, none⟩) 4 4, .slice (some ⟨g, 0, none⟩) 1 cap] (W.alloc (.cells #[.int .i64 0, .int .i64 0, .int .i64 0, .int .i64 7] 2)) fun e w' => ∃ g, e = .returned (.slice (some ⟨g, 0, none⟩) 4 4) ∧ St o (boxI g #[.int .i64 0, .int .i64 0, .int .i64 0, .int .i64 8] 2 :: its) w' := by
  have s1 := h.box #[.int .i64 0, .int .i64 0, .int .i64 0, .int .i64 7] 2
  have ka := kept_alloc W (.cells #[.int .i64 0, .int .i64 0, .int .i64 0, .int .i64 7] 2)
  refine (final_one (s1.cell 0 rfl 0) (s1.cell 0 rfl 1) (s1.cell 0 rfl 2) (s1.cell 0 rfl 3) (hl.kept ka) ⟨hm.1.kept ka, hm.2⟩ rfl ex_told.2.1).mono ?_
  rintro e w' ⟨g, rfl, s⟩
  exact ⟨g, rfl, (s1.pop).over s⟩
theorem ex_count {o W : World} {its : List It} {mg mc cap g : Nat} (h : St o its W) (hl : RIn sC W (some ⟨g, 0, none⟩) 1 [exM mg mc]) : Calls Try.prog 24 #[.slice (some ⟨g, 0, none⟩) 1 cap] W fun e w' => e = .returned (.agg #[.int .i64 0, .int .i64 1, .int .i64 0, .int .i64 0]) ∧ St o its w' := by
  refine (count_any hl (by omega)).mono ?_
  rintro e w' ⟨rfl, k⟩
  exact ⟨rfl, h.calm k⟩
set_option maxRecDepth 100000 in
set_option maxHeartbeats 4000000 in
theorem awake_any (w : World) : Calls Try.prog 9 #[] w fun e w' => e = .returned (.bool true) ∧ Kept (fun _ => False) w w' := by
  have hr := run_any w
  have hb2 := buildE2
  have hb3 := buildM3
  have hb4 := buildX4
  go_enter Try.func9, Try.ntmps9
  go_upto_region 2 with (first | (go_at_call 27; refine hr.mono ?_; rintro e w1 ⟨la, rfl, s1⟩; have hB := ex_build s1; clear s1 hr) | (go_at_call 11; refine hB.mono ?_; rintro e w2 ⟨g, cap, mg, mc, rfl, s2⟩; clear hB))
  have hB := ex_build2 s2
  clear s2
  go_upto_region 3 with (first | simp only [hb2] | (go_at_call 11; refine hB.mono ?_; rintro e w3 ⟨sv, rfl, s3⟩; clear hB))
  clear hb2
  go_upto_region 5 with fail
  have s4 := (r_new (f := mC) (k := 6) (fun _ => rfl) 38 s3 exS.ms (by unfold maxLen; decide)).box (exC w3.heap.size 3) 36
  rw [show (fl mC exS.ms).toArray = #[.int .i64 2, .bool false, .int .i64 3, .int .i64 7, .bool false, .int .i64 4, .int .i64 3, .bool true, .int .i64 3, .int .i64 8, .bool false, .int .i64 0, .int .i64 4, .bool false, .int .i64 3, .int .i64 8, .bool true, .int .i64 0] from rfl] at s4
  simp only [alloc_size] at s4
  generalize hw4 : (w3.alloc (.cells #[.int .i64 2, .bool false, .int .i64 3, .int .i64 7, .bool false, .int .i64 4, .int .i64 3, .bool true, .int .i64 3, .int .i64 8, .bool false, .int .i64 0, .int .i64 4, .bool false, .int .i64 3, .int .i64 8, .bool true, .int .i64 0] 38)).alloc (.cells (exC w3.heap.size 3) 36) = w4 at *
  generalize hK : w3.heap.size = K at *
  go_upto_region 6 with (first | simp only [hK] | simp only [hw4])
  clear s3 hw4 hb3
  obtain ⟨P, HPP⟩ : ∃ P : World → Prop, Hid (∀ W, P W ↔ St w [boxI (K + 1) (exC K 3) 36, lstR mC 38 6 (.slice (some ⟨K, 0, none⟩) 3 3) exS.ms, lstR sC 36 10 (.slice (some ⟨g, 0, none⟩) 1 cap) [exM mg mc], lstR mC 38 6 (.slice (some ⟨mg, 0, none⟩) 3 mc) exS.ms] W) := ⟨_, hid (fun W => Iff.rfl)⟩
  have hD := (HPP.out w4.drew).2 (s4.calm (Kept.refl _ _).drew)
  have CH : Hid (∀ W, P W → W.cell? ⟨g, 0, none⟩ = some (.int .i64 1) ∧ W.cell? ⟨g, 1, none⟩ = some (.int .i64 1) ∧ W.cell? ⟨g, 2, none⟩ = some (.int .i64 1) ∧ W.cell? ⟨g, 3, none⟩ = some (.int .i64 5) ∧ W.cell? ⟨g, 4, none⟩ = some (.int .i64 1) ∧ W.cell? ⟨g, 5, none⟩ = some (.int .i64 0) ∧ W.cell? ⟨g, 6, none⟩ = some (.int .i64 0) ∧ W.cell? ⟨g, 7, none⟩ = some (.int .i64 2) ∧ W.cell? ⟨g, 8, none⟩ = some (.int .i64 5) ∧ W.cell? ⟨g, 9, none⟩ = some (.slice (some ⟨mg, 0, none⟩) 3 mc) ∧ W.cell? ⟨K + 1, 0, none⟩ = some (.int .i64 1) ∧ W.cell? ⟨K + 1, 1, none⟩ = some (.int .i64 1) ∧ W.cell? ⟨K + 1, 2, none⟩ = some (.int .i64 1) ∧ W.cell? ⟨K + 1, 3, none⟩ = some (.int .i64 5) ∧ W.cell? ⟨K + 1, 4, none⟩ = some (.int .i64 1) ∧ W.cell? ⟨K + 1, 5, none⟩ = some (.int .i64 0) ∧ W.cell? ⟨K + 1, 6, none⟩ = some (.int .i64 0) ∧ W.cell? ⟨K + 1, 7, none⟩ = some (.int .i64 2) ∧ W.cell? ⟨K + 1, 8, none⟩ = some (.int .i64 5) ∧ W.cell? ⟨K + 1, 9, none⟩ = some (.slice (some ⟨K, 0, none⟩) 3 3) ∧ P W) := hid (fun W h => by
    have s := (HPP.out W).1 h
    have c := fun j => s.cell 0 rfl j
    have q := fun i u hu => (st_rin s 2 rfl rfl sC_len).at (k := 10) sC_len (j := 0) (x := exM mg mc) rfl i u hu
    have q' : ∀ i u, (sC (exM mg mc))[i]? = some u → W.cell? ⟨g, i, none⟩ = some u := fun i u hu => by
      have := q i u hu
      rwa [Nat.zero_mul, Nat.zero_add] at this
    exact ⟨q' 0 _ rfl, q' 1 _ rfl, q' 2 _ rfl, q' 3 _ rfl, q' 4 _ rfl, q' 5 _ rfl, q' 6 _ rfl, q' 7 _ rfl, q' 8 _ rfl, q' 9 _ rfl, c 0, c 1, c 2, c 3, c 4, c 5, c 6, c 7, c 8, c 9, h⟩)
  have CS : Hid (∀ W, P W → Calls Try.prog 28 #[.agg (exC mg mc), .agg (exC K 3)] W fun e w' => e = .returned (.bool true) ∧ P w') := hid (fun W h => by
    have s := (HPP.out W).1 h
    refine (same_eq exS (some ⟨mg, 0, none⟩) (some ⟨K, 0, none⟩) mc 3 (st_rin s 3 rfl rfl (fun _ => rfl)) (st_rin s 1 rfl rfl (fun _ => rfl)) (by show 3 ≤ _; omega)).mono ?_
    rintro e w' ⟨rfl, k⟩
    exact ⟨rfl, (HPP.out w').2 (s.calm k)⟩)
  clear s4
  obtain ⟨c0, c1, c2, c3, c4, c5, c6, c7, c8, c9, d0, d1, d2, d3, d4, d5, d6, d7, d8, d9, _⟩ := CH.out _ hD
  go_region_held3 (fun W => W.cell? ⟨g, 0, none⟩ = some (.int .i64 1) ∧ W.cell? ⟨g, 1, none⟩ = some (.int .i64 1) ∧ W.cell? ⟨g, 2, none⟩ = some (.int .i64 1) ∧ W.cell? ⟨g, 3, none⟩ = some (.int .i64 5) ∧ W.cell? ⟨g, 4, none⟩ = some (.int .i64 1) ∧ W.cell? ⟨g, 5, none⟩ = some (.int .i64 0) ∧ W.cell? ⟨g, 6, none⟩ = some (.int .i64 0) ∧ W.cell? ⟨g, 7, none⟩ = some (.int .i64 2) ∧ W.cell? ⟨g, 8, none⟩ = some (.int .i64 5) ∧ W.cell? ⟨g, 9, none⟩ = some (.slice (some ⟨mg, 0, none⟩) 3 mc) ∧ W.cell? ⟨K + 1, 0, none⟩ = some (.int .i64 1) ∧ W.cell? ⟨K + 1, 1, none⟩ = some (.int .i64 1) ∧ W.cell? ⟨K + 1, 2, none⟩ = some (.int .i64 1) ∧ W.cell? ⟨K + 1, 3, none⟩ = some (.int .i64 5) ∧ W.cell? ⟨K + 1, 4, none⟩ = some (.int .i64 1) ∧ W.cell? ⟨K + 1, 5, none⟩ = some (.int .i64 0) ∧ W.cell? ⟨K + 1, 6, none⟩ = some (.int .i64 0) ∧ W.cell? ⟨K + 1, 7, none⟩ = some (.int .i64 2) ∧ W.cell? ⟨K + 1, 8, none⟩ = some (.int .i64 5) ∧ W.cell? ⟨K + 1, 9, none⟩ = some (.slice (some ⟨K, 0, none⟩) 3 3) ∧ P W) (first | exact CH.out _ hD) (first | (go_at_call 28; refine (CS.out _ hD).mono ?_; rintro e wx ⟨rfl, hD⟩))
  have s5 := (HPP.out _).1 hD
  have hR := ex_reads s5 (ex_sin s5 1 rfl)
  clear CS CH HPP c0 c1 c2 c3 c4 c5 c6 c7 c8 c9 d0 d1 d2 d3 d4 d5 d6 d7 d8 d9 hD
  have z := fun j => s5.cell 0 rfl j
  have z0 := z 0
  have z1 := z 1
  have z2 := z 2
  have z3 := z 3
  have z4 := z 4
  have z5 := z 5
  have z6 := z 6
  have z7 := z 7
  have z8 := z 8
  have z9 := z 9
  clear z s5
  go_upto_region 8 with (first | (go_at_call 14; refine hR.mono ?_; rintro e w6 ⟨rg, rd, rfl, s6⟩))
  have hR := ex_writes s6 (ex_sin s6 2 rfl)
  have z := fun j => s6.cell 1 rfl j
  clear z0 z1 z2 z3 z4 z5 z6 z7 z8 z9
  have z0 := z 0
  have z1 := z 1
  have z2 := z 2
  have z3 := z 3
  have z4 := z 4
  have z5 := z 5
  have z6 := z 6
  have z7 := z 7
  have z8 := z 8
  have z9 := z 9
  clear z s6
  go_upto_region 9 with (first | (go_at_call 15; refine hR.mono ?_; rintro e w7 ⟨wg, wd, rfl, s7⟩))
  have hR := ex_point s7 (ex_sin s7 3 rfl)
  have z := fun j => s7.cell 2 rfl j
  clear z0 z1 z2 z3 z4 z5 z6 z7 z8 z9
  have z0 := z 0
  have z1 := z 1
  have z2 := z 2
  have z3 := z 3
  have z4 := z 4
  have z5 := z 5
  have z6 := z 6
  have z7 := z 7
  have z8 := z 8
  have z9 := z 9
  clear z s7
  go_upto_region 10 with (first | (go_at_call 16; refine hR.mono ?_; rintro e w8 ⟨rfl, s8⟩))
  have hR := ex_final (cap := cap) s8 (st_rin s8 4 rfl rfl sC_len) (ex_sin s8 5 rfl)
  clear z0 z1 z2 z3 z4 z5 z6 z7 z8 z9 s8
  go_upto_region 11 with (first | simp only [hb4] | (go_at_call 21; refine hR.mono ?_; rintro e w9 ⟨fg, rfl, s9⟩))
  have hR := ex_count (cap := cap) s9 (st_rin s9 5 rfl rfl sC_len)
  clear s9 hb4
  go_upto_region 12 with (first | (go_at_call 24; refine hR.mono ?_; rintro e wa ⟨rfl, sa⟩))
  have sb := sa.box #[.int .i64 0, .int .i64 1, .int .i64 0, .int .i64 0] 50
  generalize hwb : wa.alloc (.cells #[.int .i64 0, .int .i64 1, .int .i64 0, .int .i64 0] 50) = wb at *
  generalize hT : wa.heap.size = T at *
  have f3 := sb.cell 1 rfl 3
  have t0 := sb.cell 0 rfl 0
  have t1 := sb.cell 0 rfl 1
  have t2 := sb.cell 0 rfl 2
  have t3 := sb.cell 0 rfl 3
  have qr := fun i u hu => (st_rin sb 3 rfl rfl (fun _ => rfl)).at (f := pC) (k := 2) (fun _ => rfl) (j := 0) (x := ((3 : Int), (7 : Int))) rfl i u hu
  have qw := fun i u hu => (st_rin sb 2 rfl rfl (fun _ => rfl)).at (f := pC) (k := 2) (fun _ => rfl) (j := 0) (x := ((3 : Int), (8 : Int))) rfl i u hu
  have r0 := qr 0 _ rfl
  have r1 := qr 1 _ rfl
  have v0 := qw 0 _ rfl
  have v1 := qw 1 _ rfl
  simp only [Nat.zero_mul, Nat.zero_add] at r0 r1 v0 v1
  have HK := hid sb.same
  clear qr qw hR sa sb hwb
  go_wp2
  go_ret
  exact ⟨rfl, HK.out⟩
end Go.Proofs.Ytkhbkdabihokjaa
