/- Package ghost: end. -/
import Derived.Test.YtkhbkdabihokjaaGb

namespace Go.Proofs.Ytkhbkdabihokjaa
open Go.RowKit Go.MapKept
open Go.Maps (Keyed)
set_option linter.unusedVariables false
set_option linter.unusedSimpArgs false
attribute [local go_sem ↓] Go.wp_at_zero Go.wp_at_succ

/-- A list of stories of the call's own. -/
abbrev sI (g cap : Nat) (L : List Sm) : It := ownI 36 10 (.slice (some ⟨g, 0, none⟩) L.length cap) L.length (fl sC L)
theorem sC_len (m : Sm) : (sC m).length = 10 := rfl
theorem st_cell {o w : World} {its : List It} (h : St o its w) (i : Nat) {g cap : Nat} {L : List Sm} (hi : its[i]? = some (sI g cap L)) {p : Nat} {m : Sm} (hm : L[p]? = some m) (c : Nat) (hc : c < 10) : w.cell? ⟨g, p * 10 + c, none⟩ = (sC m)[c]? ∧ w.frozen? ⟨g, p * 10 + c, none⟩ = false := by
  have hp := (List.getElem?_eq_some_iff.1 hm).1
  exact ⟨(h.ownCell i hi (p * 10 + c) (by omega)).trans (fl_at (k := 10) sC_len L p c m hc hm), h.ownFrozen i hi _⟩
theorem st_turn {o w : World} {its : List It} (h : St o its w) (i : Nat) {g cap : Nat} {L : List Sm} (hi : its[i]? = some (sI g cap L)) {p : Nat} {m : Sm} (hm : L[p]? = some m) (m' : Sm) (c : Nat) (hc : c < 10) (u : Value) (he : sC m' = (sC m).set c u) : St o (its.set i (sI g cap (L.set p m'))) (w.setCell ⟨g, p * 10 + c, none⟩ u) ∧ (L.set p m')[p]? = some m' ∧ (its.set i (sI g cap (L.set p m')))[i]? = some (sI g cap (L.set p m')) := by
  have hp := (List.getElem?_eq_some_iff.1 hm).1
  refine ⟨?_, by simp [hp], set_self hi⟩
  have := r_set (f := sC) (k := 10) sC_len h i hi rfl hm c hc u he
  simpa [sI] using this
set_option maxRecDepth 100000 in
set_option maxHeartbeats 4000000 in
theorem end_any {o w : World} {its : List It} (h : St o its w) (i : Nat) {g cap : Nat} {L : List Sm} (hi : its[i]? = some (sI g cap L)) {p : Nat} {m : Sm} (hm : L[p]? = some m) (v : Ev) :
    Calls Try.prog 47 #[.pointer (some ⟨g, p * 10, none⟩), evV v] w fun e w' => e = .returned (.tuple #[]) ∧ St o (its.set i (sI g cap (L.set p { m with s := m.s.ended v }))) w' := by
  obtain ⟨kd, sv, th, sp, ce, x, ow, ga, er, by_⟩ := v
  obtain ⟨⟨th', sp', bg, en, ft, e', by', op', ga', ms⟩, la, lc⟩ := m
  have s1 := h.box #[.int .i64 kd, .int .i64 sv, .int .i64 th, .int .i64 sp, .int .i64 ce, .int .i64 x, .bool ow, .int .i64 ga, .int .i64 er, .int .i64 by_] 26
  have hi1 : (boxI w.heap.size #[.int .i64 kd, .int .i64 sv, .int .i64 th, .int .i64 sp, .int .i64 ce, .int .i64 x, .bool ow, .int .i64 ga, .int .i64 er, .int .i64 by_] 26 :: its)[i + 1]? = some (sI g cap L) := by simpa using hi
  generalize hw1 : w.alloc (.cells #[.int .i64 kd, .int .i64 sv, .int .i64 th, .int .i64 sp, .int .i64 ce, .int .i64 x, .bool ow, .int .i64 ga, .int .i64 er, .int .i64 by_] 26) = w1 at *
  generalize hE : w.heap.size = E at *
  have c0 := s1.cell 0 rfl 0
  have c1 := s1.cell 0 rfl 1
  have hne : g ≠ E := s1.ne (i + 1) 0 hi1 rfl (by omega) (by simp [ownI, Value.ownBlock]) (by simp [boxI])
  obtain ⟨d3, f3⟩ := st_cell s1 (i + 1) hi1 hm 3 (by omega)
  obtain ⟨s2, hm2, hi2⟩ := st_turn s1 (i + 1) hi1 hm ⟨⟨th', sp', bg, sv, ft, e', by', op', ga', ms⟩, la, lc⟩ 3 (by omega) (.int .i64 sv) rfl
  simp only [sC, List.getElem?_cons_succ, List.getElem?_cons_zero] at d3
  have HS2 := hid s2
  clear s1 s2 h
  unfold evV
  simp only
  go_enter Try.func47, Try.ntmps47
  go_upto_region 2 with (simp only [hw1, hE])
  clear hw1 c0 c1 d3 f3
  generalize w1.setCell ⟨g, p * 10 + 3, none⟩ (.int .i64 sv) = w2 at *
  have s2 := HS2.out
  clear HS2
  simp only [List.set_cons_succ] at s2 hi2
  have FH : Hid (∀ {B' : List It} (W : World), St o (boxI E #[.int .i64 kd, .int .i64 sv, .int .i64 th, .int .i64 sp, .int .i64 ce, .int .i64 x, .bool ow, .int .i64 ga, .int .i64 er, .int .i64 by_] 26 :: B') W → W.cell? ⟨E, 0, none⟩ = some (.int .i64 kd) ∧ W.cell? ⟨E, 7, none⟩ = some (.int .i64 ga) ∧ W.cell? ⟨E, 8, none⟩ = some (.int .i64 er) ∧ W.cell? ⟨E, 9, none⟩ = some (.int .i64 by_)) := hid (fun W hs => ⟨hs.cell 0 rfl 0, hs.cell 0 rfl 7, hs.cell 0 rfl 8, hs.cell 0 rfl 9⟩)
  obtain ⟨c0', _, _, _⟩ := FH.out _ s2
  obtain ⟨_, c7, c8, c9⟩ := FH.out _ s2.drew
  by_cases h4 : kd = 4
  · subst h4
    obtain ⟨d4, f4⟩ := st_cell s2.drew (i + 1) hi2 hm2 4 (by omega)
    simp only [sC, List.getElem?_cons_succ, List.getElem?_cons_zero] at d4
    obtain ⟨s3, hm3, hi3⟩ := st_turn s2 (i + 1) hi2 hm2 ⟨⟨th', sp', bg, sv, 1, e', by', op', ga', ms⟩, la, lc⟩ 4 (by omega) (.int .i64 1) rfl
    simp only [List.set_cons_succ] at s3 hi3
    obtain ⟨d8, f8⟩ := st_cell s3.drew (i + 1) hi3 hm3 8 (by omega)
    simp only [sC, List.getElem?_cons_succ, List.getElem?_cons_zero] at d8
    obtain ⟨s4, hm4, hi4⟩ := st_turn s3 (i + 1) hi3 hm3 ⟨⟨th', sp', bg, sv, 1, e', by', op', ga, ms⟩, la, lc⟩ 8 (by omega) (.int .i64 ga) rfl
    simp only [List.set_cons_succ, List.set_set] at s4 hi4 hm4
    obtain ⟨_, c7', c8', _⟩ := FH.out _ s3.drew
    have HS4 := hid s4.pop.drew
    clear s2 s3 s4 FH
    go_upto_region 3 with fail
    go_region
    go_wp2
    exact bodyPost_ret (v := .tuple #[]) (by simp [results, Try.f47, go_sem]) rfl ⟨rfl, HS4.out⟩
  · have t4 : (kd == 4) = false := by simpa using h4
    have HX := hid h4
    obtain ⟨d4, f4⟩ := st_cell s2.drew (i + 1) hi2 hm2 4 (by omega)
    simp only [sC, List.getElem?_cons_succ, List.getElem?_cons_zero] at d4
    obtain ⟨s3, hm3, hi3⟩ := st_turn s2 (i + 1) hi2 hm2 ⟨⟨th', sp', bg, sv, 2, e', by', op', ga', ms⟩, la, lc⟩ 4 (by omega) (.int .i64 2) rfl
    simp only [List.set_cons_succ] at s3 hi3
    obtain ⟨d8, f8⟩ := st_cell s3.drew (i + 1) hi3 hm3 5 (by omega)
    simp only [sC, List.getElem?_cons_succ, List.getElem?_cons_zero] at d8
    obtain ⟨s4, hm4, hi4⟩ := st_turn s3 (i + 1) hi3 hm3 ⟨⟨th', sp', bg, sv, 2, er, by', op', ga', ms⟩, la, lc⟩ 5 (by omega) (.int .i64 er) rfl
    simp only [List.set_cons_succ, List.set_set] at s4 hi4 hm4
    obtain ⟨_, c7', c8', _⟩ := FH.out _ s3.drew
    have HS4 := hid s4.drew
    clear s2 s3 s4
    go_upto_region 4 with fail
    go_region
    go_upto_region 5 with fail
    clear c0' c7 c8 c9 c7' c8' d4 d8 f4 f8
    generalize ((w2.setCell ⟨g, p * 10 + 4, none⟩ (.int .i64 2)).setCell ⟨g, p * 10 + 5, none⟩ (.int .i64 er)).drew = w5 at *
    obtain ⟨_, _, e8, e9⟩ := FH.out _ HS4.out
    by_cases h7 : er = 7
    · subst h7
      obtain ⟨d6, f6⟩ := st_cell HS4.out (i + 1) hi4 hm4 6 (by omega)
      simp only [sC, List.getElem?_cons_succ, List.getElem?_cons_zero] at d6
      obtain ⟨s6, hm6, hi6⟩ := st_turn HS4.out (i + 1) hi4 hm4 ⟨⟨th', sp', bg, sv, 2, 7, by_, op', ga', ms⟩, la, lc⟩ 6 (by omega) (.int .i64 by_) rfl
      simp only [List.set_cons_succ, List.set_set] at s6
      have HS6 := hid s6.pop
      clear HS4 s6 FH h4
      go_wp2
      go_end0
      exact ⟨rfl, by simpa [Sy.ended, HX.out] using HS6.out⟩
    · have t7 : (er == 7) = false := by simpa using h7
      have HS6 := hid HS4.out.pop
      clear HS4 FH
      go_wp2
      go_end0
      exact ⟨rfl, by simpa [Sy.ended, h7, HX.out] using HS6.out⟩
end Go.Proofs.Ytkhbkdabihokjaa
