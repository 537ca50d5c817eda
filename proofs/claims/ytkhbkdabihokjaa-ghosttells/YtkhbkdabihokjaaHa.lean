/- The document's Reads, Writer, Point; samePairs. -/
import Derived.Test.YtkhbkdabihokjaaGj
import Derived.Test.YtkhbkdabihokjaaGk
namespace Go.Proofs.Ytkhbkdabihokjaa
open Go.RowKit Go.Shelf
set_option linter.unusedVariables false
set_option linter.unusedSimpArgs false
attribute [local go_sem ↓] Go.wp_at_zero Go.wp_at_succ

theorem take_nextM {α : Type} {l : List α} {j : Nat} {x : α} (h : l[j]? = some x) : l.take (j + 1) = l.take j ++ [x] := by
  rw [List.take_add_one, h]; rfl
theorem rdM_next {ms : List Mv} {j : Nat} {x : Mv} (h : ms[j]? = some x) : rdM (ms.take (j + 1)) = rdM (ms.take j) ++ (if x.out = true then [(x.ce, x.x)] else []) := by
  rw [take_nextM h]
  unfold rdM
  rw [List.filter_append, List.map_append]
  by_cases e : x.out = true
  · simp [e]
  · simp [e]
set_option maxRecDepth 100000 in
set_option maxHeartbeats 4000000 in
theorem rReads_any {w : World} (m : Sm) (hm : SIn w m) : Calls Try.prog 19 #[syV m] w fun e w' => ∃ v, e = .returned v ∧ St w [lstR pC 57 2 v (rdM m.s.ms)] w' := by
  obtain ⟨hl, hb, hrg⟩ := hm
  obtain ⟨⟨z0, z1, z2, z3, z4, z5, z6, z7, z8, ms⟩, la, lc⟩ := m
  simp only at hl hb hrg
  have a1 := (St.nil w).box #[.int .i64 z0, .int .i64 z1, .int .i64 z2, .int .i64 z3, .int .i64 z4, .int .i64 z5, .int .i64 z6, .int .i64 z7, .int .i64 z8, .slice la ms.length lc] 36
  unfold syV
  simp only
  generalize hw1 : w.alloc (.cells #[.int .i64 z0, .int .i64 z1, .int .i64 z2, .int .i64 z3, .int .i64 z4, .int .i64 z5, .int .i64 z6, .int .i64 z7, .int .i64 z8, .slice la ms.length lc] 36) = w1 at *
  generalize hE : w.heap.size = E at *
  have HL := hid hl
  have hb1 : (ms.length : Int) ≤ 2932031007317 := by omega
  have HA1 := hid a1
  have HS0 := hid (r_nil pC 57 2 a1)
  clear a1 hl hb hrg HA1
  go_enter Try.func19, Try.ntmps19
  go_upto_region 3 with (simp only [hw1, hE])
  go_loopw [3, 4] (fun v i wr => ∃ (j : Nat), i = .int .i64 j ∧ j ≤ ms.length ∧ St w [lstR pC 57 2 v (rdM (ms.take j)), boxI E #[.int .i64 z0, .int .i64 z1, .int .i64 z2, .int .i64 z3, .int .i64 z4, .int .i64 z5, .int .i64 z6, .int .i64 z7, .int .i64 z8, .slice la ms.length lc] 36] wr) (fun _ i _ => ms.length - (intOf i).toNat)
  case atStart => exact ⟨0, rfl, Nat.zero_le _, HS0.out⟩
  case round =>
    clear HS0
    obtain ⟨j, rfl, hj, hs⟩ := hrel
    have c9 := hs.cell 1 rfl 9
    have HS := hid hs
    by_cases hlt : j < ms.length
    · have hlt' : (j : Int) < (ms.length : Int) := by omega
      have hj0 : (0 : Int) ≤ (j : Int) := by omega
      obtain ⟨g, off, rfl⟩ := HL.out.addr (by omega)
      obtain ⟨⟨xst, xwr, xce, xx, xow, xga⟩, hx⟩ : ∃ x, ms[j]? = some x := ⟨_, List.getElem?_eq_getElem hlt⟩
      have HT := hid (rdM_next hx)
      have q := fun i u hu => (HL.out.kept HS.out.same).at (k := 6) (fun _ => rfl) hx i u hu
      have q0 := q 0 _ rfl
      have q1 := q 1 _ rfl
      have q2 := q 2 _ rfl
      have q3 := q 3 _ rfl
      have q4 := q 4 _ rfl
      have q5 := q 5 _ rfl
      rw [Nat.add_zero] at q0
      clear q
      have HJ : Hid (j + 1 ≤ ms.length ∧ ms.length - (j + 1) < ms.length - j) := hid ⟨by omega, by omega⟩
      have HSZ : Hid (((rdM (ms.take j)).length + 1) * 16 ≤ 140737488355328) := hid (by
        unfold rdM
        rw [List.length_map]
        have h1 := List.length_filter_le Mv.out (ms.take j)
        rw [List.length_take] at h1
        omega)
      obtain ⟨va, vc, rfl, -, -, -⟩ := r_rin hs 0 rfl (fun _ => rfl)
      have d9 := (hs.calm (Kept.refl _ _).drew).cell 1 rfl 9
      have r := fun i u hu => (HL.out.kept (HS.out.same.trans (Kept.refl _ _).drew (fun _ _ f => f))).at (k := 6) (fun _ => rfl) hx i u hu
      have r0 := r 0 _ rfl
      have r1 := r 1 _ rfl
      have r2 := r 2 _ rfl
      have r3 := r 3 _ rfl
      have r4 := r 4 _ rfl
      have r5 := r 5 _ rfl
      rw [Nat.add_zero] at r0
      clear r
      clear hs hj hlt
      cases xwr
      · cases xow
        · have HBX := hid (r_box (f := pC) (k := 2) (fun _ => rfl) 57 (HS.out.calm (Kept.refl _ _).drew) (xce, xx) #[.int .i64 xce, .int .i64 xx] rfl)
          have HSX := hid ((HS.out.calm (Kept.refl _ _).drew).calm (kept_alloc wr.drew (.cells #[.int .i64 xce, .int .i64 xx] 57)))
          clear hx
          go_upto_region 6 with fail
          go_region_law (first | (refine step_appR Try.rowP HSX.out (by rfl) _ _ (by rfl) (by rfl) _ 1 1 (by rfl) HBX.out (fun e => by cases e) HSZ.out ?_; intro v1 w1' s1; have HS1 := hid s1; clear s1))
          all_goals
            go_wp2
            go_roundw
            case rel =>
              refine ⟨j + 1, by simp, HJ.out.1, ?_⟩
              rw [HT.out, if_pos (by rfl)]
              exact HS1.out
            case measure => have := HJ.out.2; simp [intOf]; omega
        · clear hx
          go_wp2
          go_roundw
          case rel =>
            refine ⟨j + 1, by simp, HJ.out.1, ?_⟩
            rw [HT.out, if_neg (by simp [Mv.out]), List.append_nil]
            exact HS.out
          case measure => have := HJ.out.2; simp [intOf]; omega
      · clear hx
        go_wp2
        go_roundw
        case rel =>
          refine ⟨j + 1, by simp, HJ.out.1, ?_⟩
          rw [HT.out, if_neg (by simp [Mv.out]), List.append_nil]
          exact HS.out
        case measure => have := HJ.out.2; simp [intOf]; omega
    · have hlt' : ¬ (j : Int) < (ms.length : Int) := by omega
      obtain rfl : j = ms.length := by omega
      rw [List.take_of_length_le (Nat.le_refl _)] at hs
      have HR := hid (St.cut (A := [_]) hs)
      obtain ⟨va, vc, rfl, -, -, -⟩ := r_rin hs 0 rfl (fun _ => rfl)
      clear HS hs hj hlt HL
      go_wp2
      go_ret
      exact ⟨_, rfl, HR.out⟩
end Go.Proofs.Ytkhbkdabihokjaa
