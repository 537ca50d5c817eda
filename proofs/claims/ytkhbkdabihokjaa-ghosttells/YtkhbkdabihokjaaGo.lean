/- Package ghost: Final at the example: one story. -/
import Derived.Test.YtkhbkdabihokjaaGn
import Derived.Laws.CopyOwn
import Derived.LoopN
namespace Go.Proofs.Ytkhbkdabihokjaa
open Go.RowKit Go.Shelf
set_option linter.unusedVariables false
set_option linter.unusedSimpArgs false
attribute [local go_sem ↓] Go.wp_at_zero Go.wp_at_succ
attribute [local go_sem] Oper.semAt_some

theorem sizeX : (Try.prog.info? 2).map (·.size) = some 1 := by kernel_rfl
theorem make4 (W : World) : (Instr.makeSlice 46 (.int .i64 4) (.int .i64 4)).run Try.prog W = .ok (.slice (some ⟨W.heap.size, 0, none⟩) 4 4) (W.alloc (.cells #[.int .i64 0, .int .i64 0, .int .i64 0, .int .i64 0] 2)) := by kernel_rfl
theorem copy4 (w : World) (S : Nat) (h0 : w.cell? ⟨S, 0, none⟩ = some (.int .i64 0)) (h1 : w.cell? ⟨S, 1, none⟩ = some (.int .i64 0)) (h2 : w.cell? ⟨S, 2, none⟩ = some (.int .i64 0)) (h3 : w.cell? ⟨S, 3, none⟩ = some (.int .i64 7)) :
    ∃ w', (Builtin.copy_ #[46, 46] 3 #[.slice (some ⟨w.heap.size, 0, none⟩) 4 4, .slice (some ⟨S, 0, none⟩) 4 4]).run Try.prog (w.alloc (.cells #[.int .i64 0, .int .i64 0, .int .i64 0, .int .i64 0] 2)) = .ok (goInt 4) w' ∧ St w [boxI w.heap.size #[.int .i64 0, .int .i64 0, .int .i64 0, .int .i64 7] 2] w' := by
  have s0 := (St.nil w).box #[.int .i64 0, .int .i64 0, .int .i64 0, .int .i64 0] 2
  have hrun := run_copy_row (P := Try.prog) (w.alloc (.cells #[.int .i64 0, .int .i64 0, .int .i64 0, .int .i64 0] 2)) 46 46 3 2 w.heap.size 0 4 4 ⟨S, 0, none⟩ 4 4 #[.int .i64 0, .int .i64 0, .int .i64 0, .int .i64 0] 2 [.int .i64 0, .int .i64 0, .int .i64 0, .int .i64 7] Try.underlying46 sizeX (heap_alloc_new w _) rfl (fun j v hj => by
    rw [Addr.add_lit, Nat.zero_add]
    match j, hj with
    | 0, hj => simp only [List.getElem?_cons_zero, Option.some.injEq] at hj; subst hj; exact alloc_cell h0 _
    | 1, hj => simp only [List.getElem?_cons_succ, List.getElem?_cons_zero, Option.some.injEq] at hj; subst hj; exact alloc_cell h1 _
    | 2, hj => simp only [List.getElem?_cons_succ, List.getElem?_cons_zero, Option.some.injEq] at hj; subst hj; exact alloc_cell h2 _
    | 3, hj => simp only [List.getElem?_cons_succ, List.getElem?_cons_zero, Option.some.injEq] at hj; subst hj; exact alloc_cell h3 _
    | n + 4, hj => simp at hj) (by simp) (by simp [Value.oneCell'])
  refine ⟨_, hrun, ?_⟩
  exact s0.set 0 rfl (A' := boxI w.heap.size #[.int .i64 0, .int .i64 0, .int .i64 0, .int .i64 7] 2) ⟨rfl, rfl, rfl, by simp [World.setRow], fun b _ hb => setRow_other _ _ _ _ (by simpa [boxI] using hb)⟩ (setRow_heap _ _ _ _ _ _ (heap_alloc_new w _)) (by simp [boxI]) (fun b hb => .inl hb)
set_option maxRecDepth 100000 in
set_option maxHeartbeats 4000000 in
theorem final_one {w : World} {S : Nat} {la : Option Addr} {lc : Nat} {m : Sm} (h0 : w.cell? ⟨S, 0, none⟩ = some (.int .i64 0)) (h1 : w.cell? ⟨S, 1, none⟩ = some (.int .i64 0)) (h2 : w.cell? ⟨S, 2, none⟩ = some (.int .i64 0)) (h3 : w.cell? ⟨S, 3, none⟩ = some (.int .i64 7))
    (hl : RIn sC w la 1 [m]) (hm : SIn w m) (hft : m.commits = true) (hwr : wrM m.s.ms = [(3, 8)]) :
    Calls Try.prog 21 #[.slice (some ⟨S, 0, none⟩) 4 4, .slice la 1 lc] w fun e w' => ∃ g, e = .returned (.slice (some ⟨g, 0, none⟩) 4 4) ∧ St w [boxI g #[.int .i64 0, .int .i64 0, .int .i64 0, .int .i64 8] 2] w' := by
  have hmk := make4 w
  obtain ⟨w2, hcp, s2⟩ := copy4 w S h0 h1 h2 h3
  generalize w.heap.size = C at *
  have hT := thoseStory_any s2 la 1 lc 35
  have HC : Hid (∀ b1 b2 W, St w (thRqStory b1 b2 35 la 1 lc ++ [boxI C #[.int .i64 0, .int .i64 0, .int .i64 0, .int .i64 7] 2]) W → Calls Try.prog 38 #[.func (.func 51) #[] #[.pointer (some ⟨b1, 0, none⟩), .pointer (some ⟨b2, 0, none⟩)]] W fun e w' => ∃ g cap, e = .returned (.slice (some ⟨g, 0, none⟩) 1 cap) ∧ St w (lstR sC 36 10 (.slice (some ⟨g, 0, none⟩) 1 cap) [m] :: [boxI C #[.int .i64 0, .int .i64 0, .int .i64 0, .int .i64 7] 2]) w') := hid (fun b1 b2 W hs => (collect_any hl (by omega) b1 b2 hs).mono (by
    rintro e w' ⟨v, rfl, h⟩
    have e1 : [m].filter Sm.commits = [m] := by simp [hft]
    rw [e1] at h
    obtain ⟨g, cap, rfl⟩ := h.form 0 rfl (by simp)
    exact ⟨g, cap, rfl, h⟩))
  have hso := sort_one
  have HWR : Hid (∀ W its, St w its W → Calls Try.prog 15 #[syV m] W fun e w' => ∃ g cap, e = .returned (.slice (some ⟨g, 0, none⟩) 1 cap) ∧ St w (lstR pC 57 2 (.slice (some ⟨g, 0, none⟩) 1 cap) [(3, 8)] :: its) w') := hid (fun W its hs => (writes_all m ⟨hm.1.kept hs.same, hm.2⟩).mono (by
    rintro e w' ⟨v, rfl, h⟩
    rw [hwr] at h
    have h2 := hs.over h
    obtain ⟨g, cap, rfl⟩ := h2.form 0 rfl (by simp)
    exact ⟨g, cap, rfl, h2⟩))
  have HFR := hid (fun (W : World) (g cap : Nat) (h : St w (lstR sC 36 10 (.slice (some ⟨g, 0, none⟩) 1 cap) [m] :: [boxI C #[.int .i64 0, .int .i64 0, .int .i64 0, .int .i64 7] 2]) W) => fun i u hu => (st_rin h 0 rfl rfl sC_len).at (k := 10) sC_len (j := 0) (x := m) rfl i u hu)
  clear h0 h1 h2 h3 hl hm hft hwr s2
  obtain ⟨⟨z0, z1, z2, z3, z4, z5, z6, z7, z8, ms⟩, mla, mlc⟩ := m
  go_enter Try.func21, Try.ntmps21
  go_wp2_with (first | simp only [hmk] | simp only [hcp] | (go_at_call 39; refine hT.mono ?_; rintro e w3 ⟨b1, b2, rfl, a3⟩; have hC := HC.out _ _ _ a3; clear a3) | (go_at_call 38; refine hC.mono ?_; rintro e w4 ⟨g4, cap4, rfl, a4⟩; have HA4 := hid a4; clear a4) | (go_at_call 40; refine (hso _ _ _ _).mono ?_; rintro e w5 ⟨rfl, rfl⟩))
  have q := HFR.out _ _ _ HA4.out
  have q0 := q 0 _ rfl
  have q1 := q 1 _ rfl
  have q2 := q 2 _ rfl
  have q3 := q 3 _ rfl
  have q4 := q 4 _ rfl
  have q5 := q 5 _ rfl
  have q6 := q 6 _ rfl
  have q7 := q 7 _ rfl
  have q8 := q 8 _ rfl
  have q9 := q 9 _ rfl
  simp only [Nat.zero_mul, Nat.zero_add] at q0 q1 q2 q3 q4 q5 q6 q7 q8 q9
  clear q HFR HC hcp hmk hT hC
  rename_i w5
  have a5 := HA4.out.box #[.int .i64 z0, .int .i64 z1, .int .i64 z2, .int .i64 z3, .int .i64 z4, .int .i64 z5, .int .i64 z6, .int .i64 z7, .int .i64 z8, .slice mla ms.length mlc] 36
  have hW := HWR.out _ _ a5
  have x0 := a5.cell 0 rfl 0
  have x1 := a5.cell 0 rfl 1
  have x2 := a5.cell 0 rfl 2
  have x3 := a5.cell 0 rfl 3
  have x4 := a5.cell 0 rfl 4
  have x5 := a5.cell 0 rfl 5
  have x6 := a5.cell 0 rfl 6
  have x7 := a5.cell 0 rfl 7
  have x8 := a5.cell 0 rfl 8
  have x9 := a5.cell 0 rfl 9
  clear a5 HA4 HWR
  refine wp_loop_rounds 2 ?_
  simp only [rounds_succ]
  go_wp2_with (first | (go_at_call 15; refine hW.mono ?_; rintro e w6 ⟨g6, cap6, rfl, a6⟩; have HA6 := hid a6; clear a6))
  have hp := fun i u hu => (st_rin HA6.out 0 rfl rfl (fun _ => rfl)).at (f := pC) (k := 2) (fun _ => rfl) (j := 0) (x := ((3 : Int), (8 : Int))) rfl i u hu
  have p0 := hp 0 _ rfl
  have p1 := hp 1 _ rfl
  simp only [Nat.zero_mul, Nat.zero_add] at p0 p1
  have a7 := HA6.out.box #[.int .i64 3, .int .i64 8] 57
  have y0 := a7.cell 0 rfl 0
  have y1 := a7.cell 0 rfl 1
  have c3 := a7.cell 4 rfl 3
  have f3 := a7.frozen 4 rfl 3
  have a8 := St.move (l := [_, _, _, _, _]) (T := []) (a7.write 4 rfl 3 (.int .i64 8)) 5 rfl [4, 0, 1, 2, 3] (by decide)
  have HA8 := hid (St.cut (A := [_]) a8)
  clear hp a7 a8 HA6 hW q0 q1 q2 q3 q4 q5 q6 q7 q8 q9 x0 x1 x2 x3 x4 x5 x6 x7 x8 x9 hso
  refine wp_loop_rounds 2 ?_
  simp only [rounds_succ]
  go_wp2
  simp only [rounds_succ]
  go_wp2
  simp only [rounds_succ]
  go_wp2
  go_ret
  exact ⟨_, rfl, HA8.out⟩
end Go.Proofs.Ytkhbkdabihokjaa
