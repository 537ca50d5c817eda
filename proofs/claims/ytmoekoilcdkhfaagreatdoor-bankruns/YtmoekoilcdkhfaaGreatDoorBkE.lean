/- Package bank: the table of deeds, the row of a deed. -/
import Derived.Test.YtmoekoilcdkhfaaGreatDoorBkD
namespace Go.Proofs.YtmoekoilcdkhfaaGreatDoor
open Go.RowKit
set_option linter.unusedVariables false
set_option linter.unusedSimpArgs false
attribute [local go_sem ↓] Go.wp_at_zero Go.wp_at_succ

theorem St.left {o w : World} {A B : List It} (h : St o (A ++ B) w) : St o A w := by
  refine ⟨?_, fun i hi => h.all i (List.mem_append_left _ hi), fun i hi => h.high i (List.mem_append_left _ hi), h.kept⟩
  have := h.nodup
  rw [List.flatMap_append, List.nodup_append] at this
  exact this.1
abbrev cloV (f b : Nat) : Value := .func (.func f) #[] #[.pointer (some ⟨b, 0, none⟩)]
/-- The cells of a row of the table. -/
def rowC (B1 B2 B3 B4 : Nat) : Nat → List Value
  | 1 => [.bool true, .bool false, .bool true, fnV 61, fnV 62]
  | 2 => [.bool true, .bool false, .bool true, cloV 81 B1, cloV 82 B2]
  | 3 => [.bool true, .bool true, .bool true, cloV 81 B3, cloV 82 B4]
  | 4 => [.bool true, .bool false, .bool false, fnV 70, fnV 71]
  | 5 => [.bool false, .bool false, .bool false, fnV 72, fnV 73]
  | _ => [.bool false, .bool false, .bool false, .nilFunc, .nilFunc]
def tabL (B1 B2 B3 B4 : Nat) : List Value := rowC B1 B2 B3 B4 0 ++ (rowC B1 B2 B3 B4 1 ++ (rowC B1 B2 B3 B4 2 ++ (rowC B1 B2 B3 B4 3 ++ (rowC B1 B2 B3 B4 4 ++ rowC B1 B2 B3 B4 5))))
abbrev tF : TypeId := 122
abbrev tG : TypeId := 124
theorem ifThere_new (f : Nat) (w : World) : Calls Tryz.prog 64 #[fnV f] w fun e w' => e = .returned (cloV 81 w.heap.size) ∧ w' = w.alloc (.cells #[fnV f] 122) := by
  go_enter Tryz.func64, Tryz.ntmps64
  go_wp2
  go_ret
  exact ⟨rfl, rfl⟩
theorem ifThereText_new (f : Nat) (w : World) : Calls Tryz.prog 66 #[fnV f] w fun e w' => e = .returned (cloV 82 w.heap.size) ∧ w' = w.alloc (.cells #[fnV f] 124) := by
  go_enter Tryz.func66, Tryz.ntmps66
  go_wp2
  go_ret
  exact ⟨rfl, rfl⟩
theorem St.join {o w2 w3 : World} {A B : List It} (a : St o A w2) (b : St w2 B w3) : St o (B ++ A) w3 := by
  have a' := a.calm b.same
  refine ⟨?_, ?_, ?_, a'.kept⟩
  · rw [List.flatMap_append, List.nodup_append]
    refine ⟨b.nodup, a.nodup, fun x hx y hy e => ?_⟩
    subst e
    obtain ⟨i, hi, hxi⟩ := List.mem_flatMap.1 hx
    obtain ⟨j, hj, hxj⟩ := List.mem_flatMap.1 hy
    have h1 := b.high i hi x hxi
    have h2 := j.old w2 (a.all j hj) x hxj
    omega
  · intro i hi
    rcases List.mem_append.1 hi with hi | hi
    · exact b.all i hi
    · exact a'.all i hi
  · intro i hi k hk
    rcases List.mem_append.1 hi with hi | hi
    · exact Nat.le_trans a.le (b.high i hi k hk)
    · exact a.high i hi k hk
/-- What the row's closures stand on. -/
abbrev rowS (B1 B2 B3 B4 : Nat) : List It := [boxI B1 #[fnV 65] 122, boxI B2 #[fnV 67] 124, boxI B3 #[fnV 68] 122, boxI B4 #[fnV 69] 124]
set_option maxRecDepth 100000 in
set_option maxHeartbeats 4000000 in
theorem table_new (w : World) : Calls Tryz.prog 48 #[] w fun e w' => ∃ B1 B2 B3 B4 g, e = .returned (.slice (some ⟨g, 0, none⟩) 6 6) ∧ St w (boxI g (tabL B1 B2 B3 B4).toArray 72 :: rowS B1 B2 B3 B4) w' := by
  have s1 := (St.nil w).box #[fnV 65] 122
  have s2 := s1.box #[fnV 67] 124
  have s3 := s2.box #[fnV 68] 122
  have s4 := s3.box #[fnV 69] 124
  have hp : ∀ (a b c d : It), [d, c, b, a].Perm [a, b, c, d] := fun a b c d => (List.reverse_perm [a, b, c, d])
  have s5 := (s4.perm (hp _ _ _ _))
  have q1 := ifThere_new 65
  have q2 := ifThereText_new 67
  have q3 := ifThere_new 68
  have q4 := ifThereText_new 69
  clear s2 s3 s4 hp
  generalize e1 : w.alloc (.cells #[fnV 65] 122) = w1 at *
  generalize e2 : w1.alloc (.cells #[fnV 67] 124) = w2 at *
  generalize e3 : w2.alloc (.cells #[fnV 68] 122) = w3 at *
  generalize e4 : w3.alloc (.cells #[fnV 69] 124) = w4 at *
  have q1' := q1 w
  have q2' := q2 w1
  have q3' := q3 w2
  have q4' := q4 w3
  rw [e1] at q1'
  rw [e2] at q2'
  rw [e3] at q3'
  rw [e4] at q4'
  clear q1 q2 q3 q4 e1 e2 e3 e4 s1
  generalize w.heap.size = B1 at *
  generalize w1.heap.size = B2 at *
  generalize w2.heap.size = B3 at *
  generalize w3.heap.size = B4 at *
  have hb : (Instr.buildSlice 103 6 #[(1, .agg (rowC B1 B2 B3 B4 1).toArray), (2, .agg (rowC B1 B2 B3 B4 2).toArray), (3, .agg (rowC B1 B2 B3 B4 3).toArray), (4, .agg (rowC B1 B2 B3 B4 4).toArray), (5, .agg (rowC B1 B2 B3 B4 5).toArray)]).run Tryz.prog w4 = .ok (.slice (some ⟨w4.heap.size, 0, none⟩) 6 6) (w4.alloc (.cells (tabL B1 B2 B3 B4).toArray 72)) := by kernel_rfl
  have HS := hid (s5.box (tabL B1 B2 B3 B4).toArray 72)
  clear s5
  simp only [rowC] at hb
  go_enter Tryz.func48, Tryz.ntmps48
  go_wp2_with (first | (go_at_call 64; first | ((with_reducible refine q1'.mono ?_); rintro e w' ⟨rfl, rfl⟩) | ((with_reducible refine q3'.mono ?_); rintro e w' ⟨rfl, rfl⟩)) | (go_at_call 66; first | ((with_reducible refine q2'.mono ?_); rintro e w' ⟨rfl, rfl⟩) | ((with_reducible refine q4'.mono ?_); rintro e w' ⟨rfl, rfl⟩)) | simp only [hb])
  go_ret
  exact ⟨B1, B2, B3, B4, _, rfl, HS.out⟩
section
variable {w : World} {n : Int} {d : Dd}
set_option maxHeartbeats 4000000 in
/-- No bank, or no such deed. -/
theorem rowOf_no (h : ¬ 0 < roomM n ∨ d.op < 1 ∨ 5 < d.op) : Calls Tryz.prog 33 #[.int .i64 n, d.val] w fun e w' => e = .returned (.tuple #[.agg #[.bool false, .bool false, .bool false, .nilFunc, .nilFunc], .bool false]) ∧ Kept (fun _ => False) w w' := by
  obtain ⟨op, a, b, x, y⟩ := d
  simp only at h
  have s1 := (St.nil w).box #[.int .i64 op, .int .i64 a, .int .i64 b, .int .i64 x, .int .i64 y] 40
  have s2 := s1.box #[.bool false, .bool false, .bool false, .nilFunc, .nilFunc] 72
  have hT := table_new ((w.alloc (.cells #[.int .i64 op, .int .i64 a, .int .i64 b, .int .i64 x, .int .i64 y] 40)).alloc (.cells #[.bool false, .bool false, .bool false, .nilFunc, .nilFunc] 72))
  show Calls _ _ #[_, .agg #[.int .i64 op, .int .i64 a, .int .i64 b, .int .i64 x, .int .i64 y]] _ _
  have hR := fun W => Room_any n W
  generalize e1 : w.alloc (.cells #[.int .i64 op, .int .i64 a, .int .i64 b, .int .i64 x, .int .i64 y] 40) = w1 at *
  generalize e2 : w1.alloc (.cells #[.bool false, .bool false, .bool false, .nilFunc, .nilFunc] 72) = w2 at *
  generalize eM : w.heap.size = M at *
  generalize eX : w1.heap.size = X at *
  go_enter Tryz.func33, Tryz.ntmps33
  go_wp2_with (first | simp only [e1, e2, eM, eX] | fail)
  refine hT.mono ?_
  rintro e w3 ⟨B1, B2, B3, B4, g, rfl, s3⟩
  have s4 := s2.calm s3.same
  have c0 : w3.cell? ⟨M, 0, none⟩ = some (.int .i64 op) := s4.cell 1 rfl 0
  have f0 : w3.frozen? ⟨X, 0, none⟩ = false := s4.frozen 0 rfl 0
  have f1 : w3.frozen? ⟨X, 1, none⟩ = false := s4.frozen 0 rfl 1
  have f2 : w3.frozen? ⟨X, 2, none⟩ = false := s4.frozen 0 rfl 2
  have f3 : w3.frozen? ⟨X, 3, none⟩ = false := s4.frozen 0 rfl 3
  have f4 : w3.frozen? ⟨X, 4, none⟩ = false := s4.frozen 0 rfl 4
  have x0 : w3.cell? ⟨X, 0, none⟩ = some (.bool false) := s4.cell 0 rfl 0
  have x1 : w3.cell? ⟨X, 1, none⟩ = some (.bool false) := s4.cell 0 rfl 1
  have x2 : w3.cell? ⟨X, 2, none⟩ = some (.bool false) := s4.cell 0 rfl 2
  have x3 : w3.cell? ⟨X, 3, none⟩ = some .nilFunc := s4.cell 0 rfl 3
  have x4 : w3.cell? ⟨X, 4, none⟩ = some .nilFunc := s4.cell 0 rfl 4
  have HS4 := hid s4
  clear hT s1 s2 s3 s4 e1 e2 eM eX
  have HEND : Hid (∀ W, W = ((((w3.setCell ⟨X, 0, none⟩ (.bool false)).setCell ⟨X, 1, none⟩ (.bool false)).setCell ⟨X, 2, none⟩ (.bool false)).setCell ⟨X, 3, none⟩ .nilFunc).setCell ⟨X, 4, none⟩ .nilFunc → St w [boxI X #[.bool false, .bool false, .bool false, .nilFunc, .nilFunc] 72, boxI M #[.int .i64 op, .int .i64 a, .int .i64 b, .int .i64 x, .int .i64 y] 40] W) := by
    rintro W rfl
    exact ((((HS4.out.write 0 rfl 0 _).write 0 rfl 1 _).write 0 rfl 2 _).write 0 rfl 3 _).write 0 rfl 4 _
  clear HS4
  by_cases h0 : 0 < roomM n
  · have hr := (room_pos h0)
    have t0 : (roomM n == 0) = false := by simp; omega
    generalize roomM n = r at *
    by_cases h1 : op < 1
    · clear h h0 hr
      go_wp2_with (go_at_call 10; refine (hR _).mono ?_; rintro e w' ⟨rfl, rfl⟩)
      obtain ⟨W5, hW5⟩ : ∃ W5, W5 = ((((w'.setCell ⟨X, 0, none⟩ (.bool false)).setCell ⟨X, 1, none⟩ (.bool false)).setCell ⟨X, 2, none⟩ (.bool false)).setCell ⟨X, 3, none⟩ .nilFunc).setCell ⟨X, 4, none⟩ .nilFunc := ⟨_, rfl⟩
      have s5 := HEND.out _ hW5
      rw [← hW5]
      have y0 : W5.cell? ⟨X, 0, none⟩ = some (.bool false) := s5.cell 0 rfl 0
      have y1 : W5.cell? ⟨X, 1, none⟩ = some (.bool false) := s5.cell 0 rfl 1
      have y2 : W5.cell? ⟨X, 2, none⟩ = some (.bool false) := s5.cell 0 rfl 2
      have y3 : W5.cell? ⟨X, 3, none⟩ = some .nilFunc := s5.cell 0 rfl 3
      have y4 : W5.cell? ⟨X, 4, none⟩ = some .nilFunc := s5.cell 0 rfl 4
      clear hW5
      refine bodyPost_ret (v := .tuple #[.agg #[.bool false, .bool false, .bool false, .nilFunc, .nilFunc], .bool false]) (by simp [results, Tryz.results33, go_sem, y0, y1, y2, y3, y4]) rfl ⟨rfl, s5.same⟩
    · have t1 : (6 : Int) ≤ op := by omega
      clear h h0 hr
      go_wp2_with (go_at_call 10; refine (hR _).mono ?_; rintro e w' ⟨rfl, rfl⟩)
      obtain ⟨W5, hW5⟩ : ∃ W5, W5 = ((((w'.setCell ⟨X, 0, none⟩ (.bool false)).setCell ⟨X, 1, none⟩ (.bool false)).setCell ⟨X, 2, none⟩ (.bool false)).setCell ⟨X, 3, none⟩ .nilFunc).setCell ⟨X, 4, none⟩ .nilFunc := ⟨_, rfl⟩
      have s5 := HEND.out _ hW5
      rw [← hW5]
      have y0 : W5.cell? ⟨X, 0, none⟩ = some (.bool false) := s5.cell 0 rfl 0
      have y1 : W5.cell? ⟨X, 1, none⟩ = some (.bool false) := s5.cell 0 rfl 1
      have y2 : W5.cell? ⟨X, 2, none⟩ = some (.bool false) := s5.cell 0 rfl 2
      have y3 : W5.cell? ⟨X, 3, none⟩ = some .nilFunc := s5.cell 0 rfl 3
      have y4 : W5.cell? ⟨X, 4, none⟩ = some .nilFunc := s5.cell 0 rfl 4
      clear hW5
      refine bodyPost_ret (v := .tuple #[.agg #[.bool false, .bool false, .bool false, .nilFunc, .nilFunc], .bool false]) (by simp [results, Tryz.results33, go_sem, y0, y1, y2, y3, y4]) rfl ⟨rfl, s5.same⟩
  · rw [room_zero h0] at hR
    clear h h0
    go_wp2_with (go_at_call 10; refine (hR _).mono ?_; rintro e w' ⟨rfl, rfl⟩)
    obtain ⟨W5, hW5⟩ : ∃ W5, W5 = ((((w'.setCell ⟨X, 0, none⟩ (.bool false)).setCell ⟨X, 1, none⟩ (.bool false)).setCell ⟨X, 2, none⟩ (.bool false)).setCell ⟨X, 3, none⟩ .nilFunc).setCell ⟨X, 4, none⟩ .nilFunc := ⟨_, rfl⟩
    have s5 := HEND.out _ hW5
    rw [← hW5]
    have y0 : W5.cell? ⟨X, 0, none⟩ = some (.bool false) := s5.cell 0 rfl 0
    have y1 : W5.cell? ⟨X, 1, none⟩ = some (.bool false) := s5.cell 0 rfl 1
    have y2 : W5.cell? ⟨X, 2, none⟩ = some (.bool false) := s5.cell 0 rfl 2
    have y3 : W5.cell? ⟨X, 3, none⟩ = some .nilFunc := s5.cell 0 rfl 3
    have y4 : W5.cell? ⟨X, 4, none⟩ = some .nilFunc := s5.cell 0 rfl 4
    clear hW5
    refine bodyPost_ret (v := .tuple #[.agg #[.bool false, .bool false, .bool false, .nilFunc, .nilFunc], .bool false]) (by simp [results, Tryz.results33, go_sem, y0, y1, y2, y3, y4]) rfl ⟨rfl, s5.same⟩
set_option maxRecDepth 100000 in
set_option maxHeartbeats 8000000 in
theorem rowOf_1 (hroom : 0 < roomM n) (hop : d.op = 1) : Calls Tryz.prog 33 #[.int .i64 n, d.val] w fun e w' => ∃ B1 B2 B3 B4, e = .returned (.tuple #[.agg #[.bool true, .bool false, .bool true, fnV 61, fnV 62], .bool (mayD n d)]) ∧ St w (rowS B1 B2 B3 B4) w' := by
  obtain ⟨op, a, b, x, y⟩ := d
  simp only at hop
  subst hop
  have hMay : mayD n ⟨1, a, b, x, y⟩ = (fldM true a (n - 1) && (fldM false b (n - 1) && (fldM true x 2147483648 && (y == 0)))) := by simp [mayD]
  rw [hMay]
  obtain ⟨hn1, hn2, hn3⟩ := room_pos hroom
  have s1 := (St.nil w).box #[.int .i64 1, .int .i64 a, .int .i64 b, .int .i64 x, .int .i64 y] 40
  have s2 := s1.box #[.bool false, .bool false, .bool false, .nilFunc, .nilFunc] 72
  have hT := table_new ((w.alloc (.cells #[.int .i64 1, .int .i64 a, .int .i64 b, .int .i64 x, .int .i64 y] 40)).alloc (.cells #[.bool false, .bool false, .bool false, .nilFunc, .nilFunc] 72))
  show Calls _ _ #[_, .agg #[.int .i64 1, .int .i64 a, .int .i64 b, .int .i64 x, .int .i64 y]] _ _
  have hR := fun W => Room_any n W
  rw [hn3] at hR
  have q1 := fun W => bmay_any true a (n - 1) W
  have q2 := fun W => bmay_any false b (n - 1) W
  have q3 := fun W => bmay_any true x 2147483648 W
  have t0 : (n == 0) = false := by simp; omega
  generalize fldM true a (n - 1) = F1 at *
  generalize fldM false b (n - 1) = F2 at *
  generalize fldM true x 2147483648 = F3 at *
  generalize ty : (y == 0) = FY at *
  clear hMay hroom hn3
  generalize e1 : w.alloc (.cells #[.int .i64 1, .int .i64 a, .int .i64 b, .int .i64 x, .int .i64 y] 40) = w1 at *
  generalize e2 : w1.alloc (.cells #[.bool false, .bool false, .bool false, .nilFunc, .nilFunc] 72) = w2 at *
  generalize eM : w.heap.size = M at *
  generalize eX : w1.heap.size = X at *
  go_enter Tryz.func33, Tryz.ntmps33
  go_wp2_with (first | simp only [e1, e2, eM, eX] | fail)
  refine hT.mono ?_
  rintro e w3 ⟨B1, B2, B3, B4, g, rfl, s3⟩
  have s4 := s2.join s3
  have s5 := s4.box #[.bool true, .bool false, .bool true, fnV 61, fnV 62] 72
  have c0 : w3.cell? ⟨M, 0, none⟩ = some (.int .i64 1) := s4.cell 6 rfl 0
  have r0 : w3.cell? ⟨g, 5, none⟩ = some (.bool true) := s4.cell 0 rfl 5
  have r1 : w3.cell? ⟨g, 6, none⟩ = some (.bool false) := s4.cell 0 rfl 6
  have r2 : w3.cell? ⟨g, 7, none⟩ = some (.bool true) := s4.cell 0 rfl 7
  have r3 : w3.cell? ⟨g, 8, none⟩ = some (fnV 61) := s4.cell 0 rfl 8
  have r4 : w3.cell? ⟨g, 9, none⟩ = some (fnV 62) := s4.cell 0 rfl 9
  have HS5 := hid s5
  clear hT s1 s2 s3 s4 s5 e1 e2 eM eX
  go_upto_region 6 with (go_at_call 10; refine (hR _).mono ?_; rintro e w' ⟨rfl, rfl⟩)
  generalize w'.heap.size = L at *
  obtain ⟨w4, hw4⟩ : ∃ w4, w4 = w'.alloc (.cells #[.bool true, .bool false, .bool true, fnV 61, fnV 62] 72) := ⟨_, rfl⟩
  rw [← hw4] at HS5 ⊢
  clear hw4 c0 r0 r1 r2 r3 r4
  have m1 : w4.cell? ⟨M, 1, none⟩ = some (.int .i64 a) := HS5.out.cell 7 rfl 1
  have m2 : w4.cell? ⟨M, 2, none⟩ = some (.int .i64 b) := HS5.out.cell 7 rfl 2
  have m3 : w4.cell? ⟨M, 3, none⟩ = some (.int .i64 x) := HS5.out.cell 7 rfl 3
  have m4 : w4.cell? ⟨M, 4, none⟩ = some (.int .i64 y) := HS5.out.cell 7 rfl 4
  have l0 : w4.cell? ⟨L, 0, none⟩ = some (.bool true) := HS5.out.cell 0 rfl 0
  have l1 : w4.cell? ⟨L, 1, none⟩ = some (.bool false) := HS5.out.cell 0 rfl 1
  have l2 : w4.cell? ⟨L, 2, none⟩ = some (.bool true) := HS5.out.cell 0 rfl 2
  have l3 : w4.cell? ⟨L, 3, none⟩ = some (fnV 61) := HS5.out.cell 0 rfl 3
  have l4 : w4.cell? ⟨L, 4, none⟩ = some (fnV 62) := HS5.out.cell 0 rfl 4
  have x0 : w4.cell? ⟨X, 0, none⟩ = some (.bool false) := HS5.out.cell 6 rfl 0
  have x1 : w4.cell? ⟨X, 1, none⟩ = some (.bool false) := HS5.out.cell 6 rfl 1
  have x2 : w4.cell? ⟨X, 2, none⟩ = some (.bool false) := HS5.out.cell 6 rfl 2
  have x3 : w4.cell? ⟨X, 3, none⟩ = some .nilFunc := HS5.out.cell 6 rfl 3
  have x4 : w4.cell? ⟨X, 4, none⟩ = some .nilFunc := HS5.out.cell 6 rfl 4
  have f0 : w4.frozen? ⟨X, 0, none⟩ = false := HS5.out.frozen 6 rfl 0
  have f1 : w4.frozen? ⟨X, 1, none⟩ = false := HS5.out.frozen 6 rfl 1
  have f2 : w4.frozen? ⟨X, 2, none⟩ = false := HS5.out.frozen 6 rfl 2
  have f3 : w4.frozen? ⟨X, 3, none⟩ = false := HS5.out.frozen 6 rfl 3
  have f4 : w4.frozen? ⟨X, 4, none⟩ = false := HS5.out.frozen 6 rfl 4
  have HEND : Hid (∀ W, W = ((((w4.setCell ⟨X, 0, none⟩ (.bool true)).setCell ⟨X, 1, none⟩ (.bool false)).setCell ⟨X, 2, none⟩ (.bool true)).setCell ⟨X, 3, none⟩ (fnV 61)).setCell ⟨X, 4, none⟩ (fnV 62) → (W.cell? ⟨X, 0, none⟩ = some (.bool true) ∧ W.cell? ⟨X, 1, none⟩ = some (.bool false) ∧ W.cell? ⟨X, 2, none⟩ = some (.bool true) ∧ W.cell? ⟨X, 3, none⟩ = some (fnV 61) ∧ W.cell? ⟨X, 4, none⟩ = some (fnV 62)) ∧ St w (rowS B1 B2 B3 B4) W) := by
    rintro W rfl
    have h9 := ((((HS5.out.write 6 rfl 0 (.bool true)).write 6 rfl 1 (.bool false)).write 6 rfl 2 (.bool true)).write 6 rfl 3 (fnV 61)).write 6 rfl 4 (fnV 62)
    refine ⟨⟨h9.cell 6 rfl 0, h9.cell 6 rfl 1, h9.cell 6 rfl 2, h9.cell 6 rfl 3, h9.cell 6 rfl 4⟩, ?_⟩
    have h10 := h9.pop.pop
    exact St.left (A := rowS B1 B2 B3 B4) h10
  clear HS5
  cases F1 with
  | false =>
    clear q2 q3
    go_wp2_with (go_at_call 49; first | ((with_reducible refine (q1 _).mono ?_); rintro e w' ⟨rfl, rfl⟩) | ((with_reducible refine (q2 _).mono ?_); rintro e w' ⟨rfl, rfl⟩) | ((with_reducible refine (q3 _).mono ?_); rintro e w' ⟨rfl, rfl⟩))
    obtain ⟨W5, hW5⟩ : ∃ W5, W5 = (((((w'.setCell ⟨X, 0, none⟩ (.bool true)).setCell ⟨X, 1, none⟩ (.bool false)).setCell ⟨X, 2, none⟩ (.bool true)).setCell ⟨X, 3, none⟩ (fnV 61)).setCell ⟨X, 4, none⟩ (fnV 62)) := ⟨_, rfl⟩
    obtain ⟨⟨y0, y1, y2, y3, y4⟩, s6⟩ := HEND.out _ hW5
    rw [← hW5]
    clear hW5
    exact bodyPost_ret (v := .tuple #[.agg #[.bool true, .bool false, .bool true, fnV 61, fnV 62], .bool false]) (by simp [results, Tryz.results33, go_sem, y0, y1, y2, y3, y4]) rfl ⟨B1, B2, B3, B4, rfl, s6⟩
  | true =>
    cases F2 with
    | false =>
      clear q3
      go_wp2_with (go_at_call 49; first | ((with_reducible refine (q1 _).mono ?_); rintro e w' ⟨rfl, rfl⟩) | ((with_reducible refine (q2 _).mono ?_); rintro e w' ⟨rfl, rfl⟩) | ((with_reducible refine (q3 _).mono ?_); rintro e w' ⟨rfl, rfl⟩))
      obtain ⟨W5, hW5⟩ : ∃ W5, W5 = (((((w'.setCell ⟨X, 0, none⟩ (.bool true)).setCell ⟨X, 1, none⟩ (.bool false)).setCell ⟨X, 2, none⟩ (.bool true)).setCell ⟨X, 3, none⟩ (fnV 61)).setCell ⟨X, 4, none⟩ (fnV 62)) := ⟨_, rfl⟩
      obtain ⟨⟨y0, y1, y2, y3, y4⟩, s6⟩ := HEND.out _ hW5
      rw [← hW5]
      clear hW5
      exact bodyPost_ret (v := .tuple #[.agg #[.bool true, .bool false, .bool true, fnV 61, fnV 62], .bool false]) (by simp [results, Tryz.results33, go_sem, y0, y1, y2, y3, y4]) rfl ⟨B1, B2, B3, B4, rfl, s6⟩
    | true =>
      cases F3 with
      | false =>
        go_wp2_with (go_at_call 49; first | ((with_reducible refine (q1 _).mono ?_); rintro e w' ⟨rfl, rfl⟩) | ((with_reducible refine (q2 _).mono ?_); rintro e w' ⟨rfl, rfl⟩) | ((with_reducible refine (q3 _).mono ?_); rintro e w' ⟨rfl, rfl⟩))
        obtain ⟨W5, hW5⟩ : ∃ W5, W5 = (((((w'.setCell ⟨X, 0, none⟩ (.bool true)).setCell ⟨X, 1, none⟩ (.bool false)).setCell ⟨X, 2, none⟩ (.bool true)).setCell ⟨X, 3, none⟩ (fnV 61)).setCell ⟨X, 4, none⟩ (fnV 62)) := ⟨_, rfl⟩
        obtain ⟨⟨y0, y1, y2, y3, y4⟩, s6⟩ := HEND.out _ hW5
        rw [← hW5]
        clear hW5
        exact bodyPost_ret (v := .tuple #[.agg #[.bool true, .bool false, .bool true, fnV 61, fnV 62], .bool false]) (by simp [results, Tryz.results33, go_sem, y0, y1, y2, y3, y4]) rfl ⟨B1, B2, B3, B4, rfl, s6⟩
      | true =>
        cases FY with
        | true =>
          go_wp2_with (go_at_call 49; first | ((with_reducible refine (q1 _).mono ?_); rintro e w' ⟨rfl, rfl⟩) | ((with_reducible refine (q2 _).mono ?_); rintro e w' ⟨rfl, rfl⟩) | ((with_reducible refine (q3 _).mono ?_); rintro e w' ⟨rfl, rfl⟩))
          obtain ⟨W5, hW5⟩ : ∃ W5, W5 = (((((w'.setCell ⟨X, 0, none⟩ (.bool true)).setCell ⟨X, 1, none⟩ (.bool false)).setCell ⟨X, 2, none⟩ (.bool true)).setCell ⟨X, 3, none⟩ (fnV 61)).setCell ⟨X, 4, none⟩ (fnV 62)) := ⟨_, rfl⟩
          obtain ⟨⟨y0, y1, y2, y3, y4⟩, s6⟩ := HEND.out _ hW5
          rw [← hW5]
          clear hW5
          exact bodyPost_ret (v := .tuple #[.agg #[.bool true, .bool false, .bool true, fnV 61, fnV 62], .bool true]) (by simp [results, Tryz.results33, go_sem, y0, y1, y2, y3, y4]) rfl ⟨B1, B2, B3, B4, rfl, s6⟩
        | false =>
          go_wp2_with (go_at_call 49; first | ((with_reducible refine (q1 _).mono ?_); rintro e w' ⟨rfl, rfl⟩) | ((with_reducible refine (q2 _).mono ?_); rintro e w' ⟨rfl, rfl⟩) | ((with_reducible refine (q3 _).mono ?_); rintro e w' ⟨rfl, rfl⟩))
          obtain ⟨W5, hW5⟩ : ∃ W5, W5 = (((((w'.setCell ⟨X, 0, none⟩ (.bool true)).setCell ⟨X, 1, none⟩ (.bool false)).setCell ⟨X, 2, none⟩ (.bool true)).setCell ⟨X, 3, none⟩ (fnV 61)).setCell ⟨X, 4, none⟩ (fnV 62)) := ⟨_, rfl⟩
          obtain ⟨⟨y0, y1, y2, y3, y4⟩, s6⟩ := HEND.out _ hW5
          rw [← hW5]
          clear hW5
          exact bodyPost_ret (v := .tuple #[.agg #[.bool true, .bool false, .bool true, fnV 61, fnV 62], .bool false]) (by simp [results, Tryz.results33, go_sem, y0, y1, y2, y3, y4]) rfl ⟨B1, B2, B3, B4, rfl, s6⟩
set_option maxRecDepth 100000 in
set_option maxHeartbeats 8000000 in
theorem rowOf_2 (hroom : 0 < roomM n) (hop : d.op = 2) : Calls Tryz.prog 33 #[.int .i64 n, d.val] w fun e w' => ∃ B1 B2 B3 B4, e = .returned (.tuple #[.agg #[.bool true, .bool false, .bool true, cloV 81 B1, cloV 82 B2], .bool (mayD n d)]) ∧ St w (rowS B1 B2 B3 B4) w' := by
  obtain ⟨op, a, b, x, y⟩ := d
  simp only at hop
  subst hop
  have hMay : mayD n ⟨2, a, b, x, y⟩ = (fldM true a (n - 1) && (fldM false b (n - 1) && (fldM true x 2147483648 && (y == 0)))) := by simp [mayD]
  rw [hMay]
  obtain ⟨hn1, hn2, hn3⟩ := room_pos hroom
  have s1 := (St.nil w).box #[.int .i64 2, .int .i64 a, .int .i64 b, .int .i64 x, .int .i64 y] 40
  have s2 := s1.box #[.bool false, .bool false, .bool false, .nilFunc, .nilFunc] 72
  have hT := table_new ((w.alloc (.cells #[.int .i64 2, .int .i64 a, .int .i64 b, .int .i64 x, .int .i64 y] 40)).alloc (.cells #[.bool false, .bool false, .bool false, .nilFunc, .nilFunc] 72))
  show Calls _ _ #[_, .agg #[.int .i64 2, .int .i64 a, .int .i64 b, .int .i64 x, .int .i64 y]] _ _
  have hR := fun W => Room_any n W
  rw [hn3] at hR
  have q1 := fun W => bmay_any true a (n - 1) W
  have q2 := fun W => bmay_any false b (n - 1) W
  have q3 := fun W => bmay_any true x 2147483648 W
  have t0 : (n == 0) = false := by simp; omega
  generalize fldM true a (n - 1) = F1 at *
  generalize fldM false b (n - 1) = F2 at *
  generalize fldM true x 2147483648 = F3 at *
  generalize ty : (y == 0) = FY at *
  clear hMay hroom hn3
  generalize e1 : w.alloc (.cells #[.int .i64 2, .int .i64 a, .int .i64 b, .int .i64 x, .int .i64 y] 40) = w1 at *
  generalize e2 : w1.alloc (.cells #[.bool false, .bool false, .bool false, .nilFunc, .nilFunc] 72) = w2 at *
  generalize eM : w.heap.size = M at *
  generalize eX : w1.heap.size = X at *
  go_enter Tryz.func33, Tryz.ntmps33
  go_wp2_with (first | simp only [e1, e2, eM, eX] | fail)
  refine hT.mono ?_
  rintro e w3 ⟨B1, B2, B3, B4, g, rfl, s3⟩
  have s4 := s2.join s3
  have s5 := s4.box #[.bool true, .bool false, .bool true, cloV 81 B1, cloV 82 B2] 72
  have c0 : w3.cell? ⟨M, 0, none⟩ = some (.int .i64 2) := s4.cell 6 rfl 0
  have r0 : w3.cell? ⟨g, 10, none⟩ = some (.bool true) := s4.cell 0 rfl 10
  have r1 : w3.cell? ⟨g, 11, none⟩ = some (.bool false) := s4.cell 0 rfl 11
  have r2 : w3.cell? ⟨g, 12, none⟩ = some (.bool true) := s4.cell 0 rfl 12
  have r3 : w3.cell? ⟨g, 13, none⟩ = some (cloV 81 B1) := s4.cell 0 rfl 13
  have r4 : w3.cell? ⟨g, 14, none⟩ = some (cloV 82 B2) := s4.cell 0 rfl 14
  have HS5 := hid s5
  clear hT s1 s2 s3 s4 s5 e1 e2 eM eX
  go_upto_region 6 with (go_at_call 10; refine (hR _).mono ?_; rintro e w' ⟨rfl, rfl⟩)
  generalize w'.heap.size = L at *
  obtain ⟨w4, hw4⟩ : ∃ w4, w4 = w'.alloc (.cells #[.bool true, .bool false, .bool true, cloV 81 B1, cloV 82 B2] 72) := ⟨_, rfl⟩
  rw [← hw4] at HS5 ⊢
  clear hw4 c0 r0 r1 r2 r3 r4
  have m1 : w4.cell? ⟨M, 1, none⟩ = some (.int .i64 a) := HS5.out.cell 7 rfl 1
  have m2 : w4.cell? ⟨M, 2, none⟩ = some (.int .i64 b) := HS5.out.cell 7 rfl 2
  have m3 : w4.cell? ⟨M, 3, none⟩ = some (.int .i64 x) := HS5.out.cell 7 rfl 3
  have m4 : w4.cell? ⟨M, 4, none⟩ = some (.int .i64 y) := HS5.out.cell 7 rfl 4
  have l0 : w4.cell? ⟨L, 0, none⟩ = some (.bool true) := HS5.out.cell 0 rfl 0
  have l1 : w4.cell? ⟨L, 1, none⟩ = some (.bool false) := HS5.out.cell 0 rfl 1
  have l2 : w4.cell? ⟨L, 2, none⟩ = some (.bool true) := HS5.out.cell 0 rfl 2
  have l3 : w4.cell? ⟨L, 3, none⟩ = some (cloV 81 B1) := HS5.out.cell 0 rfl 3
  have l4 : w4.cell? ⟨L, 4, none⟩ = some (cloV 82 B2) := HS5.out.cell 0 rfl 4
  have x0 : w4.cell? ⟨X, 0, none⟩ = some (.bool false) := HS5.out.cell 6 rfl 0
  have x1 : w4.cell? ⟨X, 1, none⟩ = some (.bool false) := HS5.out.cell 6 rfl 1
  have x2 : w4.cell? ⟨X, 2, none⟩ = some (.bool false) := HS5.out.cell 6 rfl 2
  have x3 : w4.cell? ⟨X, 3, none⟩ = some .nilFunc := HS5.out.cell 6 rfl 3
  have x4 : w4.cell? ⟨X, 4, none⟩ = some .nilFunc := HS5.out.cell 6 rfl 4
  have f0 : w4.frozen? ⟨X, 0, none⟩ = false := HS5.out.frozen 6 rfl 0
  have f1 : w4.frozen? ⟨X, 1, none⟩ = false := HS5.out.frozen 6 rfl 1
  have f2 : w4.frozen? ⟨X, 2, none⟩ = false := HS5.out.frozen 6 rfl 2
  have f3 : w4.frozen? ⟨X, 3, none⟩ = false := HS5.out.frozen 6 rfl 3
  have f4 : w4.frozen? ⟨X, 4, none⟩ = false := HS5.out.frozen 6 rfl 4
  have HEND : Hid (∀ W, W = ((((w4.setCell ⟨X, 0, none⟩ (.bool true)).setCell ⟨X, 1, none⟩ (.bool false)).setCell ⟨X, 2, none⟩ (.bool true)).setCell ⟨X, 3, none⟩ (cloV 81 B1)).setCell ⟨X, 4, none⟩ (cloV 82 B2) → (W.cell? ⟨X, 0, none⟩ = some (.bool true) ∧ W.cell? ⟨X, 1, none⟩ = some (.bool false) ∧ W.cell? ⟨X, 2, none⟩ = some (.bool true) ∧ W.cell? ⟨X, 3, none⟩ = some (cloV 81 B1) ∧ W.cell? ⟨X, 4, none⟩ = some (cloV 82 B2)) ∧ St w (rowS B1 B2 B3 B4) W) := by
    rintro W rfl
    have h9 := ((((HS5.out.write 6 rfl 0 (.bool true)).write 6 rfl 1 (.bool false)).write 6 rfl 2 (.bool true)).write 6 rfl 3 (cloV 81 B1)).write 6 rfl 4 (cloV 82 B2)
    refine ⟨⟨h9.cell 6 rfl 0, h9.cell 6 rfl 1, h9.cell 6 rfl 2, h9.cell 6 rfl 3, h9.cell 6 rfl 4⟩, ?_⟩
    have h10 := h9.pop.pop
    exact St.left (A := rowS B1 B2 B3 B4) h10
  clear HS5
  cases F1 with
  | false =>
    clear q2 q3
    go_wp2_with (go_at_call 49; first | ((with_reducible refine (q1 _).mono ?_); rintro e w' ⟨rfl, rfl⟩) | ((with_reducible refine (q2 _).mono ?_); rintro e w' ⟨rfl, rfl⟩) | ((with_reducible refine (q3 _).mono ?_); rintro e w' ⟨rfl, rfl⟩))
    obtain ⟨W5, hW5⟩ : ∃ W5, W5 = (((((w'.setCell ⟨X, 0, none⟩ (.bool true)).setCell ⟨X, 1, none⟩ (.bool false)).setCell ⟨X, 2, none⟩ (.bool true)).setCell ⟨X, 3, none⟩ (cloV 81 B1)).setCell ⟨X, 4, none⟩ (cloV 82 B2)) := ⟨_, rfl⟩
    obtain ⟨⟨y0, y1, y2, y3, y4⟩, s6⟩ := HEND.out _ hW5
    rw [← hW5]
    clear hW5
    exact bodyPost_ret (v := .tuple #[.agg #[.bool true, .bool false, .bool true, cloV 81 B1, cloV 82 B2], .bool false]) (by simp [results, Tryz.results33, go_sem, y0, y1, y2, y3, y4]) rfl ⟨B1, B2, B3, B4, rfl, s6⟩
  | true =>
    cases F2 with
    | false =>
      clear q3
      go_wp2_with (go_at_call 49; first | ((with_reducible refine (q1 _).mono ?_); rintro e w' ⟨rfl, rfl⟩) | ((with_reducible refine (q2 _).mono ?_); rintro e w' ⟨rfl, rfl⟩) | ((with_reducible refine (q3 _).mono ?_); rintro e w' ⟨rfl, rfl⟩))
      obtain ⟨W5, hW5⟩ : ∃ W5, W5 = (((((w'.setCell ⟨X, 0, none⟩ (.bool true)).setCell ⟨X, 1, none⟩ (.bool false)).setCell ⟨X, 2, none⟩ (.bool true)).setCell ⟨X, 3, none⟩ (cloV 81 B1)).setCell ⟨X, 4, none⟩ (cloV 82 B2)) := ⟨_, rfl⟩
      obtain ⟨⟨y0, y1, y2, y3, y4⟩, s6⟩ := HEND.out _ hW5
      rw [← hW5]
      clear hW5
      exact bodyPost_ret (v := .tuple #[.agg #[.bool true, .bool false, .bool true, cloV 81 B1, cloV 82 B2], .bool false]) (by simp [results, Tryz.results33, go_sem, y0, y1, y2, y3, y4]) rfl ⟨B1, B2, B3, B4, rfl, s6⟩
    | true =>
      cases F3 with
      | false =>
        go_wp2_with (go_at_call 49; first | ((with_reducible refine (q1 _).mono ?_); rintro e w' ⟨rfl, rfl⟩) | ((with_reducible refine (q2 _).mono ?_); rintro e w' ⟨rfl, rfl⟩) | ((with_reducible refine (q3 _).mono ?_); rintro e w' ⟨rfl, rfl⟩))
        obtain ⟨W5, hW5⟩ : ∃ W5, W5 = (((((w'.setCell ⟨X, 0, none⟩ (.bool true)).setCell ⟨X, 1, none⟩ (.bool false)).setCell ⟨X, 2, none⟩ (.bool true)).setCell ⟨X, 3, none⟩ (cloV 81 B1)).setCell ⟨X, 4, none⟩ (cloV 82 B2)) := ⟨_, rfl⟩
        obtain ⟨⟨y0, y1, y2, y3, y4⟩, s6⟩ := HEND.out _ hW5
        rw [← hW5]
        clear hW5
        exact bodyPost_ret (v := .tuple #[.agg #[.bool true, .bool false, .bool true, cloV 81 B1, cloV 82 B2], .bool false]) (by simp [results, Tryz.results33, go_sem, y0, y1, y2, y3, y4]) rfl ⟨B1, B2, B3, B4, rfl, s6⟩
      | true =>
        cases FY with
        | true =>
          go_wp2_with (go_at_call 49; first | ((with_reducible refine (q1 _).mono ?_); rintro e w' ⟨rfl, rfl⟩) | ((with_reducible refine (q2 _).mono ?_); rintro e w' ⟨rfl, rfl⟩) | ((with_reducible refine (q3 _).mono ?_); rintro e w' ⟨rfl, rfl⟩))
          obtain ⟨W5, hW5⟩ : ∃ W5, W5 = (((((w'.setCell ⟨X, 0, none⟩ (.bool true)).setCell ⟨X, 1, none⟩ (.bool false)).setCell ⟨X, 2, none⟩ (.bool true)).setCell ⟨X, 3, none⟩ (cloV 81 B1)).setCell ⟨X, 4, none⟩ (cloV 82 B2)) := ⟨_, rfl⟩
          obtain ⟨⟨y0, y1, y2, y3, y4⟩, s6⟩ := HEND.out _ hW5
          rw [← hW5]
          clear hW5
          exact bodyPost_ret (v := .tuple #[.agg #[.bool true, .bool false, .bool true, cloV 81 B1, cloV 82 B2], .bool true]) (by simp [results, Tryz.results33, go_sem, y0, y1, y2, y3, y4]) rfl ⟨B1, B2, B3, B4, rfl, s6⟩
        | false =>
          go_wp2_with (go_at_call 49; first | ((with_reducible refine (q1 _).mono ?_); rintro e w' ⟨rfl, rfl⟩) | ((with_reducible refine (q2 _).mono ?_); rintro e w' ⟨rfl, rfl⟩) | ((with_reducible refine (q3 _).mono ?_); rintro e w' ⟨rfl, rfl⟩))
          obtain ⟨W5, hW5⟩ : ∃ W5, W5 = (((((w'.setCell ⟨X, 0, none⟩ (.bool true)).setCell ⟨X, 1, none⟩ (.bool false)).setCell ⟨X, 2, none⟩ (.bool true)).setCell ⟨X, 3, none⟩ (cloV 81 B1)).setCell ⟨X, 4, none⟩ (cloV 82 B2)) := ⟨_, rfl⟩
          obtain ⟨⟨y0, y1, y2, y3, y4⟩, s6⟩ := HEND.out _ hW5
          rw [← hW5]
          clear hW5
          exact bodyPost_ret (v := .tuple #[.agg #[.bool true, .bool false, .bool true, cloV 81 B1, cloV 82 B2], .bool false]) (by simp [results, Tryz.results33, go_sem, y0, y1, y2, y3, y4]) rfl ⟨B1, B2, B3, B4, rfl, s6⟩
set_option maxRecDepth 100000 in
set_option maxHeartbeats 8000000 in
theorem rowOf_3 (hroom : 0 < roomM n) (hop : d.op = 3) : Calls Tryz.prog 33 #[.int .i64 n, d.val] w fun e w' => ∃ B1 B2 B3 B4, e = .returned (.tuple #[.agg #[.bool true, .bool true, .bool true, cloV 81 B3, cloV 82 B4], .bool (mayD n d)]) ∧ St w (rowS B1 B2 B3 B4) w' := by
  obtain ⟨op, a, b, x, y⟩ := d
  simp only at hop
  subst hop
  have hMay : mayD n ⟨3, a, b, x, y⟩ = (fldM true a (n - 1) && (fldM true b (n - 1) && (fldM true x 2147483648 && (y == 0)))) := by simp [mayD]
  rw [hMay]
  obtain ⟨hn1, hn2, hn3⟩ := room_pos hroom
  have s1 := (St.nil w).box #[.int .i64 3, .int .i64 a, .int .i64 b, .int .i64 x, .int .i64 y] 40
  have s2 := s1.box #[.bool false, .bool false, .bool false, .nilFunc, .nilFunc] 72
  have hT := table_new ((w.alloc (.cells #[.int .i64 3, .int .i64 a, .int .i64 b, .int .i64 x, .int .i64 y] 40)).alloc (.cells #[.bool false, .bool false, .bool false, .nilFunc, .nilFunc] 72))
  show Calls _ _ #[_, .agg #[.int .i64 3, .int .i64 a, .int .i64 b, .int .i64 x, .int .i64 y]] _ _
  have hR := fun W => Room_any n W
  rw [hn3] at hR
  have q1 := fun W => bmay_any true a (n - 1) W
  have q2 := fun W => bmay_any true b (n - 1) W
  have q3 := fun W => bmay_any true x 2147483648 W
  have t0 : (n == 0) = false := by simp; omega
  generalize fldM true a (n - 1) = F1 at *
  generalize fldM true b (n - 1) = F2 at *
  generalize fldM true x 2147483648 = F3 at *
  generalize ty : (y == 0) = FY at *
  clear hMay hroom hn3
  generalize e1 : w.alloc (.cells #[.int .i64 3, .int .i64 a, .int .i64 b, .int .i64 x, .int .i64 y] 40) = w1 at *
  generalize e2 : w1.alloc (.cells #[.bool false, .bool false, .bool false, .nilFunc, .nilFunc] 72) = w2 at *
  generalize eM : w.heap.size = M at *
  generalize eX : w1.heap.size = X at *
  go_enter Tryz.func33, Tryz.ntmps33
  go_wp2_with (first | simp only [e1, e2, eM, eX] | fail)
  refine hT.mono ?_
  rintro e w3 ⟨B1, B2, B3, B4, g, rfl, s3⟩
  have s4 := s2.join s3
  have s5 := s4.box #[.bool true, .bool true, .bool true, cloV 81 B3, cloV 82 B4] 72
  have c0 : w3.cell? ⟨M, 0, none⟩ = some (.int .i64 3) := s4.cell 6 rfl 0
  have r0 : w3.cell? ⟨g, 15, none⟩ = some (.bool true) := s4.cell 0 rfl 15
  have r1 : w3.cell? ⟨g, 16, none⟩ = some (.bool true) := s4.cell 0 rfl 16
  have r2 : w3.cell? ⟨g, 17, none⟩ = some (.bool true) := s4.cell 0 rfl 17
  have r3 : w3.cell? ⟨g, 18, none⟩ = some (cloV 81 B3) := s4.cell 0 rfl 18
  have r4 : w3.cell? ⟨g, 19, none⟩ = some (cloV 82 B4) := s4.cell 0 rfl 19
  have HS5 := hid s5
  clear hT s1 s2 s3 s4 s5 e1 e2 eM eX
  go_upto_region 6 with (go_at_call 10; refine (hR _).mono ?_; rintro e w' ⟨rfl, rfl⟩)
  generalize w'.heap.size = L at *
  obtain ⟨w4, hw4⟩ : ∃ w4, w4 = w'.alloc (.cells #[.bool true, .bool true, .bool true, cloV 81 B3, cloV 82 B4] 72) := ⟨_, rfl⟩
  rw [← hw4] at HS5 ⊢
  clear hw4 c0 r0 r1 r2 r3 r4
  have m1 : w4.cell? ⟨M, 1, none⟩ = some (.int .i64 a) := HS5.out.cell 7 rfl 1
  have m2 : w4.cell? ⟨M, 2, none⟩ = some (.int .i64 b) := HS5.out.cell 7 rfl 2
  have m3 : w4.cell? ⟨M, 3, none⟩ = some (.int .i64 x) := HS5.out.cell 7 rfl 3
  have m4 : w4.cell? ⟨M, 4, none⟩ = some (.int .i64 y) := HS5.out.cell 7 rfl 4
  have l0 : w4.cell? ⟨L, 0, none⟩ = some (.bool true) := HS5.out.cell 0 rfl 0
  have l1 : w4.cell? ⟨L, 1, none⟩ = some (.bool true) := HS5.out.cell 0 rfl 1
  have l2 : w4.cell? ⟨L, 2, none⟩ = some (.bool true) := HS5.out.cell 0 rfl 2
  have l3 : w4.cell? ⟨L, 3, none⟩ = some (cloV 81 B3) := HS5.out.cell 0 rfl 3
  have l4 : w4.cell? ⟨L, 4, none⟩ = some (cloV 82 B4) := HS5.out.cell 0 rfl 4
  have x0 : w4.cell? ⟨X, 0, none⟩ = some (.bool false) := HS5.out.cell 6 rfl 0
  have x1 : w4.cell? ⟨X, 1, none⟩ = some (.bool false) := HS5.out.cell 6 rfl 1
  have x2 : w4.cell? ⟨X, 2, none⟩ = some (.bool false) := HS5.out.cell 6 rfl 2
  have x3 : w4.cell? ⟨X, 3, none⟩ = some .nilFunc := HS5.out.cell 6 rfl 3
  have x4 : w4.cell? ⟨X, 4, none⟩ = some .nilFunc := HS5.out.cell 6 rfl 4
  have f0 : w4.frozen? ⟨X, 0, none⟩ = false := HS5.out.frozen 6 rfl 0
  have f1 : w4.frozen? ⟨X, 1, none⟩ = false := HS5.out.frozen 6 rfl 1
  have f2 : w4.frozen? ⟨X, 2, none⟩ = false := HS5.out.frozen 6 rfl 2
  have f3 : w4.frozen? ⟨X, 3, none⟩ = false := HS5.out.frozen 6 rfl 3
  have f4 : w4.frozen? ⟨X, 4, none⟩ = false := HS5.out.frozen 6 rfl 4
  have HEND : Hid (∀ W, W = ((((w4.setCell ⟨X, 0, none⟩ (.bool true)).setCell ⟨X, 1, none⟩ (.bool true)).setCell ⟨X, 2, none⟩ (.bool true)).setCell ⟨X, 3, none⟩ (cloV 81 B3)).setCell ⟨X, 4, none⟩ (cloV 82 B4) → (W.cell? ⟨X, 0, none⟩ = some (.bool true) ∧ W.cell? ⟨X, 1, none⟩ = some (.bool true) ∧ W.cell? ⟨X, 2, none⟩ = some (.bool true) ∧ W.cell? ⟨X, 3, none⟩ = some (cloV 81 B3) ∧ W.cell? ⟨X, 4, none⟩ = some (cloV 82 B4)) ∧ St w (rowS B1 B2 B3 B4) W) := by
    rintro W rfl
    have h9 := ((((HS5.out.write 6 rfl 0 (.bool true)).write 6 rfl 1 (.bool true)).write 6 rfl 2 (.bool true)).write 6 rfl 3 (cloV 81 B3)).write 6 rfl 4 (cloV 82 B4)
    refine ⟨⟨h9.cell 6 rfl 0, h9.cell 6 rfl 1, h9.cell 6 rfl 2, h9.cell 6 rfl 3, h9.cell 6 rfl 4⟩, ?_⟩
    have h10 := h9.pop.pop
    exact St.left (A := rowS B1 B2 B3 B4) h10
  clear HS5
  cases F1 with
  | false =>
    clear q2 q3
    go_wp2_with (go_at_call 49; first | ((with_reducible refine (q1 _).mono ?_); rintro e w' ⟨rfl, rfl⟩) | ((with_reducible refine (q2 _).mono ?_); rintro e w' ⟨rfl, rfl⟩) | ((with_reducible refine (q3 _).mono ?_); rintro e w' ⟨rfl, rfl⟩))
    obtain ⟨W5, hW5⟩ : ∃ W5, W5 = (((((w'.setCell ⟨X, 0, none⟩ (.bool true)).setCell ⟨X, 1, none⟩ (.bool true)).setCell ⟨X, 2, none⟩ (.bool true)).setCell ⟨X, 3, none⟩ (cloV 81 B3)).setCell ⟨X, 4, none⟩ (cloV 82 B4)) := ⟨_, rfl⟩
    obtain ⟨⟨y0, y1, y2, y3, y4⟩, s6⟩ := HEND.out _ hW5
    rw [← hW5]
    clear hW5
    exact bodyPost_ret (v := .tuple #[.agg #[.bool true, .bool true, .bool true, cloV 81 B3, cloV 82 B4], .bool false]) (by simp [results, Tryz.results33, go_sem, y0, y1, y2, y3, y4]) rfl ⟨B1, B2, B3, B4, rfl, s6⟩
  | true =>
    cases F2 with
    | false =>
      clear q3
      go_wp2_with (go_at_call 49; first | ((with_reducible refine (q1 _).mono ?_); rintro e w' ⟨rfl, rfl⟩) | ((with_reducible refine (q2 _).mono ?_); rintro e w' ⟨rfl, rfl⟩) | ((with_reducible refine (q3 _).mono ?_); rintro e w' ⟨rfl, rfl⟩))
      obtain ⟨W5, hW5⟩ : ∃ W5, W5 = (((((w'.setCell ⟨X, 0, none⟩ (.bool true)).setCell ⟨X, 1, none⟩ (.bool true)).setCell ⟨X, 2, none⟩ (.bool true)).setCell ⟨X, 3, none⟩ (cloV 81 B3)).setCell ⟨X, 4, none⟩ (cloV 82 B4)) := ⟨_, rfl⟩
      obtain ⟨⟨y0, y1, y2, y3, y4⟩, s6⟩ := HEND.out _ hW5
      rw [← hW5]
      clear hW5
      exact bodyPost_ret (v := .tuple #[.agg #[.bool true, .bool true, .bool true, cloV 81 B3, cloV 82 B4], .bool false]) (by simp [results, Tryz.results33, go_sem, y0, y1, y2, y3, y4]) rfl ⟨B1, B2, B3, B4, rfl, s6⟩
    | true =>
      cases F3 with
      | false =>
        go_wp2_with (go_at_call 49; first | ((with_reducible refine (q1 _).mono ?_); rintro e w' ⟨rfl, rfl⟩) | ((with_reducible refine (q2 _).mono ?_); rintro e w' ⟨rfl, rfl⟩) | ((with_reducible refine (q3 _).mono ?_); rintro e w' ⟨rfl, rfl⟩))
        obtain ⟨W5, hW5⟩ : ∃ W5, W5 = (((((w'.setCell ⟨X, 0, none⟩ (.bool true)).setCell ⟨X, 1, none⟩ (.bool true)).setCell ⟨X, 2, none⟩ (.bool true)).setCell ⟨X, 3, none⟩ (cloV 81 B3)).setCell ⟨X, 4, none⟩ (cloV 82 B4)) := ⟨_, rfl⟩
        obtain ⟨⟨y0, y1, y2, y3, y4⟩, s6⟩ := HEND.out _ hW5
        rw [← hW5]
        clear hW5
        exact bodyPost_ret (v := .tuple #[.agg #[.bool true, .bool true, .bool true, cloV 81 B3, cloV 82 B4], .bool false]) (by simp [results, Tryz.results33, go_sem, y0, y1, y2, y3, y4]) rfl ⟨B1, B2, B3, B4, rfl, s6⟩
      | true =>
        cases FY with
        | true =>
          go_wp2_with (go_at_call 49; first | ((with_reducible refine (q1 _).mono ?_); rintro e w' ⟨rfl, rfl⟩) | ((with_reducible refine (q2 _).mono ?_); rintro e w' ⟨rfl, rfl⟩) | ((with_reducible refine (q3 _).mono ?_); rintro e w' ⟨rfl, rfl⟩))
          obtain ⟨W5, hW5⟩ : ∃ W5, W5 = (((((w'.setCell ⟨X, 0, none⟩ (.bool true)).setCell ⟨X, 1, none⟩ (.bool true)).setCell ⟨X, 2, none⟩ (.bool true)).setCell ⟨X, 3, none⟩ (cloV 81 B3)).setCell ⟨X, 4, none⟩ (cloV 82 B4)) := ⟨_, rfl⟩
          obtain ⟨⟨y0, y1, y2, y3, y4⟩, s6⟩ := HEND.out _ hW5
          rw [← hW5]
          clear hW5
          exact bodyPost_ret (v := .tuple #[.agg #[.bool true, .bool true, .bool true, cloV 81 B3, cloV 82 B4], .bool true]) (by simp [results, Tryz.results33, go_sem, y0, y1, y2, y3, y4]) rfl ⟨B1, B2, B3, B4, rfl, s6⟩
        | false =>
          go_wp2_with (go_at_call 49; first | ((with_reducible refine (q1 _).mono ?_); rintro e w' ⟨rfl, rfl⟩) | ((with_reducible refine (q2 _).mono ?_); rintro e w' ⟨rfl, rfl⟩) | ((with_reducible refine (q3 _).mono ?_); rintro e w' ⟨rfl, rfl⟩))
          obtain ⟨W5, hW5⟩ : ∃ W5, W5 = (((((w'.setCell ⟨X, 0, none⟩ (.bool true)).setCell ⟨X, 1, none⟩ (.bool true)).setCell ⟨X, 2, none⟩ (.bool true)).setCell ⟨X, 3, none⟩ (cloV 81 B3)).setCell ⟨X, 4, none⟩ (cloV 82 B4)) := ⟨_, rfl⟩
          obtain ⟨⟨y0, y1, y2, y3, y4⟩, s6⟩ := HEND.out _ hW5
          rw [← hW5]
          clear hW5
          exact bodyPost_ret (v := .tuple #[.agg #[.bool true, .bool true, .bool true, cloV 81 B3, cloV 82 B4], .bool false]) (by simp [results, Tryz.results33, go_sem, y0, y1, y2, y3, y4]) rfl ⟨B1, B2, B3, B4, rfl, s6⟩
set_option maxRecDepth 100000 in
set_option maxHeartbeats 8000000 in
theorem rowOf_4 (hroom : 0 < roomM n) (hop : d.op = 4) : Calls Tryz.prog 33 #[.int .i64 n, d.val] w fun e w' => ∃ B1 B2 B3 B4, e = .returned (.tuple #[.agg #[.bool true, .bool false, .bool false, fnV 70, fnV 71], .bool (mayD n d)]) ∧ St w (rowS B1 B2 B3 B4) w' := by
  obtain ⟨op, a, b, x, y⟩ := d
  simp only at hop
  subst hop
  have hMay : mayD n ⟨4, a, b, x, y⟩ = (fldM true a (n - 1) && (fldM false b (n - 1) && (fldM false x 2147483648 && (y == 0)))) := by simp [mayD]
  rw [hMay]
  obtain ⟨hn1, hn2, hn3⟩ := room_pos hroom
  have s1 := (St.nil w).box #[.int .i64 4, .int .i64 a, .int .i64 b, .int .i64 x, .int .i64 y] 40
  have s2 := s1.box #[.bool false, .bool false, .bool false, .nilFunc, .nilFunc] 72
  have hT := table_new ((w.alloc (.cells #[.int .i64 4, .int .i64 a, .int .i64 b, .int .i64 x, .int .i64 y] 40)).alloc (.cells #[.bool false, .bool false, .bool false, .nilFunc, .nilFunc] 72))
  show Calls _ _ #[_, .agg #[.int .i64 4, .int .i64 a, .int .i64 b, .int .i64 x, .int .i64 y]] _ _
  have hR := fun W => Room_any n W
  rw [hn3] at hR
  have q1 := fun W => bmay_any true a (n - 1) W
  have q2 := fun W => bmay_any false b (n - 1) W
  have q3 := fun W => bmay_any false x 2147483648 W
  have t0 : (n == 0) = false := by simp; omega
  generalize fldM true a (n - 1) = F1 at *
  generalize fldM false b (n - 1) = F2 at *
  generalize fldM false x 2147483648 = F3 at *
  generalize ty : (y == 0) = FY at *
  clear hMay hroom hn3
  generalize e1 : w.alloc (.cells #[.int .i64 4, .int .i64 a, .int .i64 b, .int .i64 x, .int .i64 y] 40) = w1 at *
  generalize e2 : w1.alloc (.cells #[.bool false, .bool false, .bool false, .nilFunc, .nilFunc] 72) = w2 at *
  generalize eM : w.heap.size = M at *
  generalize eX : w1.heap.size = X at *
  go_enter Tryz.func33, Tryz.ntmps33
  go_wp2_with (first | simp only [e1, e2, eM, eX] | fail)
  refine hT.mono ?_
  rintro e w3 ⟨B1, B2, B3, B4, g, rfl, s3⟩
  have s4 := s2.join s3
  have s5 := s4.box #[.bool true, .bool false, .bool false, fnV 70, fnV 71] 72
  have c0 : w3.cell? ⟨M, 0, none⟩ = some (.int .i64 4) := s4.cell 6 rfl 0
  have r0 : w3.cell? ⟨g, 20, none⟩ = some (.bool true) := s4.cell 0 rfl 20
  have r1 : w3.cell? ⟨g, 21, none⟩ = some (.bool false) := s4.cell 0 rfl 21
  have r2 : w3.cell? ⟨g, 22, none⟩ = some (.bool false) := s4.cell 0 rfl 22
  have r3 : w3.cell? ⟨g, 23, none⟩ = some (fnV 70) := s4.cell 0 rfl 23
  have r4 : w3.cell? ⟨g, 24, none⟩ = some (fnV 71) := s4.cell 0 rfl 24
  have HS5 := hid s5
  clear hT s1 s2 s3 s4 s5 e1 e2 eM eX
  go_upto_region 6 with (go_at_call 10; refine (hR _).mono ?_; rintro e w' ⟨rfl, rfl⟩)
  generalize w'.heap.size = L at *
  obtain ⟨w4, hw4⟩ : ∃ w4, w4 = w'.alloc (.cells #[.bool true, .bool false, .bool false, fnV 70, fnV 71] 72) := ⟨_, rfl⟩
  rw [← hw4] at HS5 ⊢
  clear hw4 c0 r0 r1 r2 r3 r4
  have m1 : w4.cell? ⟨M, 1, none⟩ = some (.int .i64 a) := HS5.out.cell 7 rfl 1
  have m2 : w4.cell? ⟨M, 2, none⟩ = some (.int .i64 b) := HS5.out.cell 7 rfl 2
  have m3 : w4.cell? ⟨M, 3, none⟩ = some (.int .i64 x) := HS5.out.cell 7 rfl 3
  have m4 : w4.cell? ⟨M, 4, none⟩ = some (.int .i64 y) := HS5.out.cell 7 rfl 4
  have l0 : w4.cell? ⟨L, 0, none⟩ = some (.bool true) := HS5.out.cell 0 rfl 0
  have l1 : w4.cell? ⟨L, 1, none⟩ = some (.bool false) := HS5.out.cell 0 rfl 1
  have l2 : w4.cell? ⟨L, 2, none⟩ = some (.bool false) := HS5.out.cell 0 rfl 2
  have l3 : w4.cell? ⟨L, 3, none⟩ = some (fnV 70) := HS5.out.cell 0 rfl 3
  have l4 : w4.cell? ⟨L, 4, none⟩ = some (fnV 71) := HS5.out.cell 0 rfl 4
  have x0 : w4.cell? ⟨X, 0, none⟩ = some (.bool false) := HS5.out.cell 6 rfl 0
  have x1 : w4.cell? ⟨X, 1, none⟩ = some (.bool false) := HS5.out.cell 6 rfl 1
  have x2 : w4.cell? ⟨X, 2, none⟩ = some (.bool false) := HS5.out.cell 6 rfl 2
  have x3 : w4.cell? ⟨X, 3, none⟩ = some .nilFunc := HS5.out.cell 6 rfl 3
  have x4 : w4.cell? ⟨X, 4, none⟩ = some .nilFunc := HS5.out.cell 6 rfl 4
  have f0 : w4.frozen? ⟨X, 0, none⟩ = false := HS5.out.frozen 6 rfl 0
  have f1 : w4.frozen? ⟨X, 1, none⟩ = false := HS5.out.frozen 6 rfl 1
  have f2 : w4.frozen? ⟨X, 2, none⟩ = false := HS5.out.frozen 6 rfl 2
  have f3 : w4.frozen? ⟨X, 3, none⟩ = false := HS5.out.frozen 6 rfl 3
  have f4 : w4.frozen? ⟨X, 4, none⟩ = false := HS5.out.frozen 6 rfl 4
  have HEND : Hid (∀ W, W = ((((w4.setCell ⟨X, 0, none⟩ (.bool true)).setCell ⟨X, 1, none⟩ (.bool false)).setCell ⟨X, 2, none⟩ (.bool false)).setCell ⟨X, 3, none⟩ (fnV 70)).setCell ⟨X, 4, none⟩ (fnV 71) → (W.cell? ⟨X, 0, none⟩ = some (.bool true) ∧ W.cell? ⟨X, 1, none⟩ = some (.bool false) ∧ W.cell? ⟨X, 2, none⟩ = some (.bool false) ∧ W.cell? ⟨X, 3, none⟩ = some (fnV 70) ∧ W.cell? ⟨X, 4, none⟩ = some (fnV 71)) ∧ St w (rowS B1 B2 B3 B4) W) := by
    rintro W rfl
    have h9 := ((((HS5.out.write 6 rfl 0 (.bool true)).write 6 rfl 1 (.bool false)).write 6 rfl 2 (.bool false)).write 6 rfl 3 (fnV 70)).write 6 rfl 4 (fnV 71)
    refine ⟨⟨h9.cell 6 rfl 0, h9.cell 6 rfl 1, h9.cell 6 rfl 2, h9.cell 6 rfl 3, h9.cell 6 rfl 4⟩, ?_⟩
    have h10 := h9.pop.pop
    exact St.left (A := rowS B1 B2 B3 B4) h10
  clear HS5
  cases F1 with
  | false =>
    clear q2 q3
    go_wp2_with (go_at_call 49; first | ((with_reducible refine (q1 _).mono ?_); rintro e w' ⟨rfl, rfl⟩) | ((with_reducible refine (q2 _).mono ?_); rintro e w' ⟨rfl, rfl⟩) | ((with_reducible refine (q3 _).mono ?_); rintro e w' ⟨rfl, rfl⟩))
    obtain ⟨W5, hW5⟩ : ∃ W5, W5 = (((((w'.setCell ⟨X, 0, none⟩ (.bool true)).setCell ⟨X, 1, none⟩ (.bool false)).setCell ⟨X, 2, none⟩ (.bool false)).setCell ⟨X, 3, none⟩ (fnV 70)).setCell ⟨X, 4, none⟩ (fnV 71)) := ⟨_, rfl⟩
    obtain ⟨⟨y0, y1, y2, y3, y4⟩, s6⟩ := HEND.out _ hW5
    rw [← hW5]
    clear hW5
    exact bodyPost_ret (v := .tuple #[.agg #[.bool true, .bool false, .bool false, fnV 70, fnV 71], .bool false]) (by simp [results, Tryz.results33, go_sem, y0, y1, y2, y3, y4]) rfl ⟨B1, B2, B3, B4, rfl, s6⟩
  | true =>
    cases F2 with
    | false =>
      clear q3
      go_wp2_with (go_at_call 49; first | ((with_reducible refine (q1 _).mono ?_); rintro e w' ⟨rfl, rfl⟩) | ((with_reducible refine (q2 _).mono ?_); rintro e w' ⟨rfl, rfl⟩) | ((with_reducible refine (q3 _).mono ?_); rintro e w' ⟨rfl, rfl⟩))
      obtain ⟨W5, hW5⟩ : ∃ W5, W5 = (((((w'.setCell ⟨X, 0, none⟩ (.bool true)).setCell ⟨X, 1, none⟩ (.bool false)).setCell ⟨X, 2, none⟩ (.bool false)).setCell ⟨X, 3, none⟩ (fnV 70)).setCell ⟨X, 4, none⟩ (fnV 71)) := ⟨_, rfl⟩
      obtain ⟨⟨y0, y1, y2, y3, y4⟩, s6⟩ := HEND.out _ hW5
      rw [← hW5]
      clear hW5
      exact bodyPost_ret (v := .tuple #[.agg #[.bool true, .bool false, .bool false, fnV 70, fnV 71], .bool false]) (by simp [results, Tryz.results33, go_sem, y0, y1, y2, y3, y4]) rfl ⟨B1, B2, B3, B4, rfl, s6⟩
    | true =>
      cases F3 with
      | false =>
        go_wp2_with (go_at_call 49; first | ((with_reducible refine (q1 _).mono ?_); rintro e w' ⟨rfl, rfl⟩) | ((with_reducible refine (q2 _).mono ?_); rintro e w' ⟨rfl, rfl⟩) | ((with_reducible refine (q3 _).mono ?_); rintro e w' ⟨rfl, rfl⟩))
        obtain ⟨W5, hW5⟩ : ∃ W5, W5 = (((((w'.setCell ⟨X, 0, none⟩ (.bool true)).setCell ⟨X, 1, none⟩ (.bool false)).setCell ⟨X, 2, none⟩ (.bool false)).setCell ⟨X, 3, none⟩ (fnV 70)).setCell ⟨X, 4, none⟩ (fnV 71)) := ⟨_, rfl⟩
        obtain ⟨⟨y0, y1, y2, y3, y4⟩, s6⟩ := HEND.out _ hW5
        rw [← hW5]
        clear hW5
        exact bodyPost_ret (v := .tuple #[.agg #[.bool true, .bool false, .bool false, fnV 70, fnV 71], .bool false]) (by simp [results, Tryz.results33, go_sem, y0, y1, y2, y3, y4]) rfl ⟨B1, B2, B3, B4, rfl, s6⟩
      | true =>
        cases FY with
        | true =>
          go_wp2_with (go_at_call 49; first | ((with_reducible refine (q1 _).mono ?_); rintro e w' ⟨rfl, rfl⟩) | ((with_reducible refine (q2 _).mono ?_); rintro e w' ⟨rfl, rfl⟩) | ((with_reducible refine (q3 _).mono ?_); rintro e w' ⟨rfl, rfl⟩))
          obtain ⟨W5, hW5⟩ : ∃ W5, W5 = (((((w'.setCell ⟨X, 0, none⟩ (.bool true)).setCell ⟨X, 1, none⟩ (.bool false)).setCell ⟨X, 2, none⟩ (.bool false)).setCell ⟨X, 3, none⟩ (fnV 70)).setCell ⟨X, 4, none⟩ (fnV 71)) := ⟨_, rfl⟩
          obtain ⟨⟨y0, y1, y2, y3, y4⟩, s6⟩ := HEND.out _ hW5
          rw [← hW5]
          clear hW5
          exact bodyPost_ret (v := .tuple #[.agg #[.bool true, .bool false, .bool false, fnV 70, fnV 71], .bool true]) (by simp [results, Tryz.results33, go_sem, y0, y1, y2, y3, y4]) rfl ⟨B1, B2, B3, B4, rfl, s6⟩
        | false =>
          go_wp2_with (go_at_call 49; first | ((with_reducible refine (q1 _).mono ?_); rintro e w' ⟨rfl, rfl⟩) | ((with_reducible refine (q2 _).mono ?_); rintro e w' ⟨rfl, rfl⟩) | ((with_reducible refine (q3 _).mono ?_); rintro e w' ⟨rfl, rfl⟩))
          obtain ⟨W5, hW5⟩ : ∃ W5, W5 = (((((w'.setCell ⟨X, 0, none⟩ (.bool true)).setCell ⟨X, 1, none⟩ (.bool false)).setCell ⟨X, 2, none⟩ (.bool false)).setCell ⟨X, 3, none⟩ (fnV 70)).setCell ⟨X, 4, none⟩ (fnV 71)) := ⟨_, rfl⟩
          obtain ⟨⟨y0, y1, y2, y3, y4⟩, s6⟩ := HEND.out _ hW5
          rw [← hW5]
          clear hW5
          exact bodyPost_ret (v := .tuple #[.agg #[.bool true, .bool false, .bool false, fnV 70, fnV 71], .bool false]) (by simp [results, Tryz.results33, go_sem, y0, y1, y2, y3, y4]) rfl ⟨B1, B2, B3, B4, rfl, s6⟩
set_option maxRecDepth 100000 in
set_option maxHeartbeats 8000000 in
theorem rowOf_5 (hroom : 0 < roomM n) (hop : d.op = 5) : Calls Tryz.prog 33 #[.int .i64 n, d.val] w fun e w' => ∃ B1 B2 B3 B4, e = .returned (.tuple #[.agg #[.bool false, .bool false, .bool false, fnV 72, fnV 73], .bool (mayD n d)]) ∧ St w (rowS B1 B2 B3 B4) w' := by
  obtain ⟨op, a, b, x, y⟩ := d
  simp only at hop
  subst hop
  have hMay : mayD n ⟨5, a, b, x, y⟩ = (fldM false a (n - 1) && (fldM false b (n - 1) && (fldM false x 2147483648 && (y == 0)))) := by simp [mayD]
  rw [hMay]
  obtain ⟨hn1, hn2, hn3⟩ := room_pos hroom
  have s1 := (St.nil w).box #[.int .i64 5, .int .i64 a, .int .i64 b, .int .i64 x, .int .i64 y] 40
  have s2 := s1.box #[.bool false, .bool false, .bool false, .nilFunc, .nilFunc] 72
  have hT := table_new ((w.alloc (.cells #[.int .i64 5, .int .i64 a, .int .i64 b, .int .i64 x, .int .i64 y] 40)).alloc (.cells #[.bool false, .bool false, .bool false, .nilFunc, .nilFunc] 72))
  show Calls _ _ #[_, .agg #[.int .i64 5, .int .i64 a, .int .i64 b, .int .i64 x, .int .i64 y]] _ _
  have hR := fun W => Room_any n W
  rw [hn3] at hR
  have q1 := fun W => bmay_any false a (n - 1) W
  have q2 := fun W => bmay_any false b (n - 1) W
  have q3 := fun W => bmay_any false x 2147483648 W
  have t0 : (n == 0) = false := by simp; omega
  generalize fldM false a (n - 1) = F1 at *
  generalize fldM false b (n - 1) = F2 at *
  generalize fldM false x 2147483648 = F3 at *
  generalize ty : (y == 0) = FY at *
  clear hMay hroom hn3
  generalize e1 : w.alloc (.cells #[.int .i64 5, .int .i64 a, .int .i64 b, .int .i64 x, .int .i64 y] 40) = w1 at *
  generalize e2 : w1.alloc (.cells #[.bool false, .bool false, .bool false, .nilFunc, .nilFunc] 72) = w2 at *
  generalize eM : w.heap.size = M at *
  generalize eX : w1.heap.size = X at *
  go_enter Tryz.func33, Tryz.ntmps33
  go_wp2_with (first | simp only [e1, e2, eM, eX] | fail)
  refine hT.mono ?_
  rintro e w3 ⟨B1, B2, B3, B4, g, rfl, s3⟩
  have s4 := s2.join s3
  have s5 := s4.box #[.bool false, .bool false, .bool false, fnV 72, fnV 73] 72
  have c0 : w3.cell? ⟨M, 0, none⟩ = some (.int .i64 5) := s4.cell 6 rfl 0
  have r0 : w3.cell? ⟨g, 25, none⟩ = some (.bool false) := s4.cell 0 rfl 25
  have r1 : w3.cell? ⟨g, 26, none⟩ = some (.bool false) := s4.cell 0 rfl 26
  have r2 : w3.cell? ⟨g, 27, none⟩ = some (.bool false) := s4.cell 0 rfl 27
  have r3 : w3.cell? ⟨g, 28, none⟩ = some (fnV 72) := s4.cell 0 rfl 28
  have r4 : w3.cell? ⟨g, 29, none⟩ = some (fnV 73) := s4.cell 0 rfl 29
  have HS5 := hid s5
  clear hT s1 s2 s3 s4 s5 e1 e2 eM eX
  go_upto_region 6 with (go_at_call 10; refine (hR _).mono ?_; rintro e w' ⟨rfl, rfl⟩)
  generalize w'.heap.size = L at *
  obtain ⟨w4, hw4⟩ : ∃ w4, w4 = w'.alloc (.cells #[.bool false, .bool false, .bool false, fnV 72, fnV 73] 72) := ⟨_, rfl⟩
  rw [← hw4] at HS5 ⊢
  clear hw4 c0 r0 r1 r2 r3 r4
  have m1 : w4.cell? ⟨M, 1, none⟩ = some (.int .i64 a) := HS5.out.cell 7 rfl 1
  have m2 : w4.cell? ⟨M, 2, none⟩ = some (.int .i64 b) := HS5.out.cell 7 rfl 2
  have m3 : w4.cell? ⟨M, 3, none⟩ = some (.int .i64 x) := HS5.out.cell 7 rfl 3
  have m4 : w4.cell? ⟨M, 4, none⟩ = some (.int .i64 y) := HS5.out.cell 7 rfl 4
  have l0 : w4.cell? ⟨L, 0, none⟩ = some (.bool false) := HS5.out.cell 0 rfl 0
  have l1 : w4.cell? ⟨L, 1, none⟩ = some (.bool false) := HS5.out.cell 0 rfl 1
  have l2 : w4.cell? ⟨L, 2, none⟩ = some (.bool false) := HS5.out.cell 0 rfl 2
  have l3 : w4.cell? ⟨L, 3, none⟩ = some (fnV 72) := HS5.out.cell 0 rfl 3
  have l4 : w4.cell? ⟨L, 4, none⟩ = some (fnV 73) := HS5.out.cell 0 rfl 4
  have x0 : w4.cell? ⟨X, 0, none⟩ = some (.bool false) := HS5.out.cell 6 rfl 0
  have x1 : w4.cell? ⟨X, 1, none⟩ = some (.bool false) := HS5.out.cell 6 rfl 1
  have x2 : w4.cell? ⟨X, 2, none⟩ = some (.bool false) := HS5.out.cell 6 rfl 2
  have x3 : w4.cell? ⟨X, 3, none⟩ = some .nilFunc := HS5.out.cell 6 rfl 3
  have x4 : w4.cell? ⟨X, 4, none⟩ = some .nilFunc := HS5.out.cell 6 rfl 4
  have f0 : w4.frozen? ⟨X, 0, none⟩ = false := HS5.out.frozen 6 rfl 0
  have f1 : w4.frozen? ⟨X, 1, none⟩ = false := HS5.out.frozen 6 rfl 1
  have f2 : w4.frozen? ⟨X, 2, none⟩ = false := HS5.out.frozen 6 rfl 2
  have f3 : w4.frozen? ⟨X, 3, none⟩ = false := HS5.out.frozen 6 rfl 3
  have f4 : w4.frozen? ⟨X, 4, none⟩ = false := HS5.out.frozen 6 rfl 4
  have HEND : Hid (∀ W, W = ((((w4.setCell ⟨X, 0, none⟩ (.bool false)).setCell ⟨X, 1, none⟩ (.bool false)).setCell ⟨X, 2, none⟩ (.bool false)).setCell ⟨X, 3, none⟩ (fnV 72)).setCell ⟨X, 4, none⟩ (fnV 73) → (W.cell? ⟨X, 0, none⟩ = some (.bool false) ∧ W.cell? ⟨X, 1, none⟩ = some (.bool false) ∧ W.cell? ⟨X, 2, none⟩ = some (.bool false) ∧ W.cell? ⟨X, 3, none⟩ = some (fnV 72) ∧ W.cell? ⟨X, 4, none⟩ = some (fnV 73)) ∧ St w (rowS B1 B2 B3 B4) W) := by
    rintro W rfl
    have h9 := ((((HS5.out.write 6 rfl 0 (.bool false)).write 6 rfl 1 (.bool false)).write 6 rfl 2 (.bool false)).write 6 rfl 3 (fnV 72)).write 6 rfl 4 (fnV 73)
    refine ⟨⟨h9.cell 6 rfl 0, h9.cell 6 rfl 1, h9.cell 6 rfl 2, h9.cell 6 rfl 3, h9.cell 6 rfl 4⟩, ?_⟩
    have h10 := h9.pop.pop
    exact St.left (A := rowS B1 B2 B3 B4) h10
  clear HS5
  cases F1 with
  | false =>
    clear q2 q3
    go_wp2_with (go_at_call 49; first | ((with_reducible refine (q1 _).mono ?_); rintro e w' ⟨rfl, rfl⟩) | ((with_reducible refine (q2 _).mono ?_); rintro e w' ⟨rfl, rfl⟩) | ((with_reducible refine (q3 _).mono ?_); rintro e w' ⟨rfl, rfl⟩))
    obtain ⟨W5, hW5⟩ : ∃ W5, W5 = (((((w'.setCell ⟨X, 0, none⟩ (.bool false)).setCell ⟨X, 1, none⟩ (.bool false)).setCell ⟨X, 2, none⟩ (.bool false)).setCell ⟨X, 3, none⟩ (fnV 72)).setCell ⟨X, 4, none⟩ (fnV 73)) := ⟨_, rfl⟩
    obtain ⟨⟨y0, y1, y2, y3, y4⟩, s6⟩ := HEND.out _ hW5
    rw [← hW5]
    clear hW5
    exact bodyPost_ret (v := .tuple #[.agg #[.bool false, .bool false, .bool false, fnV 72, fnV 73], .bool false]) (by simp [results, Tryz.results33, go_sem, y0, y1, y2, y3, y4]) rfl ⟨B1, B2, B3, B4, rfl, s6⟩
  | true =>
    cases F2 with
    | false =>
      clear q3
      go_wp2_with (go_at_call 49; first | ((with_reducible refine (q1 _).mono ?_); rintro e w' ⟨rfl, rfl⟩) | ((with_reducible refine (q2 _).mono ?_); rintro e w' ⟨rfl, rfl⟩) | ((with_reducible refine (q3 _).mono ?_); rintro e w' ⟨rfl, rfl⟩))
      obtain ⟨W5, hW5⟩ : ∃ W5, W5 = (((((w'.setCell ⟨X, 0, none⟩ (.bool false)).setCell ⟨X, 1, none⟩ (.bool false)).setCell ⟨X, 2, none⟩ (.bool false)).setCell ⟨X, 3, none⟩ (fnV 72)).setCell ⟨X, 4, none⟩ (fnV 73)) := ⟨_, rfl⟩
      obtain ⟨⟨y0, y1, y2, y3, y4⟩, s6⟩ := HEND.out _ hW5
      rw [← hW5]
      clear hW5
      exact bodyPost_ret (v := .tuple #[.agg #[.bool false, .bool false, .bool false, fnV 72, fnV 73], .bool false]) (by simp [results, Tryz.results33, go_sem, y0, y1, y2, y3, y4]) rfl ⟨B1, B2, B3, B4, rfl, s6⟩
    | true =>
      cases F3 with
      | false =>
        go_wp2_with (go_at_call 49; first | ((with_reducible refine (q1 _).mono ?_); rintro e w' ⟨rfl, rfl⟩) | ((with_reducible refine (q2 _).mono ?_); rintro e w' ⟨rfl, rfl⟩) | ((with_reducible refine (q3 _).mono ?_); rintro e w' ⟨rfl, rfl⟩))
        obtain ⟨W5, hW5⟩ : ∃ W5, W5 = (((((w'.setCell ⟨X, 0, none⟩ (.bool false)).setCell ⟨X, 1, none⟩ (.bool false)).setCell ⟨X, 2, none⟩ (.bool false)).setCell ⟨X, 3, none⟩ (fnV 72)).setCell ⟨X, 4, none⟩ (fnV 73)) := ⟨_, rfl⟩
        obtain ⟨⟨y0, y1, y2, y3, y4⟩, s6⟩ := HEND.out _ hW5
        rw [← hW5]
        clear hW5
        exact bodyPost_ret (v := .tuple #[.agg #[.bool false, .bool false, .bool false, fnV 72, fnV 73], .bool false]) (by simp [results, Tryz.results33, go_sem, y0, y1, y2, y3, y4]) rfl ⟨B1, B2, B3, B4, rfl, s6⟩
      | true =>
        cases FY with
        | true =>
          go_wp2_with (go_at_call 49; first | ((with_reducible refine (q1 _).mono ?_); rintro e w' ⟨rfl, rfl⟩) | ((with_reducible refine (q2 _).mono ?_); rintro e w' ⟨rfl, rfl⟩) | ((with_reducible refine (q3 _).mono ?_); rintro e w' ⟨rfl, rfl⟩))
          obtain ⟨W5, hW5⟩ : ∃ W5, W5 = (((((w'.setCell ⟨X, 0, none⟩ (.bool false)).setCell ⟨X, 1, none⟩ (.bool false)).setCell ⟨X, 2, none⟩ (.bool false)).setCell ⟨X, 3, none⟩ (fnV 72)).setCell ⟨X, 4, none⟩ (fnV 73)) := ⟨_, rfl⟩
          obtain ⟨⟨y0, y1, y2, y3, y4⟩, s6⟩ := HEND.out _ hW5
          rw [← hW5]
          clear hW5
          exact bodyPost_ret (v := .tuple #[.agg #[.bool false, .bool false, .bool false, fnV 72, fnV 73], .bool true]) (by simp [results, Tryz.results33, go_sem, y0, y1, y2, y3, y4]) rfl ⟨B1, B2, B3, B4, rfl, s6⟩
        | false =>
          go_wp2_with (go_at_call 49; first | ((with_reducible refine (q1 _).mono ?_); rintro e w' ⟨rfl, rfl⟩) | ((with_reducible refine (q2 _).mono ?_); rintro e w' ⟨rfl, rfl⟩) | ((with_reducible refine (q3 _).mono ?_); rintro e w' ⟨rfl, rfl⟩))
          obtain ⟨W5, hW5⟩ : ∃ W5, W5 = (((((w'.setCell ⟨X, 0, none⟩ (.bool false)).setCell ⟨X, 1, none⟩ (.bool false)).setCell ⟨X, 2, none⟩ (.bool false)).setCell ⟨X, 3, none⟩ (fnV 72)).setCell ⟨X, 4, none⟩ (fnV 73)) := ⟨_, rfl⟩
          obtain ⟨⟨y0, y1, y2, y3, y4⟩, s6⟩ := HEND.out _ hW5
          rw [← hW5]
          clear hW5
          exact bodyPost_ret (v := .tuple #[.agg #[.bool false, .bool false, .bool false, fnV 72, fnV 73], .bool false]) (by simp [results, Tryz.results33, go_sem, y0, y1, y2, y3, y4]) rfl ⟨B1, B2, B3, B4, rfl, s6⟩

end
end Go.Proofs.YtmoekoilcdkhfaaGreatDoor
