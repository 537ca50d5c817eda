/- Package ghost: put, where a story begins. -/
import Derived.Test.YtkhbkdabihokjaaGc

namespace Go.Proofs.Ytkhbkdabihokjaa
open Go.RowKit Go.MapKept
open Go.Maps (Keyed)
set_option linter.unusedVariables false
set_option linter.unusedSimpArgs false
attribute [local go_sem ↓] Go.wp_at_zero Go.wp_at_succ

theorem buildS (W : World) (a b c d : Int) : (Instr.buildSlice 27 1 #[(0, .agg #[.int .i64 a, .int .i64 b, .int .i64 c, .int .i64 0, .int .i64 0, .int .i64 0, .int .i64 0, .int .i64 d, .int .i64 0, .slice none 0 0])]).run Try.prog W = .ok (.slice (some ⟨W.heap.size, 0, none⟩) 1 1) (W.alloc (.cells #[.int .i64 a, .int .i64 b, .int .i64 c, .int .i64 0, .int .i64 0, .int .i64 0, .int .i64 0, .int .i64 d, .int .i64 0, .slice none 0 0] 36)) := by kernel_rfl
theorem alloc_cell {w : World} {a : Addr} {u : Value} (h : w.cell? a = some u) (x : Obj) : (w.alloc x).cell? a = some u := by
  rw [World.cell?_of_block (Below.heap_alloc w _ a.block (World.block_lt_of_cell? w _ h))]; exact h
theorem perm5 (a b c d e : It) (M R : List It) : (a :: b :: c :: d :: e :: (M ++ R)).Perm (d :: c :: e :: b :: ((M ++ [a]) ++ R)) := by
  have h1 : (d :: c :: e :: b :: ((M ++ [a]) ++ R)).Perm (a :: (d :: c :: e :: b :: (M ++ R))) := by
    have := List.perm_middle (l₁ := d :: c :: e :: b :: M) (a := a) (l₂ := R)
    simpa using this
  have h2 : (d :: c :: e :: b :: (M ++ R)).Perm (b :: d :: c :: e :: (M ++ R)) := List.perm_middle (l₁ := [d, c, e]) (a := b) (l₂ := M ++ R)
  exact (h1.trans ((h2.trans ((List.Perm.swap _ _ _).cons b)).cons a)).symm
set_option maxRecDepth 100000 in
set_option maxHeartbeats 4000000 in
theorem put_begin {o w : World} {R : List It} {X mb : Nat} {sv : Value} {L : List Sm} {ls : List Pr} {st : Int} (h : St o (bkL X mb sv L ls st R) w) (v : Ev) (hk : v.kd = 1) (hn : ∀ p ∈ ls, p.1 ≠ v.th) (hth : -9223372036854775808 ≤ v.th ∧ v.th ≤ 9223372036854775807) (hsz : (L.length + 1) * 96 ≤ 140737488355328) :
    Calls Try.prog 31 #[.pointer (some ⟨X, 0, none⟩), evV v] w fun e w' => e = .returned (.tuple #[]) ∧ ∃ sv', St o (bkL X mb sv' (L ++ [⟨v.opens, none, 0⟩]) ((v.th, (L.length : Int)) :: ls) v.st R) w' := by
  obtain ⟨kd, sp', th, sp, ce, x, ow, ga, er, by_⟩ := v
  simp only at hk hn hth
  subst hk
  have s1 := h.box #[.int .i64 1, .int .i64 sp', .int .i64 th, .int .i64 sp, .int .i64 ce, .int .i64 x, .bool ow, .int .i64 ga, .int .i64 er, .int .i64 by_] 26
  generalize hw1 : w.alloc (.cells #[.int .i64 1, .int .i64 sp', .int .i64 th, .int .i64 sp, .int .i64 ce, .int .i64 x, .bool ow, .int .i64 ga, .int .i64 er, .int .i64 by_] 26) = w1 at *
  generalize hE : w.heap.size = E at *
  obtain ⟨la, lc, rfl, _, _, _⟩ := r_rin h 2 rfl (fun _ => rfl)
  have a1 := s1.cell 0 rfl 1
  have b2 := s1.cell 1 rfl 2
  have g2 := s1.frozen 1 rfl 2
  have s2 := s1.write 1 rfl 2 (.int .i64 sp')
  have HS2 := hid s2
  clear s1 s2 h
  unfold evV
  simp only
  go_enter Try.func31, Try.ntmps31
  go_upto_region 2 with (simp only [hw1, hE])
  clear hw1 a1 b2 g2
  generalize w1.setCell ⟨X, 2, none⟩ (.int .i64 sp') = w2 at *
  have s2 : St o (mapV mb ls :: boxI E #[.int .i64 1, .int .i64 sp', .int .i64 th, .int .i64 sp, .int .i64 ce, .int .i64 x, .bool ow, .int .i64 ga, .int .i64 er, .int .i64 by_] 26 :: boxI X #[.slice la L.length lc, .map (some mb), .int .i64 sp'] 65 :: lstR sC 36 10 (.slice la L.length lc) L :: (L.map mvI ++ R)) w2 := HS2.out.perm (List.Perm.trans (List.Perm.cons _ (List.Perm.swap _ _ _)) (List.Perm.swap _ _ _))
  clear HS2
  have a0 := s2.cell 1 rfl 0
  have a2 := s2.drew.cell 1 rfl 2
  have b1 := s2.drew.cell 2 rfl 1
  have b0 := s2.drew.cell 2 rfl 0
  obtain ⟨w3, hup, -, s3⟩ := storeV_new (P := Try.prog) (t := 63) (k := 3) (e := 3) (v := (L.length : Int)) s2.drew Try.underlying3 Try.underlying63 hth hn
  have HS3 := hid s3
  clear s2 s3
  go_upto_region 4 with fail
  go_region
  go_upto_region 5 with fail
  clear a0 a2 b1 b0 hup
  have s3 := HS3.out
  clear HS3
  have e1 := s3.cell 1 rfl 1
  have e2 := s3.cell 1 rfl 2
  have e3 := s3.cell 1 rfl 3
  have e7 := s3.cell 1 rfl 7
  have b0 := s3.cell 2 rfl 0
  have g0 := s3.frozen 2 rfl 0
  simp only [List.getElem?_toArray, List.getElem?_cons_succ, List.getElem?_cons_zero] at e1 e2 e3 e7 b0
  have e1' := alloc_cell e1
  have e2' := alloc_cell e2
  have e3' := alloc_cell e3
  have e7' := alloc_cell e7
  have b0' := alloc_cell b0
  have hbs := buildS w3 th sp sp' ga
  have hbs' := buildS w3.drew th sp sp' ga
  have hr := (r_box (f := sC) sC_len 36 s3 ⟨Ev.opens ⟨1, sp', th, sp, ce, x, ow, ga, er, by_⟩, none, 0⟩ _ rfl).kept (kept_drew _)
  have s4 := (s3.alloc (.cells #[.int .i64 th, .int .i64 sp, .int .i64 sp', .int .i64 0, .int .i64 0, .int .i64 0, .int .i64 0, .int .i64 ga, .int .i64 0, .slice none 0 0] 36)).drew
  have s5 : St o (lstR sC 36 10 (.slice la L.length lc) L :: boxI X #[.slice la L.length lc, .map (some mb), .int .i64 sp'] 65 :: boxI E #[.int .i64 1, .int .i64 sp', .int .i64 th, .int .i64 sp, .int .i64 ce, .int .i64 x, .bool ow, .int .i64 ga, .int .i64 er, .int .i64 by_] 26 :: mapV mb ((th, (L.length : Int)) :: ls) :: (L.map mvI ++ R)) _ := s4.perm (by
    refine List.Perm.trans ?_ ((List.reverse_perm [_, _, _, _]).append_right _)
    exact List.Perm.refl _)
  have HV : Hid (∀ v' w', St o (lstR sC 36 10 v' (L ++ [⟨Ev.opens ⟨1, sp', th, sp, ce, x, ow, ga, er, by_⟩, none, 0⟩]) :: boxI X #[.slice la L.length lc, .map (some mb), .int .i64 sp'] 65 :: boxI E #[.int .i64 1, .int .i64 sp', .int .i64 th, .int .i64 sp, .int .i64 ce, .int .i64 x, .bool ow, .int .i64 ga, .int .i64 er, .int .i64 by_] 26 :: mapV mb ((th, (L.length : Int)) :: ls) :: (L.map mvI ++ R)) w' → ∃ g cap, v' = .slice (some ⟨g, 0, none⟩) (L.length + 1) cap ∧ w'.cell? ⟨X, 0, none⟩ = some (.slice la L.length lc) ∧ w'.frozen? ⟨X, 0, none⟩ = false ∧ (w'.cell? ⟨E, 1, none⟩ = some (.int .i64 sp') ∧ w'.cell? ⟨E, 2, none⟩ = some (.int .i64 th) ∧ w'.cell? ⟨E, 3, none⟩ = some (.int .i64 sp) ∧ w'.cell? ⟨E, 7, none⟩ = some (.int .i64 ga)) ∧ ((w'.setCell ⟨X, 0, none⟩ v').cell? ⟨E, 1, none⟩ = some (.int .i64 sp') ∧ (w'.setCell ⟨X, 0, none⟩ v').cell? ⟨E, 2, none⟩ = some (.int .i64 th) ∧ (w'.setCell ⟨X, 0, none⟩ v').cell? ⟨E, 3, none⟩ = some (.int .i64 sp) ∧ (w'.setCell ⟨X, 0, none⟩ v').cell? ⟨E, 7, none⟩ = some (.int .i64 ga)) ∧ St o (bkL X mb v' (L ++ [⟨Ev.opens ⟨1, sp', th, sp, ce, x, ow, ga, er, by_⟩, none, 0⟩]) ((th, (L.length : Int)) :: ls) sp' R) (w'.setCell ⟨X, 0, none⟩ v')) := hid (by
    intro v' w' s7
    obtain ⟨g, cap, hv⟩ := s7.form 0 rfl (by simp)
    have s8 := s7.write 1 rfl 0 v'
    refine ⟨g, cap, by simpa using hv, s7.cell 1 rfl 0, s7.frozen 1 rfl 0, ⟨s7.cell 2 rfl 1, s7.cell 2 rfl 2, s7.cell 2 rfl 3, s7.cell 2 rfl 7⟩, ⟨s8.cell 2 rfl 1, s8.cell 2 rfl 2, s8.cell 2 rfl 3, s8.cell 2 rfl 7⟩, ?_⟩
    have s9 := s8.own (e := 38) (z := 6) (v := .slice none 0 0) (n := 0) (xs := []) (Kept.refl _ _) (World.ownsRow_nil _ _ _ _)
    have sA := (s9.perm (perm5 _ _ _ _ _ _ _)).pop
    show St o (_ :: _ :: _ :: ((L ++ [_]).map mvI ++ R)) _
    rw [List.map_append]
    exact sA)
  have HSZ := hid hsz
  have HS5 := hid s5
  have HR := hid hr
  clear s3 s4 s5 hr hsz hn hth
  have d0 : w3.drew.cell? ⟨X, 0, none⟩ = some (.slice la L.length lc) := b0
  refine wp_region_held_drew (S := fun W => W.cell? ⟨E, 1, none⟩ = some (.int .i64 sp') ∧ W.cell? ⟨E, 2, none⟩ = some (.int .i64 th) ∧ W.cell? ⟨E, 3, none⟩ = some (.int .i64 sp) ∧ W.cell? ⟨E, 7, none⟩ = some (.int .i64 ga)) (by kernel_rfl) ⟨e1, e2, e3, e7⟩ (fun hHeld => ?_)
  refine wpAnyH_take (i := 0) (oi := { dst := some 25, op := Op.move (Operand.tmp 0), type := 59, pos := "book.go:39", after := #[], guard := none }) (v := ?v2_0) rfl (by kernel_rfl) (by kernel_rfl) (by kernel_rfl) (fun _ _ _ h => h) (Or.inl ⟨by rfl, ?hy2_0⟩) (by assumption) ?_
  case hy2_0 => (intro W hSw; (try dsimp only at hSw); go_simp; (try with_reducible rfl))
  try simp only [Act.put, List.setIfInBounds_toArray, List.set_cons_zero, List.set_cons_succ]
  refine wpAnyH_take (i := 1) (oi := { dst := some 26, op := Op.move (Operand.tmp 0), type := 59, pos := "book.go:39", after := #[], guard := none }) (v := ?v2_1) rfl (by kernel_rfl) (by kernel_rfl) (by kernel_rfl) (fun _ _ _ h => h) (Or.inl ⟨by rfl, ?hy2_1⟩) (by assumption) ?_
  case hy2_1 => (intro W hSw; (try dsimp only at hSw); go_simp; (try with_reducible rfl))
  try simp only [Act.put, List.setIfInBounds_toArray, List.set_cons_zero, List.set_cons_succ]
  refine wpAnyH_take (i := 2) (oi := { dst := some 27, op := Op.nilCheck (Operand.tmp 26), type := 0, pos := "book.go:39", after := #[{ on := 1, ground := Ground.data }], guard := none }) (v := ?v2_2) rfl (by kernel_rfl) (by kernel_rfl) (by kernel_rfl) (fun _ _ _ h => h) (Or.inl ⟨by rfl, ?hy2_2⟩) (by assumption) ?_
  case hy2_2 => (intro W hSw; (try dsimp only at hSw); go_simp; (try with_reducible rfl))
  try simp only [Act.put, List.setIfInBounds_toArray, List.set_cons_zero, List.set_cons_succ]
  refine wpAnyH_take (i := 3) (oi := { dst := some 28, op := Op.fieldAddr 65 (Operand.tmp 27) 0, type := 0, pos := "book.go:39", after := #[{ on := 2, ground := Ground.data }], guard := none }) (v := ?v2_3) rfl (by kernel_rfl) (by kernel_rfl) (by kernel_rfl) (fun _ _ _ h => h) (Or.inl ⟨by rfl, ?hy2_3⟩) (by assumption) ?_
  case hy2_3 => (intro W hSw; (try dsimp only at hSw); go_simp; (try with_reducible rfl))
  try simp only [Act.put, List.setIfInBounds_toArray, List.set_cons_zero, List.set_cons_succ]
  refine wpAnyH_take (i := 5) (oi := { dst := some 30, op := Op.fieldAddr 26 (Operand.tmp 3) 2, type := 0, pos := "book.go:39", after := #[], guard := none }) (v := ?v2_5) rfl (by kernel_rfl) (by kernel_rfl) (by kernel_rfl) (fun _ _ _ h => h) (Or.inl ⟨by rfl, ?hy2_5⟩) (by assumption) ?_
  case hy2_5 => (intro W hSw; (try dsimp only at hSw); go_simp; (try with_reducible rfl))
  try simp only [Act.put, List.setIfInBounds_toArray, List.set_cons_zero, List.set_cons_succ]
  refine wpAnyH_take (i := 6) (oi := { dst := some 31, op := Op.load 3 (Operand.tmp 30), type := 3, pos := "book.go:39", after := #[{ on := 5, ground := Ground.data }], guard := none }) (v := ?v2_6) rfl (by kernel_rfl) (by kernel_rfl) (by kernel_rfl) (fun _ _ _ h => h) (Or.inl ⟨by rfl, ?hy2_6⟩) (by assumption) ?_
  case hy2_6 => (intro W hSw; (try dsimp only at hSw); go_simp; (try with_reducible rfl))
  try simp only [Act.put, List.setIfInBounds_toArray, List.set_cons_zero, List.set_cons_succ]
  refine wpAnyH_take (i := 7) (oi := { dst := some 32, op := Op.fieldAddr 26 (Operand.tmp 3) 3, type := 0, pos := "book.go:39", after := #[], guard := none }) (v := ?v2_7) rfl (by kernel_rfl) (by kernel_rfl) (by kernel_rfl) (fun _ _ _ h => h) (Or.inl ⟨by rfl, ?hy2_7⟩) (by assumption) ?_
  case hy2_7 => (intro W hSw; (try dsimp only at hSw); go_simp; (try with_reducible rfl))
  try simp only [Act.put, List.setIfInBounds_toArray, List.set_cons_zero, List.set_cons_succ]
  refine wpAnyH_take (i := 8) (oi := { dst := some 33, op := Op.load 3 (Operand.tmp 32), type := 3, pos := "book.go:39", after := #[{ on := 7, ground := Ground.data }], guard := none }) (v := ?v2_8) rfl (by kernel_rfl) (by kernel_rfl) (by kernel_rfl) (fun _ _ _ h => h) (Or.inl ⟨by rfl, ?hy2_8⟩) (by assumption) ?_
  case hy2_8 => (intro W hSw; (try dsimp only at hSw); go_simp; (try with_reducible rfl))
  try simp only [Act.put, List.setIfInBounds_toArray, List.set_cons_zero, List.set_cons_succ]
  refine wpAnyH_take (i := 9) (oi := { dst := some 34, op := Op.fieldAddr 26 (Operand.tmp 3) 1, type := 0, pos := "book.go:39", after := #[], guard := none }) (v := ?v2_9) rfl (by kernel_rfl) (by kernel_rfl) (by kernel_rfl) (fun _ _ _ h => h) (Or.inl ⟨by rfl, ?hy2_9⟩) (by assumption) ?_
  case hy2_9 => (intro W hSw; (try dsimp only at hSw); go_simp; (try with_reducible rfl))
  try simp only [Act.put, List.setIfInBounds_toArray, List.set_cons_zero, List.set_cons_succ]
  refine wpAnyH_take (i := 10) (oi := { dst := some 35, op := Op.load 3 (Operand.tmp 34), type := 3, pos := "book.go:39", after := #[{ on := 9, ground := Ground.data }], guard := none }) (v := ?v2_10) rfl (by kernel_rfl) (by kernel_rfl) (by kernel_rfl) (fun _ _ _ h => h) (Or.inl ⟨by rfl, ?hy2_10⟩) (by assumption) ?_
  case hy2_10 => (intro W hSw; (try dsimp only at hSw); go_simp; (try with_reducible rfl))
  try simp only [Act.put, List.setIfInBounds_toArray, List.set_cons_zero, List.set_cons_succ]
  refine wpAnyH_take (i := 11) (oi := { dst := some 36, op := Op.fieldAddr 26 (Operand.tmp 3) 7, type := 0, pos := "book.go:39", after := #[], guard := none }) (v := ?v2_11) rfl (by kernel_rfl) (by kernel_rfl) (by kernel_rfl) (fun _ _ _ h => h) (Or.inl ⟨by rfl, ?hy2_11⟩) (by assumption) ?_
  case hy2_11 => (intro W hSw; (try dsimp only at hSw); go_simp; (try with_reducible rfl))
  try simp only [Act.put, List.setIfInBounds_toArray, List.set_cons_zero, List.set_cons_succ]
  refine wpAnyH_take (i := 12) (oi := { dst := some 37, op := Op.load 3 (Operand.tmp 36), type := 3, pos := "book.go:39", after := #[{ on := 11, ground := Ground.data }], guard := none }) (v := ?v2_12) rfl (by kernel_rfl) (by kernel_rfl) (by kernel_rfl) (fun _ _ _ h => h) (Or.inl ⟨by rfl, ?hy2_12⟩) (by assumption) ?_
  case hy2_12 => (intro W hSw; (try dsimp only at hSw); go_simp; (try with_reducible rfl))
  try simp only [Act.put, List.setIfInBounds_toArray, List.set_cons_zero, List.set_cons_succ]
  refine wpAnyH_take (i := 13) (oi := { dst := some 38, op := Op.build 36 #[(0, Operand.tmp 31), (1, Operand.tmp 33), (2, Operand.tmp 35), (7, Operand.tmp 37)], type := 36, pos := "book.go:39", after := #[{ on := 6, ground := Ground.data }, { on := 8, ground := Ground.data }, { on := 10, ground := Ground.data }, { on := 12, ground := Ground.data }], guard := none }) (v := ?v2_13) rfl (by kernel_rfl) (by kernel_rfl) (by kernel_rfl) (fun _ _ _ h => h) (Or.inl ⟨by rfl, ?hy2_13⟩) (by assumption) ?_
  case hy2_13 => (intro W hSw; (try dsimp only at hSw); go_simp; (try with_reducible rfl))
  try simp only [Act.put, List.setIfInBounds_toArray, List.set_cons_zero, List.set_cons_succ]
  refine wpAnyH_ready (rs := [4, 14]) (by kernel_rfl) (by simp) ?_
  refine (AllReadyH.cons (o := { dst := some 29, op := Op.load 27 (Operand.tmp 28), type := 27, pos := "book.go:39", after := #[{ on := 3, ground := Ground.data }], guard := none }) rfl (fun K hK => ?_) (AllReadyH.cons (o := { dst := some 39, op := Op.buildSlice 27 1 #[(0, Operand.tmp 38)], type := 27, pos := "book.go:39", after := #[{ on := 13, ground := Ground.data }], guard := none }) rfl (fun K hK => ?_) AllReadyH.nil))
  ·
    go_simp
    refine hK.out _ _ ⟨e1, e2, e3, e7⟩ (fun hHeld => ?_)
    clear hK K
    try simp only [Act.put, List.setIfInBounds_toArray, List.set_cons_zero, List.set_cons_succ]
    refine wpAnyH_ready (rs := [14]) (by kernel_rfl) (by simp) ?_
    refine (AllReadyH.cons (o := { dst := some 39, op := Op.buildSlice 27 1 #[(0, Operand.tmp 38)], type := 27, pos := "book.go:39", after := #[{ on := 13, ground := Ground.data }], guard := none }) rfl (fun K hK => ?_) AllReadyH.nil)
    go_simp
    refine hK.out _ _ ⟨e1' _, e2' _, e3' _, e7' _⟩ (fun hHeld => ?_)
    clear hK K
    try simp only [Act.put, List.setIfInBounds_toArray, List.set_cons_zero, List.set_cons_succ]
    refine wpAnyH_ready (rs := [15]) (by kernel_rfl) (by simp) ?_
    refine (AllReadyH.cons (o := { dst := some 40, op := Op.call { callee := Callee.builtin Builtin.append, args := #[Operand.tmp 29, Operand.tmp 39], argTypes := #[27, 27] }, type := 27, pos := "book.go:39", after := #[{ on := 4, ground := Ground.data }, { on := 14, ground := Ground.data }], guard := none }) rfl (fun K hK => ?_) AllReadyH.nil)
    refine step_appR Try.rowS HS5.out (by rfl) _ _ (by rfl) (by rfl) (some ⟨w3.heap.size, 0, none⟩) 1 1 (by rfl) HR.out (fun e => by cases e) HSZ.out ?_
    intro v' w' s7
    obtain ⟨g, cap, rfl, k0, kf, hq, hq2, s8⟩ := HV.out v' w' s7
    have H8 := hid s8
    have HQ2 := hid hq2
    clear HV s8 s7 hq2
    refine hK.out _ _ hq (fun hHeld => ?_)
    clear hK K
    try simp only [Act.put, List.setIfInBounds_toArray, List.set_cons_zero, List.set_cons_succ]
    refine wpAnyH_take (i := 16) (oi := { dst := some 41, op := Op.nilCheck (Operand.tmp 25), type := 0, pos := "book.go:39", after := #[{ on := 0, ground := Ground.data }, { on := 0, ground := Ground.phase }, { on := 1, ground := Ground.phase }, { on := 2, ground := Ground.phase }, { on := 3, ground := Ground.phase }, { on := 4, ground := Ground.phase }, { on := 5, ground := Ground.phase }, { on := 6, ground := Ground.phase }, { on := 7, ground := Ground.phase }, { on := 8, ground := Ground.phase }, { on := 9, ground := Ground.phase }, { on := 10, ground := Ground.phase }, { on := 11, ground := Ground.phase }, { on := 12, ground := Ground.phase }, { on := 13, ground := Ground.phase }, { on := 14, ground := Ground.phase }, { on := 15, ground := Ground.phase }], guard := none }) (v := ?v9_16) rfl (by kernel_rfl) (by kernel_rfl) (by kernel_rfl) (fun _ _ _ h => h) (Or.inl ⟨by rfl, ?hy9_16⟩) (by assumption) ?_
    case hy9_16 => (intro W hSw; (try dsimp only at hSw); go_simp; (try with_reducible rfl))
    try simp only [Act.put, List.setIfInBounds_toArray, List.set_cons_zero, List.set_cons_succ]
    refine wpAnyH_take (i := 17) (oi := { dst := some 42, op := Op.fieldAddr 65 (Operand.tmp 41) 0, type := 0, pos := "book.go:39", after := #[{ on := 16, ground := Ground.data }, { on := 0, ground := Ground.phase }, { on := 1, ground := Ground.phase }, { on := 2, ground := Ground.phase }, { on := 3, ground := Ground.phase }, { on := 4, ground := Ground.phase }, { on := 5, ground := Ground.phase }, { on := 6, ground := Ground.phase }, { on := 7, ground := Ground.phase }, { on := 8, ground := Ground.phase }, { on := 9, ground := Ground.phase }, { on := 10, ground := Ground.phase }, { on := 11, ground := Ground.phase }, { on := 12, ground := Ground.phase }, { on := 13, ground := Ground.phase }, { on := 14, ground := Ground.phase }, { on := 15, ground := Ground.phase }], guard := none }) (v := ?v9_17) rfl (by kernel_rfl) (by kernel_rfl) (by kernel_rfl) (fun _ _ _ h => h) (Or.inl ⟨by rfl, ?hy9_17⟩) (by assumption) ?_
    case hy9_17 => (intro W hSw; (try dsimp only at hSw); go_simp; (try with_reducible rfl))
    try simp only [Act.put, List.setIfInBounds_toArray, List.set_cons_zero, List.set_cons_succ]
    refine wpAnyH_ready (rs := [18]) (by kernel_rfl) (by simp) ?_
    refine (AllReadyH.cons (o := { dst := none, op := Op.store 27 (Operand.tmp 42) (Operand.tmp 40), type := 0, pos := "book.go:39", after := #[{ on := 17, ground := Ground.data }, { on := 15, ground := Ground.data }, { on := 15, ground := Ground.chain }, { on := 0, ground := Ground.phase }, { on := 1, ground := Ground.phase }, { on := 2, ground := Ground.phase }, { on := 3, ground := Ground.phase }, { on := 4, ground := Ground.phase }, { on := 5, ground := Ground.phase }, { on := 6, ground := Ground.phase }, { on := 7, ground := Ground.phase }, { on := 8, ground := Ground.phase }, { on := 9, ground := Ground.phase }, { on := 10, ground := Ground.phase }, { on := 11, ground := Ground.phase }, { on := 12, ground := Ground.phase }, { on := 13, ground := Ground.phase }, { on := 14, ground := Ground.phase }, { on := 15, ground := Ground.phase }], guard := none }) rfl (fun K hK => ?_) AllReadyH.nil)
    go_simp
    refine hK.out _ _ HQ2.out (fun hHeld => ?_)
    clear hK K
    try simp only [Act.put, List.setIfInBounds_toArray, List.set_cons_zero, List.set_cons_succ]
    refine wpAnyH_done (by kernel_rfl) ?_ _
    go_wp2
    go_end0
    exact ⟨rfl, _, H8.out⟩
  ·
    go_simp
    refine hK.out _ _ ⟨e1' _, e2' _, e3' _, e7' _⟩ (fun hHeld => ?_)
    clear hK K
    try simp only [Act.put, List.setIfInBounds_toArray, List.set_cons_zero, List.set_cons_succ]
    refine wpAnyH_ready (rs := [4]) (by kernel_rfl) (by simp) ?_
    refine (AllReadyH.cons (o := { dst := some 29, op := Op.load 27 (Operand.tmp 28), type := 27, pos := "book.go:39", after := #[{ on := 3, ground := Ground.data }], guard := none }) rfl (fun K hK => ?_) AllReadyH.nil)
    go_simp
    refine hK.out _ _ ⟨e1' _, e2' _, e3' _, e7' _⟩ (fun hHeld => ?_)
    clear hK K
    try simp only [Act.put, List.setIfInBounds_toArray, List.set_cons_zero, List.set_cons_succ]
    refine wpAnyH_ready (rs := [15]) (by kernel_rfl) (by simp) ?_
    refine (AllReadyH.cons (o := { dst := some 40, op := Op.call { callee := Callee.builtin Builtin.append, args := #[Operand.tmp 29, Operand.tmp 39], argTypes := #[27, 27] }, type := 27, pos := "book.go:39", after := #[{ on := 4, ground := Ground.data }, { on := 14, ground := Ground.data }], guard := none }) rfl (fun K hK => ?_) AllReadyH.nil)
    refine step_appR Try.rowS HS5.out (by rfl) _ _ (by rfl) (by rfl) (some ⟨w3.heap.size, 0, none⟩) 1 1 (by rfl) HR.out (fun e => by cases e) HSZ.out ?_
    intro v' w' s7
    obtain ⟨g, cap, rfl, k0, kf, hq, hq2, s8⟩ := HV.out v' w' s7
    have H8 := hid s8
    have HQ2 := hid hq2
    clear HV s8 s7 hq2
    refine hK.out _ _ hq (fun hHeld => ?_)
    clear hK K
    try simp only [Act.put, List.setIfInBounds_toArray, List.set_cons_zero, List.set_cons_succ]
    refine wpAnyH_take (i := 16) (oi := { dst := some 41, op := Op.nilCheck (Operand.tmp 25), type := 0, pos := "book.go:39", after := #[{ on := 0, ground := Ground.data }, { on := 0, ground := Ground.phase }, { on := 1, ground := Ground.phase }, { on := 2, ground := Ground.phase }, { on := 3, ground := Ground.phase }, { on := 4, ground := Ground.phase }, { on := 5, ground := Ground.phase }, { on := 6, ground := Ground.phase }, { on := 7, ground := Ground.phase }, { on := 8, ground := Ground.phase }, { on := 9, ground := Ground.phase }, { on := 10, ground := Ground.phase }, { on := 11, ground := Ground.phase }, { on := 12, ground := Ground.phase }, { on := 13, ground := Ground.phase }, { on := 14, ground := Ground.phase }, { on := 15, ground := Ground.phase }], guard := none }) (v := ?v18_16) rfl (by kernel_rfl) (by kernel_rfl) (by kernel_rfl) (fun _ _ _ h => h) (Or.inl ⟨by rfl, ?hy18_16⟩) (by assumption) ?_
    case hy18_16 => (intro W hSw; (try dsimp only at hSw); go_simp; (try with_reducible rfl))
    try simp only [Act.put, List.setIfInBounds_toArray, List.set_cons_zero, List.set_cons_succ]
    refine wpAnyH_take (i := 17) (oi := { dst := some 42, op := Op.fieldAddr 65 (Operand.tmp 41) 0, type := 0, pos := "book.go:39", after := #[{ on := 16, ground := Ground.data }, { on := 0, ground := Ground.phase }, { on := 1, ground := Ground.phase }, { on := 2, ground := Ground.phase }, { on := 3, ground := Ground.phase }, { on := 4, ground := Ground.phase }, { on := 5, ground := Ground.phase }, { on := 6, ground := Ground.phase }, { on := 7, ground := Ground.phase }, { on := 8, ground := Ground.phase }, { on := 9, ground := Ground.phase }, { on := 10, ground := Ground.phase }, { on := 11, ground := Ground.phase }, { on := 12, ground := Ground.phase }, { on := 13, ground := Ground.phase }, { on := 14, ground := Ground.phase }, { on := 15, ground := Ground.phase }], guard := none }) (v := ?v18_17) rfl (by kernel_rfl) (by kernel_rfl) (by kernel_rfl) (fun _ _ _ h => h) (Or.inl ⟨by rfl, ?hy18_17⟩) (by assumption) ?_
    case hy18_17 => (intro W hSw; (try dsimp only at hSw); go_simp; (try with_reducible rfl))
    try simp only [Act.put, List.setIfInBounds_toArray, List.set_cons_zero, List.set_cons_succ]
    refine wpAnyH_ready (rs := [18]) (by kernel_rfl) (by simp) ?_
    refine (AllReadyH.cons (o := { dst := none, op := Op.store 27 (Operand.tmp 42) (Operand.tmp 40), type := 0, pos := "book.go:39", after := #[{ on := 17, ground := Ground.data }, { on := 15, ground := Ground.data }, { on := 15, ground := Ground.chain }, { on := 0, ground := Ground.phase }, { on := 1, ground := Ground.phase }, { on := 2, ground := Ground.phase }, { on := 3, ground := Ground.phase }, { on := 4, ground := Ground.phase }, { on := 5, ground := Ground.phase }, { on := 6, ground := Ground.phase }, { on := 7, ground := Ground.phase }, { on := 8, ground := Ground.phase }, { on := 9, ground := Ground.phase }, { on := 10, ground := Ground.phase }, { on := 11, ground := Ground.phase }, { on := 12, ground := Ground.phase }, { on := 13, ground := Ground.phase }, { on := 14, ground := Ground.phase }, { on := 15, ground := Ground.phase }], guard := none }) rfl (fun K hK => ?_) AllReadyH.nil)
    go_simp
    refine hK.out _ _ HQ2.out (fun hHeld => ?_)
    clear hK K
    try simp only [Act.put, List.setIfInBounds_toArray, List.set_cons_zero, List.set_cons_succ]
    refine wpAnyH_done (by kernel_rfl) ?_ _
    go_wp2
    go_end0
    exact ⟨rfl, _, H8.out⟩
end Go.Proofs.Ytkhbkdabihokjaa
