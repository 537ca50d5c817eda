/- Package ghost: put, where a story ends. -/
import Derived.Test.YtkhbkdabihokjaaGe

namespace Go.Proofs.Ytkhbkdabihokjaa
open Go.RowKit Go.MapKept
open Go.Maps (Keyed)
set_option linter.unusedVariables false
set_option linter.unusedSimpArgs false
attribute [local go_sem ↓] Go.wp_at_zero Go.wp_at_succ

theorem evL_end {E : Nat} {v : Ev} {X mb g cap : Nat} {L : List Sm} {ls : List Pr} {st : Int} {R : List It} {p : Nat} {m : Sm} (hm : L[p]? = some m) (v0 : Ev) : (evL E v X mb g cap L ls st R).set 3 (sI g cap (L.set p { m with s := m.s.ended v0 })) = evL E v X mb g cap (L.set p { m with s := m.s.ended v0 }) ls st R := by
  have e : mvI { m with s := m.s.ended v0 } = mvI m := by
    have : (m.s.ended v0).ms = m.s.ms := by unfold Sy.ended; split <;> rfl
    simp [mvI, this]
  have e2 : (L.set p { m with s := m.s.ended v0 }).map mvI = L.map mvI := by
    rw [List.map_set, e]
    apply List.ext_getElem?
    intro j
    rw [List.getElem?_set]
    split
    · rename_i h
      subst h
      have hp := (List.getElem?_eq_some_iff.1 hm).1
      simp only [List.length_map, hp, if_true]
      rw [List.getElem?_map, hm]
      rfl
    · rfl
  show _ :: _ :: _ :: _ :: (L.map mvI ++ R) = _ :: _ :: _ :: _ :: ((L.set p _).map mvI ++ R)
  rw [e2, List.length_set]
  simp only [sI, lstR, List.length_set]
set_option maxRecDepth 100000 in
set_option maxHeartbeats 4000000 in
theorem put_end {o w : World} {R : List It} {X mb g cap p : Nat} {L : List Sm} {ls : List Pr} {st : Int} {m : Sm} (h : St o (bkL X mb (.slice (some ⟨g, 0, none⟩) L.length cap) L ls st R) w) (v : Ev) (hk : v.kd = 4 ∨ v.kd = 5) (ho : (v.th, (p : Int)) ∈ ls) (hm : L[p]? = some m) (hb : L.length ≤ 9223372036854775807) :
    Calls Try.prog 31 #[.pointer (some ⟨X, 0, none⟩), evV v] w fun e w' => e = .returned (.tuple #[]) ∧ St o (bkL X mb (.slice (some ⟨g, 0, none⟩) L.length cap) (L.set p { m with s := m.s.ended v }) (lackP ls v.th) v.st R) w' := by
  have hp := (List.getElem?_eq_some_iff.1 hm).1
  have s1 := h.box #[.int .i64 v.kd, .int .i64 v.st, .int .i64 v.th, .int .i64 v.sp, .int .i64 v.ce, .int .i64 v.x, .bool v.ow, .int .i64 v.ga, .int .i64 v.e, .int .i64 v.by_] 26
  generalize hw1 : w.alloc (.cells #[.int .i64 v.kd, .int .i64 v.st, .int .i64 v.th, .int .i64 v.sp, .int .i64 v.ce, .int .i64 v.x, .bool v.ow, .int .i64 v.ga, .int .i64 v.e, .int .i64 v.by_] 26) = w1 at *
  generalize hE : w.heap.size = E at *
  have b2 := s1.cell 1 rfl 2
  have g2 := s1.frozen 1 rfl 2
  have a1 := s1.cell 0 rfl 1
  have s2 : St o (evL E v X mb g cap L ls v.st R) _ := s1.write 1 rfl 2 (.int .i64 v.st)
  have HS2 := hid s2
  have HQ : Hid (∀ W, St o (evL E v X mb g cap (L.set p { m with s := m.s.ended v }) (lackP ls v.th) v.st R) W → (fun e w' => e = .returned (.tuple #[]) ∧ St o (bkL X mb (.slice (some ⟨g, 0, none⟩) L.length cap) (L.set p { m with s := m.s.ended v }) (lackP ls v.th) v.st R) w') (Ending.returned (.tuple #[])) W) := hid (fun W hs => ⟨rfl, by have := hs.pop; rw [List.length_set] at this; exact this⟩)
  generalize (fun (e : Ending) (w' : World) => e = .returned (.tuple #[]) ∧ St o (bkL X mb (.slice (some ⟨g, 0, none⟩) L.length cap) (L.set p { m with s := m.s.ended v }) (lackP ls v.th) v.st R) w') = Qp at *
  have HOP : Hid (∀ W, St o (evL E v X mb g cap L ls v.st R) W → Calls Try.prog 45 #[.pointer (some ⟨X, 0, none⟩), .int .i64 v.th] W fun e w' => e = .returned (.pointer (some ⟨g, p * 10, none⟩)) ∧ St o (evL E v X mb g cap L ls v.st R) w') := hid (fun W hs => (openOf_any hs.pop v.th ho hp hb).mono (by
    rintro e w' ⟨rfl, hk⟩
    exact ⟨rfl, hs.calm hk⟩))
  have CE : Hid (∀ {B' : List It} (W : World), St o (boxI E #[.int .i64 v.kd, .int .i64 v.st, .int .i64 v.th, .int .i64 v.sp, .int .i64 v.ce, .int .i64 v.x, .bool v.ow, .int .i64 v.ga, .int .i64 v.e, .int .i64 v.by_] 26 :: B') W → W.cell? ⟨E, 0, none⟩ = some (.int .i64 v.kd) ∧ W.cell? ⟨E, 1, none⟩ = some (.int .i64 v.st) ∧ W.cell? ⟨E, 2, none⟩ = some (.int .i64 v.th) ∧ W.cell? ⟨E, 3, none⟩ = some (.int .i64 v.sp) ∧ W.cell? ⟨E, 4, none⟩ = some (.int .i64 v.ce) ∧ W.cell? ⟨E, 5, none⟩ = some (.int .i64 v.x) ∧ W.cell? ⟨E, 6, none⟩ = some (.bool v.ow) ∧ W.cell? ⟨E, 7, none⟩ = some (.int .i64 v.ga) ∧ W.cell? ⟨E, 8, none⟩ = some (.int .i64 v.e) ∧ W.cell? ⟨E, 9, none⟩ = some (.int .i64 v.by_)) := hid (fun W hs => ⟨hs.cell 0 rfl 0, hs.cell 0 rfl 1, hs.cell 0 rfl 2, hs.cell 0 rfl 3, hs.cell 0 rfl 4, hs.cell 0 rfl 5, hs.cell 0 rfl 6, hs.cell 0 rfl 7, hs.cell 0 rfl 8, hs.cell 0 rfl 9⟩)
  have hkk : (v.kd == 1) = false := by rcases hk with e | e <;> rw [e] <;> rfl
  have HEN : Hid (∀ W, St o (evL E v X mb g cap L ls v.st R) W → Calls Try.prog 47 #[.pointer (some ⟨g, p * 10, none⟩), evV v] W fun e w' => e = .returned (.tuple #[]) ∧ St o (evL E v X mb g cap (L.set p { m with s := m.s.ended v }) ls v.st R) w') := hid (fun W hs => (end_any hs 3 rfl hm v).mono (by
    rintro e w' ⟨rfl, h2⟩
    exact ⟨rfl, by rw [evL_end hm v] at h2; exact h2⟩))
  have HDR : Hid (∀ W L', St o (evL E v X mb g cap L' ls v.st R) W → ∃ W', (∀ ty, (Builtin.delete_ #[63, 3] ty #[.map (some mb), .int .i64 v.th]).run Try.prog W = .ok (.tuple #[]) W') ∧ St o (evL E v X mb g cap L' (lackP ls v.th) v.st R) W') := hid (fun W L' hs => by
    have p1 := hs.perm (List.Perm.trans (List.Perm.cons _ (List.Perm.swap _ _ _)) (List.Perm.swap _ _ _))
    obtain ⟨W', hd, -, p2⟩ := dropV (P := Try.prog) (t := 63) (k := 3) (e := 3) p1 Try.underlying3 Try.underlying63 ho
    exact ⟨W', hd, p2.perm (List.Perm.trans (List.Perm.swap _ _ _) (List.Perm.cons _ (List.Perm.swap _ _ _)))⟩)
  have CX : Hid (∀ W L', St o (evL E v X mb g cap L' ls v.st R) W → W.cell? ⟨X, 1, none⟩ = some (.map (some mb))) := hid (fun W L' hs => hs.cell 1 rfl 1)
  clear s1 s2 h ho hm hb
  obtain ⟨kd, sp', th, sp, ce, x, ow, ga, er, by_⟩ := v
  unfold evV
  simp only at *
  go_enter Try.func31, Try.ntmps31
  go_upto_region 2 with (simp only [hw1, hE])
  clear hw1 b2 g2 a1
  generalize w1.setCell ⟨X, 2, none⟩ (.int .i64 sp') = w2 at *
  obtain ⟨c0, c1, c2, c3, c4, c5, c6, c7, c8, c9⟩ := CE.out _ HS2.out
  have hkd : (kd == 2) = false ∧ (kd == 3) = false ∧ ((kd == 4) = true ∨ ((kd == 4) = false ∧ (kd == 5) = true)) := by rcases hk with e | e <;> subst e <;> simp
  obtain ⟨t2, t3, hkd⟩ := hkd
  clear hk
  rcases hkd with t4 | ⟨t4, t5⟩
  · go_upto_region 12 with fail
    clear c0 c1 c2 c3 c4 c5 c6 c7 c8 c9
    have s3 := HS2.out.drew
    refine wp_region_held_drew (S := fun W => W.cell? ⟨E, 0, none⟩ = some (.int .i64 kd) ∧ W.cell? ⟨E, 1, none⟩ = some (.int .i64 sp') ∧ W.cell? ⟨E, 2, none⟩ = some (.int .i64 th) ∧ W.cell? ⟨E, 3, none⟩ = some (.int .i64 sp) ∧ W.cell? ⟨E, 4, none⟩ = some (.int .i64 ce) ∧ W.cell? ⟨E, 5, none⟩ = some (.int .i64 x) ∧ W.cell? ⟨E, 6, none⟩ = some (.bool ow) ∧ W.cell? ⟨E, 7, none⟩ = some (.int .i64 ga) ∧ W.cell? ⟨E, 8, none⟩ = some (.int .i64 er) ∧ W.cell? ⟨E, 9, none⟩ = some (.int .i64 by_)) (by kernel_rfl) (CE.out _ s3) (fun hHeld => ?_)
    refine wpAnyH_take (i := 0) (oi := { dst := some 64, op := Op.move (Operand.tmp 0), type := 59, pos := "book.go:44", after := #[], guard := none }) (v := ?v2_0) rfl (by kernel_rfl) (by kernel_rfl) (by kernel_rfl) (fun _ _ _ h => h) (Or.inl ⟨by rfl, ?hy2_0⟩) (by assumption) ?_
    case hy2_0 => (intro W hSw; (try dsimp only at hSw); go_simp; (try with_reducible rfl))
    try simp only [Act.put, List.setIfInBounds_toArray, List.set_cons_zero, List.set_cons_succ]
    refine wpAnyH_take (i := 1) (oi := { dst := some 65, op := Op.fieldAddr 26 (Operand.tmp 3) 2, type := 0, pos := "book.go:44", after := #[], guard := none }) (v := ?v2_1) rfl (by kernel_rfl) (by kernel_rfl) (by kernel_rfl) (fun _ _ _ h => h) (Or.inl ⟨by rfl, ?hy2_1⟩) (by assumption) ?_
    case hy2_1 => (intro W hSw; (try dsimp only at hSw); go_simp; (try with_reducible rfl))
    try simp only [Act.put, List.setIfInBounds_toArray, List.set_cons_zero, List.set_cons_succ]
    refine wpAnyH_take (i := 2) (oi := { dst := some 66, op := Op.load 3 (Operand.tmp 65), type := 3, pos := "book.go:44", after := #[{ on := 1, ground := Ground.data }], guard := none }) (v := ?v2_2) rfl (by kernel_rfl) (by kernel_rfl) (by kernel_rfl) (fun _ _ _ h => h) (Or.inl ⟨by rfl, ?hy2_2⟩) (by assumption) ?_
    case hy2_2 => (intro W hSw; (try dsimp only at hSw); go_simp; (try with_reducible rfl))
    try simp only [Act.put, List.setIfInBounds_toArray, List.set_cons_zero, List.set_cons_succ]
    refine wpAnyH_take (i := 4) (oi := { dst := some 68, op := Op.load 26 (Operand.tmp 3), type := 26, pos := "book.go:44", after := #[], guard := none }) (v := ?v2_4) rfl (by kernel_rfl) (by kernel_rfl) (by kernel_rfl) (fun _ _ _ h => h) (Or.inl ⟨by rfl, ?hy2_4⟩) (by assumption) ?_
    case hy2_4 => (intro W hSw; (try dsimp only at hSw); go_simp; (try with_reducible rfl))
    try simp only [Act.put, List.setIfInBounds_toArray, List.set_cons_zero, List.set_cons_succ]
    refine wpAnyH_ready (rs := [3]) (by kernel_rfl) (by simp) ?_
    refine AllReadyH.cons (o := { dst := some 67, op := Op.call { callee := Callee.value (Operand.func 45), args := #[Operand.tmp 64, Operand.tmp 66], argTypes := #[59, 3] }, type := 80, pos := "book.go:44", after := #[{ on := 0, ground := Ground.data }, { on := 2, ground := Ground.data }], guard := none }) rfl (fun K hK => ?_) AllReadyH.nil
    go_simp
    refine (HOP.out _ s3).mono ?_
    rintro e wa ⟨rfl, s4⟩
    go_wp2_with fail
    refine hK.out _ _ (CE.out _ s4) (fun hHeld => ?_)
    clear hK K
    try simp only [Act.put, List.setIfInBounds_toArray, List.set_cons_zero, List.set_cons_succ]
    refine wpAnyH_ready (rs := [5]) (by kernel_rfl) (by simp) ?_
    refine AllReadyH.cons (o := { dst := some 69, op := Op.call { callee := Callee.value (Operand.func 47), args := #[Operand.tmp 67, Operand.tmp 68], argTypes := #[80, 26] }, type := 0, pos := "book.go:44", after := #[{ on := 3, ground := Ground.data }, { on := 4, ground := Ground.data }, { on := 3, ground := Ground.chain }], guard := none }) rfl (fun K hK => ?_) AllReadyH.nil
    go_simp
    refine (HEN.out _ s4).mono ?_
    rintro e wb ⟨rfl, s5⟩
    go_wp2_with fail
    refine hK.out _ _ (CE.out _ s5) (fun hHeld => ?_)
    clear hK K
    try simp only [Act.put, List.setIfInBounds_toArray, List.set_cons_zero, List.set_cons_succ]
    refine wpAnyH_done (by kernel_rfl) ?_ _
    obtain ⟨c0, c1, c2, c3, c4, c5, c6, c7, c8, c9⟩ := CE.out _ s5.drew
    have d1 := CX.out _ _ s5.drew
    obtain ⟨wd, hdl, s6⟩ := HDR.out _ _ s5.drew
    have HS6 := hid s6
    clear s3 s4 s5 s6 HEN HOP HS2 HDR CX CE
    go_upto_region 13 with fail
    go_region
    go_wp2
    go_end0
    exact HQ.out _ HS6.out
  · go_upto_region 12 with fail
    clear c0 c1 c2 c3 c4 c5 c6 c7 c8 c9
    have s3 := HS2.out.drew
    refine wp_region_held_drew (S := fun W => W.cell? ⟨E, 0, none⟩ = some (.int .i64 kd) ∧ W.cell? ⟨E, 1, none⟩ = some (.int .i64 sp') ∧ W.cell? ⟨E, 2, none⟩ = some (.int .i64 th) ∧ W.cell? ⟨E, 3, none⟩ = some (.int .i64 sp) ∧ W.cell? ⟨E, 4, none⟩ = some (.int .i64 ce) ∧ W.cell? ⟨E, 5, none⟩ = some (.int .i64 x) ∧ W.cell? ⟨E, 6, none⟩ = some (.bool ow) ∧ W.cell? ⟨E, 7, none⟩ = some (.int .i64 ga) ∧ W.cell? ⟨E, 8, none⟩ = some (.int .i64 er) ∧ W.cell? ⟨E, 9, none⟩ = some (.int .i64 by_)) (by kernel_rfl) (CE.out _ s3) (fun hHeld => ?_)
    refine wpAnyH_take (i := 0) (oi := { dst := some 64, op := Op.move (Operand.tmp 0), type := 59, pos := "book.go:44", after := #[], guard := none }) (v := ?v7_0) rfl (by kernel_rfl) (by kernel_rfl) (by kernel_rfl) (fun _ _ _ h => h) (Or.inl ⟨by rfl, ?hy7_0⟩) (by assumption) ?_
    case hy7_0 => (intro W hSw; (try dsimp only at hSw); go_simp; (try with_reducible rfl))
    try simp only [Act.put, List.setIfInBounds_toArray, List.set_cons_zero, List.set_cons_succ]
    refine wpAnyH_take (i := 1) (oi := { dst := some 65, op := Op.fieldAddr 26 (Operand.tmp 3) 2, type := 0, pos := "book.go:44", after := #[], guard := none }) (v := ?v7_1) rfl (by kernel_rfl) (by kernel_rfl) (by kernel_rfl) (fun _ _ _ h => h) (Or.inl ⟨by rfl, ?hy7_1⟩) (by assumption) ?_
    case hy7_1 => (intro W hSw; (try dsimp only at hSw); go_simp; (try with_reducible rfl))
    try simp only [Act.put, List.setIfInBounds_toArray, List.set_cons_zero, List.set_cons_succ]
    refine wpAnyH_take (i := 2) (oi := { dst := some 66, op := Op.load 3 (Operand.tmp 65), type := 3, pos := "book.go:44", after := #[{ on := 1, ground := Ground.data }], guard := none }) (v := ?v7_2) rfl (by kernel_rfl) (by kernel_rfl) (by kernel_rfl) (fun _ _ _ h => h) (Or.inl ⟨by rfl, ?hy7_2⟩) (by assumption) ?_
    case hy7_2 => (intro W hSw; (try dsimp only at hSw); go_simp; (try with_reducible rfl))
    try simp only [Act.put, List.setIfInBounds_toArray, List.set_cons_zero, List.set_cons_succ]
    refine wpAnyH_take (i := 4) (oi := { dst := some 68, op := Op.load 26 (Operand.tmp 3), type := 26, pos := "book.go:44", after := #[], guard := none }) (v := ?v7_4) rfl (by kernel_rfl) (by kernel_rfl) (by kernel_rfl) (fun _ _ _ h => h) (Or.inl ⟨by rfl, ?hy7_4⟩) (by assumption) ?_
    case hy7_4 => (intro W hSw; (try dsimp only at hSw); go_simp; (try with_reducible rfl))
    try simp only [Act.put, List.setIfInBounds_toArray, List.set_cons_zero, List.set_cons_succ]
    refine wpAnyH_ready (rs := [3]) (by kernel_rfl) (by simp) ?_
    refine AllReadyH.cons (o := { dst := some 67, op := Op.call { callee := Callee.value (Operand.func 45), args := #[Operand.tmp 64, Operand.tmp 66], argTypes := #[59, 3] }, type := 80, pos := "book.go:44", after := #[{ on := 0, ground := Ground.data }, { on := 2, ground := Ground.data }], guard := none }) rfl (fun K hK => ?_) AllReadyH.nil
    go_simp
    refine (HOP.out _ s3).mono ?_
    rintro e wa ⟨rfl, s4⟩
    go_wp2_with fail
    refine hK.out _ _ (CE.out _ s4) (fun hHeld => ?_)
    clear hK K
    try simp only [Act.put, List.setIfInBounds_toArray, List.set_cons_zero, List.set_cons_succ]
    refine wpAnyH_ready (rs := [5]) (by kernel_rfl) (by simp) ?_
    refine AllReadyH.cons (o := { dst := some 69, op := Op.call { callee := Callee.value (Operand.func 47), args := #[Operand.tmp 67, Operand.tmp 68], argTypes := #[80, 26] }, type := 0, pos := "book.go:44", after := #[{ on := 3, ground := Ground.data }, { on := 4, ground := Ground.data }, { on := 3, ground := Ground.chain }], guard := none }) rfl (fun K hK => ?_) AllReadyH.nil
    go_simp
    refine (HEN.out _ s4).mono ?_
    rintro e wb ⟨rfl, s5⟩
    go_wp2_with fail
    refine hK.out _ _ (CE.out _ s5) (fun hHeld => ?_)
    clear hK K
    try simp only [Act.put, List.setIfInBounds_toArray, List.set_cons_zero, List.set_cons_succ]
    refine wpAnyH_done (by kernel_rfl) ?_ _
    obtain ⟨c0, c1, c2, c3, c4, c5, c6, c7, c8, c9⟩ := CE.out _ s5.drew
    have d1 := CX.out _ _ s5.drew
    obtain ⟨wd, hdl, s6⟩ := HDR.out _ _ s5.drew
    have HS6 := hid s6
    clear s3 s4 s5 s6 HEN HOP HS2 HDR CX CE
    go_upto_region 13 with fail
    go_region
    go_wp2
    go_end0
    exact HQ.out _ HS6.out
end Go.Proofs.Ytkhbkdabihokjaa
