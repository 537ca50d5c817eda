/- Package ghost: put, where a story moves. -/
import Derived.Test.YtkhbkdabihokjaaGd

namespace Go.Proofs.Ytkhbkdabihokjaa
open Go.RowKit Go.MapKept
open Go.Maps (Keyed)
set_option linter.unusedVariables false
set_option linter.unusedSimpArgs false
attribute [local go_sem ↓] Go.wp_at_zero Go.wp_at_succ

theorem perm_at {its : List It} {i : Nat} {A : It} (hi : its[i]? = some A) : its.Perm (A :: its.eraseIdx i) := by
  obtain ⟨h1, h2⟩ := List.getElem?_eq_some_iff.1 hi
  subst h2
  exact perm_idxV its i h1
theorem perm_set {its : List It} {i : Nat} {A B : It} (hi : its[i]? = some A) : (its.set i B).Perm (B :: its.eraseIdx i) := by
  have h := perm_at (set_self (A := B) hi)
  rwa [List.eraseIdx_set_eq] at h
/-- append(v, l...) as one step of a region that draws its order, the list at whatever place among the things. -/
theorem step_appR_at {α : Type} {f : α → List Value} {k b : Nat} {P : Program} {t sl : TypeId} {o0 w : World} {its : List It} {v : Value} {xs zs : List α} {ops : Array Oper} {o : Oper} {a : Act} {K : Act → World → Prop} {Q : Exit → Act → World → Prop} {E : Prop} (D : RowT P t sl k b f) (h : St o0 its w) (i : Nat) (hi : its[i]? = some (lstR f t k v xs)) (hgd : o.guard = none) (s x : Operand)
    (ho : o.op = .call { callee := .builtin .append, args := #[s, x], argTypes := #[sl, sl] }) (hs : a.eval s = v)
    (la : Option Addr) (m c : Nat) (hx : a.eval x = .slice la m c) (hl : RIn f w la m zs) (h0 : la = none → m = 0 ∧ c = 0)
    (hsm : (xs.length + m) * b ≤ 140737488355328)
    (hk : ∀ v' w', St o0 (its.set i (lstR f t k v' (xs ++ zs))) w' → K (a.put o.dst v') w') :
    if Region.wanted o (yielded ops a.tmps) = true then Oper.wp P o a w K Q else E :=
  step_appR D (h.perm (perm_at hi)) hgd s x ho hs la m c hx hl h0 hsm (fun v' w' s => hk v' w' (s.perm (perm_set hi).symm))
theorem buildM (W : World) (a c d f : Int) (b e : Bool) : (Instr.buildSlice 34 1 #[(0, .agg #[.int .i64 a, .bool b, .int .i64 c, .int .i64 d, .bool e, .int .i64 f])]).run Try.prog W = .ok (.slice (some ⟨W.heap.size, 0, none⟩) 1 1) (W.alloc (.cells #[.int .i64 a, .bool b, .int .i64 c, .int .i64 d, .bool e, .int .i64 f] 38)) := by kernel_rfl
/-- The things while an event is put. -/
abbrev evL (E : Nat) (v : Ev) (X mb g cap : Nat) (L : List Sm) (ls : List Pr) (st : Int) (R : List It) : List It :=
  boxI E #[.int .i64 v.kd, .int .i64 v.st, .int .i64 v.th, .int .i64 v.sp, .int .i64 v.ce, .int .i64 v.x, .bool v.ow, .int .i64 v.ga, .int .i64 v.e, .int .i64 v.by_] 26 :: bkL X mb (.slice (some ⟨g, 0, none⟩) L.length cap) L ls st R
theorem evL_moves {E : Nat} {v : Ev} {X mb g cap : Nat} {L : List Sm} {ls : List Pr} {st : Int} {R : List It} {p : Nat} {m : Sm} (hm : L[p]? = some m) : (evL E v X mb g cap L ls st R)[p + 4]? = some (mvI m) := by
  have hp := (List.getElem?_eq_some_iff.1 hm).1
  show (L.map mvI ++ R)[p]? = _
  rw [List.getElem?_append_left (by simpa using hp), List.getElem?_map, hm]
  rfl
theorem evL_set {E : Nat} {v : Ev} {X mb g cap : Nat} {L : List Sm} {ls : List Pr} {st : Int} {R : List It} {p : Nat} {m' : Sm} (hp : p < L.length) : ((evL E v X mb g cap L ls st R).set (p + 4) (mvI m')).set 3 (sI g cap (L.set p m')) = evL E v X mb g cap (L.set p m') ls st R := by
  show _ :: _ :: _ :: _ :: (L.map mvI ++ R).set p (mvI m') = _ :: _ :: _ :: _ :: ((L.set p m').map mvI ++ R)
  rw [List.set_append_left _ _ (by simpa using hp), List.map_set, List.length_set]
  simp only [sI, lstR, List.length_set]
theorem sm_moved {m : Sm} (v : Ev) (la : Option Addr) (lc : Nat) : sC ⟨m.s.moved v, la, lc⟩ = (sC m).set 9 (.slice la (m.s.ms.length + 1) lc) := by simp [sC, Sy.moved]
/-- Behind the append and the store. -/
theorem put_moved {o w' : World} {E : Nat} {v : Ev} {X mb g cap : Nat} {L : List Sm} {ls : List Pr} {st : Int} {R : List It} {p : Nat} {m : Sm} (hm : L[p]? = some m) {v' : Value} (h : St o ((evL E v X mb g cap L ls st R).set (p + 4) (lstR mC 38 6 v' (m.s.ms ++ [v.move]))) w') :
    ∃ g' cap', v' = .slice (some ⟨g', 0, none⟩) (m.s.ms.length + 1) cap' ∧ w'.cell? ⟨g, p * 10 + 9, none⟩ = some (.slice m.la m.s.ms.length m.lc) ∧ w'.frozen? ⟨g, p * 10 + 9, none⟩ = false ∧ St o (evL E v X mb g cap (L.set p ⟨m.s.moved v, some ⟨g', 0, none⟩, cap'⟩) ls st R) (w'.setCell ⟨g, p * 10 + 9, none⟩ v') := by
  have hp := (List.getElem?_eq_some_iff.1 hm).1
  obtain ⟨g', cap', hv⟩ := h.form (p + 4) (set_self (evL_moves hm)) (by simp)
  simp only [List.length_append, List.length_cons, List.length_nil] at hv
  subst hv
  have h3 : ((evL E v X mb g cap L ls st R).set (p + 4) (lstR mC 38 6 (.slice (some ⟨g', 0, none⟩) (m.s.ms.length + 1) cap') (m.s.ms ++ [v.move])))[3]? = some (sI g cap L) := set_other rfl (by omega)
  obtain ⟨d9, f9⟩ := st_cell h 3 h3 hm 9 (by omega)
  obtain ⟨s2, _, _⟩ := st_turn h 3 h3 hm ⟨m.s.moved v, some ⟨g', 0, none⟩, cap'⟩ 9 (by omega) (.slice (some ⟨g', 0, none⟩) (m.s.ms.length + 1) cap') (sm_moved v _ _)
  refine ⟨g', cap', rfl, d9, f9, ?_⟩
  rw [← evL_set hp]
  have e : mvI ⟨m.s.moved v, some ⟨g', 0, none⟩, cap'⟩ = lstR mC 38 6 (.slice (some ⟨g', 0, none⟩) (m.s.ms.length + 1) cap') (m.s.ms ++ [v.move]) := by
    simp [mvI, Sy.moved]
  rw [e]
  exact s2
set_option maxRecDepth 100000 in
set_option maxHeartbeats 4000000 in
theorem put_move {o w : World} {R : List It} {X mb g cap p : Nat} {L : List Sm} {ls : List Pr} {st : Int} {m : Sm} (h : St o (bkL X mb (.slice (some ⟨g, 0, none⟩) L.length cap) L ls st R) w) (v : Ev) (hk : v.kd = 2 ∨ v.kd = 3) (ho : (v.th, (p : Int)) ∈ ls) (hm : L[p]? = some m) (hb : L.length ≤ 9223372036854775807) (hsz : (m.s.ms.length + 1) * 48 ≤ 140737488355328) :
    Calls Try.prog 31 #[.pointer (some ⟨X, 0, none⟩), evV v] w fun e w' => e = .returned (.tuple #[]) ∧ ∃ la lc, St o (bkL X mb (.slice (some ⟨g, 0, none⟩) L.length cap) (L.set p ⟨m.s.moved v, la, lc⟩) ls v.st R) w' := by
  have hp := (List.getElem?_eq_some_iff.1 hm).1
  have s1 := h.box #[.int .i64 v.kd, .int .i64 v.st, .int .i64 v.th, .int .i64 v.sp, .int .i64 v.ce, .int .i64 v.x, .bool v.ow, .int .i64 v.ga, .int .i64 v.e, .int .i64 v.by_] 26
  generalize hw1 : w.alloc (.cells #[.int .i64 v.kd, .int .i64 v.st, .int .i64 v.th, .int .i64 v.sp, .int .i64 v.ce, .int .i64 v.x, .bool v.ow, .int .i64 v.ga, .int .i64 v.e, .int .i64 v.by_] 26) = w1 at *
  generalize hE : w.heap.size = E at *
  have b2 := s1.cell 1 rfl 2
  have g2 := s1.frozen 1 rfl 2
  have a1 := s1.cell 0 rfl 1
  have s2 : St o (evL E v X mb g cap L ls v.st R) _ := s1.write 1 rfl 2 (.int .i64 v.st)
  have HS2 := hid s2
  have HMV := hid (moveOf_any v)
  have HQ : Hid (∀ la lc W, St o (evL E v X mb g cap (L.set p ⟨m.s.moved v, la, lc⟩) ls v.st R) W → (fun e w' => e = .returned (.tuple #[]) ∧ ∃ la lc, St o (bkL X mb (.slice (some ⟨g, 0, none⟩) L.length cap) (L.set p ⟨m.s.moved v, la, lc⟩) ls v.st R) w') (Ending.returned (.tuple #[])) W) := hid (fun la lc W hs => ⟨rfl, la, lc, by have := hs.pop; rw [List.length_set] at this; exact this⟩)
  generalize (fun (e : Ending) (w' : World) => e = .returned (.tuple #[]) ∧ ∃ la lc, St o (bkL X mb (.slice (some ⟨g, 0, none⟩) L.length cap) (L.set p ⟨m.s.moved v, la, lc⟩) ls v.st R) w') = Qp at *
  have HOP : Hid (∀ W, St o (evL E v X mb g cap L ls v.st R) W → Calls Try.prog 45 #[.pointer (some ⟨X, 0, none⟩), .int .i64 v.th] W fun e w' => e = .returned (.pointer (some ⟨g, p * 10, none⟩)) ∧ St o (evL E v X mb g cap L ls v.st R) w') := hid (fun W hs => (openOf_any hs.pop v.th ho hp hb).mono (by
    rintro e w' ⟨rfl, hk⟩
    exact ⟨rfl, hs.calm hk⟩))
  have HSZ := hid hsz
  have HPM : Hid (∀ v' w', St o ((evL E v X mb g cap L ls v.st R).set (p + 4) (lstR mC 38 6 v' (m.s.ms ++ [v.move]))) w' → _) := hid (fun v' w' hs => put_moved hm hs)
  have CE : Hid (∀ {B' : List It} (W : World), St o (boxI E #[.int .i64 v.kd, .int .i64 v.st, .int .i64 v.th, .int .i64 v.sp, .int .i64 v.ce, .int .i64 v.x, .bool v.ow, .int .i64 v.ga, .int .i64 v.e, .int .i64 v.by_] 26 :: B') W → W.cell? ⟨E, 0, none⟩ = some (.int .i64 v.kd) ∧ W.cell? ⟨E, 1, none⟩ = some (.int .i64 v.st) ∧ W.cell? ⟨E, 2, none⟩ = some (.int .i64 v.th) ∧ W.cell? ⟨E, 3, none⟩ = some (.int .i64 v.sp) ∧ W.cell? ⟨E, 4, none⟩ = some (.int .i64 v.ce) ∧ W.cell? ⟨E, 5, none⟩ = some (.int .i64 v.x) ∧ W.cell? ⟨E, 6, none⟩ = some (.bool v.ow) ∧ W.cell? ⟨E, 7, none⟩ = some (.int .i64 v.ga) ∧ W.cell? ⟨E, 8, none⟩ = some (.int .i64 v.e) ∧ W.cell? ⟨E, 9, none⟩ = some (.int .i64 v.by_)) := hid (fun W hs => ⟨hs.cell 0 rfl 0, hs.cell 0 rfl 1, hs.cell 0 rfl 2, hs.cell 0 rfl 3, hs.cell 0 rfl 4, hs.cell 0 rfl 5, hs.cell 0 rfl 6, hs.cell 0 rfl 7, hs.cell 0 rfl 8, hs.cell 0 rfl 9⟩)
  have CS : Hid (∀ (W : World), St o (evL E v X mb g cap L ls v.st R) W → W.cell? ⟨g, p * 10 + 9, none⟩ = some (.slice m.la m.s.ms.length m.lc)) := hid (fun W hs => (st_cell hs 3 rfl hm 9 (by omega)).1)
  have HMI : Hid ((evL E v X mb g cap L ls v.st R)[p + 4]? = some (mvI m)) := hid (evL_moves hm)
  have hkk : (v.kd == 1) = false := by rcases hk with e | e <;> rw [e] <;> rfl
  clear s1 s2 h ho hm hb hsz
  generalize v.move = MV at *
  obtain ⟨kd, sp', th, sp, ce, x, ow, ga, er, by_⟩ := v
  unfold evV
  simp only at *
  go_enter Try.func31, Try.ntmps31
  go_upto_region 2 with (simp only [hw1, hE])
  clear hw1 b2 g2 a1
  generalize w1.setCell ⟨X, 2, none⟩ (.int .i64 sp') = w2 at *
  obtain ⟨c0, c1, c2, c3, c4, c5, c6, c7, c8, c9⟩ := CE.out _ HS2.out
  have hC := HOP.out _ HS2.out
  have hkd : (kd == 2) = true ∨ ((kd == 2) = false ∧ (kd == 3) = true) := by rcases hk with e | e <;> subst e <;> simp
  have hbs := fun W => buildM W MV.st MV.ce MV.x MV.ga MV.wr MV.ow
  clear hk
  rcases hkd with t2 | ⟨t2, t3⟩
  · go_upto_region 9 with (go_at_call 45; refine hC.mono ?_; rintro e w3 ⟨rfl, hs3⟩; have HS3 := hid hs3; clear hs3)
    clear c0 c1 c2 c3 c4 c5 c6 c7 c8 c9 hC HOP HS2
    have s3 := HS3.out.drew
    have d3 := CS.out _ s3
    clear HS3
    refine wp_region_held_drew (S := fun W => W.cell? ⟨E, 0, none⟩ = some (.int .i64 kd) ∧ W.cell? ⟨E, 1, none⟩ = some (.int .i64 sp') ∧ W.cell? ⟨E, 2, none⟩ = some (.int .i64 th) ∧ W.cell? ⟨E, 3, none⟩ = some (.int .i64 sp) ∧ W.cell? ⟨E, 4, none⟩ = some (.int .i64 ce) ∧ W.cell? ⟨E, 5, none⟩ = some (.int .i64 x) ∧ W.cell? ⟨E, 6, none⟩ = some (.bool ow) ∧ W.cell? ⟨E, 7, none⟩ = some (.int .i64 ga) ∧ W.cell? ⟨E, 8, none⟩ = some (.int .i64 er) ∧ W.cell? ⟨E, 9, none⟩ = some (.int .i64 by_)) (by kernel_rfl) (CE.out _ s3) (fun hHeld => ?_)
    refine wpAnyH_take (i := 0) (oi := { dst := some 50, op := Op.move (Operand.tmp 4), type := 80, pos := "book.go:42", after := #[], guard := none }) (v := ?v2_0) rfl (by kernel_rfl) (by kernel_rfl) (by kernel_rfl) (fun _ _ _ h => h) (Or.inl ⟨by rfl, ?hy2_0⟩) (by assumption) ?_
    case hy2_0 => (intro W hSw; (try dsimp only at hSw); go_simp; (try with_reducible rfl))
    try simp only [Act.put, List.setIfInBounds_toArray, List.set_cons_zero, List.set_cons_succ]
    refine wpAnyH_take (i := 1) (oi := { dst := some 51, op := Op.move (Operand.tmp 4), type := 80, pos := "book.go:42", after := #[], guard := none }) (v := ?v2_1) rfl (by kernel_rfl) (by kernel_rfl) (by kernel_rfl) (fun _ _ _ h => h) (Or.inl ⟨by rfl, ?hy2_1⟩) (by assumption) ?_
    case hy2_1 => (intro W hSw; (try dsimp only at hSw); go_simp; (try with_reducible rfl))
    try simp only [Act.put, List.setIfInBounds_toArray, List.set_cons_zero, List.set_cons_succ]
    refine wpAnyH_take (i := 2) (oi := { dst := some 52, op := Op.nilCheck (Operand.tmp 51), type := 0, pos := "book.go:42", after := #[{ on := 1, ground := Ground.data }], guard := none }) (v := ?v2_2) rfl (by kernel_rfl) (by kernel_rfl) (by kernel_rfl) (fun _ _ _ h => h) (Or.inl ⟨by rfl, ?hy2_2⟩) (by assumption) ?_
    case hy2_2 => (intro W hSw; (try dsimp only at hSw); go_simp; (try with_reducible rfl))
    try simp only [Act.put, List.setIfInBounds_toArray, List.set_cons_zero, List.set_cons_succ]
    refine wpAnyH_take (i := 3) (oi := { dst := some 53, op := Op.fieldAddr 36 (Operand.tmp 52) 9, type := 0, pos := "book.go:42", after := #[{ on := 2, ground := Ground.data }], guard := none }) (v := ?v2_3) rfl (by kernel_rfl) (by kernel_rfl) (by kernel_rfl) (fun _ _ _ h => h) (Or.inl ⟨by rfl, ?hy2_3⟩) (by assumption) ?_
    case hy2_3 => (intro W hSw; (try dsimp only at hSw); go_simp; (try with_reducible rfl))
    try simp only [Act.put, List.setIfInBounds_toArray, List.set_cons_zero, List.set_cons_succ]
    refine wpAnyH_take (i := 5) (oi := { dst := some 55, op := Op.load 26 (Operand.tmp 3), type := 26, pos := "book.go:42", after := #[], guard := none }) (v := ?v2_5) rfl (by kernel_rfl) (by kernel_rfl) (by kernel_rfl) (fun _ _ _ h => h) (Or.inl ⟨by rfl, ?hy2_5⟩) (by assumption) ?_
    case hy2_5 => (intro W hSw; (try dsimp only at hSw); go_simp; (try with_reducible rfl))
    try simp only [Act.put, List.setIfInBounds_toArray, List.set_cons_zero, List.set_cons_succ]
    refine wpAnyH_ready (rs := [4, 6]) (by kernel_rfl) (by simp) ?_
    refine (AllReadyH.cons (o := { dst := some 54, op := Op.load 34 (Operand.tmp 53), type := 34, pos := "book.go:42", after := #[{ on := 3, ground := Ground.data }], guard := none }) rfl (fun K hK => ?_) (AllReadyH.cons (o := { dst := some 56, op := Op.call { callee := Callee.value (Operand.func 46), args := #[Operand.tmp 55], argTypes := #[26] }, type := 38, pos := "book.go:42", after := #[{ on := 5, ground := Ground.data }], guard := none }) rfl (fun K hK => ?_) AllReadyH.nil))
    ·
      go_simp
      refine hK.out _ _ (CE.out _ s3) (fun hHeld => ?_)
      clear hK K
      try simp only [Act.put, List.setIfInBounds_toArray, List.set_cons_zero, List.set_cons_succ]
      refine wpAnyH_ready (rs := [6]) (by kernel_rfl) (by simp) ?_
      refine AllReadyH.cons (o := { dst := some 56, op := Op.call { callee := Callee.value (Operand.func 46), args := #[Operand.tmp 55], argTypes := #[26] }, type := 38, pos := "book.go:42", after := #[{ on := 5, ground := Ground.data }], guard := none }) rfl (fun K hK => ?_) AllReadyH.nil
      go_simp
      refine (HMV.out _).mono ?_
      rintro e wa ⟨rfl, hka⟩
      go_wp2_with fail
      refine hK.out _ _ (CE.out _ (s3.calm hka)) (fun hHeld => ?_)
      clear hK K
      try simp only [Act.put, List.setIfInBounds_toArray, List.set_cons_zero, List.set_cons_succ]
      have s4 := s3.calm hka
      have s5 := s4.alloc (.cells #[.int .i64 MV.st, .bool MV.wr, .int .i64 MV.ce, .int .i64 MV.x, .bool MV.ow, .int .i64 MV.ga] 38)
      have hr := r_box (f := mC) (fun _ => rfl) (k := 6) 38 s4 MV _ rfl
      have d4 := CS.out _ s4
      have d5 := CS.out _ s5
      clear s3
      refine wpAnyH_ready (rs := [7]) (by kernel_rfl) (by simp) ?_
      refine (AllReadyH.cons (o := { dst := some 57, op := Op.buildSlice 34 1 #[(0, Operand.tmp 56)], type := 34, pos := "book.go:42", after := #[{ on := 6, ground := Ground.data }], guard := none }) rfl (fun K hK => ?_) AllReadyH.nil)
      go_simp
      refine hK.out _ _ (CE.out _ s5) (fun hHeld => ?_)
      clear hK K
      try simp only [Act.put, List.setIfInBounds_toArray, List.set_cons_zero, List.set_cons_succ]
      refine wpAnyH_ready (rs := [8]) (by kernel_rfl) (by simp) ?_
      refine (AllReadyH.cons (o := { dst := some 58, op := Op.call { callee := Callee.builtin Builtin.append, args := #[Operand.tmp 54, Operand.tmp 57], argTypes := #[34, 34] }, type := 34, pos := "book.go:42", after := #[{ on := 4, ground := Ground.data }, { on := 7, ground := Ground.data }, { on := 6, ground := Ground.chain }], guard := none }) rfl (fun K hK => ?_) AllReadyH.nil)
      refine step_appR_at Try.rowM s5 (p + 4) HMI.out (by rfl) _ _ (by rfl) (by rfl) (some ⟨wa.heap.size, 0, none⟩) 1 1 (by rfl) hr (fun e => by cases e) HSZ.out ?_
      intro v' w' s7
      obtain ⟨g', cap', rfl, k9, kf9, s8⟩ := HPM.out v' w' s7
      have H8 := hid s8
      have H7 := hid s7
      clear s5 hr s7 s8 HPM
      refine hK.out _ _ (CE.out _ H7.out) (fun hHeld => ?_)
      clear hK K
      try simp only [Act.put, List.setIfInBounds_toArray, List.set_cons_zero, List.set_cons_succ]
      refine wpAnyH_take (i := 9) (oi := { dst := some 59, op := Op.nilCheck (Operand.tmp 50), type := 0, pos := "book.go:42", after := #[{ on := 0, ground := Ground.data }, { on := 0, ground := Ground.phase }, { on := 1, ground := Ground.phase }, { on := 2, ground := Ground.phase }, { on := 3, ground := Ground.phase }, { on := 4, ground := Ground.phase }, { on := 5, ground := Ground.phase }, { on := 6, ground := Ground.phase }, { on := 7, ground := Ground.phase }, { on := 8, ground := Ground.phase }], guard := none }) (v := ?v10_9) rfl (by kernel_rfl) (by kernel_rfl) (by kernel_rfl) (fun _ _ _ h => h) (Or.inl ⟨by rfl, ?hy10_9⟩) (by assumption) ?_
      case hy10_9 => (intro W hSw; (try dsimp only at hSw); go_simp; (try with_reducible rfl))
      try simp only [Act.put, List.setIfInBounds_toArray, List.set_cons_zero, List.set_cons_succ]
      refine wpAnyH_take (i := 10) (oi := { dst := some 60, op := Op.fieldAddr 36 (Operand.tmp 59) 9, type := 0, pos := "book.go:42", after := #[{ on := 9, ground := Ground.data }, { on := 0, ground := Ground.phase }, { on := 1, ground := Ground.phase }, { on := 2, ground := Ground.phase }, { on := 3, ground := Ground.phase }, { on := 4, ground := Ground.phase }, { on := 5, ground := Ground.phase }, { on := 6, ground := Ground.phase }, { on := 7, ground := Ground.phase }, { on := 8, ground := Ground.phase }], guard := none }) (v := ?v10_10) rfl (by kernel_rfl) (by kernel_rfl) (by kernel_rfl) (fun _ _ _ h => h) (Or.inl ⟨by rfl, ?hy10_10⟩) (by assumption) ?_
      case hy10_10 => (intro W hSw; (try dsimp only at hSw); go_simp; (try with_reducible rfl))
      try simp only [Act.put, List.setIfInBounds_toArray, List.set_cons_zero, List.set_cons_succ]
      refine wpAnyH_ready (rs := [11]) (by kernel_rfl) (by simp) ?_
      refine (AllReadyH.cons (o := { dst := none, op := Op.store 34 (Operand.tmp 60) (Operand.tmp 58), type := 0, pos := "book.go:42", after := #[{ on := 10, ground := Ground.data }, { on := 8, ground := Ground.data }, { on := 8, ground := Ground.chain }, { on := 0, ground := Ground.phase }, { on := 1, ground := Ground.phase }, { on := 2, ground := Ground.phase }, { on := 3, ground := Ground.phase }, { on := 4, ground := Ground.phase }, { on := 5, ground := Ground.phase }, { on := 6, ground := Ground.phase }, { on := 7, ground := Ground.phase }, { on := 8, ground := Ground.phase }], guard := none }) rfl (fun K hK => ?_) AllReadyH.nil)
      go_simp
      refine hK.out _ _ (CE.out _ H8.out) (fun hHeld => ?_)
      clear hK K
      try simp only [Act.put, List.setIfInBounds_toArray, List.set_cons_zero, List.set_cons_succ]
      refine wpAnyH_done (by kernel_rfl) ?_ _
      go_wp2
      go_end0
      exact HQ.out _ _ _ H8.out
    ·
      go_simp
      refine (HMV.out _).mono ?_
      rintro e wa ⟨rfl, hka⟩
      go_wp2_with fail
      refine hK.out _ _ (CE.out _ (s3.calm hka)) (fun hHeld => ?_)
      clear hK K
      try simp only [Act.put, List.setIfInBounds_toArray, List.set_cons_zero, List.set_cons_succ]
      have s4 := s3.calm hka
      have s5 := s4.alloc (.cells #[.int .i64 MV.st, .bool MV.wr, .int .i64 MV.ce, .int .i64 MV.x, .bool MV.ow, .int .i64 MV.ga] 38)
      have hr := r_box (f := mC) (fun _ => rfl) (k := 6) 38 s4 MV _ rfl
      have d4 := CS.out _ s4
      have d5 := CS.out _ s5
      clear s3
      refine wpAnyH_ready (rs := [4, 7]) (by kernel_rfl) (by simp) ?_
      refine (AllReadyH.cons (o := { dst := some 54, op := Op.load 34 (Operand.tmp 53), type := 34, pos := "book.go:42", after := #[{ on := 3, ground := Ground.data }], guard := none }) rfl (fun K hK => ?_) (AllReadyH.cons (o := { dst := some 57, op := Op.buildSlice 34 1 #[(0, Operand.tmp 56)], type := 34, pos := "book.go:42", after := #[{ on := 6, ground := Ground.data }], guard := none }) rfl (fun K hK => ?_) AllReadyH.nil))
      ·
        go_simp
        refine hK.out _ _ (CE.out _ s4) (fun hHeld => ?_)
        clear hK K
        try simp only [Act.put, List.setIfInBounds_toArray, List.set_cons_zero, List.set_cons_succ]
        refine wpAnyH_ready (rs := [7]) (by kernel_rfl) (by simp) ?_
        refine (AllReadyH.cons (o := { dst := some 57, op := Op.buildSlice 34 1 #[(0, Operand.tmp 56)], type := 34, pos := "book.go:42", after := #[{ on := 6, ground := Ground.data }], guard := none }) rfl (fun K hK => ?_) AllReadyH.nil)
        go_simp
        refine hK.out _ _ (CE.out _ s5) (fun hHeld => ?_)
        clear hK K
        try simp only [Act.put, List.setIfInBounds_toArray, List.set_cons_zero, List.set_cons_succ]
        refine wpAnyH_ready (rs := [8]) (by kernel_rfl) (by simp) ?_
        refine (AllReadyH.cons (o := { dst := some 58, op := Op.call { callee := Callee.builtin Builtin.append, args := #[Operand.tmp 54, Operand.tmp 57], argTypes := #[34, 34] }, type := 34, pos := "book.go:42", after := #[{ on := 4, ground := Ground.data }, { on := 7, ground := Ground.data }, { on := 6, ground := Ground.chain }], guard := none }) rfl (fun K hK => ?_) AllReadyH.nil)
        refine step_appR_at Try.rowM s5 (p + 4) HMI.out (by rfl) _ _ (by rfl) (by rfl) (some ⟨wa.heap.size, 0, none⟩) 1 1 (by rfl) hr (fun e => by cases e) HSZ.out ?_
        intro v' w' s7
        obtain ⟨g', cap', rfl, k9, kf9, s8⟩ := HPM.out v' w' s7
        have H8 := hid s8
        have H7 := hid s7
        clear s5 hr s7 s8 HPM
        refine hK.out _ _ (CE.out _ H7.out) (fun hHeld => ?_)
        clear hK K
        try simp only [Act.put, List.setIfInBounds_toArray, List.set_cons_zero, List.set_cons_succ]
        refine wpAnyH_take (i := 9) (oi := { dst := some 59, op := Op.nilCheck (Operand.tmp 50), type := 0, pos := "book.go:42", after := #[{ on := 0, ground := Ground.data }, { on := 0, ground := Ground.phase }, { on := 1, ground := Ground.phase }, { on := 2, ground := Ground.phase }, { on := 3, ground := Ground.phase }, { on := 4, ground := Ground.phase }, { on := 5, ground := Ground.phase }, { on := 6, ground := Ground.phase }, { on := 7, ground := Ground.phase }, { on := 8, ground := Ground.phase }], guard := none }) (v := ?v21_9) rfl (by kernel_rfl) (by kernel_rfl) (by kernel_rfl) (fun _ _ _ h => h) (Or.inl ⟨by rfl, ?hy21_9⟩) (by assumption) ?_
        case hy21_9 => (intro W hSw; (try dsimp only at hSw); go_simp; (try with_reducible rfl))
        try simp only [Act.put, List.setIfInBounds_toArray, List.set_cons_zero, List.set_cons_succ]
        refine wpAnyH_take (i := 10) (oi := { dst := some 60, op := Op.fieldAddr 36 (Operand.tmp 59) 9, type := 0, pos := "book.go:42", after := #[{ on := 9, ground := Ground.data }, { on := 0, ground := Ground.phase }, { on := 1, ground := Ground.phase }, { on := 2, ground := Ground.phase }, { on := 3, ground := Ground.phase }, { on := 4, ground := Ground.phase }, { on := 5, ground := Ground.phase }, { on := 6, ground := Ground.phase }, { on := 7, ground := Ground.phase }, { on := 8, ground := Ground.phase }], guard := none }) (v := ?v21_10) rfl (by kernel_rfl) (by kernel_rfl) (by kernel_rfl) (fun _ _ _ h => h) (Or.inl ⟨by rfl, ?hy21_10⟩) (by assumption) ?_
        case hy21_10 => (intro W hSw; (try dsimp only at hSw); go_simp; (try with_reducible rfl))
        try simp only [Act.put, List.setIfInBounds_toArray, List.set_cons_zero, List.set_cons_succ]
        refine wpAnyH_ready (rs := [11]) (by kernel_rfl) (by simp) ?_
        refine (AllReadyH.cons (o := { dst := none, op := Op.store 34 (Operand.tmp 60) (Operand.tmp 58), type := 0, pos := "book.go:42", after := #[{ on := 10, ground := Ground.data }, { on := 8, ground := Ground.data }, { on := 8, ground := Ground.chain }, { on := 0, ground := Ground.phase }, { on := 1, ground := Ground.phase }, { on := 2, ground := Ground.phase }, { on := 3, ground := Ground.phase }, { on := 4, ground := Ground.phase }, { on := 5, ground := Ground.phase }, { on := 6, ground := Ground.phase }, { on := 7, ground := Ground.phase }, { on := 8, ground := Ground.phase }], guard := none }) rfl (fun K hK => ?_) AllReadyH.nil)
        go_simp
        refine hK.out _ _ (CE.out _ H8.out) (fun hHeld => ?_)
        clear hK K
        try simp only [Act.put, List.setIfInBounds_toArray, List.set_cons_zero, List.set_cons_succ]
        refine wpAnyH_done (by kernel_rfl) ?_ _
        go_wp2
        go_end0
        exact HQ.out _ _ _ H8.out
      ·
        go_simp
        refine hK.out _ _ (CE.out _ s5) (fun hHeld => ?_)
        clear hK K
        try simp only [Act.put, List.setIfInBounds_toArray, List.set_cons_zero, List.set_cons_succ]
        refine wpAnyH_ready (rs := [4]) (by kernel_rfl) (by simp) ?_
        refine (AllReadyH.cons (o := { dst := some 54, op := Op.load 34 (Operand.tmp 53), type := 34, pos := "book.go:42", after := #[{ on := 3, ground := Ground.data }], guard := none }) rfl (fun K hK => ?_) AllReadyH.nil)
        go_simp
        refine hK.out _ _ (CE.out _ s5) (fun hHeld => ?_)
        clear hK K
        try simp only [Act.put, List.setIfInBounds_toArray, List.set_cons_zero, List.set_cons_succ]
        refine wpAnyH_ready (rs := [8]) (by kernel_rfl) (by simp) ?_
        refine (AllReadyH.cons (o := { dst := some 58, op := Op.call { callee := Callee.builtin Builtin.append, args := #[Operand.tmp 54, Operand.tmp 57], argTypes := #[34, 34] }, type := 34, pos := "book.go:42", after := #[{ on := 4, ground := Ground.data }, { on := 7, ground := Ground.data }, { on := 6, ground := Ground.chain }], guard := none }) rfl (fun K hK => ?_) AllReadyH.nil)
        refine step_appR_at Try.rowM s5 (p + 4) HMI.out (by rfl) _ _ (by rfl) (by rfl) (some ⟨wa.heap.size, 0, none⟩) 1 1 (by rfl) hr (fun e => by cases e) HSZ.out ?_
        intro v' w' s7
        obtain ⟨g', cap', rfl, k9, kf9, s8⟩ := HPM.out v' w' s7
        have H8 := hid s8
        have H7 := hid s7
        clear s5 hr s7 s8 HPM
        refine hK.out _ _ (CE.out _ H7.out) (fun hHeld => ?_)
        clear hK K
        try simp only [Act.put, List.setIfInBounds_toArray, List.set_cons_zero, List.set_cons_succ]
        refine wpAnyH_take (i := 9) (oi := { dst := some 59, op := Op.nilCheck (Operand.tmp 50), type := 0, pos := "book.go:42", after := #[{ on := 0, ground := Ground.data }, { on := 0, ground := Ground.phase }, { on := 1, ground := Ground.phase }, { on := 2, ground := Ground.phase }, { on := 3, ground := Ground.phase }, { on := 4, ground := Ground.phase }, { on := 5, ground := Ground.phase }, { on := 6, ground := Ground.phase }, { on := 7, ground := Ground.phase }, { on := 8, ground := Ground.phase }], guard := none }) (v := ?v30_9) rfl (by kernel_rfl) (by kernel_rfl) (by kernel_rfl) (fun _ _ _ h => h) (Or.inl ⟨by rfl, ?hy30_9⟩) (by assumption) ?_
        case hy30_9 => (intro W hSw; (try dsimp only at hSw); go_simp; (try with_reducible rfl))
        try simp only [Act.put, List.setIfInBounds_toArray, List.set_cons_zero, List.set_cons_succ]
        refine wpAnyH_take (i := 10) (oi := { dst := some 60, op := Op.fieldAddr 36 (Operand.tmp 59) 9, type := 0, pos := "book.go:42", after := #[{ on := 9, ground := Ground.data }, { on := 0, ground := Ground.phase }, { on := 1, ground := Ground.phase }, { on := 2, ground := Ground.phase }, { on := 3, ground := Ground.phase }, { on := 4, ground := Ground.phase }, { on := 5, ground := Ground.phase }, { on := 6, ground := Ground.phase }, { on := 7, ground := Ground.phase }, { on := 8, ground := Ground.phase }], guard := none }) (v := ?v30_10) rfl (by kernel_rfl) (by kernel_rfl) (by kernel_rfl) (fun _ _ _ h => h) (Or.inl ⟨by rfl, ?hy30_10⟩) (by assumption) ?_
        case hy30_10 => (intro W hSw; (try dsimp only at hSw); go_simp; (try with_reducible rfl))
        try simp only [Act.put, List.setIfInBounds_toArray, List.set_cons_zero, List.set_cons_succ]
        refine wpAnyH_ready (rs := [11]) (by kernel_rfl) (by simp) ?_
        refine (AllReadyH.cons (o := { dst := none, op := Op.store 34 (Operand.tmp 60) (Operand.tmp 58), type := 0, pos := "book.go:42", after := #[{ on := 10, ground := Ground.data }, { on := 8, ground := Ground.data }, { on := 8, ground := Ground.chain }, { on := 0, ground := Ground.phase }, { on := 1, ground := Ground.phase }, { on := 2, ground := Ground.phase }, { on := 3, ground := Ground.phase }, { on := 4, ground := Ground.phase }, { on := 5, ground := Ground.phase }, { on := 6, ground := Ground.phase }, { on := 7, ground := Ground.phase }, { on := 8, ground := Ground.phase }], guard := none }) rfl (fun K hK => ?_) AllReadyH.nil)
        go_simp
        refine hK.out _ _ (CE.out _ H8.out) (fun hHeld => ?_)
        clear hK K
        try simp only [Act.put, List.setIfInBounds_toArray, List.set_cons_zero, List.set_cons_succ]
        refine wpAnyH_done (by kernel_rfl) ?_ _
        go_wp2
        go_end0
        exact HQ.out _ _ _ H8.out
  · go_upto_region 9 with (go_at_call 45; refine hC.mono ?_; rintro e w3 ⟨rfl, hs3⟩; have HS3 := hid hs3; clear hs3)
    clear c0 c1 c2 c3 c4 c5 c6 c7 c8 c9 hC HOP HS2
    have s3 := HS3.out.drew
    have d3 := CS.out _ s3
    clear HS3
    refine wp_region_held_drew (S := fun W => W.cell? ⟨E, 0, none⟩ = some (.int .i64 kd) ∧ W.cell? ⟨E, 1, none⟩ = some (.int .i64 sp') ∧ W.cell? ⟨E, 2, none⟩ = some (.int .i64 th) ∧ W.cell? ⟨E, 3, none⟩ = some (.int .i64 sp) ∧ W.cell? ⟨E, 4, none⟩ = some (.int .i64 ce) ∧ W.cell? ⟨E, 5, none⟩ = some (.int .i64 x) ∧ W.cell? ⟨E, 6, none⟩ = some (.bool ow) ∧ W.cell? ⟨E, 7, none⟩ = some (.int .i64 ga) ∧ W.cell? ⟨E, 8, none⟩ = some (.int .i64 er) ∧ W.cell? ⟨E, 9, none⟩ = some (.int .i64 by_)) (by kernel_rfl) (CE.out _ s3) (fun hHeld => ?_)
    refine wpAnyH_take (i := 0) (oi := { dst := some 50, op := Op.move (Operand.tmp 4), type := 80, pos := "book.go:42", after := #[], guard := none }) (v := ?v35_0) rfl (by kernel_rfl) (by kernel_rfl) (by kernel_rfl) (fun _ _ _ h => h) (Or.inl ⟨by rfl, ?hy35_0⟩) (by assumption) ?_
    case hy35_0 => (intro W hSw; (try dsimp only at hSw); go_simp; (try with_reducible rfl))
    try simp only [Act.put, List.setIfInBounds_toArray, List.set_cons_zero, List.set_cons_succ]
    refine wpAnyH_take (i := 1) (oi := { dst := some 51, op := Op.move (Operand.tmp 4), type := 80, pos := "book.go:42", after := #[], guard := none }) (v := ?v35_1) rfl (by kernel_rfl) (by kernel_rfl) (by kernel_rfl) (fun _ _ _ h => h) (Or.inl ⟨by rfl, ?hy35_1⟩) (by assumption) ?_
    case hy35_1 => (intro W hSw; (try dsimp only at hSw); go_simp; (try with_reducible rfl))
    try simp only [Act.put, List.setIfInBounds_toArray, List.set_cons_zero, List.set_cons_succ]
    refine wpAnyH_take (i := 2) (oi := { dst := some 52, op := Op.nilCheck (Operand.tmp 51), type := 0, pos := "book.go:42", after := #[{ on := 1, ground := Ground.data }], guard := none }) (v := ?v35_2) rfl (by kernel_rfl) (by kernel_rfl) (by kernel_rfl) (fun _ _ _ h => h) (Or.inl ⟨by rfl, ?hy35_2⟩) (by assumption) ?_
    case hy35_2 => (intro W hSw; (try dsimp only at hSw); go_simp; (try with_reducible rfl))
    try simp only [Act.put, List.setIfInBounds_toArray, List.set_cons_zero, List.set_cons_succ]
    refine wpAnyH_take (i := 3) (oi := { dst := some 53, op := Op.fieldAddr 36 (Operand.tmp 52) 9, type := 0, pos := "book.go:42", after := #[{ on := 2, ground := Ground.data }], guard := none }) (v := ?v35_3) rfl (by kernel_rfl) (by kernel_rfl) (by kernel_rfl) (fun _ _ _ h => h) (Or.inl ⟨by rfl, ?hy35_3⟩) (by assumption) ?_
    case hy35_3 => (intro W hSw; (try dsimp only at hSw); go_simp; (try with_reducible rfl))
    try simp only [Act.put, List.setIfInBounds_toArray, List.set_cons_zero, List.set_cons_succ]
    refine wpAnyH_take (i := 5) (oi := { dst := some 55, op := Op.load 26 (Operand.tmp 3), type := 26, pos := "book.go:42", after := #[], guard := none }) (v := ?v35_5) rfl (by kernel_rfl) (by kernel_rfl) (by kernel_rfl) (fun _ _ _ h => h) (Or.inl ⟨by rfl, ?hy35_5⟩) (by assumption) ?_
    case hy35_5 => (intro W hSw; (try dsimp only at hSw); go_simp; (try with_reducible rfl))
    try simp only [Act.put, List.setIfInBounds_toArray, List.set_cons_zero, List.set_cons_succ]
    refine wpAnyH_ready (rs := [4, 6]) (by kernel_rfl) (by simp) ?_
    refine (AllReadyH.cons (o := { dst := some 54, op := Op.load 34 (Operand.tmp 53), type := 34, pos := "book.go:42", after := #[{ on := 3, ground := Ground.data }], guard := none }) rfl (fun K hK => ?_) (AllReadyH.cons (o := { dst := some 56, op := Op.call { callee := Callee.value (Operand.func 46), args := #[Operand.tmp 55], argTypes := #[26] }, type := 38, pos := "book.go:42", after := #[{ on := 5, ground := Ground.data }], guard := none }) rfl (fun K hK => ?_) AllReadyH.nil))
    ·
      go_simp
      refine hK.out _ _ (CE.out _ s3) (fun hHeld => ?_)
      clear hK K
      try simp only [Act.put, List.setIfInBounds_toArray, List.set_cons_zero, List.set_cons_succ]
      refine wpAnyH_ready (rs := [6]) (by kernel_rfl) (by simp) ?_
      refine AllReadyH.cons (o := { dst := some 56, op := Op.call { callee := Callee.value (Operand.func 46), args := #[Operand.tmp 55], argTypes := #[26] }, type := 38, pos := "book.go:42", after := #[{ on := 5, ground := Ground.data }], guard := none }) rfl (fun K hK => ?_) AllReadyH.nil
      go_simp
      refine (HMV.out _).mono ?_
      rintro e wa ⟨rfl, hka⟩
      go_wp2_with fail
      refine hK.out _ _ (CE.out _ (s3.calm hka)) (fun hHeld => ?_)
      clear hK K
      try simp only [Act.put, List.setIfInBounds_toArray, List.set_cons_zero, List.set_cons_succ]
      have s4 := s3.calm hka
      have s5 := s4.alloc (.cells #[.int .i64 MV.st, .bool MV.wr, .int .i64 MV.ce, .int .i64 MV.x, .bool MV.ow, .int .i64 MV.ga] 38)
      have hr := r_box (f := mC) (fun _ => rfl) (k := 6) 38 s4 MV _ rfl
      have d4 := CS.out _ s4
      have d5 := CS.out _ s5
      clear s3
      refine wpAnyH_ready (rs := [7]) (by kernel_rfl) (by simp) ?_
      refine (AllReadyH.cons (o := { dst := some 57, op := Op.buildSlice 34 1 #[(0, Operand.tmp 56)], type := 34, pos := "book.go:42", after := #[{ on := 6, ground := Ground.data }], guard := none }) rfl (fun K hK => ?_) AllReadyH.nil)
      go_simp
      refine hK.out _ _ (CE.out _ s5) (fun hHeld => ?_)
      clear hK K
      try simp only [Act.put, List.setIfInBounds_toArray, List.set_cons_zero, List.set_cons_succ]
      refine wpAnyH_ready (rs := [8]) (by kernel_rfl) (by simp) ?_
      refine (AllReadyH.cons (o := { dst := some 58, op := Op.call { callee := Callee.builtin Builtin.append, args := #[Operand.tmp 54, Operand.tmp 57], argTypes := #[34, 34] }, type := 34, pos := "book.go:42", after := #[{ on := 4, ground := Ground.data }, { on := 7, ground := Ground.data }, { on := 6, ground := Ground.chain }], guard := none }) rfl (fun K hK => ?_) AllReadyH.nil)
      refine step_appR_at Try.rowM s5 (p + 4) HMI.out (by rfl) _ _ (by rfl) (by rfl) (some ⟨wa.heap.size, 0, none⟩) 1 1 (by rfl) hr (fun e => by cases e) HSZ.out ?_
      intro v' w' s7
      obtain ⟨g', cap', rfl, k9, kf9, s8⟩ := HPM.out v' w' s7
      have H8 := hid s8
      have H7 := hid s7
      clear s5 hr s7 s8 HPM
      refine hK.out _ _ (CE.out _ H7.out) (fun hHeld => ?_)
      clear hK K
      try simp only [Act.put, List.setIfInBounds_toArray, List.set_cons_zero, List.set_cons_succ]
      refine wpAnyH_take (i := 9) (oi := { dst := some 59, op := Op.nilCheck (Operand.tmp 50), type := 0, pos := "book.go:42", after := #[{ on := 0, ground := Ground.data }, { on := 0, ground := Ground.phase }, { on := 1, ground := Ground.phase }, { on := 2, ground := Ground.phase }, { on := 3, ground := Ground.phase }, { on := 4, ground := Ground.phase }, { on := 5, ground := Ground.phase }, { on := 6, ground := Ground.phase }, { on := 7, ground := Ground.phase }, { on := 8, ground := Ground.phase }], guard := none }) (v := ?v43_9) rfl (by kernel_rfl) (by kernel_rfl) (by kernel_rfl) (fun _ _ _ h => h) (Or.inl ⟨by rfl, ?hy43_9⟩) (by assumption) ?_
      case hy43_9 => (intro W hSw; (try dsimp only at hSw); go_simp; (try with_reducible rfl))
      try simp only [Act.put, List.setIfInBounds_toArray, List.set_cons_zero, List.set_cons_succ]
      refine wpAnyH_take (i := 10) (oi := { dst := some 60, op := Op.fieldAddr 36 (Operand.tmp 59) 9, type := 0, pos := "book.go:42", after := #[{ on := 9, ground := Ground.data }, { on := 0, ground := Ground.phase }, { on := 1, ground := Ground.phase }, { on := 2, ground := Ground.phase }, { on := 3, ground := Ground.phase }, { on := 4, ground := Ground.phase }, { on := 5, ground := Ground.phase }, { on := 6, ground := Ground.phase }, { on := 7, ground := Ground.phase }, { on := 8, ground := Ground.phase }], guard := none }) (v := ?v43_10) rfl (by kernel_rfl) (by kernel_rfl) (by kernel_rfl) (fun _ _ _ h => h) (Or.inl ⟨by rfl, ?hy43_10⟩) (by assumption) ?_
      case hy43_10 => (intro W hSw; (try dsimp only at hSw); go_simp; (try with_reducible rfl))
      try simp only [Act.put, List.setIfInBounds_toArray, List.set_cons_zero, List.set_cons_succ]
      refine wpAnyH_ready (rs := [11]) (by kernel_rfl) (by simp) ?_
      refine (AllReadyH.cons (o := { dst := none, op := Op.store 34 (Operand.tmp 60) (Operand.tmp 58), type := 0, pos := "book.go:42", after := #[{ on := 10, ground := Ground.data }, { on := 8, ground := Ground.data }, { on := 8, ground := Ground.chain }, { on := 0, ground := Ground.phase }, { on := 1, ground := Ground.phase }, { on := 2, ground := Ground.phase }, { on := 3, ground := Ground.phase }, { on := 4, ground := Ground.phase }, { on := 5, ground := Ground.phase }, { on := 6, ground := Ground.phase }, { on := 7, ground := Ground.phase }, { on := 8, ground := Ground.phase }], guard := none }) rfl (fun K hK => ?_) AllReadyH.nil)
      go_simp
      refine hK.out _ _ (CE.out _ H8.out) (fun hHeld => ?_)
      clear hK K
      try simp only [Act.put, List.setIfInBounds_toArray, List.set_cons_zero, List.set_cons_succ]
      refine wpAnyH_done (by kernel_rfl) ?_ _
      go_wp2
      go_end0
      exact HQ.out _ _ _ H8.out
    ·
      go_simp
      refine (HMV.out _).mono ?_
      rintro e wa ⟨rfl, hka⟩
      go_wp2_with fail
      refine hK.out _ _ (CE.out _ (s3.calm hka)) (fun hHeld => ?_)
      clear hK K
      try simp only [Act.put, List.setIfInBounds_toArray, List.set_cons_zero, List.set_cons_succ]
      have s4 := s3.calm hka
      have s5 := s4.alloc (.cells #[.int .i64 MV.st, .bool MV.wr, .int .i64 MV.ce, .int .i64 MV.x, .bool MV.ow, .int .i64 MV.ga] 38)
      have hr := r_box (f := mC) (fun _ => rfl) (k := 6) 38 s4 MV _ rfl
      have d4 := CS.out _ s4
      have d5 := CS.out _ s5
      clear s3
      refine wpAnyH_ready (rs := [4, 7]) (by kernel_rfl) (by simp) ?_
      refine (AllReadyH.cons (o := { dst := some 54, op := Op.load 34 (Operand.tmp 53), type := 34, pos := "book.go:42", after := #[{ on := 3, ground := Ground.data }], guard := none }) rfl (fun K hK => ?_) (AllReadyH.cons (o := { dst := some 57, op := Op.buildSlice 34 1 #[(0, Operand.tmp 56)], type := 34, pos := "book.go:42", after := #[{ on := 6, ground := Ground.data }], guard := none }) rfl (fun K hK => ?_) AllReadyH.nil))
      ·
        go_simp
        refine hK.out _ _ (CE.out _ s4) (fun hHeld => ?_)
        clear hK K
        try simp only [Act.put, List.setIfInBounds_toArray, List.set_cons_zero, List.set_cons_succ]
        refine wpAnyH_ready (rs := [7]) (by kernel_rfl) (by simp) ?_
        refine (AllReadyH.cons (o := { dst := some 57, op := Op.buildSlice 34 1 #[(0, Operand.tmp 56)], type := 34, pos := "book.go:42", after := #[{ on := 6, ground := Ground.data }], guard := none }) rfl (fun K hK => ?_) AllReadyH.nil)
        go_simp
        refine hK.out _ _ (CE.out _ s5) (fun hHeld => ?_)
        clear hK K
        try simp only [Act.put, List.setIfInBounds_toArray, List.set_cons_zero, List.set_cons_succ]
        refine wpAnyH_ready (rs := [8]) (by kernel_rfl) (by simp) ?_
        refine (AllReadyH.cons (o := { dst := some 58, op := Op.call { callee := Callee.builtin Builtin.append, args := #[Operand.tmp 54, Operand.tmp 57], argTypes := #[34, 34] }, type := 34, pos := "book.go:42", after := #[{ on := 4, ground := Ground.data }, { on := 7, ground := Ground.data }, { on := 6, ground := Ground.chain }], guard := none }) rfl (fun K hK => ?_) AllReadyH.nil)
        refine step_appR_at Try.rowM s5 (p + 4) HMI.out (by rfl) _ _ (by rfl) (by rfl) (some ⟨wa.heap.size, 0, none⟩) 1 1 (by rfl) hr (fun e => by cases e) HSZ.out ?_
        intro v' w' s7
        obtain ⟨g', cap', rfl, k9, kf9, s8⟩ := HPM.out v' w' s7
        have H8 := hid s8
        have H7 := hid s7
        clear s5 hr s7 s8 HPM
        refine hK.out _ _ (CE.out _ H7.out) (fun hHeld => ?_)
        clear hK K
        try simp only [Act.put, List.setIfInBounds_toArray, List.set_cons_zero, List.set_cons_succ]
        refine wpAnyH_take (i := 9) (oi := { dst := some 59, op := Op.nilCheck (Operand.tmp 50), type := 0, pos := "book.go:42", after := #[{ on := 0, ground := Ground.data }, { on := 0, ground := Ground.phase }, { on := 1, ground := Ground.phase }, { on := 2, ground := Ground.phase }, { on := 3, ground := Ground.phase }, { on := 4, ground := Ground.phase }, { on := 5, ground := Ground.phase }, { on := 6, ground := Ground.phase }, { on := 7, ground := Ground.phase }, { on := 8, ground := Ground.phase }], guard := none }) (v := ?v54_9) rfl (by kernel_rfl) (by kernel_rfl) (by kernel_rfl) (fun _ _ _ h => h) (Or.inl ⟨by rfl, ?hy54_9⟩) (by assumption) ?_
        case hy54_9 => (intro W hSw; (try dsimp only at hSw); go_simp; (try with_reducible rfl))
        try simp only [Act.put, List.setIfInBounds_toArray, List.set_cons_zero, List.set_cons_succ]
        refine wpAnyH_take (i := 10) (oi := { dst := some 60, op := Op.fieldAddr 36 (Operand.tmp 59) 9, type := 0, pos := "book.go:42", after := #[{ on := 9, ground := Ground.data }, { on := 0, ground := Ground.phase }, { on := 1, ground := Ground.phase }, { on := 2, ground := Ground.phase }, { on := 3, ground := Ground.phase }, { on := 4, ground := Ground.phase }, { on := 5, ground := Ground.phase }, { on := 6, ground := Ground.phase }, { on := 7, ground := Ground.phase }, { on := 8, ground := Ground.phase }], guard := none }) (v := ?v54_10) rfl (by kernel_rfl) (by kernel_rfl) (by kernel_rfl) (fun _ _ _ h => h) (Or.inl ⟨by rfl, ?hy54_10⟩) (by assumption) ?_
        case hy54_10 => (intro W hSw; (try dsimp only at hSw); go_simp; (try with_reducible rfl))
        try simp only [Act.put, List.setIfInBounds_toArray, List.set_cons_zero, List.set_cons_succ]
        refine wpAnyH_ready (rs := [11]) (by kernel_rfl) (by simp) ?_
        refine (AllReadyH.cons (o := { dst := none, op := Op.store 34 (Operand.tmp 60) (Operand.tmp 58), type := 0, pos := "book.go:42", after := #[{ on := 10, ground := Ground.data }, { on := 8, ground := Ground.data }, { on := 8, ground := Ground.chain }, { on := 0, ground := Ground.phase }, { on := 1, ground := Ground.phase }, { on := 2, ground := Ground.phase }, { on := 3, ground := Ground.phase }, { on := 4, ground := Ground.phase }, { on := 5, ground := Ground.phase }, { on := 6, ground := Ground.phase }, { on := 7, ground := Ground.phase }, { on := 8, ground := Ground.phase }], guard := none }) rfl (fun K hK => ?_) AllReadyH.nil)
        go_simp
        refine hK.out _ _ (CE.out _ H8.out) (fun hHeld => ?_)
        clear hK K
        try simp only [Act.put, List.setIfInBounds_toArray, List.set_cons_zero, List.set_cons_succ]
        refine wpAnyH_done (by kernel_rfl) ?_ _
        go_wp2
        go_end0
        exact HQ.out _ _ _ H8.out
      ·
        go_simp
        refine hK.out _ _ (CE.out _ s5) (fun hHeld => ?_)
        clear hK K
        try simp only [Act.put, List.setIfInBounds_toArray, List.set_cons_zero, List.set_cons_succ]
        refine wpAnyH_ready (rs := [4]) (by kernel_rfl) (by simp) ?_
        refine (AllReadyH.cons (o := { dst := some 54, op := Op.load 34 (Operand.tmp 53), type := 34, pos := "book.go:42", after := #[{ on := 3, ground := Ground.data }], guard := none }) rfl (fun K hK => ?_) AllReadyH.nil)
        go_simp
        refine hK.out _ _ (CE.out _ s5) (fun hHeld => ?_)
        clear hK K
        try simp only [Act.put, List.setIfInBounds_toArray, List.set_cons_zero, List.set_cons_succ]
        refine wpAnyH_ready (rs := [8]) (by kernel_rfl) (by simp) ?_
        refine (AllReadyH.cons (o := { dst := some 58, op := Op.call { callee := Callee.builtin Builtin.append, args := #[Operand.tmp 54, Operand.tmp 57], argTypes := #[34, 34] }, type := 34, pos := "book.go:42", after := #[{ on := 4, ground := Ground.data }, { on := 7, ground := Ground.data }, { on := 6, ground := Ground.chain }], guard := none }) rfl (fun K hK => ?_) AllReadyH.nil)
        refine step_appR_at Try.rowM s5 (p + 4) HMI.out (by rfl) _ _ (by rfl) (by rfl) (some ⟨wa.heap.size, 0, none⟩) 1 1 (by rfl) hr (fun e => by cases e) HSZ.out ?_
        intro v' w' s7
        obtain ⟨g', cap', rfl, k9, kf9, s8⟩ := HPM.out v' w' s7
        have H8 := hid s8
        have H7 := hid s7
        clear s5 hr s7 s8 HPM
        refine hK.out _ _ (CE.out _ H7.out) (fun hHeld => ?_)
        clear hK K
        try simp only [Act.put, List.setIfInBounds_toArray, List.set_cons_zero, List.set_cons_succ]
        refine wpAnyH_take (i := 9) (oi := { dst := some 59, op := Op.nilCheck (Operand.tmp 50), type := 0, pos := "book.go:42", after := #[{ on := 0, ground := Ground.data }, { on := 0, ground := Ground.phase }, { on := 1, ground := Ground.phase }, { on := 2, ground := Ground.phase }, { on := 3, ground := Ground.phase }, { on := 4, ground := Ground.phase }, { on := 5, ground := Ground.phase }, { on := 6, ground := Ground.phase }, { on := 7, ground := Ground.phase }, { on := 8, ground := Ground.phase }], guard := none }) (v := ?v63_9) rfl (by kernel_rfl) (by kernel_rfl) (by kernel_rfl) (fun _ _ _ h => h) (Or.inl ⟨by rfl, ?hy63_9⟩) (by assumption) ?_
        case hy63_9 => (intro W hSw; (try dsimp only at hSw); go_simp; (try with_reducible rfl))
        try simp only [Act.put, List.setIfInBounds_toArray, List.set_cons_zero, List.set_cons_succ]
        refine wpAnyH_take (i := 10) (oi := { dst := some 60, op := Op.fieldAddr 36 (Operand.tmp 59) 9, type := 0, pos := "book.go:42", after := #[{ on := 9, ground := Ground.data }, { on := 0, ground := Ground.phase }, { on := 1, ground := Ground.phase }, { on := 2, ground := Ground.phase }, { on := 3, ground := Ground.phase }, { on := 4, ground := Ground.phase }, { on := 5, ground := Ground.phase }, { on := 6, ground := Ground.phase }, { on := 7, ground := Ground.phase }, { on := 8, ground := Ground.phase }], guard := none }) (v := ?v63_10) rfl (by kernel_rfl) (by kernel_rfl) (by kernel_rfl) (fun _ _ _ h => h) (Or.inl ⟨by rfl, ?hy63_10⟩) (by assumption) ?_
        case hy63_10 => (intro W hSw; (try dsimp only at hSw); go_simp; (try with_reducible rfl))
        try simp only [Act.put, List.setIfInBounds_toArray, List.set_cons_zero, List.set_cons_succ]
        refine wpAnyH_ready (rs := [11]) (by kernel_rfl) (by simp) ?_
        refine (AllReadyH.cons (o := { dst := none, op := Op.store 34 (Operand.tmp 60) (Operand.tmp 58), type := 0, pos := "book.go:42", after := #[{ on := 10, ground := Ground.data }, { on := 8, ground := Ground.data }, { on := 8, ground := Ground.chain }, { on := 0, ground := Ground.phase }, { on := 1, ground := Ground.phase }, { on := 2, ground := Ground.phase }, { on := 3, ground := Ground.phase }, { on := 4, ground := Ground.phase }, { on := 5, ground := Ground.phase }, { on := 6, ground := Ground.phase }, { on := 7, ground := Ground.phase }, { on := 8, ground := Ground.phase }], guard := none }) rfl (fun K hK => ?_) AllReadyH.nil)
        go_simp
        refine hK.out _ _ (CE.out _ H8.out) (fun hHeld => ?_)
        clear hK K
        try simp only [Act.put, List.setIfInBounds_toArray, List.set_cons_zero, List.set_cons_succ]
        refine wpAnyH_done (by kernel_rfl) ?_ _
        go_wp2
        go_end0
        exact HQ.out _ _ _ H8.out
end Go.Proofs.Ytkhbkdabihokjaa
