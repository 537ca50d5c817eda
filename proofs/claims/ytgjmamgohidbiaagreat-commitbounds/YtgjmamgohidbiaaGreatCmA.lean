/- What can be asked of a commit; its stages' steps. -/
import Derived.Test.YtgjmamgohidbiaaGreatCmM
import Derived.BigQuiet
namespace Go.Proofs.YtgjmamgohidbiaaGreat
open Go.RowKit
set_option linter.unusedVariables false
set_option linter.unusedSimpArgs false
attribute [local go_sem ↓] Go.wp_at_zero Go.wp_at_succ

section
variable {o w : World} {R : List It} {A : Ad} {B : CA} {D : Nat} {x : Cm} {c : Cfg} {z : SSt} {v u vs vl vd vv dl dv : Value} {X : It}
theorem cmAt0 : (cmG A B x vs X vl vd vv ++ R)[0]? = some (boxI B.X (x.cells A B vs) 157) := rfl
theorem cmAt1 : (cmG A B x vs X vl vd vv ++ R)[1]? = some (ownI 59 2 (.slice (some ⟨B.gw, 0, none⟩) x.wr.length B.cw) x.wr.length (prCells x.wr)) := rfl
theorem cmAt2 : (cmG A B x vs X vl vd vv ++ R)[2]? = some (lkI B.K A.t x.lk vl vd vv) := rfl
theorem cmAt3 : (cmG A B x vs X vl vd vv ++ R)[3]? = some X := rfl
theorem cmCell (h : St o (cmG A B x vs X vl vd vv ++ R) w) (n : Nat) : w.cell? ⟨B.X, n, none⟩ = (x.cells A B vs)[n]? := h.cell 0 cmAt0 n
theorem cmFrozen (h : St o (cmG A B x vs X vl vd vv ++ R) w) (n : Nat) : w.frozen? ⟨B.X, n, none⟩ = false := h.frozen 0 cmAt0 n
theorem cmSet (i : Nat) (Y : It) : (cmG A B x vs X vl vd vv ++ R).set (4 + i) Y = cmG A B x vs X vl vd vv ++ R.set i Y := by
  rw [List.set_append_right _ _ (by simp [cmG])]
  congr 1
  simp [cmG]
theorem cmGet {i : Nat} {Y : It} (h : R[i]? = some Y) : (cmG A B x vs X vl vd vv ++ R)[4 + i]? = some Y := by
  rw [List.getElem?_append_right (by simp [cmG])]
  simpa [cmG] using h
theorem ifNil (t : TypeId) (y : Value) (w : World) : (binOp .eql 155 (.iface t y) .nilIface).run Tryz.prog w = .ok (.bool false) w := by kernel_rfl
theorem nilNil (w : World) : (binOp .eql 155 .nilIface .nilIface).run Tryz.prog w = .ok (.bool true) w := by kernel_rfl

/-- What the stage's cell says: is it over? -/
def isNilV : Value → Bool
  | .nilIface => true
  | _ => false
theorem cmDone0 (h : St o (cmG A B x vs X vl vd vv ++ R) w) (hv : vs = .nilIface ∨ ∃ t y, vs = .iface t y) :
    Calls Tryz.prog 32 #[.pointer (some ⟨B.X, 0, none⟩)] w fun e w' => e = .returned (.bool (isNilV vs)) ∧ w' = w := by
  have c8 : w.cell? ⟨B.X, 8, none⟩ = some vs := cmCell h 8
  clear h
  have q1 := ifNil
  have q2 := nilNil
  rcases hv with rfl | ⟨t, y, rfl⟩
  · go_enter Tryz.func32, Tryz.ntmps32
    go_wp2_with (simp only [q2])
    go_ret
    exact ⟨rfl, rfl⟩
  · go_enter Tryz.func32, Tryz.ntmps32
    go_wp2_with (simp only [q1])
    go_ret
    exact ⟨rfl, rfl⟩
theorem Stg.val_form (st : Stg) (D gw n cw : Nat) : st.val D gw n cw = .nilIface ∨ ∃ t y, st.val D gw n cw = .iface t y := by
  cases st
  all_goals first | exact .inl rfl | exact .inr ⟨_, _, rfl⟩
theorem Stg.val_nil (st : Stg) (D gw n cw : Nat) : isNilV (st.val D gw n cw) = st.isOver := by
  cases st <;> rfl
theorem cmDoneL (h : St o (cmL A B D x vl vd vv dl dv ++ R) w) :
    Calls Tryz.prog 32 #[.pointer (some ⟨B.X, 0, none⟩)] w fun e w' => e = .returned (.bool x.done) ∧ w' = w := by
  have := cmDone0 (vs := x.st.val D B.gw x.wr.length B.cw) h (Stg.val_form ..)
  rw [Stg.val_nil] at this
  exact this
theorem cmWonL (h : St o (cmL A B D x vl vd vv dl dv ++ R) w) :
    Calls Tryz.prog 34 #[.pointer (some ⟨B.X, 0, none⟩)] w fun e w' => e = .returned (.bool x.won) ∧ w' = w := by
  have c8 : w.cell? ⟨B.X, 10, none⟩ = some (.bool x.won) := cmCell h 10
  clear h
  go_enter Tryz.func34, Tryz.ntmps34
  go_wp2
  go_ret
  exact ⟨rfl, rfl⟩
theorem cmNumberL (h : St o (cmL A B D x vl vd vv dl dv ++ R) w) :
    Calls Tryz.prog 38 #[.pointer (some ⟨B.X, 0, none⟩)] w fun e w' => e = .returned (.int .i64 x.num) ∧ w' = w := by
  have c8 : w.cell? ⟨B.X, 11, none⟩ = some (.int .i64 x.num) := cmCell h 11
  clear h
  go_enter Tryz.func38, Tryz.ntmps38
  go_wp2
  go_ret
  exact ⟨rfl, rfl⟩
theorem cmEndL (h : St o (cmL A B D x vl vd vv dl dv ++ R) w) :
    Calls Tryz.prog 33 #[.pointer (some ⟨B.X, 0, none⟩)] w fun e w' => e = .returned (.int .i64 x.end_) ∧ w' = w := by
  have c8 : w.cell? ⟨B.X, 9, none⟩ = some (.int .i64 x.e) := cmCell h 9
  have hd := cmDoneL h
  clear h
  unfold Cm.end_
  cases hx : x.done
  all_goals
    rw [hx] at hd
    go_enter Tryz.func33, Tryz.ntmps33
    go_wp2_with fail
    refine hd.mono ?_
    rintro e wq ⟨rfl, rfl⟩
    go_wp2
    go_ret
    exact ⟨rfl, rfl⟩
theorem cmVictims0 (h : St o (cmG A B x vs X vl vd vv ++ R) w) (hk : x.lk.fit) :
    Calls Tryz.prog 37 #[.pointer (some ⟨B.X, 0, none⟩)] w fun e w' => ∃ v', e = .returned v' ∧ St o (ownI 104 4 v' x.lk.vs.length (vtCells x.lk.vs) :: (cmG A B x vs X vl vd vv ++ R)) w' := by
  have c8 : w.cell? ⟨B.X, 7, none⟩ = some (.pointer (some ⟨B.K, 0, none⟩)) := cmCell h 7
  have hq := lkVictims h 2 cmAt2 (by have := hk.vn; omega)
  clear h
  go_enter Tryz.func37, Tryz.ntmps37
  go_wp2_with fail
  refine hq.mono ?_
  rintro e wq ⟨v', rfl, s⟩
  have HS : Hid _ := s
  clear s hq c8
  go_wp2
  go_ret
  exact ⟨v', rfl, HS.out⟩
theorem cmGiveUp (h : St o (cmG A B x vs X vl vd vv ++ R) w) (e : Int) :
    Calls Tryz.prog 202 #[.pointer (some ⟨B.X, 0, none⟩), .int .i64 e] w fun r w' => r = .returned (.iface 291 (.agg #[])) ∧ St o (cmG A B (x.giveUp e) vs X vl vd vv ++ R) w' := by
  have c9 : w.cell? ⟨B.X, 9, none⟩ = some (.int .i64 x.e) := cmCell h 9
  have f9 := cmFrozen h 9
  have h1 : St o (cmG A B (x.giveUp e) vs X vl vd vv ++ R) (w.setCell ⟨B.X, 9, none⟩ (.int .i64 e)) := h.write 0 cmAt0 9 (.int .i64 e)
  have HS : Hid _ := h1
  clear h h1
  go_enter Tryz.func202, Tryz.ntmps202
  go_wp2
  go_ret
  exact ⟨rfl, HS.out⟩


theorem cmPut {Y : It} (h : St o (Y :: (cmG A B x vs X vl vd vv ++ R)) w) : St o (cmG A B x vs Y vl vd vv ++ R) w := by
  have q : (Y :: (cmG A B x vs X vl vd vv ++ R)).Perm (X :: (cmG A B x vs Y vl vd vv ++ R)) := by
    have e1 : cmG A B x vs X vl vd vv ++ R = (cmG A B x vs X vl vd vv).take 3 ++ X :: R := rfl
    have e2 : cmG A B x vs Y vl vd vv ++ R = (cmG A B x vs X vl vd vv).take 3 ++ Y :: R := rfl
    rw [e1, e2]
    exact ((List.perm_middle).cons Y).trans ((List.Perm.swap X Y _).trans ((List.perm_middle).symm.cons X))
  exact (h.perm q).pop
/-- Calls that a stage makes, with the commit's cells still there. -/
theorem stGate (h : St o (cmG A B x vs X vl vd vv ++ R) w) (i : Nat) (hi : R[i]? = some (spI A c z v u)) : Calls Tryz.prog 48 #[spp A] w fun e w' => e = .returned (.pointer (some ⟨A.g, 0, none⟩)) ∧ w' = w := spGate h (4 + i) (cmGet hi)
theorem stSlots (h : St o (cmG A B x vs X vl vd vv ++ R) w) (i : Nat) (hi : R[i]? = some (spI A c z v u)) : Calls Tryz.prog 42 #[spp A] w fun e w' => e = .returned (.pointer (some ⟨A.t, 0, none⟩)) ∧ w' = w := spSlots h (4 + i) (cmGet hi)


set_option maxRecDepth 100000 in
set_option maxHeartbeats 1000000 in
theorem stTakeY (h : St o (cmG A B x vs X vl vd vv ++ R) w) (i : Nat) (hi : R[i]? = some (spI A c z v u)) {n : Nat} (ok : z.ok c n) (hn : n ≤ 4611686018427) (hE : takeE z.x x.th = 0) :
    Calls Tryz.prog 193 #[.agg #[], .pointer (some ⟨B.X, 0, none⟩)] w fun e w' => e = .returned (.tuple #[.int .i64 1, .iface 284 (.agg #[])]) ∧ ∃ v', St o (cmG A B { x with num := takeR z.x x.th, st := .own } vs X vl vd vv ++ R.set i (spI A c (z.take x.th) v' u)) w' := by
  have h0 := (h.alloc (.cells #[] 153))
  have c11 : ∀ W v', St o (cmG A B x vs X vl vd vv ++ R.set i (spI A c (z.take x.th) v' u)) W → W.cell? ⟨B.X, 11, none⟩ = some (.int .i64 x.num) ∧ W.frozen? ⟨B.X, 11, none⟩ = false ∧ St o (cmG A B { x with num := takeR z.x x.th, st := .own } vs X vl vd vv ++ R.set i (spI A c (z.take x.th) v' u)) (W.setCell ⟨B.X, 11, none⟩ (.int .i64 (takeR z.x x.th))) := fun W v' s => ⟨cmCell s 11, cmFrozen s 11, s.write 0 cmAt0 11 (.int .i64 (takeR z.x x.th))⟩
  have HP : Hid (∀ W v', St o (cmG A B x vs X vl vd vv ++ R.set i (spI A c (z.take x.th) v' u)) W → ∀ n, St o (cmG A B x vs X vl vd vv ++ R.set i (spI A c (z.take x.th) v' u)) (W.drewN n)) := fun W v' s n => s.calm ((Kept.refl _ W).drewN n)
  have hG : Calls Tryz.prog 48 #[spp A] (w.alloc (.cells #[] 153)).drew _ := stGate h0.drew i hi
  have hq : Calls Tryz.prog 80 #[.pointer (some ⟨A.g, 0, none⟩), .int .i64 x.th] (w.alloc (.cells #[] 153)).drew fun e w' => e = .returned (.tuple #[.int .i64 (takeR z.x x.th), .int .i64 (takeE z.x x.th)]) ∧ (w'.cell? ⟨B.X, 0, none⟩ = some (spp A) ∧ w'.cell? ⟨B.X, 4, none⟩ = some (.int .i64 x.th)) ∧ ∃ v', Hid (St o (cmG A B x vs X vl vd vv ++ R.set i (spI A c (z.take x.th) v' u)) w') := by
    refine (spTake h0.drew (4 + i) (cmGet hi) ok hn x.th).mono ?_
    rintro e w' ⟨he, v', s⟩
    rw [cmSet] at s
    exact ⟨he, ⟨cmCell s 0, cmCell s 4⟩, v', s⟩
  have c0 : (w.alloc (.cells #[] 153)).cell? ⟨B.X, 0, none⟩ = some (spp A) := cmCell h0 0
  have c4 : (w.alloc (.cells #[] 153)).cell? ⟨B.X, 4, none⟩ = some (.int .i64 x.th) := cmCell h0 4
  have HC : Hid _ := c11
  clear h h0 hi ok c11
  generalize takeE z.x x.th = E at *
  generalize takeR z.x x.th = N at *
  generalize z.take x.th = z' at *
  unfold spp at *
  obtain ⟨so, ge, th, sp, wr, lk, st, er, won, num⟩ := x
  simp only at *
  subst hE
  go_enter Tryz.func193, Tryz.ntmps193
  go_upto_region 1 with fail
  generalize w.alloc (.cells #[] 153) = W0 at *
  go_region_held3 (fun W => W.cell? ⟨B.X, 0, none⟩ = some (.pointer (some ⟨A.sp, 0, none⟩)) ∧ W.cell? ⟨B.X, 4, none⟩ = some (.int .i64 th)) (first | go_keep | exact rS)
    (first | (go_at_call 48; refine hG.mono ?_; rintro e wq ⟨rfl, rfl⟩) | (go_at_call 80; refine hq.mono ?_; rintro e w2 ⟨rfl, rS, v', HS⟩))
  clear hq hG c0 c4 rS
  obtain ⟨d11, f11, h3⟩ := HC.out _ _ HS.out
  have HT : Hid _ := h3
  clear h3 HS HC HP
  go_wp2
  go_ret2
  exact ⟨rfl, v', HT.out⟩


set_option maxRecDepth 100000 in
set_option maxHeartbeats 1000000 in
theorem stTakeN (h : St o (cmG A B x vs X vl vd vv ++ R) w) (i : Nat) (hi : R[i]? = some (spI A c z v u)) {n : Nat} (ok : z.ok c n) (hn : n ≤ 4611686018427) (hE : takeE z.x x.th ≠ 0) :
    Calls Tryz.prog 193 #[.agg #[], .pointer (some ⟨B.X, 0, none⟩)] w fun e w' => e = .returned (.tuple #[.int .i64 2, .iface 153 (.agg #[])]) ∧ ∃ v', St o (cmG A B x vs X vl vd vv ++ R.set i (spI A c (z.take x.th) v' u)) w' := by
  have h0 := (h.alloc (.cells #[] 153))
  have c11 : ∀ W v', St o (cmG A B x vs X vl vd vv ++ R.set i (spI A c (z.take x.th) v' u)) W → W.cell? ⟨B.X, 11, none⟩ = some (.int .i64 x.num) ∧ W.frozen? ⟨B.X, 11, none⟩ = false ∧ St o (cmG A B { x with num := takeR z.x x.th, st := .own } vs X vl vd vv ++ R.set i (spI A c (z.take x.th) v' u)) (W.setCell ⟨B.X, 11, none⟩ (.int .i64 (takeR z.x x.th))) := fun W v' s => ⟨cmCell s 11, cmFrozen s 11, s.write 0 cmAt0 11 (.int .i64 (takeR z.x x.th))⟩
  have HP : Hid (∀ W v', St o (cmG A B x vs X vl vd vv ++ R.set i (spI A c (z.take x.th) v' u)) W → ∀ n, St o (cmG A B x vs X vl vd vv ++ R.set i (spI A c (z.take x.th) v' u)) (W.drewN n)) := fun W v' s n => s.calm ((Kept.refl _ W).drewN n)
  have hG : Calls Tryz.prog 48 #[spp A] (w.alloc (.cells #[] 153)).drew _ := stGate h0.drew i hi
  have hq : Calls Tryz.prog 80 #[.pointer (some ⟨A.g, 0, none⟩), .int .i64 x.th] (w.alloc (.cells #[] 153)).drew fun e w' => e = .returned (.tuple #[.int .i64 (takeR z.x x.th), .int .i64 (takeE z.x x.th)]) ∧ (w'.cell? ⟨B.X, 0, none⟩ = some (spp A) ∧ w'.cell? ⟨B.X, 4, none⟩ = some (.int .i64 x.th)) ∧ ∃ v', Hid (St o (cmG A B x vs X vl vd vv ++ R.set i (spI A c (z.take x.th) v' u)) w') := by
    refine (spTake h0.drew (4 + i) (cmGet hi) ok hn x.th).mono ?_
    rintro e w' ⟨he, v', s⟩
    rw [cmSet] at s
    exact ⟨he, ⟨cmCell s 0, cmCell s 4⟩, v', s⟩
  have c0 : (w.alloc (.cells #[] 153)).cell? ⟨B.X, 0, none⟩ = some (spp A) := cmCell h0 0
  have c4 : (w.alloc (.cells #[] 153)).cell? ⟨B.X, 4, none⟩ = some (.int .i64 x.th) := cmCell h0 4
  have HC : Hid _ := c11
  clear h h0 hi ok c11
  generalize takeE z.x x.th = E at *
  generalize takeR z.x x.th = N at *
  generalize z.take x.th = z' at *
  unfold spp at *
  obtain ⟨so, ge, th, sp, wr, lk, st, er, won, num⟩ := x
  simp only at *
  go_enter Tryz.func193, Tryz.ntmps193
  go_upto_region 1 with fail
  generalize w.alloc (.cells #[] 153) = W0 at *
  go_region_held3 (fun W => W.cell? ⟨B.X, 0, none⟩ = some (.pointer (some ⟨A.sp, 0, none⟩)) ∧ W.cell? ⟨B.X, 4, none⟩ = some (.int .i64 th)) (first | go_keep | exact rS)
    (first | (go_at_call 48; refine hG.mono ?_; rintro e wq ⟨rfl, rfl⟩) | (go_at_call 80; refine hq.mono ?_; rintro e w2 ⟨rfl, rS, v', HS⟩))
  clear hq hG c0 c4 rS
  have hE1 : (E != 0) = true := by simpa using hE
  have HT : Hid _ := HP.out _ _ HS.out
  clear HS HC HP hE
  go_wp2_with fail
  go_quiet (fail)
  go_wp2
  go_ret2
  exact ⟨rfl, v', HT.out _⟩


end
end Go.Proofs.YtgjmamgohidbiaaGreat
