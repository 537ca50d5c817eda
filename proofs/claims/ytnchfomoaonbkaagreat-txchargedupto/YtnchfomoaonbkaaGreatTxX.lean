/- What all laws over four threads have in common: the group's calls beside other things, the moves that came in. -/
import Derived.Test.YtnchfomoaonbkaaGreatTxV
import Derived.Test.YtnchfomoaonbkaaGreatTxU
import Derived.Test.YtnchfomoaonbkaaGreatTxI
import Derived.Test.YtnchfomoaonbkaaGreatOps
namespace Go.Proofs.YtnchfomoaonbkaaGreat
open Go.RowKit
set_option linter.unusedVariables false
set_option linter.unusedSimpArgs false
def MwD.mv (d : MwD) : Mv := ⟨d.th, d.kd, d.n, d.ce, d.x⟩
/-- The group behind so many moves. -/
def gsq (c : Cfg) (zs : List Int) (f : Nat → MwD) : Nat → Gp
  | 0 => Gp.new c zs
  | j + 1 => (gsq c zs f j).goes c (f j).mv
theorem gsq_ok {c : Cfg} (hf : c.fits = true) (zs : List Int) (f : Nat → MwD) (j : Nat) : (gsq c zs f j).ok c (1 + 5 * j) := by
  induction j with
  | zero => exact Gp.ok_new hf zs
  | succ j ih =>
    have := ih.goes (f j).mv
    rwa [show 1 + 5 * j + 5 = 1 + 5 * (j + 1) by omega] at this
theorem gsq_gate {c : Cfg} (hf : c.fits = true) (zs : List Int) (f : Nat → MwD) (j : Nat) : (gsq c zs f j).gate c := by
  induction j with
  | zero => exact Gp.gate_new c zs
  | succ j ih => exact (ih.goes (gsq_ok hf zs f j) (f j).mv).1
theorem St.addAll {o w w' : World} {its l : List It} (h : St o its w) (h2 : St w l w') : St o (l ++ its) w' := by
  have h3 : St w (l ++ []) w' := by simpa using h2
  have h4 := h3.unite
  have h5 : St o (joinI l :: its) w' := h.push (joinI l) h4.same (h4.get 0 rfl) (by have := h4.nodup; simpa using this) (fun b hb => h4.high (joinI l) (by simp) b hb)
  exact h5.split
/-- Four threads in memory. -/
def GQ (o : World) (c : Cfg) (A : Ad) (G : Nat) (Ps : Nat → TA) (g : Gp) (R : List It) (W : World) : Prop :=
  ∃ v u, (∀ j y, (g.ts j).dg = .com y → (Ps j).B.J = (Ps j).J) ∧ St o (gpL c A G Ps g v u ++ R) W
section
variable {o w : World} {R : List It} {A : Ad} {c : Cfg} {g : Gp} {Ps : Nat → TA} {G : Nat}
theorem GQ.box (h : GQ o c A G Ps g R w) (cs : Array Value) (t : TypeId) : GQ o c A G Ps g (boxI w.heap.size cs t :: R) (w.alloc (.cells cs t)) := by
  obtain ⟨v, u, hJ, h⟩ := h
  refine ⟨v, u, hJ, (h.box cs t).perm ?_⟩
  exact (List.perm_middle (l₁ := gpL c A G Ps g v u) (l₂ := R) (a := boxI w.heap.size cs t)).symm
theorem GQ.pop {X : It} (h : GQ o c A G Ps g (X :: R) w) : GQ o c A G Ps g R w := by
  obtain ⟨v, u, hJ, h⟩ := h
  exact ⟨v, u, hJ, St.popAt h⟩
theorem GQ.drew (h : GQ o c A G Ps g R w) : GQ o c A G Ps g R w.drew := by
  obtain ⟨v, u, hJ, h⟩ := h
  exact ⟨v, u, hJ, h.drew⟩
theorem GQ.calm {w' : World} (h : GQ o c A G Ps g R w) (k : Kept (fun _ => False) w w') : GQ o c A G Ps g R w' := by
  obtain ⟨v, u, hJ, h⟩ := h
  exact ⟨v, u, hJ, h.calm k⟩
theorem GQ.same (h : GQ o c A G Ps g R w) : Kept (fun _ => False) o w := by
  obtain ⟨v, u, hJ, h⟩ := h
  exact h.same
theorem GQ.cell (h : GQ o c A G Ps g R w) (i : Nat) {k : Nat} {cs : Array Value} {t : TypeId} (hi : R[i]? = some (boxI k cs t)) (j : Nat) : w.cell? ⟨k, j, none⟩ = cs[j]? := by
  obtain ⟨v, u, hJ, h⟩ := h
  exact h.cell (6 + i) (by rw [Nat.add_comm]; exact hi) j
theorem GQ.frozen (h : GQ o c A G Ps g R w) (i : Nat) {k : Nat} {cs : Array Value} {t : TypeId} (hi : R[i]? = some (boxI k cs t)) (j : Nat) : w.frozen? ⟨k, j, none⟩ = false := by
  obtain ⟨v, u, hJ, h⟩ := h
  exact h.frozen (6 + i) (by rw [Nat.add_comm]; exact hi) j
theorem GQ.get (h : GQ o c A G Ps g R w) (i : Nat) {X : It} (hi : R[i]? = some X) : X.P w := by
  obtain ⟨v, u, hJ, h⟩ := h
  exact h.get (6 + i) (by rw [Nat.add_comm]; exact hi)
theorem GQ.write (h : GQ o c A G Ps g R w) (i : Nat) {k : Nat} {cs : Array Value} {t : TypeId} (hi : R[i]? = some (boxI k cs t)) (j : Nat) (a : Value) : GQ o c A G Ps g (R.set i (boxI k (cs.setIfInBounds j a) t)) (w.setCell ⟨k, j, none⟩ a) := by
  obtain ⟨v, u, hJ, h⟩ := h
  have q := h.write (6 + i) (by rw [Nat.add_comm]; exact hi) j a
  have e : (gpL c A G Ps g v u ++ R).set (6 + i) (boxI k (cs.setIfInBounds j a) t) = gpL c A G Ps g v u ++ R.set i (boxI k (cs.setIfInBounds j a) t) := by
    rw [List.set_append_right _ _ (by simp [gpL])]
    congr 2
    simp [gpL]
  rw [e] at q
  exact ⟨v, u, hJ, q⟩
theorem GQ.sp (h : GQ o c A G Ps g R w) : w.cell? ⟨G, 0, none⟩ = some (.pointer (some ⟨A.sp, 0, none⟩)) := by
  obtain ⟨v, u, hJ, h⟩ := h
  exact h.cell 0 rfl 0
theorem GQ.t (h : GQ o c A G Ps g R w) {k : Nat} (hk : k < 4) : w.cell? ⟨G, 1 + k, none⟩ = some (.pointer (some ⟨(Ps k).T, 0, none⟩)) := by
  obtain ⟨v, u, hJ, h⟩ := h
  exact (h.cell 0 rfl (1 + k)).trans (gpC_t hk)
theorem GQ.met (h : GQ o c A G Ps g R w) : w.cell? ⟨A.sp, 0, none⟩ = some (.pointer (some ⟨A.m, 0, none⟩)) := by
  obtain ⟨v, u, hJ, h⟩ := h
  exact spCell h 5 rfl 0
theorem GQ.gate (h : GQ o c A G Ps g R w) : Calls Tryz.prog 33 #[.pointer (some ⟨A.sp, 0, none⟩)] w fun e w' => e = .returned (.pointer (some ⟨A.g, 0, none⟩)) ∧ w' = w := by
  obtain ⟨v, u, hJ, h⟩ := h
  exact spGate h 5 rfl
theorem GQ.now (h : GQ o c A G Ps g R w) : Calls Tryz.prog 34 #[.pointer (some ⟨A.g, 0, none⟩)] w fun e w' => e = .returned (.agg #[.int .i64 g.z.x.n, .int .i64 g.z.x.o]) ∧ GQ o c A G Ps g R w' := by
  obtain ⟨v, u, hJ, h⟩ := h
  refine (spNow h 5 rfl).mono ?_
  rintro e w' ⟨he, q⟩
  exact ⟨he, v, u, hJ, q⟩
theorem GQ.done (h : GQ o c A G Ps g R w) : Calls Tryz.prog 21 #[.pointer (some ⟨A.m, 0, none⟩)] w fun e w' => e = .returned (.int .i64 g.z.s.dn) ∧ w' = w := by
  obtain ⟨v, u, hJ, h⟩ := h
  exact spDone h 5 rfl
theorem GQ.most (h : GQ o c A G Ps g R w) : Calls Tryz.prog 28 #[.pointer (some ⟨A.m, 0, none⟩)] w fun e w' => e = .returned (.int .i64 g.z.s.mo) ∧ w' = w := by
  obtain ⟨v, u, hJ, h⟩ := h
  exact spMost h 5 rfl
theorem GQ.defers (h : GQ o c A G Ps g R w) {k : Nat} (hk : k < 4) : Calls Tryz.prog 35 #[.pointer (some ⟨(Ps k).T, 0, none⟩)] w fun e w' => e = .returned (.int .i64 (g.ts k).df) ∧ w' = w := by
  obtain ⟨v, u, hJ, h⟩ := h
  exact tDefers (h.pick hk)
theorem gUnpick {v u : Value} {k : Nat} (hk : k < 4) (q : St o (txL c A (Ps k) (g.ts k) ++ spI A c g.z v u :: boxI G (gpC A Ps g) 98 :: (oth (gF c A Ps g) k ++ R)) w) : St o (gpL c A G Ps g v u ++ R) w := by
  have h1 : St o (txI c A (Ps k) (g.ts k) :: spI A c g.z v u :: boxI G (gpC A Ps g) 98 :: (oth (gF c A Ps g) k ++ R)) w := q.unite
  exact h1.perm (gPick hk _ _ (gF c A Ps g) R).symm
theorem GQ.phase (h : GQ o c A G Ps g R w) {k : Nat} (hk : k < 4) : Calls Tryz.prog 36 #[.pointer (some ⟨(Ps k).T, 0, none⟩)] w fun e w' => e = .returned (.int .i64 (g.ts k).dg.phase) ∧ GQ o c A G Ps g R w' := by
  obtain ⟨v, u, hJ, h⟩ := h
  refine (tPhase (h.pick hk)).mono ?_
  rintro e w' ⟨he, q⟩
  exact ⟨he, v, u, hJ, gUnpick hk q⟩
theorem GQ.last (h : GQ o c A G Ps g R w) {k : Nat} (hk : k < 4) : Calls Tryz.prog 39 #[.pointer (some ⟨(Ps k).T, 0, none⟩)] w fun e w' => e = .returned (.agg #[.int .i64 (g.ts k).lo, .int .i64 (g.ts k).le, .int .i64 (g.ts k).lx]) ∧ GQ o c A G Ps g R w' := by
  have h' := h
  obtain ⟨v, u, hJ, h⟩ := h
  refine (tLast (h.pick hk)).mono ?_
  rintro e w' ⟨he, q⟩
  exact ⟨he, h'.calm q⟩
theorem GQ.slot (h : GQ o c A G Ps g R w) {k : Nat} (hk : k < 4) : Calls Tryz.prog 37 #[.pointer (some ⟨(Ps k).T, 0, none⟩)] w fun e w' => e = .returned (.tuple #[.int .i64 (g.ts k).fr.sl, .int .i64 (g.ts k).fr.gn]) ∧ ∃ q, w' = w.drewN q := by
  obtain ⟨v, u, hJ, h⟩ := h
  exact tSlot (h.pick hk)
theorem GQ.goes (h : GQ o c A G Ps g R w) {n : Nat} (hk : g.ok c n) (hn : n ≤ 800000000) (m : Mv) : Calls Tryz.prog 31 #[.pointer (some ⟨G, 0, none⟩), .agg #[.int .i64 m.th, .int .i64 m.kd, .int .i64 m.n, .int .i64 m.ce, .int .i64 m.x]] w fun e w' => e = .returned (.int .i64 (g.ans c m)) ∧ ∃ Ps', (∀ j, (Ps' j).T = (Ps j).T) ∧ GQ o c A G Ps' (g.goes c m) R w' := by
  obtain ⟨v, u, hJ, h⟩ := h
  refine (gGoes h hJ hk hn m).mono ?_
  rintro e w' ⟨he, Ps', v', u', hT, hJ', q⟩
  exact ⟨he, Ps', hT, v', u', hJ', q⟩
end
end Go.Proofs.YtnchfomoaonbkaaGreat
