/- What the walk of TxCharged needs beside: arrays of five, the events as a list of its own. -/
import Derived.Test.YtnchfomoaonbkaaGreatTxCj
import Derived.Test.YtnchfomoaonbkaaGreatTxY
namespace Go.Proofs.YtnchfomoaonbkaaGreat
open Go.RowKit
set_option linter.unusedVariables false
set_option linter.unusedSimpArgs false
def cB (S : Nat → Int) : Array Value := #[.int .i64 (S 0), .int .i64 (S 1), .int .i64 (S 2), .int .i64 (S 3), .int .i64 (S 4)]
theorem five {k : Nat} (h : k < 5) : k = 0 ∨ k = 1 ∨ k = 2 ∨ k = 3 ∨ k = 4 := by omega
theorem cB_at (S : Nat → Int) {k : Nat} (h : k < 5) : (cB S)[k]? = some (.int .i64 (S k)) := by
  rcases five h with rfl | rfl | rfl | rfl | rfl <;> rfl
theorem cB_set (S : Nat → Int) {k : Nat} (h : k < 5) (x : Int) : (cB S).setIfInBounds k (.int .i64 x) = cB (upd S k x) := by
  rcases five h with rfl | rfl | rfl | rfl | rfl <;> rfl
def evZ : Ev := ⟨0, 0, 0, 0, 0, 0, false, 0, 0, 0⟩
theorem evCells_at (l : List Ev) : ∀ k, k < l.length → ∀ j, j < 10 → (evCells l)[k * 10 + j]? = ((l.getD k evZ).cells)[j]? := by
  induction l with
  | nil => intro k hk; simp at hk
  | cons t l ih =>
    intro k hk j hj
    cases k with
    | zero =>
      have : evCells (t :: l) = t.cells ++ evCells l := rfl
      rw [this, List.getElem?_append_left (by simp [Ev.cells]; omega)]
      simp
    | succ k =>
      have := ih k (by simpa using hk) j hj
      have e : evCells (t :: l) = t.cells ++ evCells l := rfl
      rw [e, List.getElem?_append_right (by simp [Ev.cells]; omega)]
      have e2 : (k + 1) * 10 + j - t.cells.length = k * 10 + j := by simp [Ev.cells]; omega
      rw [e2, this]
      simp
theorem evs_at {c : Cfg} {C : Ch3} {E : List Ev} (h : evsOk c C E) : ∀ {q : Nat}, q < E.length → evOk c ((E.take q).foldl evC C) (E.getD q evZ) ∧ (E.take (q + 1)).foldl evC C = evC ((E.take q).foldl evC C) (E.getD q evZ) := by
  induction E generalizing C with
  | nil => intro q hq; simp at hq
  | cons e E ih =>
    intro q hq
    cases q with
    | zero => exact ⟨h.1, rfl⟩
    | succ q =>
      obtain ⟨a, b⟩ := ih h.2 (q := q) (by simpa using hq)
      exact ⟨by simpa using a, by simpa using b⟩
theorem dN_len {hs hs' : List Hd} {a : Int} {k : Nat} {C : Ch3} {n n' : Nat} (h : n = n') : dN hs hs' a k C n = dN hs hs' a k C n' := by rw [h]
theorem gsq_liv {c : Cfg} (hf : c.fits = true) (zs : List Int) (f : Nat → MwD) (j : Nat) : (gsq c zs f j).liv := by
  induction j with
  | zero => exact Gp.liv_new c zs
  | succ j ih => exact ih.goes (gsq_ok hf zs f j) (gsq_gate hf zs f j) (f j).mv
section
variable {o w : World} {R : List It} {A : Ad} {c : Cfg} {g : Gp} {Ps : Nat → TA} {G : Nat}
theorem GQ.events (h : GQ o c A G Ps g R w) (hl : g.z.ev.length ≤ 1000000000) : Calls Tryz.prog 25 #[.pointer (some ⟨A.sp, 0, none⟩)] w fun e w' => ∃ v', e = .returned v' ∧ GQ o c A G Ps g (ownI 104 10 v' g.z.ev.length (evCells g.z.ev) :: R) w' := by
  obtain ⟨v, u, hJ, h⟩ := h
  refine (spEvents h 5 rfl (by omega)).mono ?_
  rintro e w' ⟨v', he, q⟩
  refine ⟨v', he, v, u, hJ, q.perm ?_⟩
  exact (List.perm_middle (l₁ := gpL c A G Ps g v u) (l₂ := R)).symm
theorem GQ.evAt (h : GQ o c A G Ps g R w) (i : Nat) {gg n cap : Nat} {l : List Ev} (hi : R[i]? = some (ownI 104 10 (.slice (some ⟨gg, 0, none⟩) l.length cap) l.length (evCells l))) {k : Nat} (hk : k < l.length) (j : Nat) (hj : j < 10) : w.cell? ⟨gg, k * 10 + j, none⟩ = ((l.getD k evZ).cells)[j]? := by
  obtain ⟨v, u, hJ, h⟩ := h
  rw [h.ownCell (6 + i) (by rw [Nat.add_comm]; exact hi) (k * 10 + j) (by omega)]
  exact evCells_at l k hk j hj
end
end Go.Proofs.YtnchfomoaonbkaaGreat
