/- Ranges over functions whose rounds have a variable of their own in memory. -/
import Derived.Test.YtnmlnjljmikmpaaRfL
namespace Go.Proofs.Ytnmlnjljmikmpaa
open Go.RowKit
set_option linter.unusedVariables false
set_option linter.unusedSimpArgs false
theorem perm_three (a b c : It) (Y R T : List It) : (a :: b :: c :: (Y ++ (R ++ T))).Perm (Y ++ (R ++ (a :: b :: c :: T))) := by
  have h1 := perm_two b c Y R T
  have h2 := perm_in a (Y ++ R) (b :: c :: T)
  refine (List.Perm.cons a h1).trans ?_
  simpa only [List.append_assoc] using h2
theorem perm_idx (d : It) (l : List It) (k : Nat) (hk : l.length = k) (is : List Nat) (h : is.Perm (List.range k)) : l.Perm (is.map (fun i => l.getD i d)) := by
  subst hk
  have e : (List.range l.length).map (fun i => l.getD i d) = l := by
    apply List.ext_getElem
    · simp
    · intro i h1 h2
      simp [List.getD_eq_getElem?_getD, h2]
  have := (h.map (fun i => l.getD i d)).symm
  rwa [e] at this
theorem St.move {o w : World} {l T : List It} (h : St o (l ++ T) w) (k : Nat) (hk : l.length = k) (is : List Nat) (hp : is.Perm (List.range k)) : St o (is.map (fun i => l.getD i (boxI 0 #[] 0)) ++ T) w := h.perm ((perm_idx _ l k hk is hp).append_right T)
/-- The loop, where each round has a variable of its own in memory. -/
theorem rf_law2 {α : Type} {P : Program} {o w : World} {g : Operand} {ps : Array Tmp} {assign body : Code} {Q : Exit → Act → World → Prop} {a : Act} {gf : Nat} {lb : Array Value}
    (hg : a.eval g = .func (.func gf) #[] lb) (eg : ∀ args w, (callFunc gf args).run P w = .ok (.enter gf args) w)
    {enc : α → Value} {ok : List α → α → Prop} {Sx Sp : List α → Prop} {Rq T : List It} (hseq : Tells P o gf lb enc ok Sx Sp Rq) (hps : ps.size = 1)
    (K : List α → List It → Prop) (Kx : Code → List α → List It → Prop) (N : Nat) (hN : ∀ pre X, K pre X → pre.length ≤ N) (h0 : Sat o K (Rq ++ T) [] w) (cs : α → Array Value) (tm : TypeId) (a₁ : α → Nat → Act)
    (hassign : ∀ (l : Nat) (x : α) (W : World) (C : Act → World → Prop), C (a₁ x W.heap.size) (W.alloc (.cells (cs x) tm)) →
      assign.wpIn (Fence.wide.inRound l) 9 P (Exit.then C (fun _ _ _ => False)) { tmps := (ps.zip #[enc x]).foldl (fun t (p, v) => t.setIfInBounds p v) a.tmps, defers := [] } W)
    (hround : ∀ (l : Nat) (T' : List It) (pre : List α) (x : α) (B : Nat) (W : World), ok pre x → Sat o K (Rq ++ (boxI B (cs x) tm :: T')) pre W → body.wpIn (Fence.wide.inRound l) 9 P (EndsR o K Kx (Rq ++ (boxI B (cs x) tm :: T')) (pre ++ [x])) (a₁ x B) W)
    (hdone : ∀ (D : Nat) (xs : List α) (W : World), Sx xs → Sat o K (dfrI D :: (Rq ++ T)) xs W → Q .normal { a with defers := { target := .collected D, args := #[] } :: a.defers } W)
    (hstop : ∀ (D : Nat) (c : Code) (pre : List α) (W : World), Sp pre → Sat o (Kx c) (dfrI D :: (Rq ++ T)) pre W → c.wpIn Fence.wide 9 P Q { a with defers := { target := .collected D, args := #[] } :: a.defers } W) :
    (Code.rangeFunc g ps assign body).wpIn Fence.wide 9 P Q a w := by
  refine wpIn_rangeFunc ?_
  intro fn hfn
  obtain ⟨X0, hK0, hs0⟩ := h0
  let rc : LoopState → Option Code → Loop := fun st pe => { state := st, pending := pe, fn, tmps := a.tmps, params := ps, assign, body, defers := w.heap.size }
  have hs1 := hs0.newD.newL (rc .ready none)
  rw [alloc_size] at hs1
  generalize hW1 : (w.alloc (.deferred (some []))).alloc (.loop (rc .ready none)) = W1 at hs1
  refine ⟨w.heap.size + 1, [{ target := .collected w.heap.size, args := #[] }], W1, { target := .fn (.func gf) lb, args := #[.func (.yield (w.heap.size + 1)) #[] #[]] }, W1, gf,
    #[.func (.yield (w.heap.size + 1)) #[] #[]] ++ lb, W1, ?_, ?_, fun _ _ => trivial, ?_, fun _ => by decide, ?_⟩
  · rw [← hW1]
    exact run_enterLoop_outer _ _ _ _ _
  · simp only [resolve, hg]
    simp [go_sem]
  · simp [invoke, go_sem, eg]
  generalize w.heap.size + 1 = l at *
  generalize w.heap.size = D at *
  refine callsIn_any ((hseq l (fun pre X => ∃ Y, X = loopI l (rc .ready none) :: dfrI D :: Y ∧ K pre Y) (fun pre X => ∃ c Y, X = loopI l (rc .done (some c)) :: dfrI D :: Y ∧ Kx c pre Y) T N W1
    (fun pre X hX => by obtain ⟨Y, _, hY⟩ := hX; exact hN pre Y hY) ?_ ⟨_, ⟨X0, rfl, hK0⟩, hs1⟩).mono ?_)
  · rintro T' pre x W hok ⟨_, ⟨Y, rfl, hK⟩, hs⟩
    have hl : W.heap[l]? = some (.loop (rc .ready none)) := hs.get 0 rfl
    have hsb := hs.box (cs x) tm
    have hl2 : (W.alloc (.cells (cs x) tm)).heap[l]? = some (.loop (rc .ready none)) := hsb.get 1 rfl
    refine ⟨fn, _, assign, body, run_yield hl (by show 1 = ps.size; exact hps.symm), roundIn_any (n := 9) (roundIn_of_wpIn hfn (hassign l x W _ ⟨_, run_beginRound hl2 rfl, ?_⟩))⟩
    have hs2 := hsb.loopTo 1 rfl { rc .ready none with state := .busy }
    generalize (W.alloc (.cells (cs x) tm)).putObj l (.loop { rc .ready none with state := .busy }) = W2 at hs2 ⊢
    generalize W.heap.size = B at hs2 ⊢
    refine wpIn_mono (hround l (loopI l { rc .ready none with state := .busy } :: dfrI D :: T') pre x B W2 hok ⟨Y, hK, hs2.perm (perm_three _ _ _ Y Rq T')⟩) ?_
    have back : ∀ (Y' : List It) (W3 : World) (jump : Option Code), St o (Y' ++ (Rq ++ (boxI B (cs x) tm :: loopI l { rc .ready none with state := .busy } :: dfrI D :: T'))) W3 →
        ∃ W4, (Instr.endRound l jump).run P W3 = .ok (.bool jump.isNone) W4 ∧ St o (loopI l (rc (if jump.isNone then .ready else .done) jump) :: dfrI D :: Y' ++ (Rq ++ T')) W4 := by
      intro Y' W3 jump h3
      have h4 := (h3.perm (perm_three _ _ _ Y' Rq T').symm).pop
      exact ⟨_, run_endRound jump (show W3.heap[l]? = _ from h4.get 0 rfl), h4.loopTo 0 rfl _⟩
    rintro e a3 W3 hp
    cases e with
    | normal =>
      obtain ⟨Y', hK', h3⟩ := hp
      obtain ⟨W4, hr, h4⟩ := back Y' W3 none h3
      exact ⟨_, W4, hr, .inl ⟨rfl, _, ⟨Y', rfl, hK'⟩, h4⟩⟩
    | ret =>
      obtain ⟨Y', hK', h3⟩ := hp
      obtain ⟨W4, hr, h4⟩ := back Y' W3 (some .ret) h3
      exact ⟨_, W4, hr, .inr ⟨rfl, _, ⟨.ret, Y', rfl, hK'⟩, h4⟩⟩
    | exit id =>
      obtain ⟨Y', hK', h3⟩ := hp
      obtain ⟨W4, hr, h4⟩ := back Y' W3 (some (.exit id)) h3
      exact ⟨_, W4, hr, .inr ⟨rfl, _, ⟨.exit id, Y', rfl, hK'⟩, h4⟩⟩
    | goto t =>
      obtain ⟨Y', hK', h3⟩ := hp
      obtain ⟨W4, hr, h4⟩ := back Y' W3 (some (.goto t)) h3
      exact ⟨_, W4, hr, .inr ⟨rfl, _, ⟨.goto t, Y', rfl, hK'⟩, h4⟩⟩
    | panic ch => exact hp.elim
    | outgrown => exact hp.elim
  · rintro e W2 ⟨⟨v, rfl⟩, (⟨xs, hS, _, ⟨Y, rfl, hK⟩, hs⟩ | ⟨pre, hS, _, ⟨c, Y, rfl, hK⟩, hs⟩)⟩
    · have h2 := (hs.loopTo 0 rfl { rc .ready none with state := .exhausted }).pop
      exact ⟨none, _, run_endLoop (show W2.heap[l]? = _ from hs.get 0 rfl) (by simp [rc]), hdone D xs _ hS ⟨Y, hK, h2.perm (perm_in _ Y (Rq ++ T))⟩⟩
    · have h2 := (hs.loopTo 0 rfl { rc .done (some c) with state := .exhausted }).pop
      exact ⟨some c, _, run_endLoop (show W2.heap[l]? = _ from hs.get 0 rfl) (by simp [rc]), hstop D c pre _ hS ⟨Y, hK, h2.perm (perm_in _ Y (Rq ++ T))⟩⟩
end Go.Proofs.Ytnmlnjljmikmpaa
