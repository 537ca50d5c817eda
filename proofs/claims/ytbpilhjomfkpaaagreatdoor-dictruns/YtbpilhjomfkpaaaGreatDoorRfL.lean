/- Ranges over functions: what an iterator promises, over things in memory; the law of the loop; what the function does when it is left. -/
import Derived.Test.YtbpilhjomfkpaaaGreatDoorKit
import Derived.BigQuiet
import Derived.RangeFuncSeq
import Derived.RangeFuncLeaves
import Derived.RangeFuncRecord
import Derived.Scope
import Derived.ControlIn
namespace Go.Proofs.YtbpilhjomfkpaaaGreatDoor
open Go.RowKit
set_option linter.unusedVariables false
set_option linter.unusedSimpArgs false


theorem made_one {v : Value} (hv : v.cells = #[v]) (n : Nat) : madeCells v.cells (n * 1) = (List.replicate n v).toArray := by
  apply Array.ext'
  apply List.ext_getElem?
  intro j
  by_cases hj : j < n
  · simp [madeCells, hv, hj, Nat.mod_one]
  · rw [List.getElem?_eq_none (by simp [size_madeCells]; omega), List.getElem?_eq_none (by simp; omega)]
theorem hid {p : Prop} (h : p) : Hid p := h
theorem St.perm {o w : World} {its its' : List It} (h : St o its w) (hp : its.Perm its') : St o its' w :=
  ⟨(hp.flatMap_right It.fp).nodup_iff.1 h.nodup, fun i hi => h.all i (hp.mem_iff.2 hi), fun i hi => h.high i (hp.mem_iff.2 hi), h.kept⟩
def loopI (l : Nat) (r : Loop) : It :=
  ⟨[l], fun w => w.heap[l]? = some (.loop r), fun w w' h p => (h l (List.mem_singleton.2 rfl)).trans p, fun w p b hb => by rw [List.mem_singleton.1 hb]; exact lt_of_heap p⟩
/-- The block for deferred calls of a loop's rounds, of which there are none. -/
def dfrI (d : Nat) : It :=
  ⟨[d], fun w => w.heap[d]? = some (.deferred (some [])), fun w w' h p => (h d (List.mem_singleton.2 rfl)).trans p, fun w p b hb => by rw [List.mem_singleton.1 hb]; exact lt_of_heap p⟩
/-- Some block. -/
def someI (d : Nat) : It :=
  ⟨[d], fun w => ∃ x, w.heap[d]? = some x, fun w w' h p => by obtain ⟨x, p⟩ := p; exact ⟨x, (h d (List.mem_singleton.2 rfl)).trans p⟩, fun w p b hb => by rw [List.mem_singleton.1 hb]; obtain ⟨x, p⟩ := p; exact lt_of_heap p⟩
theorem kept_put (w : World) (l : Nat) (x : Obj) : Kept (fun b => b ∈ [l]) w (w.putObj l x) :=
  ⟨rfl, rfl, rfl, by simp, fun k _ hk => World.putObj_heap_other (fun e => hk (by simp [e]))⟩
theorem St.loopTo {o w : World} {its : List It} (h : St o its w) (i : Nat) {l : Nat} {r : Loop} (hi : its[i]? = some (loopI l r)) (r' : Loop) : St o (its.set i (loopI l r')) (w.putObj l (.loop r')) :=
  h.set i hi (kept_put w l _) (World.putObj_heap_same (lt_of_heap (show w.heap[l]? = _ from h.get i hi))) (by simp [loopI]) (fun b hb => .inl hb)
theorem St.shutD {o w : World} {d : Nat} {R : List It} (h : St o (dfrI d :: R) w) : St o R (w.putObj d (.deferred none)) :=
  (h.set 0 rfl (A' := someI d) (kept_put w d _) ⟨_, World.putObj_heap_same (lt_of_heap (show w.heap[d]? = _ from h.get 0 rfl))⟩ (by simp [someI]) (fun b hb => .inl hb)).pop
theorem St.newD {o w : World} {R : List It} (h : St o R w) : St o (dfrI w.heap.size :: R) (w.alloc (.deferred (some []))) :=
  h.push (dfrI w.heap.size) (kept_alloc w _) (World.alloc_heap_new w _) (by simp [dfrI]) (by simp [dfrI])
theorem St.newL {o w : World} {R : List It} (h : St o R w) (r : Loop) : St o (loopI w.heap.size r :: R) (w.alloc (.loop r)) :=
  h.push (loopI w.heap.size r) (kept_alloc w _) (World.alloc_heap_new w _) (by simp [loopI]) (by simp [loopI])
theorem St.cut {o w : World} {A B : List It} (h : St o (A ++ B) w) : St o A w :=
  ⟨by have := h.nodup; rw [List.flatMap_append, List.nodup_append] at this; exact this.1, fun i hi => h.all i (List.mem_append_left _ hi), fun i hi => h.high i (List.mem_append_left _ hi), h.kept⟩
theorem perm_in (a : It) (Y R : List It) : (a :: (Y ++ R)).Perm (Y ++ a :: R) := List.perm_middle.symm
theorem perm_two (a b : It) (Y R T : List It) : ((a :: b :: Y) ++ (R ++ T)).Perm (Y ++ (R ++ (a :: b :: T))) := by
  have h1 : (b :: (Y ++ (R ++ T))).Perm (Y ++ (R ++ b :: T)) := by
    have := perm_in b (Y ++ R) T
    simpa only [List.append_assoc] using this
  have h2 : (a :: (Y ++ (R ++ b :: T))).Perm (Y ++ (R ++ a :: b :: T)) := by
    have := perm_in a (Y ++ R) (b :: T)
    simpa only [List.append_assoc] using this
  exact (h1.cons a).trans h2

/-- The things that K speaks of when pre has come, beside R. -/
def Sat {α : Type} (o : World) (K : List α → List It → Prop) (R : List It) (pre : List α) (W : World) : Prop := ∃ X, K pre X ∧ St o (X ++ R) W

/-- WHAT AN ITERATOR PROMISES: whatever the rounds keep in memory beside what it reads (Rq) and what it may lay itself (T'), if they come to an end at the latest when N have come. -/
def Tells {α : Type} (P : Program) (o : World) (g : Nat) (lb : Array Value) (enc : α → Value) (ok : List α → α → Prop) (Sx Sp : List α → Prop) (Rq : List It) : Prop :=
  ∀ (l : Nat) (K Kx : List α → List It → Prop) (T : List It) (N : Nat) (W : World),
    (∀ pre X, K pre X → pre.length ≤ N) →
    (∀ T' pre x W1, ok pre x → Sat o K (Rq ++ T') pre W1 → YieldAt Fence.wide 9 P l #[enc x] W1 fun e W' =>
      (e = .returned (.bool true) ∧ Sat o K (Rq ++ T') (pre ++ [x]) W') ∨ (e = .returned (.bool false) ∧ Sat o Kx (Rq ++ T') (pre ++ [x]) W')) →
    Sat o K (Rq ++ T) [] W →
    CallsIn Fence.wide 9 P g (#[.func (.yield l) #[] #[]] ++ lb) W fun e W' => (∃ v, e = .returned v) ∧ ((∃ xs, Sx xs ∧ Sat o K (Rq ++ T) xs W') ∨ (∃ pre, Sp pre ∧ Sat o Kx (Rq ++ T) pre W'))

/-- How a round may be left. -/
def EndsR {α : Type} (o : World) (K : List α → List It → Prop) (Kx : Code → List α → List It → Prop) (R : List It) (pre : List α) : Exit → Act → World → Prop
  | .normal, _, W => Sat o K R pre W
  | .ret, _, W => Sat o (Kx .ret) R pre W
  | .exit id, _, W => Sat o (Kx (.exit id)) R pre W
  | .goto t, _, W => Sat o (Kx (.goto t)) R pre W
  | .panic _, _, _ => False
  | .outgrown, _, _ => False

theorem callsIn_any {m n : Nat} {P : Program} {f : FuncId} {args : Array Value} {w : World} {R : Ending → World → Prop} (h : CallsIn Fence.wide n P f args w R) : CallsIn Fence.wide m P f args w R := callsIn_wide.2 (callsIn_wide.1 h)
theorem roundIn_any {m n : Nat} {P : Program} {l : Nat} {f : FuncId} {tmps : Array Value} {assign body : Code} {w : World} {R : Ending → World → Prop} (h : RoundIn Fence.wide n P l f tmps assign body w R) : RoundIn Fence.wide m P l f tmps assign body w R :=
  ⟨h.1, fun c cs _ => h.2 c cs (room_wide _)⟩

theorem roundIn_in {m n l' : Nat} {P : Program} {l : Nat} {f : FuncId} {tmps : Array Value} {assign body : Code} {w : World} {R : Ending → World → Prop} (h : RoundIn Fence.wide n P l f tmps assign body w R) : RoundIn (Fence.wide.inRound l') m P l f tmps assign body w R :=
  ⟨h.1, fun c cs _ => h.2 c cs (room_wide _)⟩
theorem callsIn_in {m l' : Nat} {P : Program} {f : FuncId} {args : Array Value} {w : World} {R : Ending → World → Prop} (h : Calls P f args w R) : CallsIn (Fence.wide.inRound l') m P f args w R := show CallsIn Fence.wide m P f args w R from callsIn_wide.2 h

/-- THE LOOP. -/
theorem rf_law {α : Type} {P : Program} {o w : World} {g : Operand} {ps : Array Tmp} {assign body : Code} {Q : Exit → Act → World → Prop} {a : Act} {gf : Nat} {lb : Array Value}
    (hg : a.eval g = .func (.func gf) #[] lb) (eg : ∀ args w, (callFunc gf args).run P w = .ok (.enter gf args) w)
    {enc : α → Value} {ok : List α → α → Prop} {Sx Sp : List α → Prop} {Rq T : List It} (hseq : Tells P o gf lb enc ok Sx Sp Rq) (hps : ps.size = 1)
    (K : List α → List It → Prop) (Kx : Code → List α → List It → Prop) (N : Nat) (hN : ∀ pre X, K pre X → pre.length ≤ N) (h0 : Sat o K (Rq ++ T) [] w) (a₁ : α → Act)
    (hassign : ∀ (l : Nat) (x : α) (W : World) (C : Act → World → Prop), C (a₁ x) W →
      assign.wpIn (Fence.wide.inRound l) 9 P (Exit.then C (fun _ _ _ => False)) { tmps := (ps.zip #[enc x]).foldl (fun t (p, v) => t.setIfInBounds p v) a.tmps, defers := [] } W)
    (hround : ∀ (l : Nat) (T' : List It) (pre : List α) (x : α) (W : World), ok pre x → Sat o K (Rq ++ T') pre W → body.wpIn (Fence.wide.inRound l) 9 P (EndsR o K Kx (Rq ++ T') (pre ++ [x])) (a₁ x) W)
    (hdone : ∀ (D : Nat) (xs : List α) (W : World), Sx xs → Sat o K (dfrI D :: (Rq ++ T)) xs W → Q .normal { a with defers := { target := .collected D, args := #[] } :: a.defers } W)
    (hstop : ∀ (D : Nat) (c : Code) (pre : List α) (W : World), Sp pre → Sat o (Kx c) (dfrI D :: (Rq ++ T)) pre W → c.wpIn Fence.wide 9 P Q { a with defers := { target := .collected D, args := #[] } :: a.defers } W) :
    (Code.rangeFunc g ps assign body).wpIn Fence.wide 9 P Q a w := by
  refine wpIn_rangeFunc ?_
  intro fn hfn
  obtain ⟨X0, hK0, hs0⟩ := h0
  let rc : LoopState → Option Code → Loop := fun st pe => { state := st, pending := pe, fn, tmps := a.tmps, params := ps, assign, body, defers := w.heap.size }
  have hs1 := hs0.newD.newL (rc .ready none)
  rw [alloc_size] at hs1
  generalize hW1 : (w.alloc (.deferred (some []))).alloc (.loop (rc .ready none)) = W1 at hs1
  refine ⟨w.heap.size + 1, [{ target := .collected w.heap.size, args := #[] }], W1, { target := .fn (.func gf) lb, args := #[.func (.yield (w.heap.size + 1)) #[] #[]] }, W1, gf,
    #[.func (.yield (w.heap.size + 1)) #[] #[]] ++ lb, W1, ?_, ?_, fun _ _ => trivial, ?_, fun _ => by decide, ?_⟩
  · rw [← hW1]
    exact run_enterLoop_outer _ _ _ _ _
  · simp only [resolve, hg]
    simp [go_sem]
  · simp [invoke, go_sem, eg]
  generalize w.heap.size + 1 = l at *
  generalize w.heap.size = D at *
  refine callsIn_any ((hseq l (fun pre X => ∃ Y, X = loopI l (rc .ready none) :: dfrI D :: Y ∧ K pre Y) (fun pre X => ∃ c Y, X = loopI l (rc .done (some c)) :: dfrI D :: Y ∧ Kx c pre Y) T N W1
    (fun pre X hX => by obtain ⟨Y, _, hY⟩ := hX; exact hN pre Y hY) ?_ ⟨_, ⟨X0, rfl, hK0⟩, hs1⟩).mono ?_)
  · rintro T' pre x W hok ⟨_, ⟨Y, rfl, hK⟩, hs⟩
    have hl : W.heap[l]? = some (.loop (rc .ready none)) := hs.get 0 rfl
    refine ⟨fn, _, assign, body, run_yield hl (by show 1 = ps.size; exact hps.symm), roundIn_any (n := 9) (roundIn_of_wpIn hfn (hassign l x W _ ⟨_, run_beginRound hl rfl, ?_⟩))⟩
    have hs2 := hs.loopTo 0 rfl { rc .ready none with state := .busy }
    generalize W.putObj l (.loop { rc .ready none with state := .busy }) = W2 at hs2 ⊢
    refine wpIn_mono (hround l (loopI l { rc .ready none with state := .busy } :: dfrI D :: T') pre x W2 hok ⟨Y, hK, hs2.perm (perm_two _ _ Y Rq T')⟩) ?_
    have back : ∀ (Y' : List It) (W3 : World) (jump : Option Code), St o (Y' ++ (Rq ++ (loopI l { rc .ready none with state := .busy } :: dfrI D :: T'))) W3 →
        ∃ W4, (Instr.endRound l jump).run P W3 = .ok (.bool jump.isNone) W4 ∧ St o (loopI l (rc (if jump.isNone then .ready else .done) jump) :: dfrI D :: Y' ++ (Rq ++ T')) W4 := by
      intro Y' W3 jump h3
      have h4 := h3.perm (perm_two _ _ Y' Rq T').symm
      exact ⟨_, run_endRound jump (show W3.heap[l]? = _ from h4.get 0 rfl), h4.loopTo 0 rfl _⟩
    rintro e a3 W3 hp
    cases e with
    | normal =>
      obtain ⟨Y', hK', h3⟩ := hp
      obtain ⟨W4, hr, h4⟩ := back Y' W3 none h3
      exact ⟨_, W4, hr, .inl ⟨rfl, _, ⟨Y', rfl, hK'⟩, h4⟩⟩
    | ret =>
      obtain ⟨Y', hK', h3⟩ := hp
      obtain ⟨W4, hr, h4⟩ := back Y' W3 (some .ret) h3
      exact ⟨_, W4, hr, .inr ⟨rfl, _, ⟨.ret, Y', rfl, hK'⟩, h4⟩⟩
    | exit id =>
      obtain ⟨Y', hK', h3⟩ := hp
      obtain ⟨W4, hr, h4⟩ := back Y' W3 (some (.exit id)) h3
      exact ⟨_, W4, hr, .inr ⟨rfl, _, ⟨.exit id, Y', rfl, hK'⟩, h4⟩⟩
    | goto t =>
      obtain ⟨Y', hK', h3⟩ := hp
      obtain ⟨W4, hr, h4⟩ := back Y' W3 (some (.goto t)) h3
      exact ⟨_, W4, hr, .inr ⟨rfl, _, ⟨.goto t, Y', rfl, hK'⟩, h4⟩⟩
    | panic ch => exact hp.elim
    | outgrown => exact hp.elim
  · rintro e W2 ⟨⟨v, rfl⟩, (⟨xs, hS, _, ⟨Y, rfl, hK⟩, hs⟩ | ⟨pre, hS, _, ⟨c, Y, rfl, hK⟩, hs⟩)⟩
    · have h2 := (hs.loopTo 0 rfl { rc .ready none with state := .exhausted }).pop
      exact ⟨none, _, run_endLoop (show W2.heap[l]? = _ from hs.get 0 rfl) (by simp [rc]), hdone D xs _ hS ⟨Y, hK, h2.perm (perm_in _ Y (Rq ++ T))⟩⟩
    · have h2 := (hs.loopTo 0 rfl { rc .done (some c) with state := .exhausted }).pop
      exact ⟨some c, _, run_endLoop (show W2.heap[l]? = _ from hs.get 0 rfl) (by simp [rc]), hstop D c pre _ hS ⟨Y, hK, h2.perm (perm_in _ Y (Rq ++ T))⟩⟩
section scope
variable {P : Program} {F : Fence} {n : Nat} {a : Act} {w : World} {Q : Exit → Act → World → Prop}
/-- A scope through which one goes without a goto, within a fence. -/
theorem wpIn_scope {c : Code} (h : c.wpIn F n P (Exit.noGoto Q) a w) : (Code.scope c).wpIn F n P Q a w := by
  intro b k cs hro hb hr
  have s1 : StepsIn (Machine.fenced P F) P (lone (b.atR a (.code (.scope c) :: k)) cs w) (lone (b.atR a (.code c :: .inScope c :: k)) cs w) :=
    .one (fenced_calm hb hr rfl) (step_lone_go (by simp [stepG, stepG.exec, Frame.atR]))
  have s2 : ∀ a' w', StepsIn (Machine.fenced P F) P (lone (b.atR a' (.inScope c :: k)) cs w') (lone (b.atR a' k) cs w') := fun a' w' =>
    .one (fenced_calm hb hr rfl) (step_lone_go (by simp [stepG, stepG.exec, Frame.atR]))
  obtain ⟨e, a₁, w₁, hq, harr⟩ := h b (.inScope c :: k) cs hro hb hr
  cases e with
  | normal => exact ⟨.normal, a₁, w₁, hq, s1.trans (StepsIn.trans harr (s2 a₁ w₁))⟩
  | exit id =>
    have hx : exitTo id (.inScope c :: k) = exitTo id k := by simp [exitTo]
    refine ⟨.exit id, a₁, w₁, hq, fun k' hk => s1.trans (harr.1 k' (hx.trans hk)), fun hr' hk => ?_⟩
    obtain ⟨k₁, h1, h2⟩ := harr.2 hr' (hx.trans hk)
    exact ⟨k₁, h1, s1.trans h2⟩
  | goto l => exact hq.elim
  | ret => exact ⟨_, a₁, w₁, hq, .of_steps s1 harr⟩
  | panic ch => exact ⟨_, a₁, w₁, hq, .of_steps s1 harr⟩
  | outgrown => exact ⟨_, a₁, w₁, hq, .of_steps s1 harr⟩
end scope
end Go.Proofs.YtbpilhjomfkpaaaGreatDoor
