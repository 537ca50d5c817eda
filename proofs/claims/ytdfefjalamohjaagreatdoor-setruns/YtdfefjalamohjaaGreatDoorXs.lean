/- Ranges over functions: what an iterator promises, over things in memory; the law of the loop; what the function does when it is left. Own lists that are written and grown. Lists of int64 in memory. -/
import Derived.Test.YtdfefjalamohjaaGreatDoorKit
import Derived.BigQuiet
import Derived.RangeFuncSeq
import Derived.RangeFuncLeaves
import Derived.RangeFuncRecord
import Derived.Scope
import Derived.ControlIn
import Derived.Test.YtdfefjalamohjaaGreatDoorProg
import Derived.Laws.AppendOwnNone
import Derived.Deep.AppendLies
import Derived.Maps.AppendAt
import Derived.Deep.Slices
import Derived.Lib.SliceRun
import Derived.Deep.DrawnRows
namespace Go.Proofs.YtdfefjalamohjaaGreatDoor
open Go.RowKit
set_option linter.unusedVariables false
set_option linter.unusedSimpArgs false


theorem made_one {v : Value} (hv : v.cells = #[v]) (n : Nat) : madeCells v.cells (n * 1) = (List.replicate n v).toArray := by
  apply Array.ext'
  apply List.ext_getElem?
  intro j
  by_cases hj : j < n
  · simp [madeCells, hv, hj, Nat.mod_one]
  · rw [List.getElem?_eq_none (by simp [size_madeCells]; omega), List.getElem?_eq_none (by simp; omega)]
theorem hid {p : Prop} (h : p) : Hid p := h
theorem St.perm {o w : World} {its its' : List It} (h : St o its w) (hp : its.Perm its') : St o its' w :=
  ⟨(hp.flatMap_right It.fp).nodup_iff.1 h.nodup, fun i hi => h.all i (hp.mem_iff.2 hi), fun i hi => h.high i (hp.mem_iff.2 hi), h.kept⟩
def loopI (l : Nat) (r : Loop) : It :=
  ⟨[l], fun w => w.heap[l]? = some (.loop r), fun w w' h p => (h l (List.mem_singleton.2 rfl)).trans p, fun w p b hb => by rw [List.mem_singleton.1 hb]; exact lt_of_heap p⟩
/-- The block for deferred calls of a loop's rounds, of which there are none. -/
def dfrI (d : Nat) : It :=
  ⟨[d], fun w => w.heap[d]? = some (.deferred (some [])), fun w w' h p => (h d (List.mem_singleton.2 rfl)).trans p, fun w p b hb => by rw [List.mem_singleton.1 hb]; exact lt_of_heap p⟩
/-- Some block. -/
def someI (d : Nat) : It :=
  ⟨[d], fun w => ∃ x, w.heap[d]? = some x, fun w w' h p => by obtain ⟨x, p⟩ := p; exact ⟨x, (h d (List.mem_singleton.2 rfl)).trans p⟩, fun w p b hb => by rw [List.mem_singleton.1 hb]; obtain ⟨x, p⟩ := p; exact lt_of_heap p⟩
theorem kept_put (w : World) (l : Nat) (x : Obj) : Kept (fun b => b ∈ [l]) w (w.putObj l x) :=
  ⟨rfl, rfl, rfl, by simp, fun k _ hk => World.putObj_heap_other (fun e => hk (by simp [e]))⟩
theorem St.loopTo {o w : World} {its : List It} (h : St o its w) (i : Nat) {l : Nat} {r : Loop} (hi : its[i]? = some (loopI l r)) (r' : Loop) : St o (its.set i (loopI l r')) (w.putObj l (.loop r')) :=
  h.set i hi (kept_put w l _) (World.putObj_heap_same (lt_of_heap (show w.heap[l]? = _ from h.get i hi))) (by simp [loopI]) (fun b hb => .inl hb)
theorem St.shutD {o w : World} {d : Nat} {R : List It} (h : St o (dfrI d :: R) w) : St o R (w.putObj d (.deferred none)) :=
  (h.set 0 rfl (A' := someI d) (kept_put w d _) ⟨_, World.putObj_heap_same (lt_of_heap (show w.heap[d]? = _ from h.get 0 rfl))⟩ (by simp [someI]) (fun b hb => .inl hb)).pop
theorem St.newD {o w : World} {R : List It} (h : St o R w) : St o (dfrI w.heap.size :: R) (w.alloc (.deferred (some []))) :=
  h.push (dfrI w.heap.size) (kept_alloc w _) (World.alloc_heap_new w _) (by simp [dfrI]) (by simp [dfrI])
theorem St.newL {o w : World} {R : List It} (h : St o R w) (r : Loop) : St o (loopI w.heap.size r :: R) (w.alloc (.loop r)) :=
  h.push (loopI w.heap.size r) (kept_alloc w _) (World.alloc_heap_new w _) (by simp [loopI]) (by simp [loopI])
theorem St.cut {o w : World} {A B : List It} (h : St o (A ++ B) w) : St o A w :=
  ⟨by have := h.nodup; rw [List.flatMap_append, List.nodup_append] at this; exact this.1, fun i hi => h.all i (List.mem_append_left _ hi), fun i hi => h.high i (List.mem_append_left _ hi), h.kept⟩
theorem perm_in (a : It) (Y R : List It) : (a :: (Y ++ R)).Perm (Y ++ a :: R) := List.perm_middle.symm
theorem perm_two (a b : It) (Y R T : List It) : ((a :: b :: Y) ++ (R ++ T)).Perm (Y ++ (R ++ (a :: b :: T))) := by
  have h1 : (b :: (Y ++ (R ++ T))).Perm (Y ++ (R ++ b :: T)) := by
    have := perm_in b (Y ++ R) T
    simpa only [List.append_assoc] using this
  have h2 : (a :: (Y ++ (R ++ b :: T))).Perm (Y ++ (R ++ a :: b :: T)) := by
    have := perm_in a (Y ++ R) (b :: T)
    simpa only [List.append_assoc] using this
  exact (h1.cons a).trans h2

/-- The things that K speaks of when pre has come, beside R. -/
def Sat {α : Type} (o : World) (K : List α → List It → Prop) (R : List It) (pre : List α) (W : World) : Prop := ∃ X, K pre X ∧ St o (X ++ R) W

/-- WHAT AN ITERATOR PROMISES: whatever the rounds keep in memory beside what it reads (Rq) and what it may lay itself (T'), if they come to an end at the latest when N have come. -/
def Tells {α : Type} (P : Program) (o : World) (g : Nat) (lb : Array Value) (enc : α → Value) (ok : List α → α → Prop) (Sx Sp : List α → Prop) (Rq : List It) : Prop :=
  ∀ (l : Nat) (K Kx : List α → List It → Prop) (T : List It) (N : Nat) (W : World),
    (∀ pre X, K pre X → pre.length ≤ N) →
    (∀ T' pre x W1, ok pre x → Sat o K (Rq ++ T') pre W1 → YieldAt Fence.wide 9 P l #[enc x] W1 fun e W' =>
      (e = .returned (.bool true) ∧ Sat o K (Rq ++ T') (pre ++ [x]) W') ∨ (e = .returned (.bool false) ∧ Sat o Kx (Rq ++ T') (pre ++ [x]) W')) →
    Sat o K (Rq ++ T) [] W →
    CallsIn Fence.wide 9 P g (#[.func (.yield l) #[] #[]] ++ lb) W fun e W' => (∃ v, e = .returned v) ∧ ((∃ xs, Sx xs ∧ Sat o K (Rq ++ T) xs W') ∨ (∃ pre, Sp pre ∧ Sat o Kx (Rq ++ T) pre W'))

/-- How a round may be left. -/
def EndsR {α : Type} (o : World) (K : List α → List It → Prop) (Kx : Code → List α → List It → Prop) (R : List It) (pre : List α) : Exit → Act → World → Prop
  | .normal, _, W => Sat o K R pre W
  | .ret, _, W => Sat o (Kx .ret) R pre W
  | .exit id, _, W => Sat o (Kx (.exit id)) R pre W
  | .goto t, _, W => Sat o (Kx (.goto t)) R pre W
  | .panic _, _, _ => False
  | .outgrown, _, _ => False

theorem callsIn_any {m n : Nat} {P : Program} {f : FuncId} {args : Array Value} {w : World} {R : Ending → World → Prop} (h : CallsIn Fence.wide n P f args w R) : CallsIn Fence.wide m P f args w R := callsIn_wide.2 (callsIn_wide.1 h)
theorem roundIn_any {m n : Nat} {P : Program} {l : Nat} {f : FuncId} {tmps : Array Value} {assign body : Code} {w : World} {R : Ending → World → Prop} (h : RoundIn Fence.wide n P l f tmps assign body w R) : RoundIn Fence.wide m P l f tmps assign body w R :=
  ⟨h.1, fun c cs _ => h.2 c cs (room_wide _)⟩

theorem roundIn_in {m n l' : Nat} {P : Program} {l : Nat} {f : FuncId} {tmps : Array Value} {assign body : Code} {w : World} {R : Ending → World → Prop} (h : RoundIn Fence.wide n P l f tmps assign body w R) : RoundIn (Fence.wide.inRound l') m P l f tmps assign body w R :=
  ⟨h.1, fun c cs _ => h.2 c cs (room_wide _)⟩
theorem callsIn_in {m l' : Nat} {P : Program} {f : FuncId} {args : Array Value} {w : World} {R : Ending → World → Prop} (h : Calls P f args w R) : CallsIn (Fence.wide.inRound l') m P f args w R := show CallsIn Fence.wide m P f args w R from callsIn_wide.2 h

/-- THE LOOP. -/
theorem rf_law {α : Type} {P : Program} {o w : World} {g : Operand} {ps : Array Tmp} {assign body : Code} {Q : Exit → Act → World → Prop} {a : Act} {gf : Nat} {lb : Array Value}
    (hg : a.eval g = .func (.func gf) #[] lb) (eg : ∀ args w, (callFunc gf args).run P w = .ok (.enter gf args) w)
    {enc : α → Value} {ok : List α → α → Prop} {Sx Sp : List α → Prop} {Rq T : List It} (hseq : Tells P o gf lb enc ok Sx Sp Rq) (hps : ps.size = 1)
    (K : List α → List It → Prop) (Kx : Code → List α → List It → Prop) (N : Nat) (hN : ∀ pre X, K pre X → pre.length ≤ N) (h0 : Sat o K (Rq ++ T) [] w) (a₁ : α → Act)
    (hassign : ∀ (l : Nat) (x : α) (W : World) (C : Act → World → Prop), C (a₁ x) W →
      assign.wpIn (Fence.wide.inRound l) 9 P (Exit.then C (fun _ _ _ => False)) { tmps := (ps.zip #[enc x]).foldl (fun t (p, v) => t.setIfInBounds p v) a.tmps, defers := [] } W)
    (hround : ∀ (l : Nat) (T' : List It) (pre : List α) (x : α) (W : World), ok pre x → Sat o K (Rq ++ T') pre W → body.wpIn (Fence.wide.inRound l) 9 P (EndsR o K Kx (Rq ++ T') (pre ++ [x])) (a₁ x) W)
    (hdone : ∀ (D : Nat) (xs : List α) (W : World), Sx xs → Sat o K (dfrI D :: (Rq ++ T)) xs W → Q .normal { a with defers := { target := .collected D, args := #[] } :: a.defers } W)
    (hstop : ∀ (D : Nat) (c : Code) (pre : List α) (W : World), Sp pre → Sat o (Kx c) (dfrI D :: (Rq ++ T)) pre W → c.wpIn Fence.wide 9 P Q { a with defers := { target := .collected D, args := #[] } :: a.defers } W) :
    (Code.rangeFunc g ps assign body).wpIn Fence.wide 9 P Q a w := by
  refine wpIn_rangeFunc ?_
  intro fn hfn
  obtain ⟨X0, hK0, hs0⟩ := h0
  let rc : LoopState → Option Code → Loop := fun st pe => { state := st, pending := pe, fn, tmps := a.tmps, params := ps, assign, body, defers := w.heap.size }
  have hs1 := hs0.newD.newL (rc .ready none)
  rw [alloc_size] at hs1
  generalize hW1 : (w.alloc (.deferred (some []))).alloc (.loop (rc .ready none)) = W1 at hs1
  refine ⟨w.heap.size + 1, [{ target := .collected w.heap.size, args := #[] }], W1, { target := .fn (.func gf) lb, args := #[.func (.yield (w.heap.size + 1)) #[] #[]] }, W1, gf,
    #[.func (.yield (w.heap.size + 1)) #[] #[]] ++ lb, W1, ?_, ?_, fun _ _ => trivial, ?_, fun _ => by decide, ?_⟩
  · rw [← hW1]
    exact run_enterLoop_outer _ _ _ _ _
  · simp only [resolve, hg]
    simp [go_sem]
  · simp [invoke, go_sem, eg]
  generalize w.heap.size + 1 = l at *
  generalize w.heap.size = D at *
  refine callsIn_any ((hseq l (fun pre X => ∃ Y, X = loopI l (rc .ready none) :: dfrI D :: Y ∧ K pre Y) (fun pre X => ∃ c Y, X = loopI l (rc .done (some c)) :: dfrI D :: Y ∧ Kx c pre Y) T N W1
    (fun pre X hX => by obtain ⟨Y, _, hY⟩ := hX; exact hN pre Y hY) ?_ ⟨_, ⟨X0, rfl, hK0⟩, hs1⟩).mono ?_)
  · rintro T' pre x W hok ⟨_, ⟨Y, rfl, hK⟩, hs⟩
    have hl : W.heap[l]? = some (.loop (rc .ready none)) := hs.get 0 rfl
    refine ⟨fn, _, assign, body, run_yield hl (by show 1 = ps.size; exact hps.symm), roundIn_any (n := 9) (roundIn_of_wpIn hfn (hassign l x W _ ⟨_, run_beginRound hl rfl, ?_⟩))⟩
    have hs2 := hs.loopTo 0 rfl { rc .ready none with state := .busy }
    generalize W.putObj l (.loop { rc .ready none with state := .busy }) = W2 at hs2 ⊢
    refine wpIn_mono (hround l (loopI l { rc .ready none with state := .busy } :: dfrI D :: T') pre x W2 hok ⟨Y, hK, hs2.perm (perm_two _ _ Y Rq T')⟩) ?_
    have back : ∀ (Y' : List It) (W3 : World) (jump : Option Code), St o (Y' ++ (Rq ++ (loopI l { rc .ready none with state := .busy } :: dfrI D :: T'))) W3 →
        ∃ W4, (Instr.endRound l jump).run P W3 = .ok (.bool jump.isNone) W4 ∧ St o (loopI l (rc (if jump.isNone then .ready else .done) jump) :: dfrI D :: Y' ++ (Rq ++ T')) W4 := by
      intro Y' W3 jump h3
      have h4 := h3.perm (perm_two _ _ Y' Rq T').symm
      exact ⟨_, run_endRound jump (show W3.heap[l]? = _ from h4.get 0 rfl), h4.loopTo 0 rfl _⟩
    rintro e a3 W3 hp
    cases e with
    | normal =>
      obtain ⟨Y', hK', h3⟩ := hp
      obtain ⟨W4, hr, h4⟩ := back Y' W3 none h3
      exact ⟨_, W4, hr, .inl ⟨rfl, _, ⟨Y', rfl, hK'⟩, h4⟩⟩
    | ret =>
      obtain ⟨Y', hK', h3⟩ := hp
      obtain ⟨W4, hr, h4⟩ := back Y' W3 (some .ret) h3
      exact ⟨_, W4, hr, .inr ⟨rfl, _, ⟨.ret, Y', rfl, hK'⟩, h4⟩⟩
    | exit id =>
      obtain ⟨Y', hK', h3⟩ := hp
      obtain ⟨W4, hr, h4⟩ := back Y' W3 (some (.exit id)) h3
      exact ⟨_, W4, hr, .inr ⟨rfl, _, ⟨.exit id, Y', rfl, hK'⟩, h4⟩⟩
    | goto t =>
      obtain ⟨Y', hK', h3⟩ := hp
      obtain ⟨W4, hr, h4⟩ := back Y' W3 (some (.goto t)) h3
      exact ⟨_, W4, hr, .inr ⟨rfl, _, ⟨.goto t, Y', rfl, hK'⟩, h4⟩⟩
    | panic ch => exact hp.elim
    | outgrown => exact hp.elim
  · rintro e W2 ⟨⟨v, rfl⟩, (⟨xs, hS, _, ⟨Y, rfl, hK⟩, hs⟩ | ⟨pre, hS, _, ⟨c, Y, rfl, hK⟩, hs⟩)⟩
    · have h2 := (hs.loopTo 0 rfl { rc .ready none with state := .exhausted }).pop
      exact ⟨none, _, run_endLoop (show W2.heap[l]? = _ from hs.get 0 rfl) (by simp [rc]), hdone D xs _ hS ⟨Y, hK, h2.perm (perm_in _ Y (Rq ++ T))⟩⟩
    · have h2 := (hs.loopTo 0 rfl { rc .done (some c) with state := .exhausted }).pop
      exact ⟨some c, _, run_endLoop (show W2.heap[l]? = _ from hs.get 0 rfl) (by simp [rc]), hstop D c pre _ hS ⟨Y, hK, h2.perm (perm_in _ Y (Rq ++ T))⟩⟩
section scope
variable {P : Program} {F : Fence} {n : Nat} {a : Act} {w : World} {Q : Exit → Act → World → Prop}
/-- A scope through which one goes without a goto, within a fence. -/
theorem wpIn_scope {c : Code} (h : c.wpIn F n P (Exit.noGoto Q) a w) : (Code.scope c).wpIn F n P Q a w := by
  intro b k cs hro hb hr
  have s1 : StepsIn (Machine.fenced P F) P (lone (b.atR a (.code (.scope c) :: k)) cs w) (lone (b.atR a (.code c :: .inScope c :: k)) cs w) :=
    .one (fenced_calm hb hr rfl) (step_lone_go (by simp [stepG, stepG.exec, Frame.atR]))
  have s2 : ∀ a' w', StepsIn (Machine.fenced P F) P (lone (b.atR a' (.inScope c :: k)) cs w') (lone (b.atR a' k) cs w') := fun a' w' =>
    .one (fenced_calm hb hr rfl) (step_lone_go (by simp [stepG, stepG.exec, Frame.atR]))
  obtain ⟨e, a₁, w₁, hq, harr⟩ := h b (.inScope c :: k) cs hro hb hr
  cases e with
  | normal => exact ⟨.normal, a₁, w₁, hq, s1.trans (StepsIn.trans harr (s2 a₁ w₁))⟩
  | exit id =>
    have hx : exitTo id (.inScope c :: k) = exitTo id k := by simp [exitTo]
    refine ⟨.exit id, a₁, w₁, hq, fun k' hk => s1.trans (harr.1 k' (hx.trans hk)), fun hr' hk => ?_⟩
    obtain ⟨k₁, h1, h2⟩ := harr.2 hr' (hx.trans hk)
    exact ⟨k₁, h1, s1.trans h2⟩
  | goto l => exact hq.elim
  | ret => exact ⟨_, a₁, w₁, hq, .of_steps s1 harr⟩
  | panic ch => exact ⟨_, a₁, w₁, hq, .of_steps s1 harr⟩
  | outgrown => exact ⟨_, a₁, w₁, hq, .of_steps s1 harr⟩
end scope
end Go.Proofs.YtdfefjalamohjaaGreatDoor

namespace Go.Proofs.YtdfefjalamohjaaGreatDoor
open Go.RowKit
set_option linter.unusedVariables false
set_option linter.unusedSimpArgs false

theorem own_set {w : World} {b e z g n cap : Nat} {xs : List Value} (h : w.ownsRow b e z (.slice (some ⟨g, 0, none⟩) n cap) n xs) (j : Nat) (hj : j < n * z) (x : Value) : (w.setCell ⟨g, j, none⟩ x).ownsRow b e z (.slice (some ⟨g, 0, none⟩) n cap) n (xs.set j x) := by
  obtain ⟨h1, h2⟩ := h
  refine ⟨by simpa using h1, ?_⟩
  rcases h2 with ⟨hv, _⟩ | ⟨g', cap', cur, hv, hb, hg, hn, hc, hs, ht⟩
  · cases hv
  · simp only [Value.slice.injEq, Option.some.injEq, Addr.mk.injEq, true_and, and_true] at hv
    obtain ⟨rfl, rfl⟩ := hv
    refine .inr ⟨g, cap, cur.setIfInBounds j x, rfl, hb, heap_setCell_at hg x, hn, hc, by simpa using hs, ?_⟩
    rw [Array.toList_setIfInBounds, List.take_set, ht]
theorem St.ownSet {o w : World} {its : List It} (h : St o its w) (i : Nat) {e : TypeId} {z g n cap : Nat} {xs : List Value} (hi : its[i]? = some (ownI e z (.slice (some ⟨g, 0, none⟩) n cap) n xs)) (j : Nat) (hj : j < n * z) (x : Value) : St o (its.set i (ownI e z (.slice (some ⟨g, 0, none⟩) n cap) n (xs.set j x))) (w.setCell ⟨g, j, none⟩ x) :=
  h.set i hi ((Kept.refl _ w).setCell x (.inl (by simp [ownI, Value.ownBlock]))) (own_set (show w.ownsRow 0 e z (.slice (some ⟨g, 0, none⟩) n cap) n xs from h.get i hi) j hj x) (own_nodup (.slice (some ⟨g, 0, none⟩) n cap)) (fun b hb => .inl hb)
/-- An own list grown: what lay beside it stays. -/
theorem St.ownGrow {o w w' : World} {its : List It} (h : St o its w) (i : Nat) {e : TypeId} {z n n' : Nat} {v v' : Value} {xs xs' : List Value} (hi : its[i]? = some (ownI e z v n xs)) (p : w'.ownsRow 0 e z v' n' xs') (k : Kept (fun b => v.ownBlock = some b) w w') (hf : v'.ownBlock = v.ownBlock ∨ ∃ g, v'.ownBlock = some g ∧ w.heap.size ≤ g) : St o (its.set i (ownI e z v' n' xs')) w' := by
  refine h.set i hi (k.mono (fun b _ hb => by simp [ownI, hb])) p (own_nodup v') (fun b hb => ?_)
  simp only [ownI] at hb ⊢
  rcases hf with hf | ⟨g, hg, hlt⟩
  · rw [hf] at hb; exact .inl hb
  · rw [hg] at hb
    right
    simp at hb
    omega
theorem St.form {o w : World} {its : List It} (h : St o its w) (i : Nat) {e : TypeId} {z n : Nat} {v : Value} {xs : List Value} (hi : its[i]? = some (ownI e z v n xs)) (h0 : 0 < n) : ∃ g cap, v = .slice (some ⟨g, 0, none⟩) n cap := by
  have p : w.ownsRow 0 e z v n xs := h.get i hi
  obtain ⟨g, cap, e, _, _⟩ := p.form h0
  exact ⟨g, cap, e⟩
theorem St.ownCell {o w : World} {its : List It} (h : St o its w) (i : Nat) {e : TypeId} {z g n cap : Nat} {xs : List Value} (hi : its[i]? = some (ownI e z (.slice (some ⟨g, 0, none⟩) n cap) n xs)) (j : Nat) (hj : j < n * z) : w.cell? ⟨g, j, none⟩ = xs[j]? := by
  have p : w.ownsRow 0 e z (.slice (some ⟨g, 0, none⟩) n cap) n xs := h.get i hi
  exact p.cellAt j hj
theorem St.ownFrozen {o w : World} {its : List It} (h : St o its w) (i : Nat) {e : TypeId} {z g n cap : Nat} {xs : List Value} (hi : its[i]? = some (ownI e z (.slice (some ⟨g, 0, none⟩) n cap) n xs)) (j : Nat) : w.frozen? ⟨g, j, none⟩ = false := by
  have p : w.ownsRow 0 e z (.slice (some ⟨g, 0, none⟩) n cap) n xs := h.get i hi
  exact p.frozenAt j
theorem St.ownCap {o w : World} {its : List It} (h : St o its w) (i : Nat) {e : TypeId} {z g n cap : Nat} {xs : List Value} (hi : its[i]? = some (ownI e z (.slice (some ⟨g, 0, none⟩) n cap) n xs)) : xs.length = n * z := by
  have p : w.ownsRow 0 e z (.slice (some ⟨g, 0, none⟩) n cap) n xs := h.get i hi
  exact p.1
end Go.Proofs.YtdfefjalamohjaaGreatDoor

namespace Go.Proofs.YtdfefjalamohjaaGreatDoor
open Go.RowKit
set_option linter.unusedVariables false
set_option linter.unusedSimpArgs false
attribute [local go_sem ↓] Go.wp_at_zero Go.wp_at_succ

def xC (zs : List Int) : List Value := zs.map (Value.int .i64)
theorem xC_length (zs : List Int) : (xC zs).length = zs.length := by simp [xC]
theorem xC_append (a b : List Int) : xC (a ++ b) = xC a ++ xC b := by simp [xC]
theorem xC_one (zs : List Int) : ∀ u ∈ xC zs, u.oneCell' = true := by
  intro u hu
  obtain ⟨z, _, rfl⟩ := List.mem_map.1 hu
  rfl
theorem xC_at (zs : List Int) (j : Nat) (hj : j < zs.length) : (xC zs)[j]? = some (.int .i64 (zs.getD j 0)) := by
  simp [xC, List.getD_eq_getElem?_getD, hj]
/-- A list of int64 in memory. -/
def XIn (w : World) (la : Option Addr) (n : Nat) (zs : List Int) : Prop :=
  n = zs.length ∧ (0 < n → ∃ g o, la = some ⟨g, o, none⟩ ∧ ∀ j, j < n → w.cell? ⟨g, o + j, none⟩ = some (.int .i64 (zs.getD j 0)))
theorem XIn.kept {w w' : World} {la : Option Addr} {n : Nat} {zs : List Int} (h : XIn w la n zs) (k : Kept (fun _ => False) w w') : XIn w' la n zs := by
  refine ⟨h.1, fun h0 => ?_⟩
  obtain ⟨g, o, rfl, hc⟩ := h.2 h0
  refine ⟨g, o, rfl, fun j hj => ?_⟩
  have := hc j hj
  rw [World.cell?_of_block (k.block g (World.block_lt_of_cell? w _ this) (fun f => f))]
  exact this
theorem XIn.addr {w : World} {la : Option Addr} {n : Nat} {zs : List Int} (h : XIn w la n zs) (hn : 0 < n) : ∃ g o, la = some ⟨g, o, none⟩ := by
  obtain ⟨g, o, rfl, _⟩ := h.2 hn
  exact ⟨g, o, rfl⟩
theorem XIn.cell {w : World} {g o n : Nat} {zs : List Int} (h : XIn w (some ⟨g, o, none⟩) n zs) {j : Nat} (hj : j < n) : w.cell? ⟨g, o + j, none⟩ = some (.int .i64 (zs.getD j 0)) := by
  obtain ⟨g', o', e, hc⟩ := h.2 (by omega)
  simp only [Option.some.injEq, Addr.mk.injEq, and_true] at e
  obtain ⟨rfl, rfl⟩ := e
  exact hc j hj
theorem own_xin {w : World} {base t : Nat} {v : Value} {zs : List Int} (h : w.ownsRow base t 1 v zs.length (xC zs)) : ∃ la lc, v = .slice la zs.length lc ∧ XIn w la zs.length zs ∧ zs.length ≤ lc ∧ (la = none → zs.length = 0 ∧ lc = 0) := by
  rcases h.2 with ⟨rfl, hn⟩ | ⟨g, cap, cur, rfl, _, _, hc, _⟩
  · exact ⟨none, 0, by rw [hn], ⟨rfl, fun h0 => by omega⟩, by omega, fun _ => ⟨hn, rfl⟩⟩
  · refine ⟨_, _, rfl, ⟨rfl, fun _ => ⟨g, 0, rfl, fun j hj => ?_⟩⟩, by omega, fun e => by cases e⟩
    rw [Nat.zero_add, h.cellAt j (by simpa [xC] using hj)]
    exact xC_at zs j hj
theorem Tryz.infoX : (Tryz.prog.info? 2).map (fun i => (i.zero, i.size, i.bytes)) = some (some (.int .i64 0), 1, 8) := by kernel_rfl
theorem grownBy_reflX (w : World) (row : Option Nat) : w.grownBy w row := ⟨rfl, rfl, rfl, Nat.le_refl _, fun _ _ _ => rfl⟩
/-- An append of a list of int64, nil or not, onto a row of the call's own. -/
theorem wpList_append_x {ops : Array Oper} {rest : List Oper} {o : Oper} {a : Act} {Q : Exit → Act → World → Prop} (w : World) (hgd : o.guard = none) (s x : Operand)
    (ho : o.op = .call { callee := .builtin .append, args := #[s, x], argTypes := #[24, 24] })
    (base : Nat) (v : Value) (n : Nat) (xs : List Value) (hs : a.eval s = v) (hown : w.ownsRow base 2 1 v n xs)
    (la : Option Addr) (m c : Nat) (zs : List Int) (hx : a.eval x = .slice la m c) (hl : XIn w la m zs) (h0 : la = none → m = 0 ∧ c = 0)
    (hsm : (n + m) * 8 ≤ 140737488355328) (hbase : base ≤ w.heap.size)
    (h : ∀ v' w', w'.ownsRow base 2 1 v' (n + m) (xs ++ xC zs) → w.grownBy w' v.ownBlock → wpList Tryz.prog ops Q rest (a.put o.dst v') w') :
    wpList Tryz.prog ops Q (o :: rest) a w := by
  obtain ⟨i0, hi0, hz0, hz1, hz2⟩ := info_parts Tryz.infoX
  cases la with
  | none =>
    obtain ⟨rfl, rfl⟩ := h0 rfl
    obtain rfl : zs = [] := List.length_eq_zero_iff.1 hl.1.symm
    exact wpList_append_own_none hgd s x 24 ho base 2 i0 1 Tryz.underlying24 hi0 v n xs hs hown hx (h v w (by simpa [xC] using hown) (grownBy_reflX _ _))
  | some ad =>
    refine wpList_append_own_at w hgd s x 24 ho base 2 i0 _ 1 8 Tryz.underlying24 hi0 hz0 hz1 hz2 rfl (by omega) v n xs hs hown ad m c (xC zs) hx (by rw [xC_length, ← hl.1, Nat.mul_one]) ?_ (xC_one zs) (by unfold maxLen; omega) (by omega) hbase (fun v' w' a1 a2 _ _ => h v' w' a1 a2)
    intro j u hu
    have hj := (List.getElem?_eq_some_iff.1 hu).1
    rw [xC_length, ← hl.1] at hj
    obtain ⟨g, off, e, hc⟩ := hl.2 (by omega)
    simp only [Option.some.injEq] at e
    subst e
    rw [Addr.add_lit, hc j hj]
    rw [xC_at zs j (by rw [← hl.1]; exact hj)] at hu
    exact hu
theorem buildX0 (W : World) : (Instr.buildSlice 24 0 #[]).run Tryz.prog W = .ok (.slice (some ⟨W.heap.size, 0, none⟩) 0 0) (W.alloc (.cells #[] 2)) := by kernel_rfl
theorem buildX1 (W : World) (x : Int) : (Instr.buildSlice 24 1 #[(0, .int .i64 x)]).run Tryz.prog W = .ok (.slice (some ⟨W.heap.size, 0, none⟩) 1 1) (W.alloc (.cells #[.int .i64 x] 2)) := by kernel_rfl
theorem owns_new (w : World) (zs : List Int) (hm : zs.length ≤ maxLen) : (w.alloc (.cells (xC zs).toArray 2)).ownsRow w.heap.size 2 1 (.slice (some ⟨w.heap.size, 0, none⟩) zs.length zs.length) zs.length (xC zs) :=
  ⟨by simp [xC], .inr ⟨w.heap.size, zs.length, (xC zs).toArray, rfl, Nat.le_refl _, heap_alloc_new w _, Nat.le_refl _, hm, by simp [xC], by rw [Nat.mul_one]; exact List.take_of_length_le (by simp [xC])⟩⟩
theorem St.new64 {o w : World} {its : List It} (h : St o its w) (zs : List Int) (hm : zs.length ≤ maxLen) : St o (ownI 2 1 (.slice (some ⟨w.heap.size, 0, none⟩) zs.length zs.length) zs.length (xC zs) :: its) (w.alloc (.cells (xC zs).toArray 2)) :=
  h.own (kept_alloc w _) (owns_new w zs hm)
theorem makeX (k : Nat) (K : Int) (hK : K = (k : Int)) (hk : k * 8 ≤ 140737488355328) (W : World) : (Instr.makeSlice 24 (.int .i64 K) (.int .i64 K)).run Tryz.prog W = .ok (.slice (some ⟨W.heap.size, 0, none⟩) k k) (W.alloc (.cells (xC (List.replicate k 0)).toArray 2)) := by
  obtain ⟨i0, hi0, hz0, hz1, hz2⟩ := info_parts Tryz.infoX
  subst hK
  have := run_make (P := Tryz.prog) W 24 2 i0 _ Tryz.underlying24 hi0 hz0 .i64 .i64 k k (by omega) (by omega) (by rw [hz2]; omega) (by omega)
  rw [this, hz1, Int.toNat_natCast, made_one rfl]
  simp [xC]
theorem XIn.part {w : World} {g o n : Nat} {zs : List Int} (h : XIn w (some ⟨g, o, none⟩) n zs) (i k : Nat) (hk : i + k ≤ n) : XIn w (some ⟨g, o + i, none⟩) k ((zs.drop i).take k) := by
  refine ⟨by rw [List.length_take, List.length_drop, ← h.1]; omega, fun h0 => ⟨g, o + i, rfl, fun j hj => ?_⟩⟩
  have := h.cell (j := i + j) (by omega)
  rw [Nat.add_assoc, this]
  have hz := h.1
  congr 2
  simp only [List.getD_eq_getElem?_getD]
  rw [List.getElem?_take_of_lt hj, List.getElem?_drop]
theorem slicePart (g o n lc i k : Nat) (hk : 0 < k) (h1 : i + k ≤ n) (h2 : n ≤ lc) (J K : Int) (hJ : J = (i : Int)) (hK : K = ((i + k : Nat) : Int)) (W : World) : (Instr.slice 24 (.slice (some ⟨g, o, none⟩) n lc) (some (.int .i64 J)) (some (.int .i64 K)) none).run Tryz.prog W = .ok (.slice (some ⟨g, o + i, none⟩) k (lc - i)) W := by
  subst hJ hK
  have e3 : (0 : Int) ≤ (i : Int) := by omega
  have e5 : ¬ lc - i = 0 := by omega
  have e6 : ((i : Int) + (k : Int)).toNat - i = k := by omega
  have e8 : (0 : Int) ≤ (i : Int) + (k : Int) ∧ (i : Int) + (k : Int) ≤ (lc : Int) := by omega
  have e9 : i ≤ ((i : Int) + (k : Int)).toNat := by omega
  have e7 : ¬ lc = i := by omega
  simp only [Instr.slice, run_underlying Tryz.underlying24, Instr.sliceBounds, Instr.sliceBound, asIntOf, go_sem]
  simp [go_sem, e3, e5, e6, e7, e8, e9]
theorem xC_set (zs : List Int) (k : Nat) (x : Int) : (xC zs).set k (.int .i64 x) = xC (zs.set k x) := by simp [xC]
abbrev rowI (g n cap : Nat) (zs : List Int) : It := ownI 2 1 (.slice (some ⟨g, 0, none⟩) n cap) n (xC zs)
section
variable {o w : World} {R : List It} {g n cap : Nat} {zs : List Int}
theorem row_len (h : St o (rowI g n cap zs :: R) w) : n = zs.length := by
  have := h.ownCap 0 rfl
  rw [xC_length] at this
  omega
theorem row_cell (h : St o (rowI g n cap zs :: R) w) {j : Nat} (hj : j < n) : w.cell? ⟨g, j, none⟩ = some (.int .i64 (zs.getD j 0)) := by
  rw [h.ownCell 0 rfl j (by omega)]
  exact xC_at zs j (by have := row_len h; omega)
theorem row_frozen (h : St o (rowI g n cap zs :: R) w) (j : Nat) : w.frozen? ⟨g, j, none⟩ = false := h.ownFrozen 0 rfl j
theorem row_set (h : St o (rowI g n cap zs :: R) w) {j : Nat} (hj : j < n) (x : Int) : St o (rowI g n cap (zs.set j x) :: R) (w.setCell ⟨g, j, none⟩ (.int .i64 x)) := by
  have := h.ownSet 0 rfl j (by omega) (.int .i64 x)
  rw [xC_set] at this
  exact this
theorem getD_set_same (zs : List Int) {k : Nat} (hk : k < zs.length) (x : Int) : (zs.set k x).getD k 0 = x := by simp [List.getD_eq_getElem?_getD, hk]
end
end Go.Proofs.YtdfefjalamohjaaGreatDoor
