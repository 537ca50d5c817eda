/- Rows of whatever structs in memory: lists that came in and lists of the call's own. No program is named here. -/
import Derived.Test.YtnmlnjljmikmpaaRest
import Derived.Test.YtnmlnjljmikmpaaRfL
import Derived.Laws.AppendOwnNone
import Derived.Deep.AppendLies
import Derived.Maps.AppendAt
import Derived.Maps.OwnIn
import Derived.Deep.Slices
import Derived.Deep.RegionLaw
namespace Go.Proofs.Ytnmlnjljmikmpaa
open Go.RowKit
set_option linter.unusedVariables false
set_option linter.unusedSimpArgs false

/-- What is known of a kind of rows: k cells and b bytes an element. -/
structure RowT {α : Type} (P : Program) (t sl : TypeId) (k b : Nat) (f : α → List Value) : Prop where
  len : ∀ a, (f a).length = k
  one : ∀ a, ∀ u ∈ f a, u.oneCell' = true
  und : P.underlying sl = some (.slice t)
  pos : 0 < k
  wide : 0 < b
  info : ∃ i z, P.info? t = some i ∧ i.zero = some z ∧ i.size = k ∧ i.bytes = b ∧ z.cells.size = k
section
variable {α : Type} {f : α → List Value} {k : Nat}
def fl (f : α → List Value) (xs : List α) : List Value := xs.flatMap f
theorem fl_nil : fl f [] = [] := rfl
theorem fl_cons (x : α) (xs : List α) : fl f (x :: xs) = f x ++ fl f xs := by simp [fl]
theorem fl_append (a b : List α) : fl f (a ++ b) = fl f a ++ fl f b := by simp [fl]
theorem fl_one1 (x : α) : fl f [x] = f x := by simp [fl]
theorem fl_length (h : ∀ a, (f a).length = k) : ∀ xs : List α, (fl f xs).length = xs.length * k
  | [] => by simp [fl]
  | x :: xs => by rw [fl_cons, List.length_append, h, fl_length h xs, List.length_cons, Nat.add_mul, Nat.one_mul, Nat.add_comm]
theorem fl_at (h : ∀ a, (f a).length = k) : ∀ (xs : List α) (j i : Nat) (x : α), i < k → xs[j]? = some x → (fl f xs)[j * k + i]? = (f x)[i]?
  | [], _, _, _, _, hx => by simp at hx
  | y :: xs, 0, i, x, hi, hx => by
    simp only [List.getElem?_cons_zero, Option.some.injEq] at hx
    subst hx
    rw [fl_cons, Nat.zero_mul, Nat.zero_add, List.getElem?_append_left (by rw [h]; exact hi)]
  | y :: xs, j + 1, i, x, hi, hx => by
    rw [fl_cons, List.getElem?_append_right (by rw [h, Nat.add_mul]; omega), h, show (j + 1) * k + i - k = j * k + i by rw [Nat.add_mul]; omega]
    exact fl_at h xs j i x hi (by simpa using hx)
theorem fl_set (h : ∀ a, (f a).length = k) : ∀ (xs : List α) (j i : Nat) (x x' : α) (u : Value), i < k → xs[j]? = some x → f x' = (f x).set i u → (fl f xs).set (j * k + i) u = fl f (xs.set j x')
  | [], _, _, _, _, _, _, hx, _ => by simp at hx
  | y :: xs, 0, i, x, x', u, hi, hx, he => by
    simp only [List.getElem?_cons_zero, Option.some.injEq] at hx
    subst hx
    rw [fl_cons, Nat.zero_mul, Nat.zero_add, List.set_append_left _ _ (by rw [h]; exact hi), ← he, List.set_cons_zero, fl_cons]
  | y :: xs, j + 1, i, x, x', u, hi, hx, he => by
    rw [fl_cons, List.set_append_right _ _ (by rw [h, Nat.add_mul]; omega), h, show (j + 1) * k + i - k = j * k + i by rw [Nat.add_mul]; omega, List.set_cons_succ, fl_cons, fl_set h xs j i x x' u hi (by simpa using hx) he]
theorem fl_one (h : ∀ a, ∀ u ∈ f a, u.oneCell' = true) (xs : List α) : ∀ u ∈ fl f xs, u.oneCell' = true := by
  intro u hu
  obtain ⟨x, _, hx⟩ := List.mem_flatMap.1 hu
  exact h x u hx
/-- A list in memory. -/
def RIn (f : α → List Value) (w : World) (la : Option Addr) (n : Nat) (xs : List α) : Prop :=
  n = xs.length ∧ (0 < n → ∃ g o, la = some ⟨g, o, none⟩ ∧ ∀ j u, (fl f xs)[j]? = some u → w.cell? ⟨g, o + j, none⟩ = some u)
theorem RIn.nil (w : World) (la : Option Addr) : RIn f w la 0 ([] : List α) := ⟨rfl, fun h => by omega⟩
theorem RIn.kept {w w' : World} {la : Option Addr} {n : Nat} {xs : List α} (h : RIn f w la n xs) (kk : Kept (fun _ => False) w w') : RIn f w' la n xs := by
  refine ⟨h.1, fun h0 => ?_⟩
  obtain ⟨g, o, rfl, hc⟩ := h.2 h0
  refine ⟨g, o, rfl, fun j u hj => ?_⟩
  have := hc j u hj
  rw [World.cell?_of_block (kk.block g (World.block_lt_of_cell? w _ this) (fun f => f))]
  exact this
theorem RIn.addr {w : World} {la : Option Addr} {n : Nat} {xs : List α} (h : RIn f w la n xs) (hn : 0 < n) : ∃ g o, la = some ⟨g, o, none⟩ := by
  obtain ⟨g, o, rfl, _⟩ := h.2 hn
  exact ⟨g, o, rfl⟩
theorem RIn.at {w : World} {g o n : Nat} {xs : List α} (h : RIn f w (some ⟨g, o, none⟩) n xs) (hk : ∀ a, (f a).length = k) {j : Nat} {x : α} (hx : xs[j]? = some x) (i : Nat) (u : Value) (hu : (f x)[i]? = some u) : w.cell? ⟨g, o + j * k + i, none⟩ = some u := by
  have hj := (List.getElem?_eq_some_iff.1 hx).1
  have hi := (List.getElem?_eq_some_iff.1 hu).1
  rw [hk] at hi
  obtain ⟨g', o', e, hc⟩ := h.2 (by have := h.1; omega)
  simp only [Option.some.injEq, Addr.mk.injEq, and_true] at e
  obtain ⟨rfl, rfl⟩ := e
  rw [Nat.add_assoc]
  exact hc _ _ ((fl_at hk xs j i x hi hx).trans hu)
/-- A list of the call's own. -/
abbrev lstR (f : α → List Value) (t k : Nat) (v : Value) (xs : List α) : It := ownI t k v xs.length (fl f xs)
theorem own_rin {w : World} {base t : Nat} {v : Value} {xs : List α} (hk : ∀ a, (f a).length = k) (h : w.ownsRow base t k v xs.length (fl f xs)) : ∃ la lc, v = .slice la xs.length lc ∧ RIn f w la xs.length xs ∧ xs.length ≤ lc ∧ (la = none → xs.length = 0 ∧ lc = 0) := by
  rcases h.2 with ⟨rfl, hn⟩ | ⟨g, cap, cur, rfl, _, _, hc, _⟩
  · exact ⟨none, 0, by rw [hn], ⟨rfl, fun h0 => by omega⟩, by omega, fun _ => ⟨hn, rfl⟩⟩
  · refine ⟨_, _, rfl, ⟨rfl, fun _ => ⟨g, 0, rfl, fun j u hu => ?_⟩⟩, by omega, fun e => by cases e⟩
    have hj := (List.getElem?_eq_some_iff.1 hu).1
    rw [fl_length hk] at hj
    rw [Nat.zero_add, h.cellAt j (by omega)]
    exact hu
end
/-- Things made by a call, beside those that were there. -/
theorem St.over {o w w' : World} {R its : List It} (h : St o R w) (h' : St w its w') : St o (its ++ R) w' := by
  have hc := h.calm h'.same
  refine ⟨?_, ?_, ?_, hc.kept⟩
  · rw [List.flatMap_append, List.nodup_append]
    refine ⟨h'.nodup, h.nodup, fun a ha b hb e => ?_⟩
    subst e
    obtain ⟨i, hi, hai⟩ := List.mem_flatMap.1 ha
    obtain ⟨j, hj, haj⟩ := List.mem_flatMap.1 hb
    have h1 := h'.high i hi a hai
    have h2 := j.old w (h.all j hj) a haj
    omega
  · intro i hi
    rcases List.mem_append.1 hi with hi | hi
    · exact h'.all i hi
    · exact hc.all i hi
  · intro i hi b hb
    rcases List.mem_append.1 hi with hi | hi
    · exact Nat.le_trans h.le (h'.high i hi b hb)
    · exact h.high i hi b hb
theorem St.only {o w : World} {A B : List It} (h : St o (A ++ B) w) : St o B w := (h.perm List.perm_append_comm).cut
section
variable {α : Type} {f : α → List Value} {k b : Nat} {P : Program} {t sl : TypeId} {o0 w : World} {R its : List It} {v : Value} {xs zs : List α}
theorem r_rin (h : St o0 its w) (i : Nat) (hi : its[i]? = some (lstR f t k v xs)) (hk : ∀ a, (f a).length = k) : ∃ la lc, v = .slice la xs.length lc ∧ RIn f w la xs.length xs ∧ xs.length ≤ lc ∧ (la = none → xs.length = 0 ∧ lc = 0) :=
  own_rin hk (show w.ownsRow 0 t k v xs.length (fl f xs) from h.get i hi)
theorem st_rin {la : Option Addr} {n lc : Nat} (h : St o0 its w) (i : Nat) (hi : its[i]? = some (ownI t k (.slice la n lc) n (fl f xs))) (hn : n = xs.length) (hk : ∀ a, (f a).length = k) : RIn f w la n xs := by
  subst hn
  obtain ⟨la', lc', e, hx, _⟩ := r_rin h i hi hk
  simp only [Value.slice.injEq] at e
  obtain ⟨rfl, _, rfl⟩ := e
  exact hx
theorem r_nil (f : α → List Value) (t k : Nat) (h : St o0 its w) : St o0 (lstR f t k (.slice none 0 0) [] :: its) w := h.own (Kept.refl _ _) (World.ownsRow_nil _ _ _ _)
theorem r_new (hk : ∀ a, (f a).length = k) (t : Nat) (h : St o0 its w) (zs : List α) (hm : zs.length ≤ maxLen) : St o0 (lstR f t k (.slice (some ⟨w.heap.size, 0, none⟩) zs.length zs.length) zs :: its) (w.alloc (.cells (fl f zs).toArray t)) :=
  h.own (kept_alloc w _) ⟨by rw [fl_length hk], .inr ⟨w.heap.size, zs.length, (fl f zs).toArray, rfl, Nat.le_refl _, heap_alloc_new w _, Nat.le_refl _, hm, by simp [fl_length hk], by rw [List.take_of_length_le (by rw [fl_length hk]; exact Nat.le_refl _)]⟩⟩
theorem r_box (hk : ∀ a, (f a).length = k) (t : Nat) (h : St o0 its w) (x : α) (cs : Array Value) (hcs : cs = (f x).toArray) : RIn f (w.alloc (.cells cs t)) (some ⟨w.heap.size, 0, none⟩) 1 [x] := by
  subst hcs
  have := r_new hk t h [x] (by unfold maxLen; simp)
  rw [fl_one1] at this
  exact st_rin (its := _) this 0 rfl rfl hk
/-- What an append of rows leaves. -/
theorem r_grown (h : St o0 (lstR f t k v xs :: R) w) {m : Nat} (hm : m = zs.length) {v' : Value} {w' : World} (h1 : w'.ownsRow 0 t k v' (xs.length + m) (fl f xs ++ fl f zs)) (h2 : w.grownBy w' v.ownBlock) (h3 : v'.ownBlock = v.ownBlock ∨ v'.ownBlock = some w.heap.size) : St o0 (lstR f t k v' (xs ++ zs) :: R) w' := by
  have s1 := h.ownGrow 0 rfl h1 ((Kept.refl _ w).grown h2 (fun k e => .inl e)) (by
    rcases h3 with e | e
    · exact .inl e
    · exact .inr ⟨_, e, Nat.le_refl _⟩)
  have e1 : (xs ++ zs).length = xs.length + m := by rw [List.length_append, hm]
  show St o0 (ownI t k _ (xs ++ zs).length (fl f (xs ++ zs)) :: _) _
  rw [e1, fl_append]
  exact s1
theorem r_news {la : Addr} {m : Nat} (hk : ∀ a, (f a).length = k) (hl : RIn f w (some la) m zs) : ∀ j u, (fl f zs)[j]? = some u → w.cell? (la.add j) = some u := by
  intro j u hu
  have hj := (List.getElem?_eq_some_iff.1 hu).1
  rw [fl_length hk, ← hl.1] at hj
  obtain ⟨g, off, e, hc⟩ := hl.2 (by rcases Nat.eq_zero_or_pos m with h0 | h0; · rw [h0, Nat.zero_mul] at hj; omega
                                     · exact h0)
  simp only [Option.some.injEq] at e
  subst e
  rw [Addr.add_lit]
  exact hc j u hu
theorem le_maxLen {n b : Nat} (hb : 0 < b) (h : n * b ≤ 140737488355328) : n ≤ maxLen := by
  unfold maxLen
  have : n * 1 ≤ n * b := Nat.mul_le_mul_left n hb
  omega
/-- append(v, l...): the run itself. -/
theorem r_append (D : RowT P t sl k b f) (h : St o0 (lstR f t k v xs :: R) w) (ty : TypeId) (la : Option Addr) (m c : Nat) (hl : RIn f w la m zs) (h0 : la = none → m = 0 ∧ c = 0)
    (hsm : (xs.length + m) * b ≤ 140737488355328) :
    ∃ v' w', (Builtin.append_ #[sl, sl] ty #[v, .slice la m c]).run P w = .ok v' w' ∧ St o0 (lstR f t k v' (xs ++ zs) :: R) w' := by
  obtain ⟨i0, z0, hi0, hz0, hz1, hz2, hz3⟩ := D.info
  have p0 : w.ownsRow 0 t k v xs.length (fl f xs) := h.get 0 rfl
  have hm := hl.1
  cases la with
  | none =>
    obtain ⟨rfl, rfl⟩ := h0 rfl
    obtain rfl : zs = [] := List.length_eq_zero_iff.1 hl.1.symm
    exact ⟨v, w, run_append_owned_none (P := P) (w := w) 0 sl ty t i0 k D.und hi0 v _ _ p0, by rw [List.append_nil]; exact h⟩
  | some ad =>
    obtain ⟨v', w', hr, h1, h2, -, h3⟩ := run_append_own_at (P := P) w 0 sl ty t i0 z0 k b D.und hi0 hz0 hz1 hz2 hz3 D.pos v _ _ p0 ad m c (fl f zs) (by rw [fl_length D.len, ← hl.1]) (r_news D.len hl) (fl_one D.one zs) (le_maxLen D.wide hsm) hsm (Nat.zero_le _)
    exact ⟨v', w', hr, r_grown h hm h1 h2 h3⟩
/-- append(v, l...), at its place in a region. -/
theorem wpList_appR {ops : Array Oper} {rest : List Oper} {o : Oper} {a : Act} {Q : Exit → Act → World → Prop} (D : RowT P t sl k b f) (h : St o0 (lstR f t k v xs :: R) w) (hgd : o.guard = none) (s x : Operand)
    (ho : o.op = .call { callee := .builtin .append, args := #[s, x], argTypes := #[sl, sl] }) (hs : a.eval s = v)
    (la : Option Addr) (m c : Nat) (hx : a.eval x = .slice la m c) (hl : RIn f w la m zs) (h0 : la = none → m = 0 ∧ c = 0)
    (hsm : (xs.length + m) * b ≤ 140737488355328)
    (hk : ∀ v' w', St o0 (lstR f t k v' (xs ++ zs) :: R) w' → wpList P ops Q rest (a.put o.dst v') w') :
    wpList P ops Q (o :: rest) a w := by
  obtain ⟨v', w', hr, hs'⟩ := r_append D h o.type la m c hl h0 hsm
  refine wpList_plain hgd fun K hK => ?_
  unfold Oper.wp execOp
  simp only [ho, resolve, invoke, builtin, Sem.run_bind, Sem.run_pure, Result.andThen_ok, List.map_toArray, List.map_cons, List.map_nil, hs, hx, hr]
  exact hK _ _ (hk v' w' hs')
/-- The same within a loop's round. -/
theorem wpListIn_appR {F : Fence} {nF : Nat} {ops : Array Oper} {rest : List Oper} {o : Oper} {a : Act} {Q : Exit → Act → World → Prop} (D : RowT P t sl k b f) (h : St o0 (lstR f t k v xs :: R) w) (hgd : o.guard = none) (s x : Operand)
    (ho : o.op = .call { callee := .builtin .append, args := #[s, x], argTypes := #[sl, sl] }) (hs : a.eval s = v)
    (la : Option Addr) (m c : Nat) (hx : a.eval x = .slice la m c) (hl : RIn f w la m zs) (h0 : la = none → m = 0 ∧ c = 0)
    (hsm : (xs.length + m) * b ≤ 140737488355328)
    (hk : ∀ v' w', St o0 (lstR f t k v' (xs ++ zs) :: R) w' → wpListIn F nF P ops Q rest (a.put o.dst v') w') :
    wpListIn F nF P ops Q (o :: rest) a w := by
  obtain ⟨v', w', hr, hs'⟩ := r_append D h o.type la m c hl h0 hsm
  refine wpListIn_plain hgd fun K hK => ?_
  unfold Oper.wpIn
  refine ⟨by simp [Oper.about, ho, resolve, Target.leads, Sem.run_pure], ?_⟩
  rw [Oper.semAt_plain F _ _ (by rw [ho]; intro c hc'; cases hc')]
  simp [execOp, ho, resolve, invoke, builtin, hs, hx, hr, Result.andThen]
  exact hK _ _ (hk v' w' hs')
/-- The same as one step of a region that draws its order. -/
theorem step_appR {ops : Array Oper} {o : Oper} {a : Act} {K : Act → World → Prop} {Q : Exit → Act → World → Prop} {E : Prop} (D : RowT P t sl k b f) (h : St o0 (lstR f t k v xs :: R) w) (hgd : o.guard = none) (s x : Operand)
    (ho : o.op = .call { callee := .builtin .append, args := #[s, x], argTypes := #[sl, sl] }) (hs : a.eval s = v)
    (la : Option Addr) (m c : Nat) (hx : a.eval x = .slice la m c) (hl : RIn f w la m zs) (h0 : la = none → m = 0 ∧ c = 0)
    (hsm : (xs.length + m) * b ≤ 140737488355328)
    (hk : ∀ v' w', St o0 (lstR f t k v' (xs ++ zs) :: R) w' → K (a.put o.dst v') w') :
    if Region.wanted o (yielded ops a.tmps) = true then Oper.wp P o a w K Q else E := by
  have hw : Region.wanted o (yielded ops a.tmps) = true := by simp [Region.wanted, hgd]
  rw [if_pos hw]
  obtain ⟨v', w', hr, hs'⟩ := r_append D h o.type la m c hl h0 hsm
  unfold Oper.wp execOp
  simp only [ho, resolve, invoke, builtin, Sem.run_bind, Sem.run_pure, Result.andThen_ok, List.map_toArray, List.map_cons, List.map_nil, hs, hx, hr]
  exact hk v' w' hs'
/-- One cell of an own list is written over. -/
theorem r_set {g cap n : Nat} (hk : ∀ a, (f a).length = k) (h : St o0 its w) (i : Nat) (hi : its[i]? = some (ownI t k (.slice (some ⟨g, 0, none⟩) n cap) n (fl f xs))) (hn : n = xs.length) {j : Nat} {x x' : α} (hx : xs[j]? = some x) (c : Nat) (hc : c < k) (u : Value) (he : f x' = (f x).set c u) :
    St o0 (its.set i (ownI t k (.slice (some ⟨g, 0, none⟩) n cap) n (fl f (xs.set j x')))) (w.setCell ⟨g, j * k + c, none⟩ u) := by
  have hj := (List.getElem?_eq_some_iff.1 hx).1
  have := h.ownSet i hi (j * k + c) (by
    subst hn
    have : (j + 1) * k ≤ xs.length * k := Nat.mul_le_mul_right k hj
    rw [Nat.add_mul] at this
    omega) u
  rw [fl_set hk xs j c x x' u hc hx he] at this
  exact this
end
end Go.Proofs.Ytnmlnjljmikmpaa
