/- Lists of entries in memory. -/
import Derived.Test.YtbpilhjomfkpaaaGreatDoorDiM
import Derived.Test.YtbpilhjomfkpaaaGreatDoorXs
namespace Go.Proofs.YtbpilhjomfkpaaaGreatDoor
open Go.RowKit
set_option linter.unusedVariables false
set_option linter.unusedSimpArgs false
attribute [local go_sem ↓] Go.wp_at_zero Go.wp_at_succ

def eC : List Pr → List Value
  | [] => []
  | p :: l => .int .i64 p.1 :: .int .i64 p.2 :: eC l
theorem eC_length (l : List Pr) : (eC l).length = l.length * 2 := by
  induction l with
  | nil => rfl
  | cons x l ih => simp only [eC, List.length_cons, ih]; omega
theorem eC_append (a b : List Pr) : eC (a ++ b) = eC a ++ eC b := by
  induction a with
  | nil => rfl
  | cons x l ih => simp [eC, ih]
theorem eC_at (l : List Pr) (j : Nat) (hj : j < l.length) : (eC l)[j * 2]? = some (.int .i64 (l.getD j (0, 0)).1) ∧ (eC l)[j * 2 + 1]? = some (.int .i64 (l.getD j (0, 0)).2) := by
  induction l generalizing j with
  | nil => simp at hj
  | cons x l ih =>
    cases j with
    | zero => exact ⟨rfl, rfl⟩
    | succ j =>
      have h := ih j (by simpa using hj)
      have e1 : (j + 1) * 2 = j * 2 + 1 + 1 := by omega
      rw [e1]
      exact ⟨by simpa [eC] using h.1, by simpa [eC] using h.2⟩
theorem eC_one (l : List Pr) : ∀ u ∈ eC l, u.oneCell' = true := by
  induction l with
  | nil => intro u h; cases h
  | cons t l ih =>
    intro u h
    simp only [eC, List.mem_cons] at h
    rcases h with h | h | h
    · subst h; rfl
    · subst h; rfl
    · exact ih u h
/-- A list of entries in memory. -/
def EIn (w : World) (la : Option Addr) (n : Nat) (ps : List Pr) : Prop :=
  n = ps.length ∧ (0 < n → ∃ g o, la = some ⟨g, o, none⟩ ∧ ∀ j u, (eC ps)[j]? = some u → w.cell? ⟨g, o + j, none⟩ = some u)
theorem EIn.kept {w w' : World} {la : Option Addr} {n : Nat} {ps : List Pr} (h : EIn w la n ps) (k : Kept (fun _ => False) w w') : EIn w' la n ps := by
  refine ⟨h.1, fun h0 => ?_⟩
  obtain ⟨g, o, rfl, hc⟩ := h.2 h0
  refine ⟨g, o, rfl, fun j u hj => ?_⟩
  have := hc j u hj
  rw [World.cell?_of_block (k.block g (World.block_lt_of_cell? w _ this) (fun f => f))]
  exact this
theorem EIn.cells {w : World} {g o n : Nat} {ps : List Pr} (h : EIn w (some ⟨g, o, none⟩) n ps) {j : Nat} (hj : j < n) :
    w.cell? ⟨g, o + j * 2, none⟩ = some (.int .i64 (ps.getD j (0, 0)).1) ∧ w.cell? ⟨g, o + j * 2 + 1, none⟩ = some (.int .i64 (ps.getD j (0, 0)).2) := by
  obtain ⟨g', o', e, hc⟩ := h.2 (by omega)
  simp only [Option.some.injEq, Addr.mk.injEq, and_true] at e
  obtain ⟨rfl, rfl⟩ := e
  obtain ⟨h0, h1⟩ := eC_at ps j (by have := h.1; omega)
  exact ⟨hc _ _ h0, by simpa [Nat.add_assoc] using hc _ _ h1⟩
theorem EIn.addr {w : World} {la : Option Addr} {n : Nat} {ps : List Pr} (h : EIn w la n ps) (hn : 0 < n) : ∃ g o, la = some ⟨g, o, none⟩ := by
  obtain ⟨g, o, rfl, _⟩ := h.2 hn
  exact ⟨g, o, rfl⟩
theorem own_ein {w : World} {base t : Nat} {v : Value} {ys : List Pr} (h : w.ownsRow base t 2 v ys.length (eC ys)) : ∃ la lc, v = .slice la ys.length lc ∧ EIn w la ys.length ys ∧ ys.length ≤ lc ∧ (la = none → ys.length = 0 ∧ lc = 0) := by
  rcases h.2 with ⟨rfl, hn⟩ | ⟨g, cap, cur, rfl, _, _, hc, _⟩
  · exact ⟨none, 0, by rw [hn], ⟨rfl, fun h0 => by omega⟩, by omega, fun _ => ⟨hn, rfl⟩⟩
  · refine ⟨_, _, rfl, ⟨rfl, fun _ => ⟨g, 0, rfl, fun j u hu => ?_⟩⟩, by omega, fun e => by cases e⟩
    have hl := h.1
    have hj := (List.getElem?_eq_some_iff.1 hu).1
    rw [Nat.zero_add, h.cellAt j (by omega)]
    exact hu
theorem Tryz.infoE : (Tryz.prog.info? 41).map (fun i => (i.zero, i.size, i.bytes)) = some (some (.agg #[.int .i64 0, .int .i64 0]), 2, 16) := by kernel_rfl
abbrev lstE (v : Value) (zs : List Pr) : It := ownI 41 2 v zs.length (eC zs)
section
variable {o0 w : World} {R its : List It} {v : Value} {xs zs : List Pr}
theorem st_ein {la : Option Addr} {n lc : Nat} (h : St o0 its w) (i : Nat) (hi : its[i]? = some (ownI 41 2 (.slice la n lc) n (eC zs))) (hn : n = zs.length) : EIn w la n zs := by
  subst hn
  obtain ⟨la', lc', e, hx, _⟩ := own_ein (show w.ownsRow 0 41 2 (.slice la zs.length lc) zs.length (eC zs) from h.get i hi)
  simp only [Value.slice.injEq] at e
  obtain ⟨rfl, _, rfl⟩ := e
  exact hx
theorem e_nil (h : St o0 its w) : St o0 (lstE (.slice none 0 0) [] :: its) w := h.own (Kept.refl _ _) (World.ownsRow_nil _ _ _ _)
theorem e_new (h : St o0 its w) (zs : List Pr) (hm : zs.length ≤ maxLen) : St o0 (lstE (.slice (some ⟨w.heap.size, 0, none⟩) zs.length zs.length) zs :: its) (w.alloc (.cells (eC zs).toArray 41)) :=
  h.own (kept_alloc w _) ⟨by rw [eC_length], .inr ⟨w.heap.size, zs.length, (eC zs).toArray, rfl, Nat.le_refl _, heap_alloc_new w _, Nat.le_refl _, hm, by simp [eC_length], by rw [List.take_of_length_le (by rw [eC_length]; exact Nat.le_refl _)]⟩⟩
/-- append(v, l...) of entries. -/
theorem wpList_appE_st {ops : Array Oper} {rest : List Oper} {o : Oper} {a : Act} {Q : Exit → Act → World → Prop} (h : St o0 (lstE v xs :: R) w) (hgd : o.guard = none) (s x : Operand)
    (ho : o.op = .call { callee := .builtin .append, args := #[s, x], argTypes := #[32, 32] }) (hs : a.eval s = v)
    (la : Option Addr) (m c : Nat) (hx : a.eval x = .slice la m c) (hl : EIn w la m zs) (h0 : la = none → m = 0 ∧ c = 0)
    (hsm : (xs.length + zs.length) * 16 ≤ 140737488355328)
    (hk : ∀ v' w', St o0 (lstE v' (xs ++ zs) :: R) w' → wpList Tryz.prog ops Q rest (a.put o.dst v') w') :
    wpList Tryz.prog ops Q (o :: rest) a w := by
  obtain ⟨i0, hi0, hz0, hz1, hz2⟩ := info_parts Tryz.infoE
  have p0 : w.ownsRow 0 41 2 v xs.length (eC xs) := h.get 0 rfl
  have hm := hl.1
  cases la with
  | none =>
    obtain ⟨rfl, rfl⟩ := h0 rfl
    obtain rfl : zs = [] := List.length_eq_zero_iff.1 hl.1.symm
    exact wpList_append_own_none hgd s x 32 ho 0 41 i0 2 Tryz.underlying32 hi0 v _ _ hs p0 hx (hk v w (by rw [List.append_nil]; exact h))
  | some ad =>
    refine wpList_append_own_at w hgd s x 32 ho 0 41 i0 _ 2 16 Tryz.underlying32 hi0 hz0 hz1 hz2 rfl (by omega) v _ _ hs p0 ad m c (eC zs) hx (by rw [eC_length, ← hl.1]) ?_ (eC_one zs) (by unfold maxLen; omega) (by omega) (Nat.zero_le _) (fun v' w' h1 h2 _ h3 => hk _ _ ?_)
    · intro j u hu
      have hj := (List.getElem?_eq_some_iff.1 hu).1
      rw [eC_length, ← hl.1] at hj
      obtain ⟨g, off, e, hc⟩ := hl.2 (by omega)
      simp only [Option.some.injEq] at e
      subst e
      rw [Addr.add_lit]
      exact hc j u hu
    · have s1 := h.ownGrow 0 rfl h1 ((Kept.refl _ w).grown h2 (fun k e => .inl e)) (by
        rcases h3 with e | e
        · exact .inl e
        · exact .inr ⟨_, e, Nat.le_refl _⟩)
      have e1 : (xs ++ zs).length = xs.length + m := by rw [List.length_append, hm]
      show St o0 (ownI 41 2 _ (xs ++ zs).length (eC (xs ++ zs)) :: _) _
      rw [e1, eC_append]
      exact s1
/-- append(v, l...), as one step of a region that draws its order. -/
theorem step_appE_st {ops : Array Oper} {o : Oper} {a : Act} {K : Act → World → Prop} {Q : Exit → Act → World → Prop} {E : Prop} (h : St o0 (lstE v xs :: R) w) (hgd : o.guard = none) (s x : Operand)
    (ho : o.op = .call { callee := .builtin .append, args := #[s, x], argTypes := #[32, 32] }) (hs : a.eval s = v)
    (la : Option Addr) (m c : Nat) (hx : a.eval x = .slice la m c) (hl : EIn w la m zs) (h0 : la = none → m = 0 ∧ c = 0)
    (hsm : (xs.length + zs.length) * 16 ≤ 140737488355328)
    (hk : ∀ v' w', St o0 (lstE v' (xs ++ zs) :: R) w' → K (a.put o.dst v') w') :
    if Region.wanted o (yielded ops a.tmps) = true then Oper.wp Tryz.prog o a w K Q else E := by
  have hw : Region.wanted o (yielded ops a.tmps) = true := by simp [Region.wanted, hgd]
  rw [if_pos hw]
  obtain ⟨i0, hi0, hz0, hz1, hz2⟩ := info_parts Tryz.infoE
  have p0 : w.ownsRow 0 41 2 v xs.length (eC xs) := h.get 0 rfl
  have hm := hl.1
  cases la with
  | none =>
    obtain ⟨rfl, rfl⟩ := h0 rfl
    obtain rfl : zs = [] := List.length_eq_zero_iff.1 hl.1.symm
    have hrun := run_append_owned_none (P := Tryz.prog) (w := w) 0 32 o.type 41 i0 2 Tryz.underlying32 hi0 v _ _ p0
    unfold Oper.wp
    simp [execOp, ho, resolve, invoke, builtin, hs, hx, hrun, Result.andThen]
    exact hk v w (by rw [List.append_nil]; exact h)
  | some ad =>
    obtain ⟨v', w', hr, h1, h2, -, h3⟩ := run_append_own_at (P := Tryz.prog) w 0 32 o.type 41 i0 _ 2 16 Tryz.underlying32 hi0 hz0 hz1 hz2 rfl (by omega) v _ _ p0 ad m c (eC zs) (by rw [eC_length, ← hl.1]) (by
      intro j u hu
      have hj := (List.getElem?_eq_some_iff.1 hu).1
      rw [eC_length, ← hl.1] at hj
      obtain ⟨g, off, e, hc⟩ := hl.2 (by omega)
      simp only [Option.some.injEq] at e
      subst e
      rw [Addr.add_lit]
      exact hc j u hu) (eC_one zs) (by unfold maxLen; omega) (by omega) (Nat.zero_le _)
    unfold Oper.wp execOp
    simp only [ho, resolve, invoke, builtin, Sem.run_bind, Sem.run_pure, Result.andThen_ok, List.map_toArray, List.map_cons, List.map_nil, hs, hx, hr]
    refine hk v' w' ?_
    have s1 := h.ownGrow 0 rfl h1 ((Kept.refl _ w).grown h2 (fun k e => .inl e)) (by
      rcases h3 with e | e
      · exact .inl e
      · exact .inr ⟨_, e, Nat.le_refl _⟩)
    have e1 : (xs ++ zs).length = xs.length + m := by rw [List.length_append, hm]
    show St o0 (ownI 41 2 _ (xs ++ zs).length (eC (xs ++ zs)) :: _) _
    rw [e1, eC_append]
    exact s1
theorem ein_box (h : St o0 its w) (x y : Int) : EIn (w.alloc (.cells #[.int .i64 x, .int .i64 y] 41)) (some ⟨w.heap.size, 0, none⟩) 1 [(x, y)] := st_ein (e_new h [(x, y)] (by unfold maxLen; simp)) 0 rfl rfl
theorem e_under (h : St o0 (lstE v xs :: R) w) (x y : Int) : St o0 (lstE v xs :: lstE (.slice (some ⟨w.heap.size, 0, none⟩) 1 1) [(x, y)] :: R) (w.alloc (.cells #[.int .i64 x, .int .i64 y] 41)) := (e_new h [(x, y)] (by unfold maxLen; simp)).perm (List.Perm.swap _ _ _)
theorem e_drop1 {A B : It} (h : St o0 (A :: B :: R) w) : St o0 (A :: R) w := (h.perm (List.Perm.swap _ _ _)).pop
end
end Go.Proofs.YtbpilhjomfkpaaaGreatDoor
