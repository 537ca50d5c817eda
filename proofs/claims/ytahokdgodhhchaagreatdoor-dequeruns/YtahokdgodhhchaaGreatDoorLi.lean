/- Lists of int64 of the call's own, and what is put behind them. -/
import Derived.Test.YtahokdgodhhchaaGreatDoorXs
import Derived.Deep.RegionLaw
namespace Go.Proofs.YtahokdgodhhchaaGreatDoor
open Go.RowKit
set_option linter.unusedVariables false
set_option linter.unusedSimpArgs false

abbrev lstI (v : Value) (zs : List Int) : It := ownI 2 1 v zs.length (xC zs)
section
variable {o0 w : World} {R its : List It} {v : Value} {xs zs : List Int}
theorem st_xin {la : Option Addr} {n lc : Nat} (h : St o0 its w) (i : Nat) (hi : its[i]? = some (ownI 2 1 (.slice la n lc) n (xC zs))) (hn : n = zs.length) : XIn w la n zs := by
  subst hn
  obtain ⟨la', lc', e, hx, _⟩ := own_xin (show w.ownsRow 0 2 1 (.slice la zs.length lc) zs.length (xC zs) from h.get i hi)
  simp only [Value.slice.injEq] at e
  obtain ⟨rfl, _, rfl⟩ := e
  exact hx
theorem lst_new (h : St o0 its w) (zs : List Int) (hm : zs.length ≤ maxLen) : St o0 (lstI (.slice (some ⟨w.heap.size, 0, none⟩) zs.length zs.length) zs :: its) (w.alloc (.cells (xC zs).toArray 2)) := h.new64 zs hm
theorem lst_nil (h : St o0 its w) : St o0 (lstI (.slice none 0 0) [] :: its) w := h.own (Kept.refl _ _) (World.ownsRow_nil _ _ _ _)
/-- append(v, l...) -/
theorem wpList_app_st {ops : Array Oper} {rest : List Oper} {o : Oper} {a : Act} {Q : Exit → Act → World → Prop} (h : St o0 (lstI v xs :: R) w) (hgd : o.guard = none) (s x : Operand)
    (ho : o.op = .call { callee := .builtin .append, args := #[s, x], argTypes := #[24, 24] }) (hs : a.eval s = v)
    (la : Option Addr) (m c : Nat) (hx : a.eval x = .slice la m c) (hl : XIn w la m zs) (h0 : la = none → m = 0 ∧ c = 0)
    (hsm : (xs.length + zs.length) * 8 ≤ 140737488355328)
    (hk : ∀ v' w', St o0 (lstI v' (xs ++ zs) :: R) w' → wpList Tryz.prog ops Q rest (a.put o.dst v') w') :
    wpList Tryz.prog ops Q (o :: rest) a w := by
  obtain ⟨i0, hi0, hz0, hz1, hz2⟩ := info_parts Tryz.infoX
  have p0 : w.ownsRow 0 2 1 v xs.length (xC xs) := h.get 0 rfl
  have hm := hl.1
  cases la with
  | none =>
    obtain ⟨rfl, rfl⟩ := h0 rfl
    obtain rfl : zs = [] := List.length_eq_zero_iff.1 hl.1.symm
    exact wpList_append_own_none hgd s x 24 ho 0 2 i0 1 Tryz.underlying24 hi0 v _ _ hs p0 hx (hk v w (by rw [List.append_nil]; exact h))
  | some ad =>
    refine wpList_append_own_at w hgd s x 24 ho 0 2 i0 _ 1 8 Tryz.underlying24 hi0 hz0 hz1 hz2 rfl (by omega) v _ _ hs p0 ad m c (xC zs) hx (by rw [xC_length, ← hl.1, Nat.mul_one]) ?_ (xC_one zs) (by unfold maxLen; omega) (by omega) (Nat.zero_le _) (fun v' w' h1 h2 _ h3 => hk _ _ ?_)
    · intro j u hu
      have hj := (List.getElem?_eq_some_iff.1 hu).1
      rw [xC_length, ← hl.1] at hj
      obtain ⟨g, off, e, hc⟩ := hl.2 (by omega)
      simp only [Option.some.injEq] at e
      subst e
      rw [Addr.add_lit, hc j hj]
      rw [xC_at zs j (by rw [← hl.1]; exact hj)] at hu
      exact hu
    · have s1 := h.ownGrow 0 rfl h1 ((Kept.refl _ w).grown h2 (fun k e => .inl e)) (by
        rcases h3 with e | e
        · exact .inl e
        · exact .inr ⟨_, e, Nat.le_refl _⟩)
      have e1 : (xs ++ zs).length = xs.length + m := by rw [List.length_append, hm]
      show St o0 (ownI 2 1 _ (xs ++ zs).length (xC (xs ++ zs)) :: _) _
      rw [e1, xC_append]
      exact s1
/-- append(v, l...), as one step of a region that draws its order. -/
theorem step_app_st {ops : Array Oper} {o : Oper} {a : Act} {K : Act → World → Prop} {Q : Exit → Act → World → Prop} {E : Prop} (h : St o0 (lstI v xs :: R) w) (hgd : o.guard = none) (s x : Operand)
    (ho : o.op = .call { callee := .builtin .append, args := #[s, x], argTypes := #[24, 24] }) (hs : a.eval s = v)
    (la : Option Addr) (m c : Nat) (hx : a.eval x = .slice la m c) (hl : XIn w la m zs) (h0 : la = none → m = 0 ∧ c = 0)
    (hsm : (xs.length + zs.length) * 8 ≤ 140737488355328)
    (hk : ∀ v' w', St o0 (lstI v' (xs ++ zs) :: R) w' → K (a.put o.dst v') w') :
    if Region.wanted o (yielded ops a.tmps) = true then Oper.wp Tryz.prog o a w K Q else E := by
  have hw : Region.wanted o (yielded ops a.tmps) = true := by simp [Region.wanted, hgd]
  rw [if_pos hw]
  obtain ⟨i0, hi0, hz0, hz1, hz2⟩ := info_parts Tryz.infoX
  have p0 : w.ownsRow 0 2 1 v xs.length (xC xs) := h.get 0 rfl
  have hm := hl.1
  cases la with
  | none =>
    obtain ⟨rfl, rfl⟩ := h0 rfl
    obtain rfl : zs = [] := List.length_eq_zero_iff.1 hl.1.symm
    have hrun := run_append_owned_none (P := Tryz.prog) (w := w) 0 24 o.type 2 i0 1 Tryz.underlying24 hi0 v _ _ p0
    unfold Oper.wp
    simp [execOp, ho, resolve, invoke, builtin, hs, hx, hrun, Result.andThen]
    exact hk v w (by rw [List.append_nil]; exact h)
  | some ad =>
    obtain ⟨v', w', hr, h1, h2, -, h3⟩ := run_append_own_at (P := Tryz.prog) w 0 24 o.type 2 i0 _ 1 8 Tryz.underlying24 hi0 hz0 hz1 hz2 rfl (by omega) v _ _ p0 ad m c (xC zs) (by rw [xC_length, ← hl.1, Nat.mul_one]) (by
      intro j u hu
      have hj := (List.getElem?_eq_some_iff.1 hu).1
      rw [xC_length, ← hl.1] at hj
      obtain ⟨g, off, e, hc⟩ := hl.2 (by omega)
      simp only [Option.some.injEq] at e
      subst e
      rw [Addr.add_lit, hc j hj]
      rw [xC_at zs j (by rw [← hl.1]; exact hj)] at hu
      exact hu) (xC_one zs) (by unfold maxLen; omega) (by omega) (Nat.zero_le _)
    unfold Oper.wp execOp
    simp only [ho, resolve, invoke, builtin, Sem.run_bind, Sem.run_pure, Result.andThen_ok, List.map_toArray, List.map_cons, List.map_nil, hs, hx, hr]
    refine hk v' w' ?_
    have s1 := h.ownGrow 0 rfl h1 ((Kept.refl _ w).grown h2 (fun k e => .inl e)) (by
      rcases h3 with e | e
      · exact .inl e
      · exact .inr ⟨_, e, Nat.le_refl _⟩)
    have e1 : (xs ++ zs).length = xs.length + m := by rw [List.length_append, hm]
    show St o0 (ownI 2 1 _ (xs ++ zs).length (xC (xs ++ zs)) :: _) _
    rw [e1, xC_append]
    exact s1
theorem xin_new (h : St o0 its w) (z : Int) : XIn (w.alloc (.cells #[.int .i64 z] 2)) (some ⟨w.heap.size, 0, none⟩) 1 [z] := st_xin (lst_new h [z] (by unfold maxLen; simp)) 0 rfl rfl
theorem lst_under (h : St o0 (lstI v xs :: R) w) (z : Int) : St o0 (lstI v xs :: lstI (.slice (some ⟨w.heap.size, 0, none⟩) 1 1) [z] :: R) (w.alloc (.cells #[.int .i64 z] 2)) := (lst_new h [z] (by unfold maxLen; simp)).perm (List.Perm.swap _ _ _)
theorem lst_drop1 {A B : It} (h : St o0 (A :: B :: R) w) : St o0 (A :: R) w := (h.perm (List.Perm.swap _ _ _)).pop
end
end Go.Proofs.YtahokdgodhhchaaGreatDoor
