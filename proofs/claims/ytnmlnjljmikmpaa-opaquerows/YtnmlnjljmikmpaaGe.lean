/- Package ghost: put, where a story moves. -/
import Derived.Test.YtnmlnjljmikmpaaGd

namespace Go.Proofs.Ytnmlnjljmikmpaa
open Go.RowKit Go.MapKept
open Go.Maps (Keyed)
set_option linter.unusedVariables false
set_option linter.unusedSimpArgs false
attribute [local go_sem ↓] Go.wp_at_zero Go.wp_at_succ

theorem perm_at {its : List It} {i : Nat} {A : It} (hi : its[i]? = some A) : its.Perm (A :: its.eraseIdx i) := by
  obtain ⟨h1, h2⟩ := List.getElem?_eq_some_iff.1 hi
  subst h2
  exact perm_idxV its i h1
theorem perm_set {its : List It} {i : Nat} {A B : It} (hi : its[i]? = some A) : (its.set i B).Perm (B :: its.eraseIdx i) := by
  have h := perm_at (set_self (A := B) hi)
  rwa [List.eraseIdx_set_eq] at h
/-- append(v, l...) as one step of a region that draws its order, the list at whatever place among the things. -/
theorem step_appR_at {α : Type} {f : α → List Value} {k b : Nat} {P : Program} {t sl : TypeId} {o0 w : World} {its : List It} {v : Value} {xs zs : List α} {ops : Array Oper} {o : Oper} {a : Act} {K : Act → World → Prop} {Q : Exit → Act → World → Prop} {E : Prop} (D : RowT P t sl k b f) (h : St o0 its w) (i : Nat) (hi : its[i]? = some (lstR f t k v xs)) (hgd : o.guard = none) (s x : Operand)
    (ho : o.op = .call { callee := .builtin .append, args := #[s, x], argTypes := #[sl, sl] }) (hs : a.eval s = v)
    (la : Option Addr) (m c : Nat) (hx : a.eval x = .slice la m c) (hl : RIn f w la m zs) (h0 : la = none → m = 0 ∧ c = 0)
    (hsm : (xs.length + m) * b ≤ 140737488355328)
    (hk : ∀ v' w', St o0 (its.set i (lstR f t k v' (xs ++ zs))) w' → K (a.put o.dst v') w') :
    if Region.wanted o (yielded ops a.tmps) = true then Oper.wp P o a w K Q else E :=
  step_appR D (h.perm (perm_at hi)) hgd s x ho hs la m c hx hl h0 hsm (fun v' w' s => hk v' w' (s.perm (perm_set hi).symm))
theorem buildM (W : World) (a c d f : Int) (b e : Bool) : (Instr.buildSlice 42 1 #[(0, .agg #[.int .i64 a, .bool b, .int .i64 c, .int .i64 d, .bool e, .int .i64 f])]).run Try.prog W = .ok (.slice (some ⟨W.heap.size, 0, none⟩) 1 1) (W.alloc (.cells #[.int .i64 a, .bool b, .int .i64 c, .int .i64 d, .bool e, .int .i64 f] 46)) := by kernel_rfl
theorem sm_moved {m : Sm} (v : Ev) (la : Option Addr) (lc : Nat) : sC ⟨m.s.moved v, la, lc⟩ = (sC m).set 9 (.slice la (m.s.ms.length + 1) lc) := by simp [sC, Sy.moved]
end Go.Proofs.Ytnmlnjljmikmpaa
