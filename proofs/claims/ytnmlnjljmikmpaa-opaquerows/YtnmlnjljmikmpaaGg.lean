/- Package ghost: put in whole; Build. -/
import Derived.Test.YtnmlnjljmikmpaaGf

namespace Go.Proofs.Ytnmlnjljmikmpaa
open Go.RowKit Go.MapKept
open Go.Maps (Keyed)
set_option linter.unusedVariables false
set_option linter.unusedSimpArgs false
attribute [local go_sem ↓] Go.wp_at_zero Go.wp_at_succ

theorem opR_begin {ls : List Pr} {op : Int → Option Nat} (h : OpR ls op) {x : Int} (hx : op x = none) (n : Nat) : OpR ((x, (n : Int)) :: ls) (opSet op x (some n)) := by
  intro y v
  unfold opSet
  by_cases e : y = x
  · subst e
    simp only [if_true, List.mem_cons, Prod.mk.injEq, true_and]
    constructor
    · rintro (rfl | hm)
      · exact ⟨n, rfl, rfl⟩
      · exact absurd rfl (opR_none h hx _ hm)
    · rintro ⟨p, h1, rfl⟩
      simp only [Option.some.injEq] at h1
      exact .inl (by rw [h1])
  · simp only [if_neg e, List.mem_cons, Prod.mk.injEq, e, false_and, false_or]
    exact h y v
theorem opR_end {ls : List Pr} {op : Int → Option Nat} (h : OpR ls op) (x : Int) : OpR (lackP ls x) (opSet op x none) := by
  intro y v
  unfold opSet lackP
  rw [List.mem_filter]
  by_cases e : y = x
  · subst e
    simp
  · simp only [if_neg e, bne_iff_ne, ne_eq, e, not_false_eq_true, and_true]
    exact h y v
theorem opR_nil : OpR [] Bk.zero.op := fun x v => by simp [Bk.zero]
theorem map_set_s {L : List Sm} {ss : List Sy} (hL : L.map Sm.s = ss) (p : Nat) (m' : Sm) : (L.set p m').map Sm.s = ss.set p m'.s := by rw [List.map_set, hL]
/-- How Build ends. -/
def BuiltE (w : World) (l : List Ev) (e : Ending) (w' : World) : Prop := ∃ sv L, e = .returned (.tuple #[sv, .int .i64 (outP l), .int .i64 (outE l)]) ∧ L.map Sm.s = outS l ∧ St w (stL sv L) w'
theorem drop_next {l : List Ev} {j : Nat} {v : Ev} (hv : l[j]? = some v) : l.drop j = v :: l.drop (j + 1) := by
  obtain ⟨h1, h2⟩ := List.getElem?_eq_some_iff.1 hv
  subst h2
  exact List.drop_eq_getElem_cons h1
end Go.Proofs.Ytnmlnjljmikmpaa
