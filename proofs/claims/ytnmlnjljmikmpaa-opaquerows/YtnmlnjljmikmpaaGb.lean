/- Package ghost: the book in memory; takes, openOf, end. -/
import Derived.Test.YtnmlnjljmikmpaaGa

namespace Go.Proofs.Ytnmlnjljmikmpaa
open Go.RowKit Go.MapKept
open Go.Maps (Keyed)
set_option linter.unusedVariables false
set_option linter.unusedSimpArgs false
attribute [local go_sem ↓] Go.wp_at_zero Go.wp_at_succ

abbrev mvI (m : Sm) : It := lstR mC 46 6 (.slice m.la m.s.ms.length m.lc) m.s.ms
/-- Stories of the call's own. -/
abbrev stL (v : Value) (L : List Sm) : List It := lstR sC 44 10 v L :: L.map mvI
/-- The map of open stories. -/
def OpR (ls : List Pr) (op : Int → Option Nat) : Prop := ∀ x v, (x, v) ∈ ls ↔ ∃ p : Nat, op x = some p ∧ v = (p : Int)
theorem lookV_plain {P : Program} {k t e : TypeId} {w : World} {b : Nat} {ls : List Pr} (h : MapV w b ls) (hk : P.underlying k = some (.int .i64)) (ht : P.underlying t = some (.map k e)) {x v : Int} (hm : (x, v) ∈ ls) :
    (Instr.lookup t (.map (some b)) (.int .i64 x) false).run P w = .ok (.int .i64 v) w := by
  obtain ⟨es, c, hb, hB⟩ := h
  have hx := Go.Maps.keyOf_int_mk hk (wf_key (hB.2.1.2 _ hm))
  rcases (lawI hk).find w hx es.toList (hB.keys hk) with ⟨h1, h2⟩ | ⟨j, e0, h1, h2, h3⟩
  · obtain ⟨e0, he, k1, _⟩ := hB.to_mem hm
    exact absurd k1 (h2 e0 he)
  · obtain ⟨p, hp, k1, k2⟩ := hB.of_mem (List.mem_of_getElem? h2)
    rw [k1] at h3
    simp only [Value.int.injEq, true_and] at h3
    have := hB.2.1.uniq hp hm h3
    subst this
    simp [Instr.lookup, run_underlying ht, MapKept.run_getObj_map hb, (lawI hk).check w _ hx, h1, Result.andThen, k2]
theorem Try.zeroInt (w : World) : (zeroValue 3).run Try.prog w = .ok (.int .i64 0) w := by simp [go_sem]
theorem sy_at {L : List Sm} {ss : List Sy} (hL : L.map Sm.s = ss) {p : Nat} (hp : p < ss.length) : ∃ m, L[p]? = some m ∧ m.s = ss.getD p Sy.zero := by
  subst hL
  rw [List.length_map] at hp
  exact ⟨L[p], List.getElem?_eq_getElem hp, by simp [List.getD_eq_getElem?_getD, hp]⟩
theorem opR_none {ls : List Pr} {op : Int → Option Nat} (h : OpR ls op) {x : Int} (hx : op x = none) : ∀ p ∈ ls, p.1 ≠ x := by
  rintro ⟨a, b⟩ hp rfl
  obtain ⟨p, h1, _⟩ := (h a b).1 hp
  simp only at hx
  rw [hx] at h1
  cases h1
theorem opR_some {ls : List Pr} {op : Int → Option Nat} (h : OpR ls op) {x : Int} {p : Nat} (hx : op x = some p) : (x, (p : Int)) ∈ ls := (h x p).2 ⟨p, hx, rfl⟩
end Go.Proofs.Ytnmlnjljmikmpaa
