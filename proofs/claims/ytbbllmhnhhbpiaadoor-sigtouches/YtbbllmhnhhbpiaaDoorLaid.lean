/- The library's table, as the row lists it: what the listed variable reads as gives the cells that the walks want. -/
import Derived.Test.YtbbllmhnhhbpiaaDoorUp
import Derived.ProofKit
import Derived.LaidMore
import Derived.OpenShut
import Derived.Stop.Joined
namespace Go.Proofs.YtbbllmhnhhbpiaaDoor
open Go.ChangeShapes Go.WideShapes Go.ChangeAt Go.RowKit
set_option linter.unusedVariables false

theorem own : ownKnob Tryd.prog.godebug = none := by kernel_rfl
theorem gTab : Tryd.prog.globalNamed "math/bits.deBruijn64tab" = some 0 := by kernel_rfl
theorem tTab : (Tryd.prog.globals[0]?).map (·.type) = some 48 := by kernel_rfl
def laid1 : List (String × DataW Unit) := [("math/bits.deBruijn64tab", Rows.laid_math_bits_deBruijn64tab)]

/-- The door's own heap meets the condition. -/
theorem door_met (os : Os) (args : Array Value) : laidMetH Tryd.prog laid1 ((World.doorLaid Tryd.prog 400 os).forCall (fun _ _ => 0) ⟨#[], args, []⟩).memory :=
  laidMetH_of_parts3 (fuel := 8) (laidMet_of_run' 8 (by kernel_rfl) (by kernel_rfl)) (by kernel_rfl) (by kernel_rfl)

theorem tab_datum {H : Type} : (Rows.laid_math_bits_deBruijn64tab : DataW H) = .agg (Lib.deBruijn64tab.map fun n : Nat => .lit (.int .u8 (n : Int))) := rfl

/-- What the condition gives: the table's cells. -/
theorem of_laid {W : World} (h : laidMetH Tryd.prog laid1 W) : Tab W := by
  rw [MakeChecks.laidMetH_plain _ _ _ (by kernel_rfl)] at h
  obtain ⟨ps, ⟨g0, t0, cs0, f0, p0, q0, hg0, ht0, hv0, hd0, _⟩, _, _⟩ := h
  obtain rfl := Option.some.inj (gTab.symm.trans hg0)
  obtain rfl := Option.some.inj (tTab.symm.trans ht0)
  obtain ⟨xs, m1, rfl, hx1, hlen, hn, hel⟩ := DataW.trod_array Tryd.underlying48 hd0
  have c5 : Tryd.prog.cellsOf 5 = 1 := by kernel_rfl
  have c48 : Tryd.prog.cellsOf 48 = 64 := by kernel_rfl
  rw [c48] at hlen
  rw [tab_datum] at hx1
  simp only [Prod.mk.injEq, DataW.agg.injEq] at hx1
  intro j hj
  have hx := hel j hj
  rw [c5, Nat.mul_one] at hx
  have hxj : xs[j]? = some (xs[j]'(by omega)) := List.getElem?_eq_getElem (by omega)
  rw [hxj] at hx
  obtain ⟨k, e1, e2, _⟩ := DataW.trod_int Tryd.underlying5 hx
  have hk : k = (Lib.deBruijn64tab.getD j 0 : Nat) := by
    have h3 := congrArg (fun l : List (DataW Unit) => l[j]?) hx1.1
    simp only [List.getElem?_map, hxj, Option.map_some, e2] at h3
    have hl : Lib.deBruijn64tab.length = 64 := rfl
    rw [List.getElem?_eq_getElem (by omega)] at h3
    simp only [Option.map_some, Option.some.injEq, DataW.lit.injEq, Lit.int.injEq, true_and] at h3
    rw [← h3]
    simp [List.getD, hl, hj]
  subst hk
  have hc := World.var?_cell hg0 hv0 j
  rw [hc]
  have h4 : (cs0.toList.drop j).head? = some (.int .u8 (Lib.deBruijn64tab.getD j 0 : Nat)) := by
    cases hdr : cs0.toList.drop j with
    | nil => rw [hdr] at e1; simp at e1
    | cons a l => rw [hdr] at e1; simp at e1; simp [e1]
  rw [List.head?_drop] at h4
  simpa using h4
end Go.Proofs.YtbbllmhnhhbpiaaDoor
