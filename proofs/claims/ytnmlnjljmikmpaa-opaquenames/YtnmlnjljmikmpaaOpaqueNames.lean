/- OpaqueNames, called with nothing in whatever memory, returns true, and nothing that was there has turned. No condition. -/
import Derived.Test.YtnmlnjljmikmpaaRows
import Derived.WalkKit
import Derived.ProofKit
import Derived.OpenShut
import Derived.Test.YtnmlnjljmikmpaaOy
namespace Go.Proofs.Ytnmlnjljmikmpaa.opaqueNames
open Go.ChangeShapes Go.WideShapes Go.ChangeAt Go.RowKit
set_option linter.unusedVariables false

theorem own : ownKnob Try.prog.godebug = none := by kernel_rfl

theorem walk (w : World) : Calls Try.prog 3 #[] w fun e w' => e = .returned (.bool true) ∧ Below w.heap.size w w' := by
  go_enter Try.func3, Try.ntmps3
  go_wp2_with fail
  refine (up_any _).mono ?_
  rintro e w' ⟨rfl, hk⟩
  go_wp2
  go_ret
  exact ⟨rfl, hk.below (Nat.le_refl _) (fun _ _ f => f)⟩

set_option maxRecDepth 100000 in
theorem lifted (os : Os) (started : os.Started) (H : Type) (enc : TypeId × Value → H) :
    ReturnsInHanded {} Try.checked os 3 .any (Rows.opaqueNamesSpec.pre6 enc Try.prog Try.f3 Rows.opaqueNamesRow.domain false) (Rows.opaqueNamesSpec.post enc Try.prog Try.f3 false true false false) := by
  refine returnsInHanded_of_change (C := Try.checked) own started (by kernel_rfl) Try.func3
    (ChangeSpec.witness6 (enc := enc) (C := Try.checked) false ⟨#[], #[], []⟩ 8 (by kernel_rfl) (by kernel_rfl) (by kernel_rfl) (by kernel_rfl)) ?_
  intro W base args ds gs before hval0 hW hcnd _
  have hval : ∀ (j : Nat) t v, Try.f3.params[j]? = some t → args[j]? = some v → Value.okWide Try.prog W .any base t v := hval0
  have hW' := hW
  obtain ⟨p, q, hA0, hV, rfl, hfz, hnd⟩ := hW
  have hA : DataW.TrodAll enc Try.prog W 0 (fun _ => true) true Try.f3.params.toList args.toList ds p := hA0
  rw [Try.params3] at hA hval
  obtain ⟨rfl, rfl, rfl⟩ := trodAll_none hA
  obtain ⟨rfl, rfl⟩ := trodVars_none hV
  clear hA0 hval0
  simp only [List.append_nil] at hW'
  refine (walk  W).mono fun e W' ⟨he, hg⟩ => ?_
  subst he
  exact ⟨_, rfl, _, _, _, [], [], [], hW', trodAll_mk1 (shut_bool Try.underlying4 _), rfl, rfl, hg.frame _, fun h => by cases h⟩

theorem jA : (Rows.opaqueNamesRow.inPlace == Try.prog.inPlace 3) = true := by kernel_rfl
theorem jB : (Rows.opaqueNamesRow.unfollowed == Try.prog.unfollowed 3) = true := by kernel_rfl
theorem jC : (Rows.opaqueNamesRow.recurses == Try.prog.recurses 3) = true := by kernel_rfl
theorem jD : (Rows.opaqueNamesRow.named == Try.prog.varsNamed 3) = true := by kernel_rfl
theorem jE : laidOutB Try.prog = true := by kernel_rfl
theorem jF : mapsRowed Try.prog = true := by kernel_rfl
theorem jG : (Rows.opaqueNamesRow.plainKeys == Try.prog.plainKeys) = true := by kernel_rfl
theorem jH : Try.prog.stopsHeard = true := by kernel_rfl
theorem jI : Try.prog.mayEnter = true := by kernel_rfl
theorem jJ : (Rows.opaqueNamesRow.lifted == Try.prog.liftsFinal) = true := by kernel_rfl
theorem closed : joinedFacts Try.prog 3 Try.f3 Rows.opaqueNamesSpec Rows.opaqueNamesRow = true := by
  unfold joinedFacts
  rw [jA, jB, jC, jD, jE, jF, jG, jH, jI, jJ]
  kernel_rfl
theorem named : Try.checked.prog.funcNamed Rows.opaqueNamesRow.func = some 3 := by kernel_rfl
theorem inst : Try.f3.isInstance Try.checked.prog Rows.opaqueNamesRow.origin Rows.opaqueNamesRow.targs := of_decide_eq_true (by kernel_rfl)
theorem wrap : Try.f3.isWrapper Try.checked.prog Rows.opaqueNamesRow.wrapper Rows.opaqueNamesRow.mainSum := by
  unfold Func.isWrapper; first | (rw [if_pos (by decide +kernel)]; kernel_rfl) | (rw [if_neg (by decide +kernel)]; exact ⟨rfl, rfl⟩)
theorem over : Rows.opaqueNamesRow.holds Try.pinned (OpenSpec.ofChange Rows.opaqueNamesSpec) :=
  OpenClaim.holds_of_wide 3 Try.f3 rfl rfl rfl rfl rfl rfl rfl ⟨rfl, rfl, rfl, rfl, rfl⟩ rfl rfl rfl rfl rfl named Try.func3 closed inst wrap
    (fun os started H enc _ => lifted os started H enc)

end Go.Proofs.Ytnmlnjljmikmpaa.opaqueNames

namespace Go.Proofs.Ytnmlnjljmikmpaa
theorem opaqueNames_holds : Rows.OpaqueNamesSaid := opaqueNames.over
#print axioms opaqueNames_holds
end Go.Proofs.Ytnmlnjljmikmpaa
