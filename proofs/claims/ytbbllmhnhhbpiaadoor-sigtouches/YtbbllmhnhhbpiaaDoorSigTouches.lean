/- SigTouches, called with any two signatures, the library's table being as the program's text lays it, returns true, and nothing that was there has turned. No other condition. -/
import Derived.Test.YtbbllmhnhhbpiaaDoorTouchWalk
import Derived.Test.YtbbllmhnhhbpiaaDoorArgs
import Derived.Test.YtbbllmhnhhbpiaaDoorLaid
import Derived.Test.YtbbllmhnhhbpiaaDoorCards
import Derived.Test.YtbbllmhnhhbpiaaDoorTie
import Derived.SevenTiedAt
import Derived.WideKeyPair
import Derived.SizedLaws
namespace Go.Proofs.YtbbllmhnhhbpiaaDoor.sigTouches
open Go.ChangeShapes Go.WideShapes Go.ChangeAt Go.RowKit Go.WideMaps
set_option linter.unusedVariables false

theorem key31 : ArrKey Tryd.prog 31 29 2 := ⟨Tryd.underlying31, by kernel_rfl, by kernel_rfl, by kernel_rfl⟩

set_option maxRecDepth 100000 in
theorem lifted (os : Os) (started : os.Started) (H : Type) (enc : TypeId × Value → H) :
    ReturnsInHanded {} Tryd.checked os 8 .any (fun w args => (Rows.sigTouchesSpec.pre enc Tryd.prog Tryd.f8 [] false w args ∧ laidMetH Tryd.prog laid1 w) ∧ sizedMet enc Tryd.prog Tryd.f8 (OpenSpec.ofChange Rows.sigTouchesSpec) false w args)
      (Rows.sigTouchesSpec.post enc Tryd.prog Tryd.f8 false true false false) := by
  refine returnsInHanded_of_change_and (C := Tryd.checked) (X := fun w _ => laidMetH Tryd.prog laid1 w) (fun _ _ _ hh h => h.of_heap hh) own started (by kernel_rfl) Tryd.func8
    (ChangeSpec.witness_shaped (enc := enc) (C := Tryd.checked) (os := os) (X := fun w _ => laidMetH Tryd.prog laid1 w) false (World.doorLaid Tryd.prog 400 os) #[.agg #[.int .u64 0, .int .u64 0], .agg #[.int .u64 0, .int .u64 0]] 8 rfl (World.shaped_of_RefB (by kernel_rfl) (by kernel_rfl)) (by kernel_rfl) (by kernel_rfl) (by kernel_rfl) (door_met os _)) ?_
  intro W base args ds gs before hval0 hW _ hsz0 hL _
  have hval : ∀ (j : Nat) t v, Tryd.f8.params[j]? = some t → args[j]? = some v → Value.okWide Tryd.prog W .any base t v := hval0
  have hsz : (DataW.weightsEach Tryd.prog (Tryd.f8.params.toList ++ Rows.sigTouchesSpec.plain.varTypes Tryd.prog) (ds ++ gs)).all (· ≤ reachBytes) = true := hsz0
  have hW' := hW
  obtain ⟨p, q, hA0, hV, rfl, hfz, hnd⟩ := hW
  have hA : DataW.TrodAll enc Tryd.prog W 0 (fun _ => true) true Tryd.f8.params.toList args.toList ds p := hA0
  rw [Tryd.params8] at hA hval hsz
  obtain ⟨v0, vs0, d0, ds0, p0, q0, hargs, rfl, rfl, h0, r0⟩ := trodAll_cons hA
  obtain ⟨v1, vs1, d1, ds1, p1, q1, rfl, rfl, rfl, h1, r1⟩ := trodAll_cons r0
  obtain ⟨rfl, rfl, rfl⟩ := trodAll_nil r1
  obtain rfl : args = #[v0, v1] := by cases args; simp_all
  obtain ⟨rfl, rfl⟩ := trodVars_none hV
  obtain ⟨a0, b0, rfl, rfl, rfl, wa0, wb0⟩ := open_pair key31 Tryd.underlying29 (hval 0 31 v0 rfl rfl) h0
  obtain ⟨x0, rfl, hx0⟩ := wf_nat wa0
  obtain ⟨y0, rfl, hy0⟩ := wf_nat wb0
  obtain ⟨a1, b1, rfl, rfl, rfl, wa1, wb1⟩ := open_pair key31 Tryd.underlying29 (hval 1 31 v1 rfl rfl) h1
  obtain ⟨x1, rfl, hx1⟩ := wf_nat wa1
  obtain ⟨y1, rfl, hy1⟩ := wf_nat wb1
  clear hA0 hval0
  simp only [List.append_nil] at hW'
  refine (sigTouches_walk ⟨x0, y0⟩ ⟨x1, y1⟩ ⟨hx0, hy0⟩ ⟨hx1, hy1⟩ W (of_laid hL)).mono fun e W' ⟨he, kept⟩ => ?_
  have bel : Below W.heap.size W W' := kept.below (Nat.le_refl _) (fun _ _ f => f)
  subst he
  exact ⟨_, rfl, _, _, _, [], [], [], hW', trodAll_mk1 (shut_bool Tryd.underlying4 _), (trodAll_cons_mk (shut_pair key31 Tryd.underlying29 wa0 wb0) (trodAll_cons_mk (shut_pair key31 Tryd.underlying29 wa1 wb1) trodAll_mk0)), rfl, bel.frame _, fun h => by cases h⟩

theorem over : Rows.sigTouchesRow.holds Tryd.pinned (OpenSpec.ofChange Rows.sigTouchesSpec) :=
  OpenClaim.holds_of_wide 8 Tryd.f8 rfl rfl rfl rfl rfl rfl rfl ⟨rfl, rfl, rfl, rfl, rfl⟩ rfl rfl rfl rfl rfl (by kernel_rfl) Tryd.func8 (by kernel_rfl)
    (of_decide_eq_true (by kernel_rfl)) (by unfold Func.isWrapper; first | (rw [if_pos (by decide +kernel)]; kernel_rfl) | (rw [if_neg (by decide +kernel)]; exact ⟨rfl, rfl⟩))
    (fun os started H enc _ => lifted os started H enc)

theorem card : Rows.SigTouchesCardSaid :=
  Claim7.holds_tied_plain_at .later [] [.data] true (true, "954c5477bb34b2118ebe2ef4ab9eb6b927efc25a0ad6bec3fbcf6d20bc5412d9") false
    over (fun _ h => by cases h) (by kernel_rfl) (fun _ h => by cases h) sigTouches_row_tie rfl ⟨rfl, rfl⟩ (by kernel_rfl) rfl
    (fun f fn hf hfn => by
      obtain rfl : f = 8 := Option.some.inj ((show Tryd.prog.funcNamed "quash/quashlaw02.SigTouches" = some 8 by kernel_rfl).symm.trans hf) |>.symm
      obtain rfl : fn = Tryd.f8 := (Option.some.inj (Tryd.func8.symm.trans hfn)).symm
      exact ⟨by kernel_rfl, fun j t ht => by
        rw [Tryd.params8] at ht
        have hm : t ∈ ([31, 31] : List TypeId) := by simpa using Array.mem_of_getElem? ht
        have hall : (([31, 31] : List TypeId).all fun u => !Tryd.prog.wantsStandIn u) = true := by kernel_rfl
        exact (show Tryd.prog.wantsStandIn t = false by simpa using List.all_eq_true.1 hall t hm)⟩)
    (by kernel_rfl)
end Go.Proofs.YtbbllmhnhhbpiaaDoor.sigTouches

namespace Go.Proofs.YtbbllmhnhhbpiaaDoor
theorem sigTouches_holds : Rows.SigTouchesCardSaid := sigTouches.card
#print axioms sigTouches_holds
end Go.Proofs.YtbbllmhnhhbpiaaDoor
