/- Stacks that were made later than a world; the document's example: awake answers true. -/
import Derived.Test.YtgbhefbhleflhaaLists
namespace Go.Proofs.Ytgbhefbhleflhaa
open Go.RowKit
set_option linter.unusedVariables false
set_option linter.unusedSimpArgs false

/-- A stack that was made later than w0; nothing of w0 has turned. -/
structure Held (t e : TypeId) (z : Nat) (w0 w : World) (p : Nat) (most : Int) (v : Value) (n : Nat) (xs : List Value) : Prop where
  st : StackAt t e z w0.heap.size w p most v n xs
  kept : Kept (fun _ => False) w0 w
section
variable {t e : TypeId} {z : Nat} {w0 w w' : World} {p : Nat} {most : Int} {v : Value} {n : Nat} {xs : List Value}
theorem Held.turned {n' : Nat} {xs' : List Value} (h : Held t e z w0 w p most v n xs) (ht : Turned t e z w0.heap.size w w' p most v n' xs') : ∃ v', Held t e z w0 w' p most v' n' xs' := by
  obtain ⟨v', a1, a2, a3⟩ := ht
  refine ⟨v', a1, h.kept.trans a2 (fun i hi f => ?_)⟩
  have := (h.st.foot f).1
  omega
theorem Held.calm (h : Held t e z w0 w p most v n xs) (k : Kept (fun _ => False) w w') : Held t e z w0 w' p most v n xs :=
  ⟨h.st.calm k, h.kept.trans k (fun _ _ f => f)⟩
end

set_option maxRecDepth 100000 in
set_option maxHeartbeats 1000000 in
theorem awake_any (w : World) :
    Calls Try.prog 6 #[] w fun e w' => e = .returned (.bool true) ∧ Kept (fun _ => False) w w' := by
  go_enter Try.func6, Try.ntmps6
  go_wp2_with fail
  refine (newI_no 257 _ (by omega)).mono ?_
  rintro e w1 ⟨rfl, rfl⟩
  go_wp2_with fail
  refine (newI_yes 2 _ (by omega) (by omega)).mono ?_
  rintro e w2 ⟨rfl, h0, k0⟩
  have H0 : Held 67 3 1 w1 w2 w1.heap.size 2 (.slice none 0 0) 0 [] := ⟨h0, k0⟩
  clear h0 k0
  generalize w1.heap.size = p at H0 ⊢
  go_wp2_with fail
  refine (pushI_ok 5 (by omega) H0.st H0.kept.size).mono ?_
  rintro e w3 ⟨rfl, ht⟩
  obtain ⟨v1, H1⟩ := H0.turned ht
  clear ht H0
  go_wp2_with fail
  refine (pushI_ok 6 (by omega) H1.st H1.kept.size).mono ?_
  rintro e w4 ⟨rfl, ht⟩
  obtain ⟨v2, H2⟩ := H1.turned ht
  clear ht H1
  go_wp2_with fail
  refine (pushI_full _ (by omega) H2.st).mono ?_
  rintro e w5 ⟨rfl, hk⟩
  have H3 := H2.calm hk
  clear hk H2
  go_wp2_with fail
  refine (peekI_ok 1 0 rfl H3.st).mono ?_
  rintro e w6 ⟨rfl, k, rfl⟩
  have H4 := H3.calm ((Kept.refl _ _).drewN k)
  clear H3
  generalize w5.drewN k = w6 at *
  go_wp2_with fail
  refine (swapI_ok (n := 0) (ys := [5, 6]) H4.st).mono ?_
  rintro e w7 ⟨rfl, ht⟩
  obtain ⟨v3, H5⟩ := H4.turned ht
  replace H5 : Held 67 3 1 w1 w7 p 2 v3 2 [.int .i64 6, .int .i64 5] := H5
  clear ht H4
  go_wp2_with fail
  refine (popI_ok (n := 1) H5.st).mono ?_
  rintro e w8 ⟨rfl, ht⟩
  obtain ⟨v4, H6⟩ := H5.turned ht
  clear ht H5
  have hL := lenI_any H6.st
  have hk := H6.kept
  clear H6
  go_wp2_with fail
  refine hL.mono ?_
  rintro e w9 ⟨rfl, rfl⟩
  clear hL
  go_wp2
  go_ret
  exact ⟨rfl, hk⟩
end Go.Proofs.Ytgbhefbhleflhaa
