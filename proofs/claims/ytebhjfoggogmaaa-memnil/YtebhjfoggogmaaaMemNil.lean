/- MemNil, called with any int, int and int64 in whatever memory, returns true, and nothing that was there has turned. No condition. -/
import Derived.Test.YtebhjfoggogmaaaRows
import Derived.WalkKit
import Derived.ProofKit
import Derived.OpenShut
import Derived.Test.YtebhjfoggogmaaaUp
namespace Go.Proofs.Ytebhjfoggogmaaa.memNil
open Go.ChangeShapes Go.WideShapes Go.ChangeAt Go.RowKit
set_option linter.unusedVariables false

theorem own : ownKnob Try.prog.godebug = none := by kernel_rfl

theorem nilRow (wa W : World) (hW : W = (wa.alloc (.cells (ints [0, 0, 0, 0, 0, 0, 0, 0]) 2)).alloc (.cells #[.pointer none, .int .i64 1, .slice (some ⟨wa.heap.size, 0, none⟩) 8 8] 81)) :
    W.heap[wa.heap.size + 1]? = some (.cells #[.pointer none, .int .i64 1, .slice (some ⟨wa.heap.size, 0, none⟩) 8 8] 81) ∧ W.heap[wa.heap.size]? = some (.cells (ints [0, 0, 0, 0, 0, 0, 0, 0]) 2) ∧ Kept (fun _ => False) wa W := by
  subst hW
  generalize h1 : wa.alloc (.cells (ints [0, 0, 0, 0, 0, 0, 0, 0]) 2) = w1
  have s1 : w1.heap.size = wa.heap.size + 1 := by rw [← h1]; simp
  have m1 : w1.heap[wa.heap.size]? = some (.cells (ints [0, 0, 0, 0, 0, 0, 0, 0]) 2) := by rw [← h1]; exact heap_alloc_new wa _
  have k1 : Kept (fun _ => False) wa w1 := by rw [← h1]; exact (Kept.refl _ wa).alloc _
  refine ⟨?_, ?_, k1.alloc _⟩
  · rw [← s1]; exact heap_alloc_new w1 _
  · exact (Below.heap_alloc _ _ _ (by omega)).trans m1

set_option maxRecDepth 100000 in
set_option maxHeartbeats 1000000 in
theorem walk_in (a0 : Int) (k : Nat) (a2 : Int) (hk : k < 8) (w : World) :
    Calls Try.prog 7 #[.int .i64 a0, .int .i64 k, .int .i64 a2] w fun e w' => e = .returned (.bool true) ∧ Below w.heap.size w w' := by
  have g0 : (0 : Int) ≤ (k : Int) := Int.natCast_nonneg _
  have g1 : (k : Int) < 8 := by omega
  go_enter Try.func7, Try.ntmps7
  go_wp2_with fail
  refine (awake_any _).mono ?_
  rintro e wa ⟨rfl, hka⟩
  go_wp2_with fail
  refine (begin_nil _ _).mono ?_
  rintro e w1 ⟨rfl, rfl⟩
  go_wp2_with fail
  refine (newRow_int _ 1 8 _ (by omega) (by omega)).mono ?_
  rintro e w2 ⟨rfl, rfl⟩
  go_wp2_with fail
  generalize hW0 : (w1.alloc (.cells (ints [0, 0, 0, 0, 0, 0, 0, 0]) 2)).alloc (.cells #[.pointer none, .int .i64 1, .slice (some ⟨w1.heap.size, 0, none⟩) 8 8] 81) = W0
  obtain ⟨hr, hc, hkr⟩ := nilRow w1 W0 hW0.symm
  clear hW0
  have Hr := hr
  have Hc := hc
  refine (store_in (w1.heap.size + 1) (.pointer none) 1 w1.heap.size 8 k 8 (ints [0, 0, 0, 0, 0, 0, 0, 0]) a2 W0 Hr hk (by omega) rfl (fun w' => w' = W0.drew) (fun w' h => by subst h; exact ⟨Hr, Hc⟩) (note_nil _ _ _ _ _)).mono ?_
  rintro e w3 ⟨rfl, w4, h4, h5⟩
  have Hr2 : w3.heap[w1.heap.size + 1]? = some (.cells #[.pointer none, .int .i64 1, .slice (some ⟨w1.heap.size, 0, none⟩) 8 8] 81) := by
    rw [h5, h4, heap_setCell_far (by simp)]; exact Hr
  have Hc2 : w3.heap[w1.heap.size]? = some (.cells ((ints [0, 0, 0, 0, 0, 0, 0, 0]).setIfInBounds k (.int .i64 a2)) 2) := by
    rw [h5, h4]; exact heap_setCell_at (w := W0.drew) Hc _
  have hk2 : Kept (fun i => w1.heap.size ≤ i) w1 w3 := by
    rw [h5, h4]; exact ((hkr.mono (fun _ _ f => f.elim)).drew).setCell _ (.inl (Nat.le_refl _))
  clear h4 h5 hr hc
  go_wp2_with fail
  refine (load_in (w1.heap.size + 1) (.pointer none) 1 w1.heap.size 8 k 8 _ (.int .i64 a2) w3 Hr2 Hc2 hk (by omega) (by simp [ints, hk]) (fun w' => w' = w3.drew) (fun w' h => by subst h; exact ⟨Hr2, Hc2⟩) (note_nil _ _ _ _ _)).mono ?_
  rintro e w5 ⟨rfl, h6⟩
  have hb : Below w.heap.size w w5 := by
    rw [h6]
    exact ((hka.below (Nat.le_refl _) (fun _ _ f => f)).trans (hk2.below hka.size (fun i hi f => by have := hka.size; omega))).drew
  clear h6
  go_wp2_with fail
  refine (steps_nil _).mono ?_
  rintro e x1 ⟨rfl, rfl⟩
  go_wp2_with fail
  refine (done_nil _).mono ?_
  rintro e x2 ⟨rfl, rfl⟩
  go_wp2_with fail
  refine (most_nil _).mono ?_
  rintro e x3 ⟨rfl, rfl⟩
  go_wp2_with fail
  refine (log_nil _).mono ?_
  rintro e x4 ⟨rfl, rfl⟩
  go_wp2
  go_ret
  exact ⟨rfl, hb⟩

set_option maxRecDepth 100000 in
set_option maxHeartbeats 1000000 in
theorem walk_out (a0 a1 a2 : Int) (hk : ¬ (0 ≤ a1 ∧ a1 < 8)) (w : World) :
    Calls Try.prog 7 #[.int .i64 a0, .int .i64 a1, .int .i64 a2] w fun e w' => e = .returned (.bool true) ∧ Below w.heap.size w w' := by
  have HK : Hid (¬ (0 ≤ a1 ∧ a1 < ((8 : Nat) : Int))) := hk
  rcases Int.lt_or_le a1 0 with g0 | g1
  · have gd : decide ((0 : Int) ≤ a1) = false := by simpa using g0
    clear hk
    go_enter Try.func7, Try.ntmps7
    go_wp2_with fail
    refine (awake_any _).mono ?_
    rintro e wa ⟨rfl, hka⟩
    go_wp2_with fail
    refine (begin_nil _ _).mono ?_
    rintro e w1 ⟨rfl, rfl⟩
    go_wp2_with fail
    refine (newRow_int _ 1 8 _ (by omega) (by omega)).mono ?_
    rintro e w2 ⟨rfl, hw2⟩
    obtain ⟨hr, hc, hkr⟩ := nilRow w1 w2 hw2
    have hb : Below w.heap.size w w2 := (hka.below (Nat.le_refl _) (fun _ _ f => f)).trans (hkr.below hka.size (fun i hi f => f))
    clear hw2 hc
    have Hr : Hid (w2.heap[w1.heap.size + 1]? = some (.cells #[.pointer none, .int .i64 1, .slice (some ⟨w1.heap.size, 0, none⟩) 8 8] 81)) := hr
    clear hr
    go_wp2_with fail
    refine (store_out _ _ _ _ 8 a1 a2 8 _ Hr.out HK.out (by omega)).mono ?_
    rintro e w3 ⟨rfl, rfl⟩
    go_wp2_with fail
    refine (load_out _ _ _ _ 8 a1 8 _ Hr.out HK.out (by omega)).mono ?_
    rintro e w4 ⟨rfl, rfl⟩
    go_wp2_with fail
    refine (steps_nil _).mono ?_
    rintro e x1 ⟨rfl, rfl⟩
    go_wp2_with fail
    refine (done_nil _).mono ?_
    rintro e x2 ⟨rfl, rfl⟩
    go_wp2_with fail
    refine (most_nil _).mono ?_
    rintro e x3 ⟨rfl, rfl⟩
    go_wp2_with fail
    refine (log_nil _).mono ?_
    rintro e x4 ⟨rfl, rfl⟩
    go_wp2
    go_ret
    exact ⟨rfl, hb⟩
  · have g2 : ¬ a1 < 8 := by omega
    clear hk
    go_enter Try.func7, Try.ntmps7
    go_wp2_with fail
    refine (awake_any _).mono ?_
    rintro e wa ⟨rfl, hka⟩
    go_wp2_with fail
    refine (begin_nil _ _).mono ?_
    rintro e w1 ⟨rfl, rfl⟩
    go_wp2_with fail
    refine (newRow_int _ 1 8 _ (by omega) (by omega)).mono ?_
    rintro e w2 ⟨rfl, hw2⟩
    obtain ⟨hr, hc, hkr⟩ := nilRow w1 w2 hw2
    have hb : Below w.heap.size w w2 := (hka.below (Nat.le_refl _) (fun _ _ f => f)).trans (hkr.below hka.size (fun i hi f => f))
    clear hw2 hc
    have Hr : Hid (w2.heap[w1.heap.size + 1]? = some (.cells #[.pointer none, .int .i64 1, .slice (some ⟨w1.heap.size, 0, none⟩) 8 8] 81)) := hr
    clear hr
    go_wp2_with fail
    refine (store_out _ _ _ _ 8 a1 a2 8 _ Hr.out HK.out (by omega)).mono ?_
    rintro e w3 ⟨rfl, rfl⟩
    go_wp2_with fail
    refine (load_out _ _ _ _ 8 a1 8 _ Hr.out HK.out (by omega)).mono ?_
    rintro e w4 ⟨rfl, rfl⟩
    go_wp2_with fail
    refine (steps_nil _).mono ?_
    rintro e x1 ⟨rfl, rfl⟩
    go_wp2_with fail
    refine (done_nil _).mono ?_
    rintro e x2 ⟨rfl, rfl⟩
    go_wp2_with fail
    refine (most_nil _).mono ?_
    rintro e x3 ⟨rfl, rfl⟩
    go_wp2_with fail
    refine (log_nil _).mono ?_
    rintro e x4 ⟨rfl, rfl⟩
    go_wp2
    go_ret
    exact ⟨rfl, hb⟩

theorem walk (a0 : Int) (a1 : Int) (a2 : Int) (w0 : (Lit.int .i64 a0).wf = true) (w1 : (Lit.int .i64 a1).wf = true) (w2 : (Lit.int .i64 a2).wf = true) (w : World) :
    Calls Try.prog 7 #[.int .i64 a0, .int .i64 a1, .int .i64 a2] w fun e w' => e = .returned (.bool true) ∧ Below w.heap.size w w' := by
  by_cases h : 0 ≤ a1 ∧ a1 < 8
  · obtain ⟨k, rfl⟩ : ∃ k : Nat, a1 = k := ⟨a1.toNat, by omega⟩
    exact walk_in a0 k a2 (by omega) w
  · exact walk_out a0 a1 a2 h w

set_option maxRecDepth 100000 in
theorem lifted (os : Os) (started : os.Started) (H : Type) (enc : TypeId × Value → H) :
    ReturnsInHanded {} Try.checked os 7 .any (Rows.memNilSpec.pre6 enc Try.prog Try.f7 Rows.memNilRow.domain false) (Rows.memNilSpec.post enc Try.prog Try.f7 false true false false) := by
  refine returnsInHanded_of_change (C := Try.checked) own started (by kernel_rfl) Try.func7
    (ChangeSpec.witness6 (enc := enc) (C := Try.checked) false ⟨#[], #[.int .i64 0, .int .i64 0, .int .i64 0], []⟩ 8 (by kernel_rfl) (by kernel_rfl) (by kernel_rfl) (by kernel_rfl)) ?_
  intro W base args ds gs before hval0 hW hcnd _
  have hval : ∀ (j : Nat) t v, Try.f7.params[j]? = some t → args[j]? = some v → Value.okWide Try.prog W .any base t v := hval0
  have hW' := hW
  obtain ⟨p, q, hA0, hV, rfl, hfz, hnd⟩ := hW
  have hA : DataW.TrodAll enc Try.prog W 0 (fun _ => true) true Try.f7.params.toList args.toList ds p := hA0
  rw [Try.params7] at hA hval
  obtain ⟨v0, vs0, d0, ds0, p0, q0, hargs, rfl, rfl, h0, r0⟩ := trodAll_cons hA
  obtain ⟨v1, vs1, d1, ds1, p1, q1, rfl, rfl, rfl, h1, r1⟩ := trodAll_cons r0
  obtain ⟨v2, vs2, d2, ds2, p2, q2, rfl, rfl, rfl, h2, r2⟩ := trodAll_cons r1
  obtain ⟨rfl, rfl, rfl⟩ := trodAll_nil r2
  obtain rfl : args = #[v0, v1, v2] := by cases args; simp_all
  obtain ⟨rfl, rfl⟩ := trodVars_none hV
  obtain ⟨a0, rfl, rfl, rfl, w0⟩ := open_int Try.underlying3 (hval 0 3 v0 rfl rfl) h0
  obtain ⟨a1, rfl, rfl, rfl, w1⟩ := open_int Try.underlying3 (hval 1 3 v1 rfl rfl) h1
  obtain ⟨a2, rfl, rfl, rfl, w2⟩ := open_int Try.underlying2 (hval 2 2 v2 rfl rfl) h2
  clear hA0 hval0
  simp only [List.append_nil] at hW'
  refine (walk a0 a1 a2 w0 w1 w2 W).mono fun e W' ⟨he, hg⟩ => ?_
  subst he
  exact ⟨_, rfl, _, _, _, [], [], [], hW', trodAll_mk1 (shut_bool Try.underlying4 _), (trodAll_cons_mk (shut_int Try.underlying3 w0) (trodAll_cons_mk (shut_int Try.underlying3 w1) (trodAll_cons_mk (shut_int Try.underlying2 w2) trodAll_mk0))), rfl, hg.frame _, fun h => by cases h⟩

theorem over : Rows.memNilRow.holds Try.pinned (OpenSpec.ofChange Rows.memNilSpec) :=
  OpenClaim.holds_of_wide 7 Try.f7 rfl rfl rfl rfl rfl rfl rfl ⟨rfl, rfl, rfl, rfl, rfl⟩ rfl rfl rfl rfl rfl (by kernel_rfl) Try.func7 (by kernel_rfl)
    (of_decide_eq_true (by kernel_rfl)) (by unfold Func.isWrapper; first | (rw [if_pos (by decide +kernel)]; kernel_rfl) | (rw [if_neg (by decide +kernel)]; exact ⟨rfl, rfl⟩))
    (fun os started H enc _ => lifted os started H enc)

end Go.Proofs.Ytebhjfoggogmaaa.memNil

namespace Go.Proofs.Ytebhjfoggogmaaa
theorem memNil_holds : Rows.MemNilSaid := memNil.over
#print axioms memNil_holds
end Go.Proofs.Ytebhjfoggogmaaa
