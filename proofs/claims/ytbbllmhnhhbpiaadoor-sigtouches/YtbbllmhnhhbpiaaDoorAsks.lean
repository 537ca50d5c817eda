/- Meets and Within: do two signatures meet, is one within the other. Equality of signatures. -/
import Derived.Test.YtbbllmhnhhbpiaaDoorSets
import Derived.Deep.RegionHeld3
namespace Go.Proofs.YtbbllmhnhhbpiaaDoor
open Go.RowKit
set_option linter.unusedVariables false
set_option linter.unusedSimpArgs false

theorem Tryd.info29 : (Tryd.prog.info? 29).map (fun i => (i.zero, i.size, i.bytes)) = some (some (.int .u64 0), 1, 8) := by kernel_rfl
theorem eqS (d : Nat) (a1 b1 a2 b2 : Int) (w : World) : (Op.equalIn (d + 2) 31 (.agg #[.int .u64 a1, .int .u64 b1]) (.agg #[.int .u64 a2, .int .u64 b2])).run Tryd.prog w = .ok ((a1 == a2) && (b1 == b2)) w := by
  obtain ⟨i0, hi0, hz0, hz1, hz2⟩ := info_parts Tryd.info29
  rw [run_equalIn_array (d := d + 1) w _ _ Tryd.underlying31 hi0, show Tryd.prog.cellsOf 29 = 1 from by kernel_rfl]
  show (Op.eqItems (d + 1) 29 1 _ _ [0, 1]).run Tryd.prog w = _
  have hp : ∀ (x y : Int) (w : World), (part 29 #[.int .u64 x, .int .u64 y] 0).run Tryd.prog w = .ok (.int .u64 x) w := fun x y w => run_part_plain (P := Tryd.prog) w (by kernel_rfl) rfl
  have hq : ∀ (x y : Int) (w : World), (part 29 #[.int .u64 x, .int .u64 y] 1).run Tryd.prog w = .ok (.int .u64 y) w := fun x y w => run_part_plain (P := Tryd.prog) w (by kernel_rfl) rfl
  have he : ∀ (x y : Int) (w : World), (Op.equalIn (d + 1) 29 (.int .u64 x) (.int .u64 y)).run Tryd.prog w = .ok (x == y) w := fun x y w => run_equalIn_int w d 29 .u64 .u64 x y Tryd.underlying29
  cases h1 : (a1 == a2) <;> cases h2 : (b1 == b2) <;> simp only [Op.eqItems, Sem.run_bind, Nat.zero_mul, Nat.one_mul, hp, hq, he, h1, h2, Result.andThen_ok, Bool.not_true, Bool.not_false, Bool.false_eq_true, if_true, if_false, Sem.run_pure, Bool.and_true, Bool.and_false, Bool.true_and, Bool.false_and]

/-- Two signatures in two blocks, and nothing else turned since w. -/
structure Duo (w : World) (m : Nat) (a b : Sg) (W : World) : Prop where
  A : Box W m a
  B : Box W (m + 1) b
  K : Kept (fun _ => False) w W
theorem Duo.kept {w : World} {m : Nat} {a b : Sg} {W W' : World} (h : Duo w m a b W) (k : Kept (fun _ => False) W W') : Duo w m a b W' := ⟨h.A.kept k id, h.B.kept k id, h.K.trans k (fun _ _ f => f)⟩
theorem Duo.drew {w : World} {m : Nat} {a b : Sg} {W : World} (h : Duo w m a b W) : Duo w m a b W.drew := ⟨h.A, h.B, h.K.drew⟩
theorem Duo.of_calls {f : FuncId} {args : Array Value} {x : Ending} {w : World} {m : Nat} {a b : Sg} (h : ∀ W, Calls Tryd.prog f args W fun e W' => e = x ∧ Kept (fun _ => False) W W') : ∀ W, Duo w m a b W → Calls Tryd.prog f args W fun e W' => e = x ∧ Duo w m a b W' :=
  fun W hD => (h W).mono fun e W' ⟨he, hk⟩ => ⟨he, hD.kept hk⟩

theorem hasTwo (w : World) (a0 a1 b0 b1 : Nat) {W : World} (hW : (w.alloc (.cells #[.int .u64 a0, .int .u64 a1] 31)).alloc (.cells #[.int .u64 b0, .int .u64 b1] 31) = W) : Box W w.heap.size ⟨a0, a1⟩ ∧ Box W (w.heap.size + 1) ⟨b0, b1⟩ ∧ Kept (fun _ => False) w W := by
  subst hW
  refine ⟨(Box.new w a0 a1).alloc _, ?_, ((Kept.refl _ w).alloc _).alloc _⟩
  have := Box.new (w.alloc (.cells #[.int .u64 a0, .int .u64 a1] 31)) b0 b1
  simpa using this

/-- Are two signatures one? -/
def Sg.same (s t : Sg) : Bool := ((s.lo : Int) == (t.lo : Int)) && ((s.hi : Int) == (t.hi : Int))

set_option maxHeartbeats 1000000 in
theorem meets_any (a b : Sg) (ha : a.ok) (hb : b.ok) (w : World) : Calls Tryd.prog 24 #[a.val, b.val] w fun e w' => e = .returned (.bool (!((a.meet b).same Sg.zero))) ∧ Kept (fun _ => False) w w' := by
  have hM : ∀ w, Calls Tryd.prog 20 #[a.val, b.val] w fun e w' => e = .returned (a.meet b).val ∧ Kept (fun _ => False) w w' := fun w => meet_any a b ha hb w
  generalize a.meet b = r at *
  have hE := eqS
  unfold Sg.same
  obtain ⟨a0, a1⟩ := a
  obtain ⟨b0, b1⟩ := b
  obtain ⟨r0, r1⟩ := r
  unfold Sg.val at *
  simp only [Sg.zero] at *
  clear ha hb
  go_enter Tryd.func24, Tryd.ntmps24
  go_wp2_with fail
  generalize hW : (w.alloc (.cells #[.int .u64 a0, .int .u64 a1] 31)).alloc (.cells #[.int .u64 b0, .int .u64 b1] 31) = W
  obtain ⟨A, B, K⟩ := hasTwo w a0 a1 b0 b1 hW
  clear hW
  refine (hM _).mono ?_
  rintro e w1 ⟨rfl, hk⟩
  have K2 : Kept (fun _ => False) w w1 := K.trans hk (fun _ _ f => f)
  clear K hk A B hM
  go_wp2_with fail
  go_ret
  refine ⟨?_, K2⟩
  rw [Bool.not_and]
  rfl

set_option maxHeartbeats 1000000 in
theorem within_any (a b : Sg) (ha : a.ok) (hb : b.ok) (w : World) : Calls Tryd.prog 26 #[a.val, b.val] w fun e w' => e = .returned (.bool ((a.join b).same b)) ∧ Kept (fun _ => False) w w' := by
  have hM : ∀ w, Calls Tryd.prog 18 #[a.val, b.val] w fun e w' => e = .returned (a.join b).val ∧ Kept (fun _ => False) w w' := fun w => join_any a b ha hb w
  generalize a.join b = r at *
  have hE := eqS
  unfold Sg.same
  obtain ⟨a0, a1⟩ := a
  obtain ⟨b0, b1⟩ := b
  obtain ⟨r0, r1⟩ := r
  unfold Sg.val at *
  simp only at *
  clear ha hb
  go_enter Tryd.func26, Tryd.ntmps26
  go_wp2_with fail
  generalize hW : (w.alloc (.cells #[.int .u64 a0, .int .u64 a1] 31)).alloc (.cells #[.int .u64 b0, .int .u64 b1] 31) = W
  obtain ⟨A, B, K⟩ := hasTwo w a0 a1 b0 b1 hW
  clear hW
  generalize hm : w.heap.size = m at *
  clear hm
  have hD : Duo w m ⟨a0, a1⟩ ⟨b0, b1⟩ W.drew := ⟨A, B, K.drew⟩
  have D0 : Hid (∀ W, Duo w m ⟨a0, a1⟩ ⟨b0, b1⟩ W → W.cell? ⟨m, 0, none⟩ = some (.int .u64 a0) ∧ W.cell? ⟨m, 1, none⟩ = some (.int .u64 a1) ∧ W.cell? ⟨m + 1, 0, none⟩ = some (.int .u64 b0) ∧ W.cell? ⟨m + 1, 1, none⟩ = some (.int .u64 b1)) := fun W h => ⟨h.A.c0, h.A.c1, h.B.c0, h.B.c1⟩
  have hJ := Duo.of_calls (w := w) (m := m) (a := ⟨a0, a1⟩) (b := ⟨b0, b1⟩) hM
  clear A B K hM
  go_region_held3 (fun w' => w'.cell? ⟨m, 0, none⟩ = some (.int .u64 a0) ∧ w'.cell? ⟨m, 1, none⟩ = some (.int .u64 a1) ∧ w'.cell? ⟨m + 1, 0, none⟩ = some (.int .u64 b0) ∧ w'.cell? ⟨m + 1, 1, none⟩ = some (.int .u64 b1) ∧ Duo w m ⟨a0, a1⟩ ⟨b0, b1⟩ w')
    (first | exact ⟨(D0.out _ hD).1, (D0.out _ hD).2.1, (D0.out _ hD).2.2.1, (D0.out _ hD).2.2.2, hD⟩)
    (first | (go_at_call 18; refine (hJ _ hD).mono ?_; rintro e w1 ⟨rfl, hD⟩))
  go_wp2
  go_ret
  exact ⟨rfl, hD.K⟩
end Go.Proofs.YtbbllmhnhhbpiaaDoor
