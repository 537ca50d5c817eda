/- The document examples: awake answers true. -/
import Derived.Test.YtbbllmhnhhbpiaaDoorBits
namespace Go.Proofs.YtbbllmhnhhbpiaaDoor
open Go.RowKit
set_option linter.unusedVariables false
set_option linter.unusedSimpArgs false

theorem hash_const (c n x1 x2 x3 : Int) (h1 : hash1 c n = x1) (h2 : hash2 c n = x2) (h3 : hashE c n = x3) (w : World) : Calls Tryd.prog 10 #[.int .i64 c, .int .i64 n] w fun e w' => e = .returned (.tuple #[.int .i64 x1, .int .i64 x2, .int .i64 x3]) ∧ w' = w := by
  have := hash_any c n w
  rwa [h1, h2, h3] at this

set_option maxRecDepth 100000 in
set_option maxHeartbeats 1000000 in
theorem awake_any (w : World) (hT : Tab w) : Calls Tryd.prog 9 #[] w fun e w' => e = .returned (.bool true) ∧ Kept (fun _ => False) w w' := by
  have a1 := hash_const 0 128 79 58 0 rfl rfl rfl
  have a2 := hash_const 1 128 30 117 0 rfl rfl rfl
  have a3 := hash_const 0 129 0 0 1 rfl rfl rfl
  have a4 := hash_const 256 8 0 0 2 rfl rfl rfl
  have eO : ofR [0] 128 = (⟨288230376151711744, 32768⟩, 0) := by kernel_rfl
  have eB : Sg.bits ⟨288230376151711744, 32768⟩ = [58, 79] := by kernel_rfl
  go_enter Tryd.func9, Tryd.ntmps9
  go_wp2_with fail
  refine (a1 _).mono ?_
  rintro e w1 ⟨rfl, rfl⟩
  go_wp2_with fail
  refine (a2 _).mono ?_
  rintro e w1 ⟨rfl, rfl⟩
  go_wp2_with fail
  refine (a3 _).mono ?_
  rintro e w1 ⟨rfl, rfl⟩
  go_wp2_with fail
  refine (a4 _).mono ?_
  rintro e w1 ⟨rfl, rfl⟩
  go_wp2_with fail
  have hL : IntsIn (w1.alloc (.cells #[.int .i64 0] 3)) (some ⟨w1.heap.size, 0, none⟩) 1 [0] := ⟨rfl, fun _ => ⟨_, _, rfl, fun j hj => by
    have : j = 0 := by omega
    subst this
    exact cell_of_heap (heap_alloc_new w1 _)⟩⟩
  have k1 : Kept (fun _ => False) w1 (w1.alloc (.cells #[.int .i64 0] 3)) := (Kept.refl _ w1).alloc _
  generalize w1.alloc (.cells #[.int .i64 0] 3) = w2 at *
  have hO := of_any (some ⟨w1.heap.size, 0, none⟩) 1 1 [0] 128 w2 hL (by omega)
  rw [eO] at hO
  refine hO.mono ?_
  rintro e w3 ⟨rfl, k3⟩
  have K3 : Kept (fun _ => False) w1 w3 := k1.trans k3 (fun _ _ f => f)
  clear hO hL k1 k3 eO
  simp only [Sg.val]
  go_wp2_with fail
  have B4 : Box (w3.alloc (.cells #[.int .u64 288230376151711744, .int .u64 32768] 31)) w3.heap.size ⟨288230376151711744, 32768⟩ := Box.new w3 _ _
  have K4 : Kept (fun _ => False) w1 (w3.alloc (.cells #[.int .u64 288230376151711744, .int .u64 32768] 31)) := K3.alloc _
  generalize w3.alloc (.cells #[.int .u64 288230376151711744, .int .u64 32768] 31) = w4 at *
  have hb : Calls Tryd.prog 28 #[.agg #[.int .u64 288230376151711744, .int .u64 32768]] w4 fun e w' => ∃ v, e = .returned v ∧ w'.ownsRow w4.heap.size 3 1 v 2 [.int .i64 58, .int .i64 79] ∧ Kept (fun _ => False) w4 w' := by
    have := bits_any ⟨288230376151711744, 32768⟩ ⟨by decide, by decide⟩ w4 (hT.kept K4 id)
    rw [eB] at this
    exact this
  refine hb.mono ?_
  rintro e w5 ⟨v, rfl, ho5, k5⟩
  have B5 := B4.kept k5 id
  have K5 : Kept (fun _ => False) w1 w5 := K4.trans k5 (fun _ _ f => f)
  obtain ⟨g, cap, rfl, _, _⟩ := ho5.form (by simp)
  have y0 : w5.cell? ⟨w3.heap.size, 0, none⟩ = some (.int .u64 288230376151711744) := B5.c0
  have y1 : w5.cell? ⟨w3.heap.size, 1, none⟩ = some (.int .u64 32768) := B5.c1
  have y2 : w5.cell? ⟨g, 0, none⟩ = some (.int .i64 58) := ho5.cellAt 0 (by simp)
  clear hb a1 a2 a3 a4 eB B4 B5 K4 K3 k5 ho5
  have hE := eqS
  go_wp2
  go_ret
  exact ⟨rfl, K5⟩
end Go.Proofs.YtbbllmhnhhbpiaaDoor
