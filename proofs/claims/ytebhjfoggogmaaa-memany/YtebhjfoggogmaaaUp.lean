/- The document's examples: awake answers true. -/
import Derived.Test.YtebhjfoggogmaaaMet
import Derived.Test.YtebhjfoggogmaaaLog
namespace Go.Proofs.Ytebhjfoggogmaaa
open Go.RowKit
set_option linter.unusedVariables false
set_option linter.unusedSimpArgs false

theorem newRow_int (p : Option Addr) (kind n : Int) (w : World) (h0 : 1 ≤ n) (h1 : n ≤ 4096) : Calls Try.prog 11 #[.pointer p, .int .i64 kind, .int .i64 n] w fun e w' => e = .returned (.tuple #[.pointer (some ⟨w.heap.size + 1, 0, none⟩), .int .i64 0]) ∧ w' = (w.alloc (.cells (ints (List.replicate n.toNat 0)) 2)).alloc (.cells #[.pointer p, .int .i64 kind, .slice (some ⟨w.heap.size, 0, none⟩) n.toNat n.toNat] 81) := by
  obtain ⟨k, rfl⟩ : ∃ k : Nat, n = k := ⟨n.toNat, by omega⟩
  refine (newRow_yes p kind k w (by omega) (by omega)).mono ?_
  rintro e w' ⟨he, hw⟩
  refine ⟨he, ?_⟩
  rw [hw, Int.toNat_natCast]
  simp [ints]

theorem setup1 (w : World) (kind : Int) (n : Nat) (hn : n ≤ 4096) (W : World)
    (hW : W = ((w.alloc (.cells #[.int .i64 0, .int .i64 0, .int .i64 0, .int .i64 0, .slice none 0 0] 79)).alloc (.cells (ints (List.replicate n 0)) 2)).alloc (.cells #[.pointer (some ⟨w.heap.size, 0, none⟩), .int .i64 kind, .slice (some ⟨w.heap.size + 1, 0, none⟩) n n] 81)) :
    MeterS 79 50 (w.heap.size + 3) W w.heap.size Mt.zero (.slice none 0 0) ∧ RowIn 81 (w.heap.size + 3) W (w.heap.size + 2) (w.heap.size + 1) w.heap.size kind (List.replicate n 0) ∧ Kept (fun _ => False) w W := by
  subst hW
  generalize h1 : w.alloc (.cells #[.int .i64 0, .int .i64 0, .int .i64 0, .int .i64 0, .slice none 0 0] 79) = w1
  have s1 : w1.heap.size = w.heap.size + 1 := by rw [← h1]; simp
  have m1 : w1.heap[w.heap.size]? = some (.cells #[.int .i64 0, .int .i64 0, .int .i64 0, .int .i64 0, .slice none 0 0] 79) := by rw [← h1]; exact heap_alloc_new w _
  have k1 : Kept (fun _ => False) w w1 := by rw [← h1]; exact (Kept.refl _ w).alloc _
  generalize h2 : w1.alloc (.cells (ints (List.replicate n 0)) 2) = w2
  have s2 : w2.heap.size = w.heap.size + 2 := by rw [← h2]; simp [s1]
  have m2 : w2.heap[w.heap.size]? = w1.heap[w.heap.size]? := by rw [← h2]; exact Below.heap_alloc _ _ _ (by omega)
  have c2 : w2.heap[w.heap.size + 1]? = some (.cells (ints (List.replicate n 0)) 2) := by rw [← h2, ← s1]; exact heap_alloc_new w1 _
  have k2 : Kept (fun _ => False) w w2 := by rw [← h2]; exact k1.alloc _
  generalize h3 : w2.alloc (.cells #[.pointer (some ⟨w.heap.size, 0, none⟩), .int .i64 kind, .slice (some ⟨w.heap.size + 1, 0, none⟩) n n] 81) = w3
  have s3 : w3.heap.size = w.heap.size + 3 := by rw [← h3]; simp [s2]
  have m3 : w3.heap[w.heap.size]? = w2.heap[w.heap.size]? := by rw [← h3]; exact Below.heap_alloc _ _ _ (by omega)
  have c3 : w3.heap[w.heap.size + 1]? = w2.heap[w.heap.size + 1]? := by rw [← h3]; exact Below.heap_alloc _ _ _ (by omega)
  have r3 : w3.heap[w.heap.size + 2]? = some (.cells #[.pointer (some ⟨w.heap.size, 0, none⟩), .int .i64 kind, .slice (some ⟨w.heap.size + 1, 0, none⟩) n n] 81) := by rw [← h3, ← s2]; exact heap_alloc_new w2 _
  have k3 : Kept (fun _ => False) w w3 := by rw [← h3]; exact k2.alloc _
  refine ⟨⟨m3.trans (m2.trans m1), World.ownsRow_nil _ _ _ _, by omega, by omega⟩, ⟨?_, c3.trans c2, by simpa using hn, by omega, by omega, by omega, by omega, by omega⟩, k3⟩
  simpa using r3

set_option maxRecDepth 100000 in
set_option maxHeartbeats 1000000 in
theorem awake_any (w : World) : Calls Try.prog 9 #[] w fun e w' => e = .returned (.bool true) ∧ Kept (fun _ => False) w w' := by
  go_enter Try.func9, Try.ntmps9
  go_wp2_with fail
  refine (newMeter_any _).mono ?_
  rintro e w1 ⟨rfl, rfl⟩
  go_wp2_with fail
  refine (newRow_int _ 1 2 _ (by omega) (by omega)).mono ?_
  rintro e w1 ⟨rfl, rfl⟩
  go_wp2_with fail
  refine (newRow_no _ 1 4097 _ (by omega)).mono ?_
  rintro e w1 ⟨rfl, rfl⟩
  go_wp2_with fail
  generalize hW0 : ((w.alloc (.cells #[.int .i64 0, .int .i64 0, .int .i64 0, .int .i64 0, .slice none 0 0] 79)).alloc (.cells (ints [0, 0]) 2)).alloc (.cells #[.pointer (some ⟨w.heap.size, 0, none⟩), .int .i64 1, .slice (some ⟨w.heap.size + 1, 0, none⟩) 2 2] 81) = W0
  obtain ⟨hm0, hr0, k0⟩ := setup1 w 1 2 (by omega) W0 hW0.symm
  clear hW0
  refine (begin_met 3 _ hm0 (Mt.within_zero 0) (by omega)).mono ?_
  rintro e w1 ⟨rfl, hm1, k1⟩
  have hr1 := hr0.kept k1 hr0.rm hr0.cm
  go_wp2_with fail
  refine (store_met 1 7 _ hm1 hr1 ((Mt.within_zero 0).start 3) (by omega)).mono ?_
  rintro e w2 ⟨he, v2, hm2, hr2, f2, k2⟩
  obtain rfl : e = .returned (.int .i64 0) := he
  replace hm2 : MeterS 79 50 (w.heap.size + 3) w2 w.heap.size ⟨1, 3, 1, 1, [⟨1, 3, 1, 1, 2, true⟩]⟩ v2 := hm2
  replace hr2 : RowIn 81 (w.heap.size + 3) w2 (w.heap.size + 2) (w.heap.size + 1) w.heap.size 1 [0, 7] := hr2
  go_wp2_with fail
  refine (load_met 1 _ hm2 hr2 (n := 1) ⟨by decide, by decide, by decide, by decide, by decide⟩ (by omega)).mono ?_
  rintro e w3 ⟨he, v3, hm3, hr3, f3, k3⟩
  obtain rfl : e = .returned (.tuple #[.int .i64 7, .int .i64 0]) := he
  replace hm3 : MeterS 79 50 (w.heap.size + 3) w3 w.heap.size ⟨1, 3, 2, 2, [⟨1, 3, 1, 1, 2, true⟩, ⟨1, 3, 1, 1, 1, true⟩]⟩ v3 := hm3
  go_wp2_with fail
  refine (trade_met 1 5 9 _ hm3 hr3 (n := 2) ⟨by decide, by decide, by decide, by decide, by decide⟩ (by omega)).mono ?_
  rintro e w4 ⟨he, v4, hm4, hr4, f4, k4⟩
  obtain rfl : e = .returned (.tuple #[.int .i64 7, .bool false, .int .i64 0]) := he
  replace hm4 : MeterS 79 50 (w.heap.size + 3) w4 w.heap.size ⟨1, 3, 3, 3, [⟨1, 3, 1, 1, 2, true⟩, ⟨1, 3, 1, 1, 1, true⟩, ⟨1, 3, 1, 1, 3, false⟩]⟩ v4 := hm4
  replace hr4 : RowIn 81 (w.heap.size + 3) w4 (w.heap.size + 2) (w.heap.size + 1) w.heap.size 1 [0, 7] := hr4
  go_wp2_with fail
  refine (trade_met 1 7 9 _ hm4 hr4 (n := 3) ⟨by decide, by decide, by decide, by decide, by decide⟩ (by omega)).mono ?_
  rintro e w5 ⟨he, v5, hm5, hr5, f5, k5⟩
  obtain rfl : e = .returned (.tuple #[.int .i64 7, .bool true, .int .i64 0]) := he
  replace hm5 : MeterS 79 50 (w.heap.size + 3) w5 w.heap.size ⟨1, 3, 4, 4, [⟨1, 3, 1, 1, 2, true⟩, ⟨1, 3, 1, 1, 1, true⟩, ⟨1, 3, 1, 1, 3, false⟩, ⟨1, 3, 1, 1, 3, true⟩]⟩ v5 := hm5
  go_wp2_with fail
  refine (log_any _ _ _ _ _ _ _ _ _ hm5 (by simp)).mono ?_
  rintro e w6 ⟨v6, rfl, ho6, k6⟩
  have hm6 : MeterS 79 50 (w.heap.size + 3) w6 w.heap.size ⟨1, 3, 4, 4, [⟨1, 3, 1, 1, 2, true⟩, ⟨1, 3, 1, 1, 1, true⟩, ⟨1, 3, 1, 1, 3, false⟩, ⟨1, 3, 1, 1, 3, true⟩]⟩ v5 := hm5.kept k6 (fun f => f) (fun _ _ f => f)
  obtain ⟨g, cap, rfl, _, _⟩ := ho6.form (by simp)
  go_wp2_with fail
  refine (done_any _ _ _ _ _ _ _ _ _ hm6).mono ?_
  rintro e w7 ⟨he, rfl⟩
  obtain rfl : e = .returned (.int .i64 4) := he
  go_wp2_with fail
  refine (steps_any _ _ _ _ _ _ _ _ _ hm6).mono ?_
  rintro e w8 ⟨he, rfl⟩
  obtain rfl : e = .returned (.int .i64 1) := he
  have e0 : w8.cell? ⟨g, 18, none⟩ = some (.int .i64 1) := ho6.cellAt 18 (by simp)
  have e1 : w8.cell? ⟨g, 19, none⟩ = some (.int .i64 3) := ho6.cellAt 19 (by simp)
  have e2 : w8.cell? ⟨g, 20, none⟩ = some (.int .i64 1) := ho6.cellAt 20 (by simp)
  have e3 : w8.cell? ⟨g, 21, none⟩ = some (.int .i64 1) := ho6.cellAt 21 (by simp)
  have e4 : w8.cell? ⟨g, 22, none⟩ = some (.int .i64 3) := ho6.cellAt 22 (by simp)
  have e5 : w8.cell? ⟨g, 23, none⟩ = some (.bool true) := ho6.cellAt 23 (by simp)
  have hk : Kept (fun _ => False) w w8 := by
    have a1 : Kept (fun k => w.heap.size ≤ k) w w1 := (k0.mono (fun _ _ f => f.elim)).trans k1 (fun i hi f => by omega)
    have a2 : Kept (fun k => w.heap.size ≤ k) w w2 := a1.trans k2 (fun i hi f => by rcases f with f | f | f <;> first | omega | cases f)
    have a3 : Kept (fun k => w.heap.size ≤ k) w w3 := a2.trans k3 (fun i hi f => by
      rcases f with f | f | f
      · omega
      · exact absurd f (hm2.apart (by omega))
      · omega)
    have a4 : Kept (fun k => w.heap.size ≤ k) w w4 := a3.trans k4 (fun i hi f => by
      rcases f with f | f | f
      · omega
      · exact absurd f (hm3.apart (by omega))
      · omega)
    have a5 : Kept (fun k => w.heap.size ≤ k) w w5 := a4.trans k5 (fun i hi f => by
      rcases f with f | f | f
      · omega
      · exact absurd f (hm4.apart (by omega))
      · omega)
    exact (a5.trans k6 (fun _ _ f => f.elim)).mono (fun i hi f => by omega)
  go_wp2
  go_ret
  exact ⟨rfl, hk⟩
end Go.Proofs.Ytebhjfoggogmaaa
