/- What slices.Delete does to a row of numbers under numbers: one pair goes. -/
import Derived.Test.YtoejhbecogmdbaaLgA
namespace Go.Proofs.Ytoejhbecogmdbaa
open Go.RowKit
set_option linter.unusedVariables false
set_option linter.unusedSimpArgs false

theorem zero76 (w : World) : (zeroValue 76).run Try.prog w = .ok (.agg #[.int .i64 0, .int .i64 0]) w := by kernel_rfl
set_option maxRecDepth 100000 in
set_option maxHeartbeats 1000000 in
theorem delA_ok {w : World} {g i m cap : Nat} {xs : List Value} (h : w.ownsRow 0 76 2 (.slice (some ⟨g, 0, none⟩) (i + 1 + m) cap) (i + 1 + m) xs) (hn : i + 1 + m ≤ 4096) (h1 : ∀ u ∈ xs, u.oneCell' = true) :
    Calls Try.prog 41 #[.slice (some ⟨g, 0, none⟩) (i + 1 + m) cap, .int .i64 i, .int .i64 (i + 1)] w fun e w' => e = .returned (.slice (some ⟨g, 0, none⟩) (i + m) cap) ∧ w'.ownsRow 0 76 2 (.slice (some ⟨g, 0, none⟩) (i + m) cap) (i + m) (xs.take (i * 2) ++ xs.drop ((i + 1) * 2)) ∧ Kept (fun b => b = g) w w' := by
  obtain ⟨i0, hi0, hz0, hz1, hz2⟩ := info_parts Try.info76
  have hl := h.1
  have hcap : i + 1 + m ≤ cap := by
    rcases own_forms h with ⟨h1, _⟩ | ⟨g', cap', h1, _, _, hc⟩
    · cases h1
    · cases h1; exact hc
  have b1 : (i : Int) ≤ cap := by omega
  have b2 : (i : Int) + 1 ≤ (i : Int) + 1 + m := by omega
  have b3 : (i : Int) + 1 + m ≤ cap := by omega
  have b4 : (0 : Int) ≤ i := by omega
  have b5 : (0 : Int) ≤ (i : Int) + 1 := by omega
  have b6 : (i : Int) ≤ (i : Int) + 1 := by omega
  by_cases hcm : cap = i + 1
  · obtain rfl : m = 0 := by omega
    subst hcm
    simp only [Nat.add_zero] at *
    have hz : ∀ j, j < (Value.agg #[.int .i64 0, .int .i64 0]).cells.size → ((Value.agg #[.int .i64 0, .int .i64 0]).cells[j]!).oneCell' = true := by decide
    obtain ⟨vs, hcl⟩ := wipe_run (P := Try.prog) w.drew 68 76 (.agg #[.int .i64 0, .int .i64 0]) 2 Try.underlying68 zero76 rfl (by omega) hz h.drew (show i < i + 1 by omega)
    rw [show i + 1 - i = 1 by omega] at hcl
    have hO := own_setCells h.drew (show i ≤ i + 1 by omega) vs
    have hK := setCells_kept (F := fun b => b = g) (g := g) (a := w) (.inl rfl) vs (i * 2) w.drew ((Kept.refl _ w).drew)
    have hd : xs.drop ((i + 1) * 2) = [] := by rw [List.drop_eq_nil_iff]; omega
    rw [hd, List.append_nil]
    clear h h1 hd
    go_enter Try.func41, Try.ntmps41
    go_wp2_with fail
    go_region_law (fail)
    go_wp2_with (simp only [hcl])
    go_ret
    exact ⟨rfl, hO, hK⟩
  · have e1 : (xs.drop ((i + 1) * 2)).length = m * 2 := by
      rw [List.length_drop, hl, ← Nat.sub_mul]
      congr 1
      omega
    have e2 : ∀ (j : Nat) (u : Value), (xs.drop ((i + 1) * 2))[j]? = some u → w.drew.cell? ((⟨g, (i + 1) * 2, none⟩ : Addr).add j) = some u := by
      intro j u hu
      rw [List.getElem?_drop] at hu
      have := (List.getElem?_eq_some_iff.1 hu).1
      rw [Addr.add_lit]
      exact (h.cellAt ((i + 1) * 2 + j) (by omega)).trans hu
    have e3 : ∀ u ∈ xs.drop ((i + 1) * 2), u.oneCell' = true := fun u hu => h1 u (List.mem_of_mem_drop hu)
    have e4 : ∀ j, j < (xs.drop ((i + 1) * 2)).length → (w.drew.cell? ⟨g, 0 + i * 2 + j, none⟩).isSome = true ∧ w.drew.frozen? ⟨g, 0 + i * 2 + j, none⟩ = false := by
      intro j hj
      rw [e1] at hj
      have hlt : 0 + i * 2 + j < (i + 1 + m) * 2 := by rw [Nat.add_mul, Nat.add_mul]; omega
      refine ⟨?_, h.frozenAt _⟩
      show (w.cell? ⟨g, 0 + i * 2 + j, none⟩).isSome = true
      rw [h.cellAt _ hlt, List.getElem?_eq_getElem (by omega)]
      rfl
    have hz : ∀ j, j < (Value.agg #[.int .i64 0, .int .i64 0]).cells.size → ((Value.agg #[.int .i64 0, .int .i64 0]).cells[j]!).oneCell' = true := by decide
    have hS := own_splice (xs.drop ((i + 1) * 2)) (i * 2) w.drew xs h.drew (by rw [e1, ← Nat.add_mul]; exact Nat.mul_le_mul_right _ (by omega))
    have hK0 := setCells_kept (F := fun b => b = g) (g := g) (a := w) (.inl rfl) (xs.drop ((i + 1) * 2)) (i * 2) w.drew ((Kept.refl _ w).drew)
    obtain ⟨vs, hcl⟩ := wipe_run (P := Try.prog) (w.drew.setCells g (i * 2) (xs.drop ((i + 1) * 2))) 68 76 (.agg #[.int .i64 0, .int .i64 0]) 2 Try.underlying68 zero76 rfl (by omega) hz hS (show i + m < i + 1 + m by omega)
    have hO := own_setCells hS (show i + m ≤ i + 1 + m by omega) vs
    have hK := setCells_kept (F := fun b => b = g) (g := g) (a := w) (.inl rfl) vs ((i + m) * 2) _ hK0
    have e5 : (xs.take (i * 2) ++ xs.drop ((i + 1) * 2) ++ xs.drop (i * 2 + (xs.drop ((i + 1) * 2)).length)).take ((i + m) * 2) = xs.take (i * 2) ++ xs.drop ((i + 1) * 2) := by
      have : i * 2 ≤ xs.length := by rw [hl]; exact Nat.mul_le_mul_right _ (by omega)
      refine List.take_left' ?_
      rw [List.length_append, e1, List.length_take, Nat.min_eq_left this, ← Nat.add_mul]
    rw [e5] at hO
    clear h h1 hS hK0 e5
    go_enter Try.func41, Try.ntmps41
    go_wp2_with fail
    go_region_law (refine step_append_room (by rfl) (.tmp 22) (.tmp 25) 68 (by rfl) 76 i0 2 Try.underlying68 hi0 hz1 g 0 i cap (by rfl) ⟨g, (i + 1) * 2, none⟩ m (cap - (i + 1)) (xs.drop ((i + 1) * 2)) (by rfl) e1 e2 e3 (by omega) e4 ?_)
    go_wp2_with (simp only [hcl])
    go_ret
    exact ⟨rfl, hO, hK⟩
end Go.Proofs.Ytoejhbecogmdbaa
