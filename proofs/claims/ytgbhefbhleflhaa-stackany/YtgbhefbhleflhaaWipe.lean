/- What clear does to the upper part of a row of the call's own, of whatever element size. No program is named here. -/
import Derived.Test.YtgbhefbhleflhaaKit
namespace Go.Proofs.Ytgbhefbhleflhaa
open Go.RowKit
set_option linter.unusedVariables false
set_option linter.unusedSimpArgs false

theorem wipe_none {P : Program} (w : World) (t e : TypeId) (ht : P.underlying t = some (.slice e)) (a : Option Addr) (c : Nat) (ty : TypeId) : (Builtin.clear_ #[t] ty #[.slice a 0 c]).run P w = .ok (.tuple #[]) w := by
  cases a <;> simp [Builtin.clear_, run_underlying ht]

theorem zeroCells_one {zv : Value} (h1 : ∀ i, i < zv.cells.size → (zv.cells[i]!).oneCell' = true) (hz : 0 < zv.cells.size) (n : Nat) : ∀ u ∈ (Builtin.zeroCells zv.cells n).toList, u.oneCell' = true := by
  intro u hu
  simp only [Builtin.zeroCells, Array.toList_map, List.mem_map] at hu
  obtain ⟨i, _, rfl⟩ := hu
  exact h1 _ (Nat.mod_lt _ hz)

theorem wipe_run {P : Program} (w : World) (t e : TypeId) (zv : Value) (z : Nat) (ht : P.underlying t = some (.slice e)) (hv : ∀ w, (zeroValue e).run P w = .ok zv w) (hz : zv.cells.size = z) (h0 : 0 < z) (h1 : ∀ i, i < zv.cells.size → (zv.cells[i]!).oneCell' = true)
    {B g n cap : Nat} {xs : List Value} (h : w.ownsRow B e z (.slice (some ⟨g, 0, none⟩) n cap) n xs) {m : Nat} (hm : m < n) :
    ∃ vs, ∀ (ty : TypeId) (c : Nat), (Builtin.clear_ #[t] ty #[.slice (some ⟨g, m * z, none⟩) (n - m) c]).run P w = .ok (.tuple #[]) (w.setCells g (m * z) vs) := by
  refine ⟨(Builtin.zeroCells zv.cells (n - m)).toList, fun ty c => ?_⟩
  have hlen : (Builtin.zeroCells zv.cells (n - m)).toList.length = (n - m) * z := by simp [Builtin.zeroCells, hz]
  have hx := h.1
  have hmul : m * z + (n - m) * z = n * z := by rw [← Nat.add_mul]; congr 1; omega
  have hst := run_storeCells_cells (P := P) g (m * z) (Builtin.zeroCells zv.cells (n - m)).toList 0 w
    (fun j hj => by
      rw [h.cellAt (m * z + 0 + j) (by omega), List.getElem?_eq_getElem (by omega)]
      rfl)
    (fun j hj => h.frozenAt _)
    (zeroCells_one h1 (by omega) _)
  simp only [Nat.add_zero] at hst
  obtain ⟨k, hk⟩ : ∃ k, n - m = k + 1 := ⟨n - m - 1, by omega⟩
  rw [hk] at hst ⊢
  simp [Builtin.clear_, run_underlying ht, hv, hst]
end Go.Proofs.Ytgbhefbhleflhaa
