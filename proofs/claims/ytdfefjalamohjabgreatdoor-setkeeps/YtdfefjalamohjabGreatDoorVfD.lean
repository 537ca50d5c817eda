/- A new walk. -/
import Derived.Test.YtdfefjalamohjabGreatDoorVfC
import Derived.Test.YtdfefjalamohjabGreatDoorPsE
import Derived.Maps.AppendAt
namespace Go.Proofs.YtdfefjalamohjabGreatDoor
open Go.RowKit
set_option linter.unusedVariables false
set_option linter.unusedSimpArgs false
attribute [local go_sem ↓] Go.wp_at_zero Go.wp_at_succ

theorem perm_idx (d : It) (l : List It) (k : Nat) (hk : l.length = k) (is : List Nat) (h : is.Perm (List.range k)) : l.Perm (is.map (fun i => l.getD i d)) := by
  subst hk
  have e : (List.range l.length).map (fun i => l.getD i d) = l := by
    apply List.ext_getElem
    · simp
    · intro i h1 h2
      simp [List.getD_eq_getElem?_getD, h2]
  have := (h.map (fun i => l.getD i d)).symm
  rwa [e] at this
theorem made_one {v : Value} (hv : v.cells = #[v]) (n : Nat) : madeCells v.cells (n * 1) = (List.replicate n v).toArray := by
  apply Array.ext'
  apply List.ext_getElem?
  intro j
  by_cases hj : j < n
  · simp [madeCells, hv, hj, Nat.mod_one]
  · rw [List.getElem?_eq_none (by simp [size_madeCells]; omega), List.getElem?_eq_none (by simp; omega)]
theorem Tryz.infoB4 : (Tryz.prog.info? 4).map (fun i => (i.zero, i.size, i.bytes)) = some (some (.bool false), 1, 1) := by kernel_rfl
theorem Tryz.infoI3 : (Tryz.prog.info? 3).map (fun i => (i.zero, i.size, i.bytes)) = some (some (.int .i64 0), 1, 8) := by kernel_rfl
theorem Tryz.infoE25 : (Tryz.prog.info? 35).map (fun i => (i.zero, i.size, i.bytes)) = some (some (.int .i64 0), 1, 8) := by kernel_rfl
theorem makeB (k : Nat) (K : Int) (hK : K = (k : Int)) (hk : k ≤ 1000000) (W : World) : (Instr.makeSlice 199 (.int .i64 K) (.int .i64 K)).run Tryz.prog W = .ok (.slice (some ⟨W.heap.size, 0, none⟩) k k) (W.alloc (.cells (bCells (List.replicate k false)) 4)) := by
  obtain ⟨i0, hi0, hz0, hz1, hz2⟩ := info_parts Tryz.infoB4
  subst hK
  have := run_make (P := Tryz.prog) W 199 4 i0 _ Tryz.underlying199 hi0 hz0 .i64 .i64 k k (by omega) (by omega) (by rw [hz2]; omega) (by omega)
  rw [this, hz1, Int.toNat_natCast, made_one rfl]
  simp [bCells]
theorem makeI (k : Nat) (K : Int) (hK : K = (k : Int)) (hk : k ≤ 1000000) (W : World) : (Instr.makeSlice 130 (.int .i64 K) (.int .i64 K)).run Tryz.prog W = .ok (.slice (some ⟨W.heap.size, 0, none⟩) k k) (W.alloc (.cells (nCells (List.replicate k 0)) 3)) := by
  obtain ⟨i0, hi0, hz0, hz1, hz2⟩ := info_parts Tryz.infoI3
  subst hK
  have := run_make (P := Tryz.prog) W 130 3 i0 _ Tryz.underlying130 hi0 hz0 .i64 .i64 k k (by omega) (by omega) (by rw [hz2]; omega) (by omega)
  rw [this, hz1, Int.toNat_natCast, made_one rfl]
  simp [nCells]
end Go.Proofs.YtdfefjalamohjabGreatDoor
