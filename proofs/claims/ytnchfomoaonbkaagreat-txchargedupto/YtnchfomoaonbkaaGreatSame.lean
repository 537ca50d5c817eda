/- The document's Same answers true of two lists of the same accesses. -/
import Derived.Test.YtnchfomoaonbkaaGreatSmall
import Derived.BigQuiet
import Derived.Deep.DrawnRows
namespace Go.Proofs.YtnchfomoaonbkaaGreat
open Go.RowKit
set_option linter.unusedVariables false
set_option linter.unusedSimpArgs false
attribute [local go_sem ↓] Go.wp_at_zero Go.wp_at_succ

theorem log_cells (l : List Acc) : ∀ j (hj : j < l.length), (logCells l)[j * 6]? = some (.int .i64 l[j].st) ∧ (logCells l)[j * 6 + 1]? = some (.int .i64 l[j].th) ∧ (logCells l)[j * 6 + 2]? = some (.int .i64 l[j].kind) ∧ (logCells l)[j * 6 + 3]? = some (.int .i64 l[j].at_) ∧ (logCells l)[j * 6 + 4]? = some (.int .i64 l[j].op) ∧ (logCells l)[j * 6 + 5]? = some (.bool l[j].ok) := by
  induction l with
  | nil => intro j hj; simp at hj
  | cons a l ih =>
    intro j hj
    cases j with
    | zero => simp [logCells, Acc.cells]
    | succ j =>
      have := ih j (by simpa using hj)
      have e : ∀ t, (logCells (a :: l))[(j + 1) * 6 + t]? = (logCells l)[j * 6 + t]? := fun t => by
        rw [show (j + 1) * 6 + t = 6 + (j * 6 + t) by omega]
        simp only [logCells]
        rw [List.getElem?_append_right (by simp [Acc.cells])]
        simp [Acc.cells]
      have e0 := e 0
      simp only [Nat.add_zero] at e0
      rw [e0, e 1, e 2, e 3, e 4, e 5]
      simpa using this
theorem own_shape {w : World} {b : Nat} {e : TypeId} {z : Nat} {v : Value} {n : Nat} {xs : List Value} (h : w.ownsRow b e z v n xs) : ∃ a cap, v = .slice a n cap := by
  rcases h.2 with ⟨hv, hn⟩ | ⟨g, cap, cur, hv, _⟩
  · exact ⟨none, 0, by rw [hv, hn]⟩
  · exact ⟨_, _, hv⟩

set_option maxRecDepth 100000 in
set_option maxHeartbeats 1000000 in
theorem same_true (ba bb : Nat) (va vb : Value) (l : List Acc) (w : World) (ha : w.ownsRow ba 163 6 va l.length (logCells l)) (hb : w.ownsRow bb 163 6 vb l.length (logCells l)) (hn : l.length ≤ 4611686018427) :
    Calls Tryz.prog 26 #[va, vb] w fun e w' => e = .returned (.bool true) ∧ ∃ k, w' = w.drewN k := by
  obtain ⟨ga, ca, rfl⟩ := own_shape ha
  obtain ⟨gb, cb, rfl⟩ := own_shape hb
  generalize hN : l.length = n at *
  have hnn : ((n : Int) != (n : Int)) = false := by simp
  have HN : Hid (l.length = n) := hN
  clear hN
  go_enter Tryz.func26, Tryz.ntmps26
  go_wp2
  go_loopw [5] (fun i wr => ∃ j q : Nat, i = .int .i64 j ∧ j ≤ n ∧ wr = w.drewN q) (fun i _ => n - (intOf i).toNat)
  case atStart => exact ⟨0, 0, rfl, Nat.zero_le _, rfl⟩
  case round =>
    obtain ⟨j, q, rfl, hj, rfl⟩ := hrel
    by_cases hlt : j < n
    · obtain ⟨g, hga⟩ : ∃ g, ga = some ⟨g, 0, none⟩ := by
        obtain ⟨g, c, he, _, _⟩ := ha.form (by omega)
        simp only [Value.slice.injEq] at he
        exact ⟨g, he.1⟩
      subst hga
      obtain ⟨g2, hgb⟩ : ∃ g, gb = some ⟨g, 0, none⟩ := by
        obtain ⟨g, c, he, _, _⟩ := hb.form (by omega)
        simp only [Value.slice.injEq] at he
        exact ⟨g, he.1⟩
      subst hgb
      have hjl : j < l.length := by rw [HN.out]; exact hlt
      obtain ⟨l0, l1, l2, l3, l4, l5⟩ := log_cells l j hjl
      generalize l[j] = ac at l0 l1 l2 l3 l4 l5
      have a0 := (ha.cellAt (j * 6) (by omega)).trans l0
      have a1 := (ha.cellAt (j * 6 + 1) (by omega)).trans l1
      have a2 := (ha.cellAt (j * 6 + 2) (by omega)).trans l2
      have a3 := (ha.cellAt (j * 6 + 3) (by omega)).trans l3
      have a4 := (ha.cellAt (j * 6 + 4) (by omega)).trans l4
      have a5 := (ha.cellAt (j * 6 + 5) (by omega)).trans l5
      have b0 := (hb.cellAt (j * 6) (by omega)).trans l0
      have b1 := (hb.cellAt (j * 6 + 1) (by omega)).trans l1
      have b2 := (hb.cellAt (j * 6 + 2) (by omega)).trans l2
      have b3 := (hb.cellAt (j * 6 + 3) (by omega)).trans l3
      have b4 := (hb.cellAt (j * 6 + 4) (by omega)).trans l4
      have b5 := (hb.cellAt (j * 6 + 5) (by omega)).trans l5
      obtain ⟨s0, s1, s2, s3, s4, s5⟩ := ac
      simp only at a0 a1 a2 a3 a4 a5 b0 b1 b2 b3 b4 b5
      clear l0 l1 l2 l3 l4 l5
      have h0 : (0 : Int) ≤ (j : Int) := Int.natCast_nonneg _
      have h1 : (j : Int) < (n : Int) := by omega
      go_wp2_with fail
      go_quiet (fail)
      go_wp2
      go_roundw
      case rel => exact ⟨j + 1, _, by go_num, by omega, rfl⟩
      case measure => simp [intOf]; omega
    · go_wp2
      go_ret
      exact ⟨rfl, q, rfl⟩
theorem Kept.drewN {F : Nat → Prop} {a w : World} (h : Kept F a w) (k : Nat) : Kept F a (w.drewN k) := ⟨h.os, h.tape, h.output, h.size, h.block⟩
end Go.Proofs.YtnchfomoaonbkaaGreat
