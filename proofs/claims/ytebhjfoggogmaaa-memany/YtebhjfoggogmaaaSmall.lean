/- The code's small functions: a new meter, a new row, Begin, Steps, Done, Most, Log. -/
import Derived.Test.YtebhjfoggogmaaaProg
import Derived.Test.YtebhjfoggogmaaaKit
import Derived.Laws.MakeOwn
import Derived.Laws.OwnMore
namespace Go.Proofs.Ytebhjfoggogmaaa
open Go.RowKit
set_option linter.unusedVariables false
set_option linter.unusedSimpArgs false

theorem Try.info2 : (Try.prog.info? 2).map (fun i => (i.zero, i.size, i.bytes)) = some (some (.int .i64 0), 1, 8) := by kernel_rfl

theorem newMeter_any (w : World) : Calls Try.prog 10 #[] w fun e w' => e = .returned (.pointer (some ⟨w.heap.size, 0, none⟩)) ∧ w' = w.alloc (.cells #[.int .i64 0, .int .i64 0, .int .i64 0, .int .i64 0, .slice none 0 0] 79) := by
  go_enter Try.func10, Try.ntmps10
  go_wp2
  go_ret
  exact ⟨rfl, rfl⟩

set_option maxRecDepth 100000 in
theorem newRow_no (mp : Value) (kind n : Int) (w : World) (h : ¬ (1 ≤ n ∧ n ≤ 4096)) : Calls Try.prog 11 #[mp, .int .i64 kind, .int .i64 n] w fun e w' => e = .returned (.tuple #[.pointer none, .int .i64 1]) ∧ w' = w := by
  by_cases h0 : n < 1
  · clear h
    go_enter Try.func11, Try.ntmps11
    go_wp2
    go_ret2
    exact ⟨rfl, rfl⟩
  · have h1 : 4096 < n := by omega
    clear h
    go_enter Try.func11, Try.ntmps11
    go_wp2
    go_ret2
    exact ⟨rfl, rfl⟩

set_option maxRecDepth 100000 in
theorem newRow_yes (p : Option Addr) (kind : Int) (n : Nat) (w : World) (h0 : 1 ≤ n) (h1 : n ≤ 4096) : Calls Try.prog 11 #[.pointer p, .int .i64 kind, .int .i64 n] w fun e w' => e = .returned (.tuple #[.pointer (some ⟨w.heap.size + 1, 0, none⟩), .int .i64 0]) ∧ w' = (w.alloc (.cells (Array.replicate n (.int .i64 0)) 2)).alloc (.cells #[.pointer p, .int .i64 kind, .slice (some ⟨w.heap.size, 0, none⟩) n n] 81) := by
  obtain ⟨i0, hi0, hz0, hz1, hz2⟩ := info_parts Try.info2
  have h2 : ¬ (n : Int) < 1 := by omega
  have h3 : ¬ (4096 : Int) < (n : Int) := by omega
  have hmk : (Instr.makeSlice 37 (.int .i64 n) (.int .i64 n)).run Try.prog w = .ok (.slice (some ⟨w.heap.size, 0, none⟩) n n) (w.alloc (.cells (Array.replicate n (.int .i64 0)) 2)) := by
    have := run_make (P := Try.prog) w 37 2 i0 _ Try.underlying37 hi0 hz0 .i64 .i64 n n (by omega) (by omega) (by rw [hz2]; omega) (by omega)
    have e : madeCells (Value.int .i64 0).cells n = Array.replicate n (.int .i64 0) := by
      apply Array.ext'
      exact (toList_madeCells_one (.int .i64 0) n).trans (by simp)
    rw [this, hz1, Int.toNat_natCast, Nat.mul_one, e]
  go_enter Try.func11, Try.ntmps11
  go_wp2
  go_ret2
  exact ⟨rfl, rfl⟩

theorem begin_nil (t : Int) (w : World) : Calls Try.prog 21 #[.pointer none, .int .i64 t] w fun e w' => e = .returned (.tuple #[]) ∧ w' = w := by
  go_enter Try.func21, Try.ntmps21
  go_wp2
  first | go_end0 | refine bodyPost_ret (results_none rfl _ _ _) rfl ?_
  exact ⟨rfl, rfl⟩
theorem note_nil (a b c : Int) (d : Bool) (w : World) : Calls Try.prog 42 #[.pointer none, .int .i64 a, .int .i64 b, .int .i64 c, .bool d] w fun e w' => e = .returned (.tuple #[]) ∧ w' = w := by
  go_enter Try.func42, Try.ntmps42
  go_wp2
  first | go_end0 | refine bodyPost_ret (results_none rfl _ _ _) rfl ?_
  exact ⟨rfl, rfl⟩
theorem steps_nil (w : World) : Calls Try.prog 31 #[.pointer none] w fun e w' => e = .returned (.int .i64 0) ∧ w' = w := by
  go_enter Try.func31, Try.ntmps31
  go_wp2
  go_ret
  exact ⟨rfl, rfl⟩
theorem done_nil (w : World) : Calls Try.prog 32 #[.pointer none] w fun e w' => e = .returned (.int .i64 0) ∧ w' = w := by
  go_enter Try.func32, Try.ntmps32
  go_wp2
  go_ret
  exact ⟨rfl, rfl⟩
theorem most_nil (w : World) : Calls Try.prog 25 #[.pointer none] w fun e w' => e = .returned (.int .i64 0) ∧ w' = w := by
  go_enter Try.func25, Try.ntmps25
  go_wp2
  go_ret
  exact ⟨rfl, rfl⟩
theorem log_nil (w : World) : Calls Try.prog 16 #[.pointer none] w fun e w' => e = .returned (.slice none 0 0) ∧ w' = w := by
  go_enter Try.func16, Try.ntmps16
  go_wp2
  go_ret
  exact ⟨rfl, rfl⟩
theorem steps_any (b m : Nat) (st th dn mo : Int) (v : Value) (l : List Acc) (w : World) (h : MeterAt 79 50 b w m st th dn mo v l) : Calls Try.prog 31 #[.pointer (some ⟨m, 0, none⟩)] w fun e w' => e = .returned (.int .i64 st) ∧ w' = w := by
  have c : w.cell? ⟨m, 0, none⟩ = some (.int .i64 st) := cell_of_heap h.heap
  clear h
  go_enter Try.func31, Try.ntmps31
  go_wp2
  go_ret
  exact ⟨rfl, rfl⟩
theorem done_any (b m : Nat) (st th dn mo : Int) (v : Value) (l : List Acc) (w : World) (h : MeterAt 79 50 b w m st th dn mo v l) : Calls Try.prog 32 #[.pointer (some ⟨m, 0, none⟩)] w fun e w' => e = .returned (.int .i64 dn) ∧ w' = w := by
  have c : w.cell? ⟨m, 2, none⟩ = some (.int .i64 dn) := cell_of_heap h.heap
  clear h
  go_enter Try.func32, Try.ntmps32
  go_wp2
  go_ret
  exact ⟨rfl, rfl⟩
theorem most_any (b m : Nat) (st th dn mo : Int) (v : Value) (l : List Acc) (w : World) (h : MeterAt 79 50 b w m st th dn mo v l) : Calls Try.prog 25 #[.pointer (some ⟨m, 0, none⟩)] w fun e w' => e = .returned (.int .i64 mo) ∧ w' = w := by
  have c : w.cell? ⟨m, 3, none⟩ = some (.int .i64 mo) := cell_of_heap h.heap
  clear h
  go_enter Try.func25, Try.ntmps25
  go_wp2
  go_ret
  exact ⟨rfl, rfl⟩
set_option maxRecDepth 100000 in
theorem begin_any (b m : Nat) (st th dn mo t : Int) (v : Value) (l : List Acc) (w : World) (h : MeterAt 79 50 b w m st th dn mo v l) (h0 : 0 ≤ st) (h1 : st < 4611686018427387904) : Calls Try.prog 21 #[.pointer (some ⟨m, 0, none⟩), .int .i64 t] w fun e w' => e = .returned (.tuple #[]) ∧ MeterAt 79 50 b w' m (st + 1) t 0 mo v l ∧ Kept (fun k => k = m) w w' := by
  have hvm : v.ownBlock ≠ some m := h.apart h.low
  obtain ⟨hm, ho, hlow, hhigh⟩ := h
  have c0 : w.cell? ⟨m, 0, none⟩ = some (.int .i64 st) := cell_of_heap hm
  have c1 : w.cell? ⟨m, 1, none⟩ = some (.int .i64 th) := cell_of_heap hm
  have c2 : w.cell? ⟨m, 2, none⟩ = some (.int .i64 dn) := cell_of_heap hm
  have f0 : w.frozen? ⟨m, 0, none⟩ = false := frozen_of_heap hm
  have f1 : w.frozen? ⟨m, 1, none⟩ = false := frozen_of_heap hm
  have f2 : w.frozen? ⟨m, 2, none⟩ = false := frozen_of_heap hm
  have HM := hm
  clear hm
  go_enter Try.func21, Try.ntmps21
  go_wp2
  go_end0
  refine ⟨rfl, ⟨?_, ownsRow_setCell_far (ownsRow_setCell_far (ownsRow_setCell_far ho hvm _) hvm _) hvm _, hlow, by simpa [World.setCell] using hhigh⟩, (((Kept.refl (fun k => k = m) w).setCell _ (.inl rfl)).setCell _ (.inl rfl)).setCell _ (.inl rfl)⟩
  rw [heap_setCell_at (heap_setCell_at (heap_setCell_at HM _) _) _]
  rfl
end Go.Proofs.Ytebhjfoggogmaaa
