/- Reads: how they lie in memory; missing, goOn, publish. -/
import Derived.Test.YtajfjkhbimehbaaRdM
import Derived.Test.YtajfjkhbimehbaaSpE
import Derived.Test.YtajfjkhbimehbaaEqS
import Derived.Laws.EntriesVeiled
import Derived.Deep.Cut
import Derived.Deep.CutBlock
namespace Go.Proofs.Ytajfjkhbimehbaa
open Go.RowKit
set_option linter.unusedVariables false
set_option linter.unusedSimpArgs false
attribute [local go_sem ↓] Go.wp_at_zero Go.wp_at_succ

/-- What the next step is, as a value: a method of the read in block k. -/
def nextV (k : Nat) (st : Nat) : Value :=
  if st = 0 then .func (.func 64) #[.pointer (some ⟨k, 0, none⟩)] #[]
  else if st = 1 then .func (.func 65) #[.pointer (some ⟨k, 0, none⟩)] #[]
  else if st = 2 then .func (.func 82) #[.pointer (some ⟨k, 0, none⟩)] #[]
  else if st = 3 then .func (.func 94) #[.pointer (some ⟨k, 0, none⟩)] #[]
  else .nilFunc
def Rd.cells (r : Rd) (s k : Nat) : Array Value :=
  #[.pointer (some ⟨s, 0, none⟩), .int .i64 r.sl, .int .i64 r.gn, .int .i64 r.sn, .int .u64 r.sg.lo, .int .u64 r.sg.hi, .int .i64 r.ce, .int .u64 r.bi.lo, .int .u64 r.bi.hi, nextV k r.st, .int .i64 r.va, .int .i64 r.e]
def rdI (k s : Nat) (r : Rd) : It := boxI k (r.cells s k) 104
def rdp (k : Nat) : Value := .pointer (some ⟨k, 0, none⟩)

section
variable {o w : World} {its : List It} {A : Ad} {c : Cfg} {z : SSt} {v u : Value} {k s : Nat} {r : Rd}
theorem rdCell (h : St o its w) (j : Nat) (hj : its[j]? = some (rdI k s r)) (n : Nat) : w.cell? ⟨k, n, none⟩ = (r.cells s k)[n]? := h.cell j hj n
theorem rdFrozen (h : St o its w) (j : Nat) (hj : its[j]? = some (rdI k s r)) (n : Nat) : w.frozen? ⟨k, n, none⟩ = false := h.frozen j hj n

set_option maxRecDepth 100000 in
set_option maxHeartbeats 1000000 in
theorem rdMissing (h : St o its w) (j : Nat) (hj : its[j]? = some (rdI k s r)) (h1 : r.sg.ok) (h2 : r.bi.ok) :
    Calls Try.prog 63 #[.pointer (some ⟨k, 0, none⟩)] w fun e w' => ∃ v, e = .returned v ∧ w'.ownsRow w.heap.size 3 1 v r.miss.length (cellsOf r.miss) ∧ Kept (fun _ => False) w w' := by
  have c4 : w.cell? ⟨k, 4, none⟩ = some (.int .u64 r.sg.lo) := rdCell h j hj 4
  have c5 : w.cell? ⟨k, 5, none⟩ = some (.int .u64 r.sg.hi) := rdCell h j hj 5
  have c7 : w.cell? ⟨k, 7, none⟩ = some (.int .u64 r.bi.lo) := rdCell h j hj 7
  have c8 : w.cell? ⟨k, 8, none⟩ = some (.int .u64 r.bi.hi) := rdCell h j hj 8
  have hq : Calls Try.prog 12 #[.agg #[.int .u64 r.sg.lo, .int .u64 r.sg.hi], .agg #[.int .u64 r.bi.lo, .int .u64 r.bi.hi]] w.drew fun e w' => ∃ v, e = .returned v ∧ (w'.cell? ⟨k, 4, none⟩ = some (.int .u64 r.sg.lo) ∧ w'.cell? ⟨k, 5, none⟩ = some (.int .u64 r.sg.hi) ∧ w'.cell? ⟨k, 7, none⟩ = some (.int .u64 r.bi.lo) ∧ w'.cell? ⟨k, 8, none⟩ = some (.int .u64 r.bi.hi)) ∧ Hid (w'.ownsRow w.heap.size 3 1 v r.miss.length (cellsOf r.miss) ∧ Kept (fun _ => False) w w') := by
    refine (touched_any r.sg r.bi h1 h2 w.drew).mono ?_
    rintro e w' ⟨v, he, ho, hk⟩
    have h' := h.drew.calm hk
    exact ⟨v, he, ⟨rdCell h' j hj 4, rdCell h' j hj 5, rdCell h' j hj 7, rdCell h' j hj 8⟩, ho, hk.ofDrew⟩
  clear h hj h1 h2
  generalize w.heap.size = H at *
  generalize r.miss = M at *
  obtain ⟨sl, gn, sn, ⟨g0, g1⟩, ce, ⟨b0, b1⟩, st, va, er⟩ := r
  simp only at *
  go_enter Try.func63, Try.ntmps63
  go_upto_region 1 with fail
  go_region_held3 (fun W => W.cell? ⟨k, 4, none⟩ = some (.int .u64 g0) ∧ W.cell? ⟨k, 5, none⟩ = some (.int .u64 g1) ∧ W.cell? ⟨k, 7, none⟩ = some (.int .u64 b0) ∧ W.cell? ⟨k, 8, none⟩ = some (.int .u64 b1)) (first | go_keep | exact rS)
    (first | (go_at_call 12; refine hq.mono ?_; rintro e w2 ⟨v, rfl, rS, HS⟩))
  clear hq c4 c5 c7 c8 rS
  go_wp2
  go_ret
  exact ⟨v, rfl, HS.out.1, HS.out.2⟩

set_option maxRecDepth 100000 in
set_option maxHeartbeats 1000000 in
theorem rdGoOn (h : St o its w) (j : Nat) (hj : its[j]? = some (rdI k s r)) (h1 : r.sg.ok) (h2 : r.bi.ok) :
    Calls Try.prog 44 #[.pointer (some ⟨k, 0, none⟩)] w fun e w' => e = .returned (.tuple #[]) ∧ St o (its.set j (rdI k s r.on)) w' := by
  have hq := rdMissing h j hj h1 h2
  have HR : Hid (∀ W, Kept (fun _ => False) w W → St o its W) := fun W hk => h.calm hk
  have HJ : Hid (its[j]? = some (rdI k s r)) := hj
  clear h hj h1 h2
  unfold Rd.on
  by_cases hm : r.miss = []
  · rw [if_pos hm]
    rw [hm] at hq
    go_enter Try.func44, Try.ntmps44
    go_wp2_with fail
    refine hq.mono ?_
    rintro e w1 ⟨v, rfl, ho, hk⟩
    have h1 := HR.out _ hk
    obtain ⟨a, cap, rfl⟩ := own_form (w := w1) (t := 3) (z := 1) (v := v) (n := 0) (xs := []) (own_zero ho)
    have f9 := rdFrozen h1 j HJ.out 9
    have c9 : w1.cell? ⟨k, 9, none⟩ = some (nextV k r.st) := rdCell h1 j HJ.out 9
    have HT : Hid (∀ x, St o (its.set j (boxI k ((r.cells s k).setIfInBounds 9 x) 104)) (w1.setCell ⟨k, 9, none⟩ x)) := fun x => h1.write j HJ.out 9 x
    generalize nextV k r.st = nv at c9
    clear hq ho hk h1 HR HJ
    go_wp2
    go_end0
    exact ⟨rfl, HT.out _⟩
  · rw [if_neg hm]
    have hl : (0 : Int) < (r.miss.length : Int) := by
      have := List.length_pos_iff.2 hm
      omega
    generalize r.miss = M at hq hl
    go_enter Try.func44, Try.ntmps44
    go_wp2_with fail
    refine hq.mono ?_
    rintro e w1 ⟨v, rfl, ho, hk⟩
    have h1 := HR.out _ hk
    obtain ⟨a, cap, rfl⟩ := own_form (w := w1) (t := 3) (z := 1) (v := v) (n := M.length) (xs := cellsOf M) (own_zero ho)
    have f9 := rdFrozen h1 j HJ.out 9
    have c9 : w1.cell? ⟨k, 9, none⟩ = some (nextV k r.st) := rdCell h1 j HJ.out 9
    have HT : Hid (∀ x, St o (its.set j (boxI k ((r.cells s k).setIfInBounds 9 x) 104)) (w1.setCell ⟨k, 9, none⟩ x)) := fun x => h1.write j HJ.out 9 x
    generalize nextV k r.st = nv at c9
    generalize M.length = ML at *
    clear hq ho hk h1 HR HJ hm
    go_wp2
    go_end0
    exact ⟨rfl, HT.out _⟩
end
end Go.Proofs.Ytajfjkhbimehbaa
