/- What the code's gate does: New, Now, Look, trade, Take, Give. -/
import Derived.Test.YtpojkkdmlpjfeaaGtLoad
import Derived.Test.YtpojkkdmlpjfeaaGtTrade
import Derived.Test.YtpojkkdmlpjfeaaGtAll
import Derived.Deep.RegionWith
namespace Go.Proofs.Ytpojkkdmlpjfeaa
open Go.RowKit
set_option linter.unusedVariables false
set_option linter.unusedSimpArgs false
attribute [local go_sem ↓] Go.wp_at_zero Go.wp_at_succ

def gateI (g r : Nat) : It := boxI g #[.pointer (some ⟨r, 0, none⟩)] 130

set_option maxRecDepth 100000 in
theorem gateNew_st {o w : World} {its : List It} (h : St o its w) (mo : Option Nat) :
    Calls Try.prog 52 #[mptr mo] w fun e w' => e = .returned (.pointer (some ⟨w.heap.size + 1 + 1, 0, none⟩)) ∧ St o (gateI (w.heap.size + 1 + 1) (w.heap.size + 1) :: gtRowI (w.heap.size + 1) w.heap.size mo 2 [Gt.zero] :: its) w' ∧ w'.heap.size = w.heap.size + 3 := by
  have hnew := gtNew_st h mo 2 1 (by omega) (by omega)
  simp only [List.replicate] at hnew
  clear h
  simp only [mptr] at *
  generalize maddr mo = mp at *
  go_enter Try.func52, Try.ntmps52
  go_wp2_with fail
  refine hnew.mono ?_
  rintro e w1 ⟨rfl, hS1, hz⟩
  have hS2 := hS1.box #[.pointer (some ⟨w.heap.size + 1, 0, none⟩)] 130
  have HZ : Hid (w1.heap.size = w.heap.size + 2) := hz
  have HS : Hid (St o (gateI w1.heap.size (w.heap.size + 1) :: gtRowI (w.heap.size + 1) w.heap.size mo 2 [Gt.zero] :: its) (w1.alloc (.cells #[.pointer (some ⟨w.heap.size + 1, 0, none⟩)] 130))) := hS2
  clear hnew hS1 hz hS2
  go_wp2
  go_ret
  refine ⟨by rw [HZ.out]; rfl, ?_, by simp [HZ.out]⟩
  have := HS.out
  rw [HZ.out] at this
  exact this

set_option maxRecDepth 100000 in
set_option maxHeartbeats 1000000 in
theorem gateNow_st {o w : World} {its : List It} (h : St o its w) (a b : Nat) {g r c : Nat} {mo : Option Nat} {x : Gt} (ha : its[a]? = some (gateI g r)) (hb : its[b]? = some (gtRowI r c mo 2 [x])) :
    Calls Try.prog 34 #[.pointer (some ⟨g, 0, none⟩)] w fun e w' => e = .returned x.val ∧ St o its w' := by
  obtain ⟨xn, xo⟩ := x
  simp only [Gt.val]
  go_enter Try.func34, Try.ntmps34
  have hS0 := h.box #[.int .i64 0, .int .i64 0] 37
  have hc : (w.alloc (.cells #[.int .i64 0, .int .i64 0] 37)).cell? ⟨g, 0, none⟩ = some (.pointer (some ⟨r, 0, none⟩)) := hS0.cell (a + 1) ha 0
  have hcall := gtAll_st hS0 (b + 1) hb
  go_wp2_with fail
  generalize w.alloc (.cells #[.int .i64 0, .int .i64 0] 37) = W0 at *
  generalize w.heap.size = B at *
  refine hcall.mono ?_
  rintro e w1 ⟨v', rfl, hS1⟩
  have hown : w1.ownsRow 0 37 2 v' 1 [.int .i64 xn, .int .i64 xo] := hS1.get 0 rfl
  obtain ⟨q, cap, rfl, _, _⟩ := hown.form (by simp)
  have d0 : w1.cell? ⟨q, 0, none⟩ = some (.int .i64 xn) := hown.cellAt 0 (by simp)
  have d1 : w1.cell? ⟨q, 1, none⟩ = some (.int .i64 xo) := hown.cellAt 1 (by simp)
  have b0 : w1.cell? ⟨B, 0, none⟩ = some (.int .i64 0) := hS1.cell 1 rfl 0
  have b1 : w1.cell? ⟨B, 1, none⟩ = some (.int .i64 0) := hS1.cell 1 rfl 1
  have f0 : w1.frozen? ⟨B, 0, none⟩ = false := hS1.frozen 1 rfl 0
  have f1 : w1.frozen? ⟨B, 1, none⟩ = false := hS1.frozen 1 rfl 1
  have ne : ¬ q = B := hS1.ne 0 1 rfl rfl (by omega) (by simp [ownI, Value.ownBlock]) (by simp [boxI])
  have HS : Hid (∀ u0 u1 : Value, St o its ((w1.setCell ⟨B, 0, none⟩ u0).setCell ⟨B, 1, none⟩ u1)) := fun u0 u1 => ((hS1.write 1 rfl 0 u0).write 1 rfl 1 u1).pop.pop
  clear hown hS1 hcall hS0 h hc
  go_wp2
  exact bodyPost_ret (v := .agg #[.int .i64 xn, .int .i64 xo]) (by simp [results, Try.results34, go_sem, b0, b1]) rfl ⟨rfl, HS.out _ _⟩

/-- A trade of the gate's one cell. -/
def swapped (x a b : Gt) : Gt := if x.eq a then b else x
/-- Is it a thread's number? -/
def gTh (t : Int) : Bool := decide (1 ≤ t) && decide (t ≤ 8)
end Go.Proofs.Ytpojkkdmlpjfeaa
