/- The document's own machine: a step that asks for cells, begins, commits or ends. The document's own machine: a step that asks for cells, begins, commits or ends. -/
import Derived.Test.YtbpilhjomfkpaaaGreatDoorOwD
namespace Go.Proofs.YtbpilhjomfkpaaaGreatDoor
open Go.RowKit Go.Deep
set_option linter.unusedVariables false
set_option linter.unusedSimpArgs false
attribute [local go_sem ↓] Go.wp_at_zero Go.wp_at_succ
set_option maxRecDepth 100000 in
set_option maxHeartbeats 4000000 in
theorem step_end {b w : World} {X : Nat} {V : OwV} {o : Ow} {R : List It} {la : Option Addr} {n lc : Nat} (h : OwAt b X V o R w) (hp : o.place = n) (hm : o.may ⟨22, 0⟩) (hn : n ≤ 400) :
    Calls Tryz.prog 30 #[.pointer (some ⟨X, 0, none⟩), .slice la n lc] w fun e w' => e = .returned (.tuple #[]) ∧ ∃ V', OwAt b X V' (o.go ⟨22, 0⟩) R w' := by
  obtain ⟨i0, hi0, hz0, hz1, hz2⟩ := info_parts Tryz.infoX
  obtain ⟨hdone, hkn, hpop, hpush, h16, h17, h22, h56, hc17, hc18⟩ := hm
  simp only at hkn hpop hpush h16 h17 h22 h56 hc17 hc18
  obtain ⟨sa, sc, eS, hmx⟩ := h.stkForm
  have hrow : (rowOf (22 : Int)).pops = 0 ∧ (rowOf (22 : Int)).pushes = 0 := by decide
  have hdep : o.stack.length ≤ 64 := by omega
  have hdp : 0 ≤ o.stack.length := by omega
  have hWr := fun W => Wrong_any 22 o.stack.length o.inside (by decide) hpop hpush (fun e => by first | (exfalso; omega) | exact h16 | exact h16 rfl | exact h16 (by decide)) (fun e => by first | (exfalso; omega) | exact h17 | exact h17 rfl | exact h17 (by decide)) (fun e => by first | (exfalso; omega) | exact h22 | exact h22 rfl | exact h22 (by decide)) (by omega) W
  have s1 := h.box #[.int .i64 22, .int .i64 0] 91
  have b0 : w.cell? ⟨X, 14, none⟩ = some (.bool false) := by rw [← hdone]; exact h.late 3 rfl
  have f2 : (w.alloc (.cells #[.int .i64 22, .int .i64 0] 91)).cell? ⟨w.heap.size, 1, none⟩ = some (.int .i64 0) := s1.rCell 1
  have f3 : (w.alloc (.cells #[.int .i64 22, .int .i64 0] 91)).frozen? ⟨w.heap.size, 1, none⟩ = false := s1.rFrz 1
  have HS1 := hid (s1.rSet 1 (.int .i64 0))
  generalize hw1 : w.alloc (.cells #[.int .i64 22, .int .i64 0] 91) = w1 at *
  generalize hY : w.heap.size = Y at *
  have hq1 : ¬ (n : Int) < (n : Int) := by omega
  have H17 := hid h17
  have HC17 := hid hc17
  have HC18 := hid hc18
  clear h hdone hkn hpop hpush h16 h17 h22 h56 hc17 hc18 s1 hrow
  go_enter Tryz.func30, Tryz.ntmps30
  go_upto_region 2 with (simp only [hw1, hY])
  obtain ⟨w1', hw1'⟩ : ∃ w1', w1' = w1.setCell ⟨Y, 1, none⟩ (.int .i64 0) := ⟨_, rfl⟩
  rw [← hw1'] at HS1 ⊢
  have s1 : OwAt b X V o (boxI Y #[.int .i64 22, .int .i64 0] 91 :: R) w1' := HS1.out
  have b1 : w1'.cell? ⟨X, 1, none⟩ = some (.int .i64 n) := by rw [← hp]; exact s1.at 1 rfl
  have b2 : w1'.cell? ⟨Y, 0, none⟩ = some (.int .i64 22) := s1.rCell 0
  have b3 : w1'.cell? ⟨Y, 1, none⟩ = some (.int .i64 0) := s1.rCell 1
  have b4 : w1'.frozen? ⟨Y, 0, none⟩ = false := s1.rFrz 0
  have b5 : w1'.frozen? ⟨Y, 1, none⟩ = false := s1.rFrz 1
  have HS2 := hid s1
  clear s1 hw1 hY hw1' HS1 f2 f3 b0
  go_upto_region 4 with fail
  clear b1 b2 b3 b4 b5
  generalize w1' = w2 at *
  have s2 := HS2.out
  have c0 : w2.cell? ⟨Y, 0, none⟩ = some (.int .i64 22) := s2.rCell 0
  have c1 : w2.drew.cell? ⟨X, 2, none⟩ = some (.slice sa o.stack.length sc) := by rw [← eS]; exact s2.drew.at 2 rfl
  have c2 : w2.drew.cell? ⟨X, 13, none⟩ = some (.bool o.inside) := s2.drew.late 2 rfl
  go_upto_region 5 with fail
  go_region_held3 (fun W => W.cell? ⟨X, 2, none⟩ = some (.slice sa o.stack.length sc) ∧ W.cell? ⟨X, 13, none⟩ = some (.bool o.inside)) (first | go_keep | exact rS | exact ⟨c1, c2⟩) (first | (go_at_call 53; refine (hWr _).mono ?_; rintro e wk ⟨rfl, rfl⟩))
  have HS3 := hid s2.drew
  have hSh : Calls Tryz.prog 55 #[.pointer (some ⟨X, 0, none⟩), .int .i64 22, .int .i64 0] w2.drew _ := shared_22 s2.drew hp (by omega) 
  clear s2 HS2 c0 c1 c2 hp hWr eS H17 HC17 HC18
  generalize w2.drew = w3 at *
  have c3 : w3.cell? ⟨Y, 0, none⟩ = some (.int .i64 22) := HS3.out.rCell 0
  have c4 : w3.cell? ⟨Y, 1, none⟩ = some (.int .i64 0) := HS3.out.rCell 1
  go_wp2_with (go_at_call 55; refine hSh.mono ?_; rintro e w5 ⟨rfl, V5, hs5⟩)
  first | go_end0 | refine bodyPost_ret (results_none rfl _ _ _) rfl ?_
  exact ⟨rfl, _, hs5.popR⟩
end Go.Proofs.YtbpilhjomfkpaaaGreatDoor

namespace Go.Proofs.YtbpilhjomfkpaaaGreatDoor
open Go.RowKit Go.Deep
set_option linter.unusedVariables false
set_option linter.unusedSimpArgs false
attribute [local go_sem ↓] Go.wp_at_zero Go.wp_at_succ
set_option maxRecDepth 100000 in
set_option maxHeartbeats 4000000 in
theorem step_16 {b w : World} {X : Nat} {V : OwV} {o : Ow} {R : List It} {la : Option Addr} {n lc : Nat} {l : List Ins} {p : Nat} {a : Int} (h : OwAt b X V o R w) (hI : IIn w la n l) (hp : o.place = p) (hpn : p < n) (hx : l.getD p Ins.zero = ⟨16, a⟩) (hm : o.may ⟨16, a⟩) (hn : n ≤ 400) (hcb : o.cells.length ≤ 1000) :
    Calls Tryz.prog 30 #[.pointer (some ⟨X, 0, none⟩), .slice la n lc] w fun e w' => e = .returned (.tuple #[]) ∧ ∃ V', OwAt b X V' (o.go ⟨16, a⟩) R w' := by
  obtain ⟨i0, hi0, hz0, hz1, hz2⟩ := info_parts Tryz.infoX
  obtain ⟨hdone, hkn, hpop, hpush, h16, h17, h22, h56, hc17, hc18⟩ := hm
  simp only at hkn hpop hpush h16 h17 h22 h56 hc17 hc18
  obtain ⟨sa, sc, eS, hmx⟩ := h.stkForm
  have hnl := hI.1
  obtain ⟨g, o1, rfl⟩ := hI.addr (by omega)
  have hrow : (rowOf (16 : Int)).pops = 0 ∧ (rowOf (16 : Int)).pushes = 0 := by decide
  have hdep : o.stack.length ≤ 64 := by omega
  have hdp : 0 ≤ o.stack.length := by omega
  have hWr := fun W => Wrong_any 16 o.stack.length o.inside (by decide) hpop hpush (fun e => by first | (exfalso; omega) | exact h16 | exact h16 rfl | exact h16 (by decide)) (fun e => by first | (exfalso; omega) | exact h17 | exact h17 rfl | exact h17 (by decide)) (fun e => by first | (exfalso; omega) | exact h22 | exact h22 rfl | exact h22 (by decide)) (by omega) W
  have s1 := h.box #[.int .i64 22, .int .i64 0] 91
  have b0 : w.cell? ⟨X, 14, none⟩ = some (.bool false) := by rw [← hdone]; exact h.late 3 rfl
  have f2 : (w.alloc (.cells #[.int .i64 22, .int .i64 0] 91)).cell? ⟨w.heap.size, 1, none⟩ = some (.int .i64 0) := s1.rCell 1
  have f3 : (w.alloc (.cells #[.int .i64 22, .int .i64 0] 91)).frozen? ⟨w.heap.size, 1, none⟩ = false := s1.rFrz 1
  have HS1 := hid (s1.rSet 1 (.int .i64 0))
  have HI1 := hid (hI.kept ((kept_alloc w (.cells #[.int .i64 22, .int .i64 0] 91)).setCell (p := ⟨w.heap.size, 1, none⟩) (.int .i64 0) (.inr (Nat.le_refl _))))
  generalize hw1 : w.alloc (.cells #[.int .i64 22, .int .i64 0] 91) = w1 at *
  generalize hY : w.heap.size = Y at *
  have hq0 : (0 : Int) ≤ (p : Int) := by omega
  have hq1 : (p : Int) < (n : Int) := by omega
  have H17 := hid h17
  have HC17 := hid hc17
  have HC18 := hid hc18
  clear h hI hdone hkn hpop hpush h16 h17 h22 h56 hc17 hc18 s1 hrow
  go_enter Tryz.func30, Tryz.ntmps30
  go_upto_region 2 with (simp only [hw1, hY])
  obtain ⟨w1', hw1'⟩ : ∃ w1', w1' = w1.setCell ⟨Y, 1, none⟩ (.int .i64 0) := ⟨_, rfl⟩
  rw [← hw1'] at HS1 HI1 ⊢
  have s1 : OwAt b X V o (boxI Y #[.int .i64 22, .int .i64 0] 91 :: R) w1' := HS1.out
  obtain ⟨x0, x1⟩ := HI1.out.cells (j := p) (by omega)
  rw [hx] at x0 x1
  simp only at x0 x1
  have b1 : w1'.cell? ⟨X, 1, none⟩ = some (.int .i64 p) := by rw [← hp]; exact s1.at 1 rfl
  have b2 : w1'.cell? ⟨Y, 0, none⟩ = some (.int .i64 22) := s1.rCell 0
  have b3 : w1'.cell? ⟨Y, 1, none⟩ = some (.int .i64 0) := s1.rCell 1
  have b4 : w1'.frozen? ⟨Y, 0, none⟩ = false := s1.rFrz 0
  have b5 : w1'.frozen? ⟨Y, 1, none⟩ = false := s1.rFrz 1
  have HS2 := hid ((s1.rSet 0 (.int .i64 16)).rSet 1 (.int .i64 a))
  clear hx hnl s1 hw1 hY hw1' HI1 HS1 f2 f3 b0
  go_upto_region 4 with fail
  obtain ⟨w2, hw2⟩ : ∃ w2, w2 = (w1'.setCell ⟨Y, 0, none⟩ (.int .i64 16)).setCell ⟨Y, 1, none⟩ (.int .i64 a) := ⟨_, rfl⟩
  rw [← hw2] at HS2 ⊢
  clear hw2 b1 b2 b3 b4 b5 x0 x1
  have s2 : OwAt b X V o (boxI Y #[.int .i64 16, .int .i64 a] 91 :: R) w2 := HS2.out
  have c0 : w2.cell? ⟨Y, 0, none⟩ = some (.int .i64 16) := s2.rCell 0
  have c1 : w2.drew.cell? ⟨X, 2, none⟩ = some (.slice sa o.stack.length sc) := by rw [← eS]; exact s2.drew.at 2 rfl
  have c2 : w2.drew.cell? ⟨X, 13, none⟩ = some (.bool o.inside) := s2.drew.late 2 rfl
  go_upto_region 5 with fail
  go_region_held3 (fun W => W.cell? ⟨X, 2, none⟩ = some (.slice sa o.stack.length sc) ∧ W.cell? ⟨X, 13, none⟩ = some (.bool o.inside)) (first | go_keep | exact rS | exact ⟨c1, c2⟩) (first | (go_at_call 53; refine (hWr _).mono ?_; rintro e wk ⟨rfl, rfl⟩))
  have HS3 := hid s2.drew
  have hSh : Calls Tryz.prog 55 #[.pointer (some ⟨X, 0, none⟩), .int .i64 16, .int .i64 a] w2.drew _ := shared_16 s2.drew hp (by omega) hcb (by omega)
  clear s2 HS2 c0 c1 c2 hp hWr eS H17 HC17 HC18
  generalize w2.drew = w3 at *
  have c3 : w3.cell? ⟨Y, 0, none⟩ = some (.int .i64 16) := HS3.out.rCell 0
  have c4 : w3.cell? ⟨Y, 1, none⟩ = some (.int .i64 a) := HS3.out.rCell 1
  go_wp2_with (go_at_call 55; refine hSh.mono ?_; rintro e w5 ⟨rfl, V5, hs5⟩)
  first | go_end0 | refine bodyPost_ret (results_none rfl _ _ _) rfl ?_
  exact ⟨rfl, _, hs5.popR⟩
set_option maxRecDepth 100000 in
set_option maxHeartbeats 4000000 in
theorem step_17 {b w : World} {X : Nat} {V : OwV} {o : Ow} {R : List It} {la : Option Addr} {n lc : Nat} {l : List Ins} {p : Nat} {a : Int} (h : OwAt b X V o R w) (hI : IIn w la n l) (hp : o.place = p) (hpn : p < n) (hx : l.getD p Ins.zero = ⟨17, a⟩) (hm : o.may ⟨17, a⟩) (hn : n ≤ 400)  :
    Calls Tryz.prog 30 #[.pointer (some ⟨X, 0, none⟩), .slice la n lc] w fun e w' => e = .returned (.tuple #[]) ∧ ∃ V', OwAt b X V' (o.go ⟨17, a⟩) R w' := by
  obtain ⟨i0, hi0, hz0, hz1, hz2⟩ := info_parts Tryz.infoX
  obtain ⟨hdone, hkn, hpop, hpush, h16, h17, h22, h56, hc17, hc18⟩ := hm
  simp only at hkn hpop hpush h16 h17 h22 h56 hc17 hc18
  obtain ⟨sa, sc, eS, hmx⟩ := h.stkForm
  have hnl := hI.1
  obtain ⟨g, o1, rfl⟩ := hI.addr (by omega)
  have hrow : (rowOf (17 : Int)).pops = 1 ∧ (rowOf (17 : Int)).pushes = 1 := by decide
  have hdep : o.stack.length ≤ 64 := by omega
  have hdp : 1 ≤ o.stack.length := by omega
  have hWr := fun W => Wrong_any 17 o.stack.length o.inside (by decide) hpop hpush (fun e => by first | (exfalso; omega) | exact h16 | exact h16 rfl | exact h16 (by decide)) (fun e => by first | (exfalso; omega) | exact h17 | exact h17 rfl | exact h17 (by decide)) (fun e => by first | (exfalso; omega) | exact h22 | exact h22 rfl | exact h22 (by decide)) (by omega) W
  have s1 := h.box #[.int .i64 22, .int .i64 0] 91
  have b0 : w.cell? ⟨X, 14, none⟩ = some (.bool false) := by rw [← hdone]; exact h.late 3 rfl
  have f2 : (w.alloc (.cells #[.int .i64 22, .int .i64 0] 91)).cell? ⟨w.heap.size, 1, none⟩ = some (.int .i64 0) := s1.rCell 1
  have f3 : (w.alloc (.cells #[.int .i64 22, .int .i64 0] 91)).frozen? ⟨w.heap.size, 1, none⟩ = false := s1.rFrz 1
  have HS1 := hid (s1.rSet 1 (.int .i64 0))
  have HI1 := hid (hI.kept ((kept_alloc w (.cells #[.int .i64 22, .int .i64 0] 91)).setCell (p := ⟨w.heap.size, 1, none⟩) (.int .i64 0) (.inr (Nat.le_refl _))))
  generalize hw1 : w.alloc (.cells #[.int .i64 22, .int .i64 0] 91) = w1 at *
  generalize hY : w.heap.size = Y at *
  have hq0 : (0 : Int) ≤ (p : Int) := by omega
  have hq1 : (p : Int) < (n : Int) := by omega
  have H17 := hid h17
  have HC17 := hid hc17
  have HC18 := hid hc18
  clear h hI hdone hkn hpop hpush h16 h17 h22 h56 hc17 hc18 s1 hrow
  go_enter Tryz.func30, Tryz.ntmps30
  go_upto_region 2 with (simp only [hw1, hY])
  obtain ⟨w1', hw1'⟩ : ∃ w1', w1' = w1.setCell ⟨Y, 1, none⟩ (.int .i64 0) := ⟨_, rfl⟩
  rw [← hw1'] at HS1 HI1 ⊢
  have s1 : OwAt b X V o (boxI Y #[.int .i64 22, .int .i64 0] 91 :: R) w1' := HS1.out
  obtain ⟨x0, x1⟩ := HI1.out.cells (j := p) (by omega)
  rw [hx] at x0 x1
  simp only at x0 x1
  have b1 : w1'.cell? ⟨X, 1, none⟩ = some (.int .i64 p) := by rw [← hp]; exact s1.at 1 rfl
  have b2 : w1'.cell? ⟨Y, 0, none⟩ = some (.int .i64 22) := s1.rCell 0
  have b3 : w1'.cell? ⟨Y, 1, none⟩ = some (.int .i64 0) := s1.rCell 1
  have b4 : w1'.frozen? ⟨Y, 0, none⟩ = false := s1.rFrz 0
  have b5 : w1'.frozen? ⟨Y, 1, none⟩ = false := s1.rFrz 1
  have HS2 := hid ((s1.rSet 0 (.int .i64 17)).rSet 1 (.int .i64 a))
  clear hx hnl s1 hw1 hY hw1' HI1 HS1 f2 f3 b0
  go_upto_region 4 with fail
  obtain ⟨w2, hw2⟩ : ∃ w2, w2 = (w1'.setCell ⟨Y, 0, none⟩ (.int .i64 17)).setCell ⟨Y, 1, none⟩ (.int .i64 a) := ⟨_, rfl⟩
  rw [← hw2] at HS2 ⊢
  clear hw2 b1 b2 b3 b4 b5 x0 x1
  have s2 : OwAt b X V o (boxI Y #[.int .i64 17, .int .i64 a] 91 :: R) w2 := HS2.out
  have c0 : w2.cell? ⟨Y, 0, none⟩ = some (.int .i64 17) := s2.rCell 0
  have c1 : w2.drew.cell? ⟨X, 2, none⟩ = some (.slice sa o.stack.length sc) := by rw [← eS]; exact s2.drew.at 2 rfl
  have c2 : w2.drew.cell? ⟨X, 13, none⟩ = some (.bool o.inside) := s2.drew.late 2 rfl
  go_upto_region 5 with fail
  go_region_held3 (fun W => W.cell? ⟨X, 2, none⟩ = some (.slice sa o.stack.length sc) ∧ W.cell? ⟨X, 13, none⟩ = some (.bool o.inside)) (first | go_keep | exact rS | exact ⟨c1, c2⟩) (first | (go_at_call 53; refine (hWr _).mono ?_; rintro e wk ⟨rfl, rfl⟩))
  have HS3 := hid s2.drew
  have hSh : Calls Tryz.prog 55 #[.pointer (some ⟨X, 0, none⟩), .int .i64 17, .int .i64 a] w2.drew _ := shared_17 s2.drew hp (by omega) (HC17.out trivial) (by omega) (by omega)
  clear s2 HS2 c0 c1 c2 hp hWr eS H17 HC17 HC18
  generalize w2.drew = w3 at *
  have c3 : w3.cell? ⟨Y, 0, none⟩ = some (.int .i64 17) := HS3.out.rCell 0
  have c4 : w3.cell? ⟨Y, 1, none⟩ = some (.int .i64 a) := HS3.out.rCell 1
  go_wp2_with (go_at_call 55; refine hSh.mono ?_; rintro e w5 ⟨rfl, V5, hs5⟩)
  first | go_end0 | refine bodyPost_ret (results_none rfl _ _ _) rfl ?_
  exact ⟨rfl, _, hs5.popR⟩
set_option maxRecDepth 100000 in
set_option maxHeartbeats 4000000 in
theorem step_18 {b w : World} {X : Nat} {V : OwV} {o : Ow} {R : List It} {la : Option Addr} {n lc : Nat} {l : List Ins} {p : Nat} {a : Int} (h : OwAt b X V o R w) (hI : IIn w la n l) (hp : o.place = p) (hpn : p < n) (hx : l.getD p Ins.zero = ⟨18, a⟩) (hm : o.may ⟨18, a⟩) (hn : n ≤ 400) (hw6 : o.wrote.length ≤ 16) :
    Calls Tryz.prog 30 #[.pointer (some ⟨X, 0, none⟩), .slice la n lc] w fun e w' => e = .returned (.tuple #[]) ∧ ∃ V', OwAt b X V' (o.go ⟨18, a⟩) R w' := by
  obtain ⟨i0, hi0, hz0, hz1, hz2⟩ := info_parts Tryz.infoX
  obtain ⟨hdone, hkn, hpop, hpush, h16, h17, h22, h56, hc17, hc18⟩ := hm
  simp only at hkn hpop hpush h16 h17 h22 h56 hc17 hc18
  obtain ⟨sa, sc, eS, hmx⟩ := h.stkForm
  have hnl := hI.1
  obtain ⟨g, o1, rfl⟩ := hI.addr (by omega)
  have hrow : (rowOf (18 : Int)).pops = 2 ∧ (rowOf (18 : Int)).pushes = 0 := by decide
  have hdep : o.stack.length ≤ 64 := by omega
  have hdp : 2 ≤ o.stack.length := by omega
  have hWr := fun W => Wrong_any 18 o.stack.length o.inside (by decide) hpop hpush (fun e => by first | (exfalso; omega) | exact h16 | exact h16 rfl | exact h16 (by decide)) (fun e => by first | (exfalso; omega) | exact h17 | exact h17 rfl | exact h17 (by decide)) (fun e => by first | (exfalso; omega) | exact h22 | exact h22 rfl | exact h22 (by decide)) (by omega) W
  have s1 := h.box #[.int .i64 22, .int .i64 0] 91
  have b0 : w.cell? ⟨X, 14, none⟩ = some (.bool false) := by rw [← hdone]; exact h.late 3 rfl
  have f2 : (w.alloc (.cells #[.int .i64 22, .int .i64 0] 91)).cell? ⟨w.heap.size, 1, none⟩ = some (.int .i64 0) := s1.rCell 1
  have f3 : (w.alloc (.cells #[.int .i64 22, .int .i64 0] 91)).frozen? ⟨w.heap.size, 1, none⟩ = false := s1.rFrz 1
  have HS1 := hid (s1.rSet 1 (.int .i64 0))
  have HI1 := hid (hI.kept ((kept_alloc w (.cells #[.int .i64 22, .int .i64 0] 91)).setCell (p := ⟨w.heap.size, 1, none⟩) (.int .i64 0) (.inr (Nat.le_refl _))))
  generalize hw1 : w.alloc (.cells #[.int .i64 22, .int .i64 0] 91) = w1 at *
  generalize hY : w.heap.size = Y at *
  have hq0 : (0 : Int) ≤ (p : Int) := by omega
  have hq1 : (p : Int) < (n : Int) := by omega
  have H17 := hid h17
  have HC17 := hid hc17
  have HC18 := hid hc18
  clear h hI hdone hkn hpop hpush h16 h17 h22 h56 hc17 hc18 s1 hrow
  go_enter Tryz.func30, Tryz.ntmps30
  go_upto_region 2 with (simp only [hw1, hY])
  obtain ⟨w1', hw1'⟩ : ∃ w1', w1' = w1.setCell ⟨Y, 1, none⟩ (.int .i64 0) := ⟨_, rfl⟩
  rw [← hw1'] at HS1 HI1 ⊢
  have s1 : OwAt b X V o (boxI Y #[.int .i64 22, .int .i64 0] 91 :: R) w1' := HS1.out
  obtain ⟨x0, x1⟩ := HI1.out.cells (j := p) (by omega)
  rw [hx] at x0 x1
  simp only at x0 x1
  have b1 : w1'.cell? ⟨X, 1, none⟩ = some (.int .i64 p) := by rw [← hp]; exact s1.at 1 rfl
  have b2 : w1'.cell? ⟨Y, 0, none⟩ = some (.int .i64 22) := s1.rCell 0
  have b3 : w1'.cell? ⟨Y, 1, none⟩ = some (.int .i64 0) := s1.rCell 1
  have b4 : w1'.frozen? ⟨Y, 0, none⟩ = false := s1.rFrz 0
  have b5 : w1'.frozen? ⟨Y, 1, none⟩ = false := s1.rFrz 1
  have HS2 := hid ((s1.rSet 0 (.int .i64 18)).rSet 1 (.int .i64 a))
  clear hx hnl s1 hw1 hY hw1' HI1 HS1 f2 f3 b0
  go_upto_region 4 with fail
  obtain ⟨w2, hw2⟩ : ∃ w2, w2 = (w1'.setCell ⟨Y, 0, none⟩ (.int .i64 18)).setCell ⟨Y, 1, none⟩ (.int .i64 a) := ⟨_, rfl⟩
  rw [← hw2] at HS2 ⊢
  clear hw2 b1 b2 b3 b4 b5 x0 x1
  have s2 : OwAt b X V o (boxI Y #[.int .i64 18, .int .i64 a] 91 :: R) w2 := HS2.out
  have c0 : w2.cell? ⟨Y, 0, none⟩ = some (.int .i64 18) := s2.rCell 0
  have c1 : w2.drew.cell? ⟨X, 2, none⟩ = some (.slice sa o.stack.length sc) := by rw [← eS]; exact s2.drew.at 2 rfl
  have c2 : w2.drew.cell? ⟨X, 13, none⟩ = some (.bool o.inside) := s2.drew.late 2 rfl
  go_upto_region 5 with fail
  go_region_held3 (fun W => W.cell? ⟨X, 2, none⟩ = some (.slice sa o.stack.length sc) ∧ W.cell? ⟨X, 13, none⟩ = some (.bool o.inside)) (first | go_keep | exact rS | exact ⟨c1, c2⟩) (first | (go_at_call 53; refine (hWr _).mono ?_; rintro e wk ⟨rfl, rfl⟩))
  have HS3 := hid s2.drew
  have hSh : Calls Tryz.prog 55 #[.pointer (some ⟨X, 0, none⟩), .int .i64 18, .int .i64 a] w2.drew _ := shared_18 s2.drew hp (by omega) ⟨(HC18.out trivial).1, (HC18.out trivial).2.1⟩ (by omega) (by omega) (HC18.out trivial).2.2 hw6
  clear s2 HS2 c0 c1 c2 hp hWr eS H17 HC17 HC18
  generalize w2.drew = w3 at *
  have c3 : w3.cell? ⟨Y, 0, none⟩ = some (.int .i64 18) := HS3.out.rCell 0
  have c4 : w3.cell? ⟨Y, 1, none⟩ = some (.int .i64 a) := HS3.out.rCell 1
  go_wp2_with (go_at_call 55; refine hSh.mono ?_; rintro e w5 ⟨rfl, V5, hs5⟩)
  first | go_end0 | refine bodyPost_ret (results_none rfl _ _ _) rfl ?_
  exact ⟨rfl, _, hs5.popR⟩
set_option maxRecDepth 100000 in
set_option maxHeartbeats 4000000 in
theorem step_19 {b w : World} {X : Nat} {V : OwV} {o : Ow} {R : List It} {la : Option Addr} {n lc : Nat} {l : List Ins} {p : Nat} {a : Int} (h : OwAt b X V o R w) (hI : IIn w la n l) (hp : o.place = p) (hpn : p < n) (hx : l.getD p Ins.zero = ⟨19, a⟩) (hm : o.may ⟨19, a⟩) (hn : n ≤ 400) (hh : 0 < o.held.length) (hb : o.told.length + o.held.length ≤ 100000) :
    Calls Tryz.prog 30 #[.pointer (some ⟨X, 0, none⟩), .slice la n lc] w fun e w' => e = .returned (.tuple #[]) ∧ ∃ V', OwAt b X V' (o.go ⟨19, a⟩) R w' := by
  obtain ⟨i0, hi0, hz0, hz1, hz2⟩ := info_parts Tryz.infoX
  obtain ⟨hdone, hkn, hpop, hpush, h16, h17, h22, h56, hc17, hc18⟩ := hm
  simp only at hkn hpop hpush h16 h17 h22 h56 hc17 hc18
  obtain ⟨sa, sc, eS, hmx⟩ := h.stkForm
  have hnl := hI.1
  obtain ⟨g, o1, rfl⟩ := hI.addr (by omega)
  have hrow : (rowOf (19 : Int)).pops = 0 ∧ (rowOf (19 : Int)).pushes = 0 := by decide
  have hdep : o.stack.length ≤ 64 := by omega
  have hdp : 0 ≤ o.stack.length := by omega
  have hWr := fun W => Wrong_any 19 o.stack.length o.inside (by decide) hpop hpush (fun e => by first | (exfalso; omega) | exact h16 | exact h16 rfl | exact h16 (by decide)) (fun e => by first | (exfalso; omega) | exact h17 | exact h17 rfl | exact h17 (by decide)) (fun e => by first | (exfalso; omega) | exact h22 | exact h22 rfl | exact h22 (by decide)) (by omega) W
  have s1 := h.box #[.int .i64 22, .int .i64 0] 91
  have b0 : w.cell? ⟨X, 14, none⟩ = some (.bool false) := by rw [← hdone]; exact h.late 3 rfl
  have f2 : (w.alloc (.cells #[.int .i64 22, .int .i64 0] 91)).cell? ⟨w.heap.size, 1, none⟩ = some (.int .i64 0) := s1.rCell 1
  have f3 : (w.alloc (.cells #[.int .i64 22, .int .i64 0] 91)).frozen? ⟨w.heap.size, 1, none⟩ = false := s1.rFrz 1
  have HS1 := hid (s1.rSet 1 (.int .i64 0))
  have HI1 := hid (hI.kept ((kept_alloc w (.cells #[.int .i64 22, .int .i64 0] 91)).setCell (p := ⟨w.heap.size, 1, none⟩) (.int .i64 0) (.inr (Nat.le_refl _))))
  generalize hw1 : w.alloc (.cells #[.int .i64 22, .int .i64 0] 91) = w1 at *
  generalize hY : w.heap.size = Y at *
  have hq0 : (0 : Int) ≤ (p : Int) := by omega
  have hq1 : (p : Int) < (n : Int) := by omega
  have H17 := hid h17
  have HC17 := hid hc17
  have HC18 := hid hc18
  clear h hI hdone hkn hpop hpush h16 h17 h22 h56 hc17 hc18 s1 hrow
  go_enter Tryz.func30, Tryz.ntmps30
  go_upto_region 2 with (simp only [hw1, hY])
  obtain ⟨w1', hw1'⟩ : ∃ w1', w1' = w1.setCell ⟨Y, 1, none⟩ (.int .i64 0) := ⟨_, rfl⟩
  rw [← hw1'] at HS1 HI1 ⊢
  have s1 : OwAt b X V o (boxI Y #[.int .i64 22, .int .i64 0] 91 :: R) w1' := HS1.out
  obtain ⟨x0, x1⟩ := HI1.out.cells (j := p) (by omega)
  rw [hx] at x0 x1
  simp only at x0 x1
  have b1 : w1'.cell? ⟨X, 1, none⟩ = some (.int .i64 p) := by rw [← hp]; exact s1.at 1 rfl
  have b2 : w1'.cell? ⟨Y, 0, none⟩ = some (.int .i64 22) := s1.rCell 0
  have b3 : w1'.cell? ⟨Y, 1, none⟩ = some (.int .i64 0) := s1.rCell 1
  have b4 : w1'.frozen? ⟨Y, 0, none⟩ = false := s1.rFrz 0
  have b5 : w1'.frozen? ⟨Y, 1, none⟩ = false := s1.rFrz 1
  have HS2 := hid ((s1.rSet 0 (.int .i64 19)).rSet 1 (.int .i64 a))
  clear hx hnl s1 hw1 hY hw1' HI1 HS1 f2 f3 b0
  go_upto_region 4 with fail
  obtain ⟨w2, hw2⟩ : ∃ w2, w2 = (w1'.setCell ⟨Y, 0, none⟩ (.int .i64 19)).setCell ⟨Y, 1, none⟩ (.int .i64 a) := ⟨_, rfl⟩
  rw [← hw2] at HS2 ⊢
  clear hw2 b1 b2 b3 b4 b5 x0 x1
  have s2 : OwAt b X V o (boxI Y #[.int .i64 19, .int .i64 a] 91 :: R) w2 := HS2.out
  have c0 : w2.cell? ⟨Y, 0, none⟩ = some (.int .i64 19) := s2.rCell 0
  have c1 : w2.drew.cell? ⟨X, 2, none⟩ = some (.slice sa o.stack.length sc) := by rw [← eS]; exact s2.drew.at 2 rfl
  have c2 : w2.drew.cell? ⟨X, 13, none⟩ = some (.bool o.inside) := s2.drew.late 2 rfl
  go_upto_region 5 with fail
  go_region_held3 (fun W => W.cell? ⟨X, 2, none⟩ = some (.slice sa o.stack.length sc) ∧ W.cell? ⟨X, 13, none⟩ = some (.bool o.inside)) (first | go_keep | exact rS | exact ⟨c1, c2⟩) (first | (go_at_call 53; refine (hWr _).mono ?_; rintro e wk ⟨rfl, rfl⟩))
  have HS3 := hid s2.drew
  have hSh : Calls Tryz.prog 55 #[.pointer (some ⟨X, 0, none⟩), .int .i64 19, .int .i64 a] w2.drew _ := shared_19 s2.drew hp (by omega) hh hb
  clear s2 HS2 c0 c1 c2 hp hWr eS H17 HC17 HC18
  generalize w2.drew = w3 at *
  have c3 : w3.cell? ⟨Y, 0, none⟩ = some (.int .i64 19) := HS3.out.rCell 0
  have c4 : w3.cell? ⟨Y, 1, none⟩ = some (.int .i64 a) := HS3.out.rCell 1
  go_wp2_with (go_at_call 55; refine hSh.mono ?_; rintro e w5 ⟨rfl, V5, hs5⟩)
  first | go_end0 | refine bodyPost_ret (results_none rfl _ _ _) rfl ?_
  exact ⟨rfl, _, hs5.popR⟩
set_option maxRecDepth 100000 in
set_option maxHeartbeats 4000000 in
theorem step_22 {b w : World} {X : Nat} {V : OwV} {o : Ow} {R : List It} {la : Option Addr} {n lc : Nat} {l : List Ins} {p : Nat} {a : Int} (h : OwAt b X V o R w) (hI : IIn w la n l) (hp : o.place = p) (hpn : p < n) (hx : l.getD p Ins.zero = ⟨22, a⟩) (hm : o.may ⟨22, a⟩) (hn : n ≤ 400)  :
    Calls Tryz.prog 30 #[.pointer (some ⟨X, 0, none⟩), .slice la n lc] w fun e w' => e = .returned (.tuple #[]) ∧ ∃ V', OwAt b X V' (o.go ⟨22, a⟩) R w' := by
  obtain ⟨i0, hi0, hz0, hz1, hz2⟩ := info_parts Tryz.infoX
  obtain ⟨hdone, hkn, hpop, hpush, h16, h17, h22, h56, hc17, hc18⟩ := hm
  simp only at hkn hpop hpush h16 h17 h22 h56 hc17 hc18
  obtain ⟨sa, sc, eS, hmx⟩ := h.stkForm
  have hnl := hI.1
  obtain ⟨g, o1, rfl⟩ := hI.addr (by omega)
  have hrow : (rowOf (22 : Int)).pops = 0 ∧ (rowOf (22 : Int)).pushes = 0 := by decide
  have hdep : o.stack.length ≤ 64 := by omega
  have hdp : 0 ≤ o.stack.length := by omega
  have hWr := fun W => Wrong_any 22 o.stack.length o.inside (by decide) hpop hpush (fun e => by first | (exfalso; omega) | exact h16 | exact h16 rfl | exact h16 (by decide)) (fun e => by first | (exfalso; omega) | exact h17 | exact h17 rfl | exact h17 (by decide)) (fun e => by first | (exfalso; omega) | exact h22 | exact h22 rfl | exact h22 (by decide)) (by omega) W
  have s1 := h.box #[.int .i64 22, .int .i64 0] 91
  have b0 : w.cell? ⟨X, 14, none⟩ = some (.bool false) := by rw [← hdone]; exact h.late 3 rfl
  have f2 : (w.alloc (.cells #[.int .i64 22, .int .i64 0] 91)).cell? ⟨w.heap.size, 1, none⟩ = some (.int .i64 0) := s1.rCell 1
  have f3 : (w.alloc (.cells #[.int .i64 22, .int .i64 0] 91)).frozen? ⟨w.heap.size, 1, none⟩ = false := s1.rFrz 1
  have HS1 := hid (s1.rSet 1 (.int .i64 0))
  have HI1 := hid (hI.kept ((kept_alloc w (.cells #[.int .i64 22, .int .i64 0] 91)).setCell (p := ⟨w.heap.size, 1, none⟩) (.int .i64 0) (.inr (Nat.le_refl _))))
  generalize hw1 : w.alloc (.cells #[.int .i64 22, .int .i64 0] 91) = w1 at *
  generalize hY : w.heap.size = Y at *
  have hq0 : (0 : Int) ≤ (p : Int) := by omega
  have hq1 : (p : Int) < (n : Int) := by omega
  have H17 := hid h17
  have HC17 := hid hc17
  have HC18 := hid hc18
  clear h hI hdone hkn hpop hpush h16 h17 h22 h56 hc17 hc18 s1 hrow
  go_enter Tryz.func30, Tryz.ntmps30
  go_upto_region 2 with (simp only [hw1, hY])
  obtain ⟨w1', hw1'⟩ : ∃ w1', w1' = w1.setCell ⟨Y, 1, none⟩ (.int .i64 0) := ⟨_, rfl⟩
  rw [← hw1'] at HS1 HI1 ⊢
  have s1 : OwAt b X V o (boxI Y #[.int .i64 22, .int .i64 0] 91 :: R) w1' := HS1.out
  obtain ⟨x0, x1⟩ := HI1.out.cells (j := p) (by omega)
  rw [hx] at x0 x1
  simp only at x0 x1
  have b1 : w1'.cell? ⟨X, 1, none⟩ = some (.int .i64 p) := by rw [← hp]; exact s1.at 1 rfl
  have b2 : w1'.cell? ⟨Y, 0, none⟩ = some (.int .i64 22) := s1.rCell 0
  have b3 : w1'.cell? ⟨Y, 1, none⟩ = some (.int .i64 0) := s1.rCell 1
  have b4 : w1'.frozen? ⟨Y, 0, none⟩ = false := s1.rFrz 0
  have b5 : w1'.frozen? ⟨Y, 1, none⟩ = false := s1.rFrz 1
  have HS2 := hid ((s1.rSet 0 (.int .i64 22)).rSet 1 (.int .i64 a))
  clear hx hnl s1 hw1 hY hw1' HI1 HS1 f2 f3 b0
  go_upto_region 4 with fail
  obtain ⟨w2, hw2⟩ : ∃ w2, w2 = (w1'.setCell ⟨Y, 0, none⟩ (.int .i64 22)).setCell ⟨Y, 1, none⟩ (.int .i64 a) := ⟨_, rfl⟩
  rw [← hw2] at HS2 ⊢
  clear hw2 b1 b2 b3 b4 b5 x0 x1
  have s2 : OwAt b X V o (boxI Y #[.int .i64 22, .int .i64 a] 91 :: R) w2 := HS2.out
  have c0 : w2.cell? ⟨Y, 0, none⟩ = some (.int .i64 22) := s2.rCell 0
  have c1 : w2.drew.cell? ⟨X, 2, none⟩ = some (.slice sa o.stack.length sc) := by rw [← eS]; exact s2.drew.at 2 rfl
  have c2 : w2.drew.cell? ⟨X, 13, none⟩ = some (.bool o.inside) := s2.drew.late 2 rfl
  go_upto_region 5 with fail
  go_region_held3 (fun W => W.cell? ⟨X, 2, none⟩ = some (.slice sa o.stack.length sc) ∧ W.cell? ⟨X, 13, none⟩ = some (.bool o.inside)) (first | go_keep | exact rS | exact ⟨c1, c2⟩) (first | (go_at_call 53; refine (hWr _).mono ?_; rintro e wk ⟨rfl, rfl⟩))
  have HS3 := hid s2.drew
  have hSh : Calls Tryz.prog 55 #[.pointer (some ⟨X, 0, none⟩), .int .i64 22, .int .i64 a] w2.drew _ := shared_22 s2.drew hp (by omega) 
  clear s2 HS2 c0 c1 c2 hp hWr eS H17 HC17 HC18
  generalize w2.drew = w3 at *
  have c3 : w3.cell? ⟨Y, 0, none⟩ = some (.int .i64 22) := HS3.out.rCell 0
  have c4 : w3.cell? ⟨Y, 1, none⟩ = some (.int .i64 a) := HS3.out.rCell 1
  go_wp2_with (go_at_call 55; refine hSh.mono ?_; rintro e w5 ⟨rfl, V5, hs5⟩)
  first | go_end0 | refine bodyPost_ret (results_none rfl _ _ _) rfl ?_
  exact ⟨rfl, _, hs5.popR⟩
end Go.Proofs.YtbpilhjomfkpaaaGreatDoor
