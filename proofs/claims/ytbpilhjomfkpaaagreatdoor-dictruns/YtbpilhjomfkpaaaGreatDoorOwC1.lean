/- One step of the document's own machine. One step of the document's own machine. -/
import Derived.Test.YtbpilhjomfkpaaaGreatDoorOwC0
namespace Go.Proofs.YtbpilhjomfkpaaaGreatDoor
open Go.RowKit
set_option linter.unusedVariables false
set_option linter.unusedSimpArgs false
attribute [local go_sem ↓] Go.wp_at_zero Go.wp_at_succ

set_option maxRecDepth 100000 in
set_option maxHeartbeats 4000000 in
theorem step_6 {b w : World} {X : Nat} {V : OwV} {o : Ow} {R : List It} {la : Option Addr} {n lc : Nat} {l : List Ins} {p : Nat} {a : Int} (h : OwAt b X V o R w) (hI : IIn w la n l) (hp : o.place = p) (hpn : p < n) (hx : l.getD p Ins.zero = ⟨6, a⟩) (hm : o.may ⟨6, a⟩) (hn : n ≤ 400) :
    Calls Tryz.prog 30 #[.pointer (some ⟨X, 0, none⟩), .slice la n lc] w fun e w' => e = .returned (.tuple #[]) ∧ ∃ V', OwAt b X V' (o.go ⟨6, a⟩) R w' := by
  obtain ⟨i0, hi0, hz0, hz1, hz2⟩ := info_parts Tryz.infoX
  obtain ⟨hdone, hkn, hpop, hpush, h16, h17, h22, h56, hc17, hc18⟩ := hm
  simp only at hkn hpop hpush h16 h17 h22 h56 hc17 hc18
  obtain ⟨ha0, ha1⟩ := h56 (by decide)
  obtain ⟨ka, rfl⟩ : ∃ ka : Nat, a = (ka : Int) := ⟨a.toNat, by omega⟩
  obtain ⟨sa, sc, eS, hmx⟩ := h.stkForm
  have hnl := hI.1
  obtain ⟨g, o1, rfl⟩ := hI.addr (by omega)
  have hrow : (rowOf (6 : Int)).pops = 1 ∧ (rowOf (6 : Int)).pushes = 0 := by decide
  have hdep : o.stack.length ≤ 64 := by omega
  have hdp : 1 ≤ o.stack.length := by omega
  have hWr := fun W => Wrong_any 6 o.stack.length o.inside (by decide) hpop hpush (fun e => h16 (by omega)) (fun e => h17 (by omega)) (fun e => h22 (by omega)) (by omega) W
  have HGO : Hid (o.go ⟨6, (ka : Int)⟩ = { o with loc := o.loc.set ka (o.top 0), stack := o.less 1, place := o.place + 1 }) := by
    show _ = _
    simp [Ow.go]
  rw [HGO.out]
  have s1 := h.box #[.int .i64 22, .int .i64 0] 91
  have b0 : w.cell? ⟨X, 14, none⟩ = some (.bool false) := by rw [← hdone]; exact h.late 3 rfl
  have f2 : (w.alloc (.cells #[.int .i64 22, .int .i64 0] 91)).cell? ⟨w.heap.size, 1, none⟩ = some (.int .i64 0) := s1.rCell 1
  have f3 : (w.alloc (.cells #[.int .i64 22, .int .i64 0] 91)).frozen? ⟨w.heap.size, 1, none⟩ = false := s1.rFrz 1
  have HS1 := hid (s1.rSet 1 (.int .i64 0))
  have HI1 := hid (hI.kept ((kept_alloc w (.cells #[.int .i64 22, .int .i64 0] 91)).setCell (p := ⟨w.heap.size, 1, none⟩) (.int .i64 0) (.inr (Nat.le_refl _))))
  generalize hw1 : w.alloc (.cells #[.int .i64 22, .int .i64 0] 91) = w1 at *
  generalize hY : w.heap.size = Y at *
  have hq0 : (0 : Int) ≤ (p : Int) := by omega
  have hq1 : (p : Int) < (n : Int) := by omega
  clear h hI hdone hkn hpop hpush h16 h22 s1 hrow
  go_enter Tryz.func30, Tryz.ntmps30
  go_upto_region 2 with (simp only [hw1, hY])
  obtain ⟨w1', hw1'⟩ : ∃ w1', w1' = w1.setCell ⟨Y, 1, none⟩ (.int .i64 0) := ⟨_, rfl⟩
  rw [← hw1'] at HS1 HI1 ⊢
  have s1 : OwAt b X V o (boxI Y #[.int .i64 22, .int .i64 0] 91 :: R) w1' := HS1.out
  obtain ⟨x0, x1⟩ := HI1.out.cells (j := p) (by omega)
  rw [hx] at x0 x1
  simp only at x0 x1
  have b1 : w1'.cell? ⟨X, 1, none⟩ = some (.int .i64 p) := by rw [← hp]; exact s1.at 1 rfl
  have b2 : w1'.cell? ⟨Y, 0, none⟩ = some (.int .i64 22) := s1.rCell 0
  have b3 : w1'.cell? ⟨Y, 1, none⟩ = some (.int .i64 0) := s1.rCell 1
  have b4 : w1'.frozen? ⟨Y, 0, none⟩ = false := s1.rFrz 0
  have b5 : w1'.frozen? ⟨Y, 1, none⟩ = false := s1.rFrz 1
  have HS2 := hid ((s1.rSet 0 (.int .i64 6)).rSet 1 (.int .i64 (ka : Int)))
  clear hx hnl s1 hw1 hY hw1' HI1 HS1 f2 f3 b0
  go_upto_region 4 with fail
  obtain ⟨w2, hw2⟩ : ∃ w2, w2 = (w1'.setCell ⟨Y, 0, none⟩ (.int .i64 6)).setCell ⟨Y, 1, none⟩ (.int .i64 (ka : Int)) := ⟨_, rfl⟩
  rw [← hw2] at HS2 ⊢
  clear hw2 b1 b2 b3 b4 b5 x0 x1
  have s2 : OwAt b X V o (boxI Y #[.int .i64 6, .int .i64 (ka : Int)] 91 :: R) w2 := HS2.out
  have c0 : w2.cell? ⟨Y, 0, none⟩ = some (.int .i64 6) := s2.rCell 0
  have c1 : w2.drew.cell? ⟨X, 2, none⟩ = some (.slice sa o.stack.length sc) := by rw [← eS]; exact s2.drew.at 2 rfl
  have c2 : w2.drew.cell? ⟨X, 13, none⟩ = some (.bool o.inside) := s2.drew.late 2 rfl
  go_upto_region 5 with fail
  go_region_held3 (fun W => W.cell? ⟨X, 2, none⟩ = some (.slice sa o.stack.length sc) ∧ W.cell? ⟨X, 13, none⟩ = some (.bool o.inside)) (first | go_keep | exact rS | exact ⟨c1, c2⟩) (first | (go_at_call 53; refine (hWr _).mono ?_; rintro e wk ⟨rfl, rfl⟩))
  have HP := hid hp
  have HES := hid eS
  have HS3 := hid s2.drew
  clear s2 HS2 c0 c1 c2 hp hWr eS
  generalize w2.drew = w3 at *
  have hk0 : (0 : Int) ≤ (ka : Int) := by omega
  have hk1 : (ka : Int) < 8 := by omega
  have c0 : w3.cell? ⟨X, 1, none⟩ = some (.int .i64 p) := by rw [← HP.out]; exact HS3.out.at 1 rfl
  have hT0 : Calls Tryz.prog 57 #[.pointer (some ⟨X, 0, none⟩), .int .i64 0] w3.drew _ := top_any HS3.out.drew 0 (by omega)
  generalize hvva : o.top 0 = va at *
  have HVva := hid hvva
  clear hvva
  have c3 : w3.cell? ⟨Y, 1, none⟩ = some (.int .i64 (ka : Int)) := HS3.out.rCell 1
  have c3' : w3.drew.cell? ⟨Y, 1, none⟩ = some (.int .i64 (ka : Int)) := HS3.out.drew.rCell 1
  have c3'' : w3.drew.drew.cell? ⟨Y, 1, none⟩ = some (.int .i64 (ka : Int)) := HS3.out.drew.drew.rCell 1
  have d1 : w3.cell? ⟨X, 3 + ka, none⟩ = some (.int .i64 (o.loc.getD ka 0)) := HS3.out.lcl ka (by omega)
  have d1' : w3.drew.cell? ⟨X, 3 + ka, none⟩ = some (.int .i64 (o.loc.getD ka 0)) := HS3.out.drew.lcl ka (by omega)
  have d1'' : w3.drew.drew.cell? ⟨X, 3 + ka, none⟩ = some (.int .i64 (o.loc.getD ka 0)) := HS3.out.drew.drew.lcl ka (by omega)
  have d2 : w3.frozen? ⟨X, 3 + ka, none⟩ = false := HS3.out.frz _
  have d2' : w3.drew.frozen? ⟨X, 3 + ka, none⟩ = false := HS3.out.drew.frz _
  have d2'' : w3.drew.drew.frozen? ⟨X, 3 + ka, none⟩ = false := HS3.out.drew.drew.frz _
  have HS4 := hid ((HS3.out.drew.drew.setLoc ka (by omega) va))
  clear HS3
  go_upto_region 26 with fail
  go_region_with (first | (go_at_call 57; refine hT0.mono ?_; rintro e wt ⟨rfl, rfl⟩))
  all_goals
    have s4 := HS4.out
    have e4 : (w3.setCell ⟨X, 3 + ka, none⟩ (.int .i64 va)).drew.drew = w3.drew.drew.setCell ⟨X, 3 + ka, none⟩ (.int .i64 va) := rfl
    try rw [e4]
    generalize w3.drew.drew.setCell ⟨X, 3 + ka, none⟩ (.int .i64 va) = w4 at *
    have hDr : Calls Tryz.prog 56 #[.pointer (some ⟨X, 0, none⟩), .int .i64 1] w4 _ := drop_any s4 1 (by show 1 ≤ o.stack.length; omega) (by show 0 < o.stack.length; omega)
    clear s4 c0 c3 c3' c3'' d1 d1' d1'' d2 d2' d2'' hT0
    go_upto_region 53 with (go_at_call 56; refine hDr.mono ?_; rintro e w5 ⟨rfl, s5, hs5⟩)
    have c9 : w5.cell? ⟨X, 1, none⟩ = some (.int .i64 p) := by rw [← HP.out]; exact hs5.at 1 rfl
    have f9 : w5.frozen? ⟨X, 1, none⟩ = false := hs5.frz 1
    have H9 := hid ((hs5.setPlace ((p : Int) + 1)).popR)
    clear hs5 hDr
    go_wp2
    go_end0
    exact ⟨rfl, _, by rw [HVva.out, HP.out]; exact H9.out⟩
set_option maxRecDepth 100000 in
set_option maxHeartbeats 4000000 in
theorem step_7 {b w : World} {X : Nat} {V : OwV} {o : Ow} {R : List It} {la : Option Addr} {n lc : Nat} {l : List Ins} {p : Nat} {a : Int} (h : OwAt b X V o R w) (hI : IIn w la n l) (hp : o.place = p) (hpn : p < n) (hx : l.getD p Ins.zero = ⟨7, a⟩) (hm : o.may ⟨7, a⟩) (hn : n ≤ 400) :
    Calls Tryz.prog 30 #[.pointer (some ⟨X, 0, none⟩), .slice la n lc] w fun e w' => e = .returned (.tuple #[]) ∧ ∃ V', OwAt b X V' (o.go ⟨7, a⟩) R w' := by
  obtain ⟨i0, hi0, hz0, hz1, hz2⟩ := info_parts Tryz.infoX
  obtain ⟨hdone, hkn, hpop, hpush, h16, h17, h22, h56, hc17, hc18⟩ := hm
  simp only at hkn hpop hpush h16 h17 h22 h56 hc17 hc18
  obtain ⟨sa, sc, eS, hmx⟩ := h.stkForm
  have hnl := hI.1
  obtain ⟨g, o1, rfl⟩ := hI.addr (by omega)
  have hrow : (rowOf (7 : Int)).pops = 2 ∧ (rowOf (7 : Int)).pushes = 1 := by decide
  have hdep : o.stack.length ≤ 64 := by omega
  have hdp : 2 ≤ o.stack.length := by omega
  have hWr := fun W => Wrong_any 7 o.stack.length o.inside (by decide) hpop hpush (fun e => h16 (by omega)) (fun e => h17 (by omega)) (fun e => h22 (by omega)) (by omega) W
  have HGO : Hid (o.go ⟨7, a⟩ = { o with stack := o.less 2 ++ [sumO 7 (o.top 1) (o.top 0)], place := o.place + 1 }) := by
    show _ = _
    simp [Ow.go]
  rw [HGO.out]
  have s1 := h.box #[.int .i64 22, .int .i64 0] 91
  have b0 : w.cell? ⟨X, 14, none⟩ = some (.bool false) := by rw [← hdone]; exact h.late 3 rfl
  have f2 : (w.alloc (.cells #[.int .i64 22, .int .i64 0] 91)).cell? ⟨w.heap.size, 1, none⟩ = some (.int .i64 0) := s1.rCell 1
  have f3 : (w.alloc (.cells #[.int .i64 22, .int .i64 0] 91)).frozen? ⟨w.heap.size, 1, none⟩ = false := s1.rFrz 1
  have HS1 := hid (s1.rSet 1 (.int .i64 0))
  have HI1 := hid (hI.kept ((kept_alloc w (.cells #[.int .i64 22, .int .i64 0] 91)).setCell (p := ⟨w.heap.size, 1, none⟩) (.int .i64 0) (.inr (Nat.le_refl _))))
  generalize hw1 : w.alloc (.cells #[.int .i64 22, .int .i64 0] 91) = w1 at *
  generalize hY : w.heap.size = Y at *
  have hq0 : (0 : Int) ≤ (p : Int) := by omega
  have hq1 : (p : Int) < (n : Int) := by omega
  clear h hI hdone hkn hpop hpush h16 h22 s1 hrow
  go_enter Tryz.func30, Tryz.ntmps30
  go_upto_region 2 with (simp only [hw1, hY])
  obtain ⟨w1', hw1'⟩ : ∃ w1', w1' = w1.setCell ⟨Y, 1, none⟩ (.int .i64 0) := ⟨_, rfl⟩
  rw [← hw1'] at HS1 HI1 ⊢
  have s1 : OwAt b X V o (boxI Y #[.int .i64 22, .int .i64 0] 91 :: R) w1' := HS1.out
  obtain ⟨x0, x1⟩ := HI1.out.cells (j := p) (by omega)
  rw [hx] at x0 x1
  simp only at x0 x1
  have b1 : w1'.cell? ⟨X, 1, none⟩ = some (.int .i64 p) := by rw [← hp]; exact s1.at 1 rfl
  have b2 : w1'.cell? ⟨Y, 0, none⟩ = some (.int .i64 22) := s1.rCell 0
  have b3 : w1'.cell? ⟨Y, 1, none⟩ = some (.int .i64 0) := s1.rCell 1
  have b4 : w1'.frozen? ⟨Y, 0, none⟩ = false := s1.rFrz 0
  have b5 : w1'.frozen? ⟨Y, 1, none⟩ = false := s1.rFrz 1
  have HS2 := hid ((s1.rSet 0 (.int .i64 7)).rSet 1 (.int .i64 a))
  clear hx hnl s1 hw1 hY hw1' HI1 HS1 f2 f3 b0
  go_upto_region 4 with fail
  obtain ⟨w2, hw2⟩ : ∃ w2, w2 = (w1'.setCell ⟨Y, 0, none⟩ (.int .i64 7)).setCell ⟨Y, 1, none⟩ (.int .i64 a) := ⟨_, rfl⟩
  rw [← hw2] at HS2 ⊢
  clear hw2 b1 b2 b3 b4 b5 x0 x1
  have s2 : OwAt b X V o (boxI Y #[.int .i64 7, .int .i64 a] 91 :: R) w2 := HS2.out
  have c0 : w2.cell? ⟨Y, 0, none⟩ = some (.int .i64 7) := s2.rCell 0
  have c1 : w2.drew.cell? ⟨X, 2, none⟩ = some (.slice sa o.stack.length sc) := by rw [← eS]; exact s2.drew.at 2 rfl
  have c2 : w2.drew.cell? ⟨X, 13, none⟩ = some (.bool o.inside) := s2.drew.late 2 rfl
  go_upto_region 5 with fail
  go_region_held3 (fun W => W.cell? ⟨X, 2, none⟩ = some (.slice sa o.stack.length sc) ∧ W.cell? ⟨X, 13, none⟩ = some (.bool o.inside)) (first | go_keep | exact rS | exact ⟨c1, c2⟩) (first | (go_at_call 53; refine (hWr _).mono ?_; rintro e wk ⟨rfl, rfl⟩))
  have HP := hid hp
  have HES := hid eS
  have HS3 := hid s2.drew
  clear s2 HS2 c0 c1 c2 hp hWr eS
  generalize w2.drew = w3 at *
  have c0 : w3.cell? ⟨X, 1, none⟩ = some (.int .i64 p) := by rw [← HP.out]; exact HS3.out.at 1 rfl
  have hT0 : Calls Tryz.prog 57 #[.pointer (some ⟨X, 0, none⟩), .int .i64 1] w3 _ := top_any HS3.out 1 (by omega)
  generalize hvva : o.top 1 = va at *
  have HVva := hid hvva
  clear hvva
  have hT1 : Calls Tryz.prog 57 #[.pointer (some ⟨X, 0, none⟩), .int .i64 0] w3.drew _ := top_any HS3.out.drew 0 (by omega)
  generalize hvvb : o.top 0 = vb at *
  have HVvb := hid hvvb
  clear hvvb
  have hDr : Calls Tryz.prog 56 #[.pointer (some ⟨X, 0, none⟩), .int .i64 2] w3.drew.drew _ := drop_any HS3.out.drew.drew 2 (by omega) (by omega)
  go_upto_region 37 with (first | (go_at_call 57; first | ((with_reducible refine hT0.mono ?_); rintro e wt ⟨rfl, rfl⟩) | ((with_reducible refine hT1.mono ?_); rintro e wt ⟨rfl, rfl⟩)) | (go_at_call 56; refine hDr.mono ?_; rintro e w5 ⟨rfl, s5, hs5⟩))
  obtain ⟨o5, ho5⟩ : ∃ o5 : Ow, o5 = { o with stack := o.less 2 } := ⟨_, rfl⟩
  obtain ⟨V5, hV5⟩ : ∃ V5 : OwV, V5 = { V with s := s5 } := ⟨_, rfl⟩
  rw [← ho5, ← hV5] at hs5
  have HO5 := hid ho5
  have HP5 : Hid (o5.place = p) := by rw [ho5]; exact HP.out
  have hl5 : o5.stack.length ≤ 64 := by rw [ho5]; show (o.less 2).length ≤ 64; unfold Ow.less; rw [List.length_take]; omega
  obtain ⟨sa5, sc5, eS5, hmx5⟩ := hs5.stkForm
  have HES5 := hid eS5
  have HS3 := hid hs5
  clear hs5 eS5 ho5 hV5 hDr c0 hT0 hT1
  generalize w5 = w3 at *
  have hSm := fun W => Sum_any 7 va vb (by decide) W
  generalize hvs : sumO ((7 : Nat) : Int) va vb = vl at *
  have HVS := hid hvs
  clear hvs
  have c0 : w3.cell? ⟨X, 1, none⟩ = some (.int .i64 p) := by rw [← HP5.out]; exact HS3.out.at 1 rfl
  have c1 : w3.cell? ⟨X, 2, none⟩ = some (.slice sa5 o5.stack.length sc5) := by rw [← HES5.out]; exact HS3.out.at 2 rfl
  have c1' : w3.drew.cell? ⟨X, 2, none⟩ = some (.slice sa5 o5.stack.length sc5) := by rw [← HES5.out]; exact HS3.out.drew.at 2 rfl
  have c1'' : w3.drew.drew.cell? ⟨X, 2, none⟩ = some (.slice sa5 o5.stack.length sc5) := by rw [← HES5.out]; exact HS3.out.drew.drew.at 2 rfl
  have c2 : w3.frozen? ⟨X, 2, none⟩ = false := HS3.out.frz 2
  have hbs := fun W => buildX1 W vl
  have cA : ∀ c t, (w3.alloc (.cells c t)).cell? ⟨X, 2, none⟩ = some (.slice sa5 o5.stack.length sc5) := fun c t => by rw [World.cell?_of_block (Below.heap_alloc w3 _ X (World.block_lt_of_cell? w3 _ c1))]; exact c1
  have fA : ∀ c t, (w3.alloc (.cells c t)).frozen? ⟨X, 2, none⟩ = false := fun c t => by rw [frozen?_alloc_cells]; exact c2
  have hown : w3.ownsRow 0 2 1 (.slice sa5 o5.stack.length sc5) o5.stack.length (xC o5.stack) := by rw [← HES5.out]; exact HS3.out.stk
  have HV : Hid (∀ g2 cap2 w1, w1.ownsRow 0 2 1 (.slice (some ⟨g2, 0, none⟩) (o5.stack.length + 1) cap2) (o5.stack.length + 1) (xC o5.stack ++ [.int .i64 vl]) → ((w3.alloc (.cells #[.int .i64 vl] 2)).drew).grownBy w1 (Value.ownBlock (.slice sa5 o5.stack.length sc5)) → (Value.ownBlock (.slice sa5 o5.stack.length sc5) = some g2 ∨ g2 = w3.heap.size + 1) →
      OwAt b X { V5 with s := .slice (some ⟨g2, 0, none⟩) (o5.stack.length + 1) cap2 } { o5 with stack := o5.stack ++ [vl] } (boxI Y #[.int .i64 7, .int .i64 a] 91 :: R) (w1.setCell ⟨X, 2, none⟩ (.slice (some ⟨g2, 0, none⟩) (o5.stack.length + 1) cap2)) ∧ w1.cell? ⟨X, 2, none⟩ = some (.slice sa5 o5.stack.length sc5) ∧ w1.frozen? ⟨X, 2, none⟩ = false) := by
    intro g2 cap2 w1 p1 p2 p3
    have hh := HS3.out.pushD (ob := .cells #[.int .i64 vl] 2) p1 (by rw [HES5.out]; exact p2) (by rw [HES5.out]; exact p3)
    rw [HES5.out] at hh
    exact hh
  clear HS3
  generalize hST : o5.stack.length = st at *
  have HST := hid hST
  clear hST
  generalize hXS : xC o5.stack = XS at *
  clear hXS
  go_upto_region 37 with fail
  go_region_law
    (first
      | (refine step_append_lies _ (by rfl) _ _ _ (by rfl) 0 2 i0 _ 1 8 Tryz.underlying24 hi0 hz0 hz1 hz2 rfl (by omega) (.slice sa5 st sc5) st XS (by rfl) ((hown.alloc _).drew)
            ⟨w3.heap.size, 0, none⟩ 1 1 [.int .i64 vl] (by rfl) (by rfl) (World.news_of_block (cs := #[.int .i64 vl]) (t := 2) (fr := (0, 0)) (heap_alloc_new w3 _)) (by simp [Value.oneCell'])
            (by omega) (by unfold maxLen; omega) (by omega) (Nat.zero_le _) (w3.heap.size + 1) (by simp) ?_; intro g2 cap2 w1 hown1 hgrow hat hlt
         obtain ⟨s8, e4, ef4⟩ := HV.out g2 cap2 w1 hown1 hgrow hat
         have H8 := hid s8
         clear HV s8 hown1 hgrow hat hlt)
      | (go_simp; go_at_call 58; refine (hSm _).mono ?_; rintro e wt ⟨rfl, rfl⟩))
  all_goals
    have s9 := H8.out
    obtain ⟨w9, hw9⟩ : ∃ w9, w9 = w1.setCell ⟨X, 2, none⟩ (.slice (some ⟨g2, 0, none⟩) (st + 1) cap2) := ⟨_, rfl⟩
    rw [← hw9] at s9 ⊢
    have c9 : w9.cell? ⟨X, 1, none⟩ = some (.int .i64 p) := by rw [← HP5.out]; exact s9.at 1 rfl
    have f9 : w9.frozen? ⟨X, 1, none⟩ = false := s9.frz 1
    have H9 : Hid (OwAt b X { V5 with s := .slice (some ⟨g2, 0, none⟩) (st + 1) cap2 } { o5 with stack := o5.stack ++ [vl], place := o5.place + 1 } R (w9.setCell ⟨X, 1, none⟩ (.int .i64 ((p : Int) + 1)))) := by
      have := (s9.setPlace ((p : Int) + 1)).popR
      rw [show (p : Int) + 1 = o5.place + 1 by rw [HP5.out]] at this ⊢
      exact this
    clear s9 H8 hw9 c0 c1 c1' c2 cA fA e4 ef4 hown hbs
    go_wp2
    go_end0
    exact ⟨rfl, _, by rw [HO5.out] at H9; rw [HVva.out, HVvb.out, show sumO (7 : Int) va vb = vl from HVS.out]; exact H9.out⟩
set_option maxRecDepth 100000 in
set_option maxHeartbeats 4000000 in
theorem step_8 {b w : World} {X : Nat} {V : OwV} {o : Ow} {R : List It} {la : Option Addr} {n lc : Nat} {l : List Ins} {p : Nat} {a : Int} (h : OwAt b X V o R w) (hI : IIn w la n l) (hp : o.place = p) (hpn : p < n) (hx : l.getD p Ins.zero = ⟨8, a⟩) (hm : o.may ⟨8, a⟩) (hn : n ≤ 400) :
    Calls Tryz.prog 30 #[.pointer (some ⟨X, 0, none⟩), .slice la n lc] w fun e w' => e = .returned (.tuple #[]) ∧ ∃ V', OwAt b X V' (o.go ⟨8, a⟩) R w' := by
  obtain ⟨i0, hi0, hz0, hz1, hz2⟩ := info_parts Tryz.infoX
  obtain ⟨hdone, hkn, hpop, hpush, h16, h17, h22, h56, hc17, hc18⟩ := hm
  simp only at hkn hpop hpush h16 h17 h22 h56 hc17 hc18
  obtain ⟨sa, sc, eS, hmx⟩ := h.stkForm
  have hnl := hI.1
  obtain ⟨g, o1, rfl⟩ := hI.addr (by omega)
  have hrow : (rowOf (8 : Int)).pops = 2 ∧ (rowOf (8 : Int)).pushes = 1 := by decide
  have hdep : o.stack.length ≤ 64 := by omega
  have hdp : 2 ≤ o.stack.length := by omega
  have hWr := fun W => Wrong_any 8 o.stack.length o.inside (by decide) hpop hpush (fun e => h16 (by omega)) (fun e => h17 (by omega)) (fun e => h22 (by omega)) (by omega) W
  have HGO : Hid (o.go ⟨8, a⟩ = { o with stack := o.less 2 ++ [sumO 8 (o.top 1) (o.top 0)], place := o.place + 1 }) := by
    show _ = _
    simp [Ow.go]
  rw [HGO.out]
  have s1 := h.box #[.int .i64 22, .int .i64 0] 91
  have b0 : w.cell? ⟨X, 14, none⟩ = some (.bool false) := by rw [← hdone]; exact h.late 3 rfl
  have f2 : (w.alloc (.cells #[.int .i64 22, .int .i64 0] 91)).cell? ⟨w.heap.size, 1, none⟩ = some (.int .i64 0) := s1.rCell 1
  have f3 : (w.alloc (.cells #[.int .i64 22, .int .i64 0] 91)).frozen? ⟨w.heap.size, 1, none⟩ = false := s1.rFrz 1
  have HS1 := hid (s1.rSet 1 (.int .i64 0))
  have HI1 := hid (hI.kept ((kept_alloc w (.cells #[.int .i64 22, .int .i64 0] 91)).setCell (p := ⟨w.heap.size, 1, none⟩) (.int .i64 0) (.inr (Nat.le_refl _))))
  generalize hw1 : w.alloc (.cells #[.int .i64 22, .int .i64 0] 91) = w1 at *
  generalize hY : w.heap.size = Y at *
  have hq0 : (0 : Int) ≤ (p : Int) := by omega
  have hq1 : (p : Int) < (n : Int) := by omega
  clear h hI hdone hkn hpop hpush h16 h22 s1 hrow
  go_enter Tryz.func30, Tryz.ntmps30
  go_upto_region 2 with (simp only [hw1, hY])
  obtain ⟨w1', hw1'⟩ : ∃ w1', w1' = w1.setCell ⟨Y, 1, none⟩ (.int .i64 0) := ⟨_, rfl⟩
  rw [← hw1'] at HS1 HI1 ⊢
  have s1 : OwAt b X V o (boxI Y #[.int .i64 22, .int .i64 0] 91 :: R) w1' := HS1.out
  obtain ⟨x0, x1⟩ := HI1.out.cells (j := p) (by omega)
  rw [hx] at x0 x1
  simp only at x0 x1
  have b1 : w1'.cell? ⟨X, 1, none⟩ = some (.int .i64 p) := by rw [← hp]; exact s1.at 1 rfl
  have b2 : w1'.cell? ⟨Y, 0, none⟩ = some (.int .i64 22) := s1.rCell 0
  have b3 : w1'.cell? ⟨Y, 1, none⟩ = some (.int .i64 0) := s1.rCell 1
  have b4 : w1'.frozen? ⟨Y, 0, none⟩ = false := s1.rFrz 0
  have b5 : w1'.frozen? ⟨Y, 1, none⟩ = false := s1.rFrz 1
  have HS2 := hid ((s1.rSet 0 (.int .i64 8)).rSet 1 (.int .i64 a))
  clear hx hnl s1 hw1 hY hw1' HI1 HS1 f2 f3 b0
  go_upto_region 4 with fail
  obtain ⟨w2, hw2⟩ : ∃ w2, w2 = (w1'.setCell ⟨Y, 0, none⟩ (.int .i64 8)).setCell ⟨Y, 1, none⟩ (.int .i64 a) := ⟨_, rfl⟩
  rw [← hw2] at HS2 ⊢
  clear hw2 b1 b2 b3 b4 b5 x0 x1
  have s2 : OwAt b X V o (boxI Y #[.int .i64 8, .int .i64 a] 91 :: R) w2 := HS2.out
  have c0 : w2.cell? ⟨Y, 0, none⟩ = some (.int .i64 8) := s2.rCell 0
  have c1 : w2.drew.cell? ⟨X, 2, none⟩ = some (.slice sa o.stack.length sc) := by rw [← eS]; exact s2.drew.at 2 rfl
  have c2 : w2.drew.cell? ⟨X, 13, none⟩ = some (.bool o.inside) := s2.drew.late 2 rfl
  go_upto_region 5 with fail
  go_region_held3 (fun W => W.cell? ⟨X, 2, none⟩ = some (.slice sa o.stack.length sc) ∧ W.cell? ⟨X, 13, none⟩ = some (.bool o.inside)) (first | go_keep | exact rS | exact ⟨c1, c2⟩) (first | (go_at_call 53; refine (hWr _).mono ?_; rintro e wk ⟨rfl, rfl⟩))
  have HP := hid hp
  have HES := hid eS
  have HS3 := hid s2.drew
  clear s2 HS2 c0 c1 c2 hp hWr eS
  generalize w2.drew = w3 at *
  have c0 : w3.cell? ⟨X, 1, none⟩ = some (.int .i64 p) := by rw [← HP.out]; exact HS3.out.at 1 rfl
  have hT0 : Calls Tryz.prog 57 #[.pointer (some ⟨X, 0, none⟩), .int .i64 1] w3 _ := top_any HS3.out 1 (by omega)
  generalize hvva : o.top 1 = va at *
  have HVva := hid hvva
  clear hvva
  have hT1 : Calls Tryz.prog 57 #[.pointer (some ⟨X, 0, none⟩), .int .i64 0] w3.drew _ := top_any HS3.out.drew 0 (by omega)
  generalize hvvb : o.top 0 = vb at *
  have HVvb := hid hvvb
  clear hvvb
  have hDr : Calls Tryz.prog 56 #[.pointer (some ⟨X, 0, none⟩), .int .i64 2] w3.drew.drew _ := drop_any HS3.out.drew.drew 2 (by omega) (by omega)
  go_upto_region 37 with (first | (go_at_call 57; first | ((with_reducible refine hT0.mono ?_); rintro e wt ⟨rfl, rfl⟩) | ((with_reducible refine hT1.mono ?_); rintro e wt ⟨rfl, rfl⟩)) | (go_at_call 56; refine hDr.mono ?_; rintro e w5 ⟨rfl, s5, hs5⟩))
  obtain ⟨o5, ho5⟩ : ∃ o5 : Ow, o5 = { o with stack := o.less 2 } := ⟨_, rfl⟩
  obtain ⟨V5, hV5⟩ : ∃ V5 : OwV, V5 = { V with s := s5 } := ⟨_, rfl⟩
  rw [← ho5, ← hV5] at hs5
  have HO5 := hid ho5
  have HP5 : Hid (o5.place = p) := by rw [ho5]; exact HP.out
  have hl5 : o5.stack.length ≤ 64 := by rw [ho5]; show (o.less 2).length ≤ 64; unfold Ow.less; rw [List.length_take]; omega
  obtain ⟨sa5, sc5, eS5, hmx5⟩ := hs5.stkForm
  have HES5 := hid eS5
  have HS3 := hid hs5
  clear hs5 eS5 ho5 hV5 hDr c0 hT0 hT1
  generalize w5 = w3 at *
  have hSm := fun W => Sum_any 8 va vb (by decide) W
  generalize hvs : sumO ((8 : Nat) : Int) va vb = vl at *
  have HVS := hid hvs
  clear hvs
  have c0 : w3.cell? ⟨X, 1, none⟩ = some (.int .i64 p) := by rw [← HP5.out]; exact HS3.out.at 1 rfl
  have c1 : w3.cell? ⟨X, 2, none⟩ = some (.slice sa5 o5.stack.length sc5) := by rw [← HES5.out]; exact HS3.out.at 2 rfl
  have c1' : w3.drew.cell? ⟨X, 2, none⟩ = some (.slice sa5 o5.stack.length sc5) := by rw [← HES5.out]; exact HS3.out.drew.at 2 rfl
  have c1'' : w3.drew.drew.cell? ⟨X, 2, none⟩ = some (.slice sa5 o5.stack.length sc5) := by rw [← HES5.out]; exact HS3.out.drew.drew.at 2 rfl
  have c2 : w3.frozen? ⟨X, 2, none⟩ = false := HS3.out.frz 2
  have hbs := fun W => buildX1 W vl
  have cA : ∀ c t, (w3.alloc (.cells c t)).cell? ⟨X, 2, none⟩ = some (.slice sa5 o5.stack.length sc5) := fun c t => by rw [World.cell?_of_block (Below.heap_alloc w3 _ X (World.block_lt_of_cell? w3 _ c1))]; exact c1
  have fA : ∀ c t, (w3.alloc (.cells c t)).frozen? ⟨X, 2, none⟩ = false := fun c t => by rw [frozen?_alloc_cells]; exact c2
  have hown : w3.ownsRow 0 2 1 (.slice sa5 o5.stack.length sc5) o5.stack.length (xC o5.stack) := by rw [← HES5.out]; exact HS3.out.stk
  have HV : Hid (∀ g2 cap2 w1, w1.ownsRow 0 2 1 (.slice (some ⟨g2, 0, none⟩) (o5.stack.length + 1) cap2) (o5.stack.length + 1) (xC o5.stack ++ [.int .i64 vl]) → ((w3.alloc (.cells #[.int .i64 vl] 2)).drew).grownBy w1 (Value.ownBlock (.slice sa5 o5.stack.length sc5)) → (Value.ownBlock (.slice sa5 o5.stack.length sc5) = some g2 ∨ g2 = w3.heap.size + 1) →
      OwAt b X { V5 with s := .slice (some ⟨g2, 0, none⟩) (o5.stack.length + 1) cap2 } { o5 with stack := o5.stack ++ [vl] } (boxI Y #[.int .i64 8, .int .i64 a] 91 :: R) (w1.setCell ⟨X, 2, none⟩ (.slice (some ⟨g2, 0, none⟩) (o5.stack.length + 1) cap2)) ∧ w1.cell? ⟨X, 2, none⟩ = some (.slice sa5 o5.stack.length sc5) ∧ w1.frozen? ⟨X, 2, none⟩ = false) := by
    intro g2 cap2 w1 p1 p2 p3
    have hh := HS3.out.pushD (ob := .cells #[.int .i64 vl] 2) p1 (by rw [HES5.out]; exact p2) (by rw [HES5.out]; exact p3)
    rw [HES5.out] at hh
    exact hh
  clear HS3
  generalize hST : o5.stack.length = st at *
  have HST := hid hST
  clear hST
  generalize hXS : xC o5.stack = XS at *
  clear hXS
  go_upto_region 37 with fail
  go_region_law
    (first
      | (refine step_append_lies _ (by rfl) _ _ _ (by rfl) 0 2 i0 _ 1 8 Tryz.underlying24 hi0 hz0 hz1 hz2 rfl (by omega) (.slice sa5 st sc5) st XS (by rfl) ((hown.alloc _).drew)
            ⟨w3.heap.size, 0, none⟩ 1 1 [.int .i64 vl] (by rfl) (by rfl) (World.news_of_block (cs := #[.int .i64 vl]) (t := 2) (fr := (0, 0)) (heap_alloc_new w3 _)) (by simp [Value.oneCell'])
            (by omega) (by unfold maxLen; omega) (by omega) (Nat.zero_le _) (w3.heap.size + 1) (by simp) ?_; intro g2 cap2 w1 hown1 hgrow hat hlt
         obtain ⟨s8, e4, ef4⟩ := HV.out g2 cap2 w1 hown1 hgrow hat
         have H8 := hid s8
         clear HV s8 hown1 hgrow hat hlt)
      | (go_simp; go_at_call 58; refine (hSm _).mono ?_; rintro e wt ⟨rfl, rfl⟩))
  all_goals
    have s9 := H8.out
    obtain ⟨w9, hw9⟩ : ∃ w9, w9 = w1.setCell ⟨X, 2, none⟩ (.slice (some ⟨g2, 0, none⟩) (st + 1) cap2) := ⟨_, rfl⟩
    rw [← hw9] at s9 ⊢
    have c9 : w9.cell? ⟨X, 1, none⟩ = some (.int .i64 p) := by rw [← HP5.out]; exact s9.at 1 rfl
    have f9 : w9.frozen? ⟨X, 1, none⟩ = false := s9.frz 1
    have H9 : Hid (OwAt b X { V5 with s := .slice (some ⟨g2, 0, none⟩) (st + 1) cap2 } { o5 with stack := o5.stack ++ [vl], place := o5.place + 1 } R (w9.setCell ⟨X, 1, none⟩ (.int .i64 ((p : Int) + 1)))) := by
      have := (s9.setPlace ((p : Int) + 1)).popR
      rw [show (p : Int) + 1 = o5.place + 1 by rw [HP5.out]] at this ⊢
      exact this
    clear s9 H8 hw9 c0 c1 c1' c2 cA fA e4 ef4 hown hbs
    go_wp2
    go_end0
    exact ⟨rfl, _, by rw [HO5.out] at H9; rw [HVva.out, HVvb.out, show sumO (8 : Int) va vb = vl from HVS.out]; exact H9.out⟩
end Go.Proofs.YtbpilhjomfkpaaaGreatDoor

namespace Go.Proofs.YtbpilhjomfkpaaaGreatDoor
open Go.RowKit
set_option linter.unusedVariables false
set_option linter.unusedSimpArgs false
attribute [local go_sem ↓] Go.wp_at_zero Go.wp_at_succ

set_option maxRecDepth 100000 in
set_option maxHeartbeats 4000000 in
theorem step_1 {b w : World} {X : Nat} {V : OwV} {o : Ow} {R : List It} {la : Option Addr} {n lc : Nat} {l : List Ins} {p : Nat} {a : Int} (h : OwAt b X V o R w) (hI : IIn w la n l) (hp : o.place = p) (hpn : p < n) (hx : l.getD p Ins.zero = ⟨1, a⟩) (hm : o.may ⟨1, a⟩) (hn : n ≤ 400) :
    Calls Tryz.prog 30 #[.pointer (some ⟨X, 0, none⟩), .slice la n lc] w fun e w' => e = .returned (.tuple #[]) ∧ ∃ V', OwAt b X V' (o.go ⟨1, a⟩) R w' := by
  obtain ⟨i0, hi0, hz0, hz1, hz2⟩ := info_parts Tryz.infoX
  obtain ⟨hdone, hkn, hpop, hpush, h16, h17, h22, h56, hc17, hc18⟩ := hm
  simp only at hkn hpop hpush h16 h17 h22 h56 hc17 hc18
  obtain ⟨sa, sc, eS, hmx⟩ := h.stkForm
  have hnl := hI.1
  obtain ⟨g, o1, rfl⟩ := hI.addr (by omega)
  have hrow : (rowOf (1 : Int)).pops = 0 ∧ (rowOf (1 : Int)).pushes = 1 := by decide
  have hdep : o.stack.length ≤ 64 := by omega
  have hdp : 0 ≤ o.stack.length := by omega
  have hWr := fun W => Wrong_any 1 o.stack.length o.inside (by decide) hpop hpush (fun e => h16 (by omega)) (fun e => h17 (by omega)) (fun e => h22 (by omega)) (by omega) W
  have HGO : Hid (o.go ⟨1, a⟩ = { o with stack := o.stack ++ [a], place := o.place + 1 }) := by
    show _ = _
    simp [Ow.go]
  rw [HGO.out]
  have s1 := h.box #[.int .i64 22, .int .i64 0] 91
  have b0 : w.cell? ⟨X, 14, none⟩ = some (.bool false) := by rw [← hdone]; exact h.late 3 rfl
  have f2 : (w.alloc (.cells #[.int .i64 22, .int .i64 0] 91)).cell? ⟨w.heap.size, 1, none⟩ = some (.int .i64 0) := s1.rCell 1
  have f3 : (w.alloc (.cells #[.int .i64 22, .int .i64 0] 91)).frozen? ⟨w.heap.size, 1, none⟩ = false := s1.rFrz 1
  have HS1 := hid (s1.rSet 1 (.int .i64 0))
  have HI1 := hid (hI.kept ((kept_alloc w (.cells #[.int .i64 22, .int .i64 0] 91)).setCell (p := ⟨w.heap.size, 1, none⟩) (.int .i64 0) (.inr (Nat.le_refl _))))
  generalize hw1 : w.alloc (.cells #[.int .i64 22, .int .i64 0] 91) = w1 at *
  generalize hY : w.heap.size = Y at *
  have hq0 : (0 : Int) ≤ (p : Int) := by omega
  have hq1 : (p : Int) < (n : Int) := by omega
  clear h hI hdone hkn hpop hpush h16 h22 s1 hrow
  go_enter Tryz.func30, Tryz.ntmps30
  go_upto_region 2 with (simp only [hw1, hY])
  obtain ⟨w1', hw1'⟩ : ∃ w1', w1' = w1.setCell ⟨Y, 1, none⟩ (.int .i64 0) := ⟨_, rfl⟩
  rw [← hw1'] at HS1 HI1 ⊢
  have s1 : OwAt b X V o (boxI Y #[.int .i64 22, .int .i64 0] 91 :: R) w1' := HS1.out
  obtain ⟨x0, x1⟩ := HI1.out.cells (j := p) (by omega)
  rw [hx] at x0 x1
  simp only at x0 x1
  have b1 : w1'.cell? ⟨X, 1, none⟩ = some (.int .i64 p) := by rw [← hp]; exact s1.at 1 rfl
  have b2 : w1'.cell? ⟨Y, 0, none⟩ = some (.int .i64 22) := s1.rCell 0
  have b3 : w1'.cell? ⟨Y, 1, none⟩ = some (.int .i64 0) := s1.rCell 1
  have b4 : w1'.frozen? ⟨Y, 0, none⟩ = false := s1.rFrz 0
  have b5 : w1'.frozen? ⟨Y, 1, none⟩ = false := s1.rFrz 1
  have HS2 := hid ((s1.rSet 0 (.int .i64 1)).rSet 1 (.int .i64 a))
  clear hx hnl s1 hw1 hY hw1' HI1 HS1 f2 f3 b0
  go_upto_region 4 with fail
  obtain ⟨w2, hw2⟩ : ∃ w2, w2 = (w1'.setCell ⟨Y, 0, none⟩ (.int .i64 1)).setCell ⟨Y, 1, none⟩ (.int .i64 a) := ⟨_, rfl⟩
  rw [← hw2] at HS2 ⊢
  clear hw2 b1 b2 b3 b4 b5 x0 x1
  have s2 : OwAt b X V o (boxI Y #[.int .i64 1, .int .i64 a] 91 :: R) w2 := HS2.out
  have c0 : w2.cell? ⟨Y, 0, none⟩ = some (.int .i64 1) := s2.rCell 0
  have c1 : w2.drew.cell? ⟨X, 2, none⟩ = some (.slice sa o.stack.length sc) := by rw [← eS]; exact s2.drew.at 2 rfl
  have c2 : w2.drew.cell? ⟨X, 13, none⟩ = some (.bool o.inside) := s2.drew.late 2 rfl
  go_upto_region 5 with fail
  go_region_held3 (fun W => W.cell? ⟨X, 2, none⟩ = some (.slice sa o.stack.length sc) ∧ W.cell? ⟨X, 13, none⟩ = some (.bool o.inside)) (first | go_keep | exact rS | exact ⟨c1, c2⟩) (first | (go_at_call 53; refine (hWr _).mono ?_; rintro e wk ⟨rfl, rfl⟩))
  have HP := hid hp
  have HES := hid eS
  have HS3 := hid s2.drew
  clear s2 HS2 c0 c1 c2 hp hWr eS
  generalize w2.drew = w3 at *
  have c0 : w3.cell? ⟨X, 1, none⟩ = some (.int .i64 p) := by rw [← HP.out]; exact HS3.out.at 1 rfl
  have c1 : w3.cell? ⟨X, 2, none⟩ = some (.slice sa o.stack.length sc) := by rw [← HES.out]; exact HS3.out.at 2 rfl
  have c1' : w3.drew.cell? ⟨X, 2, none⟩ = some (.slice sa o.stack.length sc) := by rw [← HES.out]; exact HS3.out.drew.at 2 rfl
  have c2 : w3.frozen? ⟨X, 2, none⟩ = false := HS3.out.frz 2
  have c3 : w3.cell? ⟨Y, 1, none⟩ = some (.int .i64 a) := HS3.out.rCell 1
  have c3' : w3.drew.cell? ⟨Y, 1, none⟩ = some (.int .i64 a) := HS3.out.drew.rCell 1
  have hbs := buildX1 w3 a
  have hbs' := buildX1 w3.drew a
  have cA : ∀ c t, (w3.alloc (.cells c t)).cell? ⟨X, 2, none⟩ = some (.slice sa o.stack.length sc) := fun c t => by rw [World.cell?_of_block (Below.heap_alloc w3 _ X (World.block_lt_of_cell? w3 _ c1))]; exact c1
  have fA : ∀ c t, (w3.alloc (.cells c t)).frozen? ⟨X, 2, none⟩ = false := fun c t => by rw [frozen?_alloc_cells]; exact c2
  have hown : w3.ownsRow 0 2 1 (.slice sa o.stack.length sc) o.stack.length (xC o.stack) := by rw [← HES.out]; exact HS3.out.stk
  have HV : Hid (∀ g2 cap2 w1, w1.ownsRow 0 2 1 (.slice (some ⟨g2, 0, none⟩) (o.stack.length + 1) cap2) (o.stack.length + 1) (xC o.stack ++ [.int .i64 a]) → ((w3.alloc (.cells #[.int .i64 a] 2)).drew).grownBy w1 (Value.ownBlock (.slice sa o.stack.length sc)) → (Value.ownBlock (.slice sa o.stack.length sc) = some g2 ∨ g2 = w3.heap.size + 1) →
      OwAt b X { V with s := .slice (some ⟨g2, 0, none⟩) (o.stack.length + 1) cap2 } { o with stack := o.stack ++ [a] } (boxI Y #[.int .i64 1, .int .i64 a] 91 :: R) (w1.setCell ⟨X, 2, none⟩ (.slice (some ⟨g2, 0, none⟩) (o.stack.length + 1) cap2)) ∧ w1.cell? ⟨X, 2, none⟩ = some (.slice sa o.stack.length sc) ∧ w1.frozen? ⟨X, 2, none⟩ = false) := by
    intro g2 cap2 w1 p1 p2 p3
    have hh := HS3.out.pushD p1 (by rw [HES.out]; exact p2) (by rw [HES.out]; exact p3)
    rw [HES.out] at hh
    exact hh
  clear HS3
  generalize hST : o.stack.length = st at *
  have HST := hid hST
  clear hST
  generalize hXS : xC o.stack = XS at *
  clear hXS
  go_upto_region 13 with fail
  go_region_law
    ((refine step_append_lies _ (by rfl) _ _ _ (by rfl) 0 2 i0 _ 1 8 Tryz.underlying24 hi0 hz0 hz1 hz2 rfl (by omega) (.slice sa st sc) st XS (by rfl) ((hown.alloc _).drew)
        ⟨w3.heap.size, 0, none⟩ 1 1 [.int .i64 a] (by rfl) (by rfl) (World.news_of_block (cs := #[.int .i64 a]) (t := 2) (fr := (0, 0)) (heap_alloc_new w3 _)) (by simp [Value.oneCell'])
        (by omega) (by unfold maxLen; omega) (by omega) (Nat.zero_le _) (w3.heap.size + 1) (by simp) ?_; intro g2 cap2 w1 hown1 hgrow hat hlt
      obtain ⟨s8, e4, ef4⟩ := HV.out g2 cap2 w1 hown1 hgrow hat
      have H8 := hid s8
      clear HV s8 hown1 hgrow hat hlt))
  all_goals
    have s9 := H8.out
    obtain ⟨w9, hw9⟩ : ∃ w9, w9 = w1.setCell ⟨X, 2, none⟩ (.slice (some ⟨g2, 0, none⟩) (st + 1) cap2) := ⟨_, rfl⟩
    rw [← hw9] at s9 ⊢
    have c9 : w9.cell? ⟨X, 1, none⟩ = some (.int .i64 p) := by rw [← HP.out]; exact s9.at 1 rfl
    have f9 : w9.frozen? ⟨X, 1, none⟩ = false := s9.frz 1
    have H9 : Hid (OwAt b X { V with s := .slice (some ⟨g2, 0, none⟩) (st + 1) cap2 } { o with stack := o.stack ++ [a], place := o.place + 1 } R (w9.setCell ⟨X, 1, none⟩ (.int .i64 ((p : Int) + 1)))) := by
      have := (s9.setPlace ((p : Int) + 1)).popR
      rw [show (p : Int) + 1 = o.place + 1 by rw [HP.out]] at this ⊢
      exact this
    clear s9 H8 hw9 c0 c1 c1' c2 c3 c3' cA fA e4 ef4 hown hbs hbs'
    go_wp2
    go_end0
    exact ⟨rfl, _, H9.out⟩
set_option maxRecDepth 100000 in
set_option maxHeartbeats 4000000 in
theorem step_3 {b w : World} {X : Nat} {V : OwV} {o : Ow} {R : List It} {la : Option Addr} {n lc : Nat} {l : List Ins} {p : Nat} {a : Int} (h : OwAt b X V o R w) (hI : IIn w la n l) (hp : o.place = p) (hpn : p < n) (hx : l.getD p Ins.zero = ⟨3, a⟩) (hm : o.may ⟨3, a⟩) (hn : n ≤ 400) :
    Calls Tryz.prog 30 #[.pointer (some ⟨X, 0, none⟩), .slice la n lc] w fun e w' => e = .returned (.tuple #[]) ∧ ∃ V', OwAt b X V' (o.go ⟨3, a⟩) R w' := by
  obtain ⟨i0, hi0, hz0, hz1, hz2⟩ := info_parts Tryz.infoX
  obtain ⟨hdone, hkn, hpop, hpush, h16, h17, h22, h56, hc17, hc18⟩ := hm
  simp only at hkn hpop hpush h16 h17 h22 h56 hc17 hc18
  obtain ⟨sa, sc, eS, hmx⟩ := h.stkForm
  have hnl := hI.1
  obtain ⟨g, o1, rfl⟩ := hI.addr (by omega)
  have hrow : (rowOf (3 : Int)).pops = 1 ∧ (rowOf (3 : Int)).pushes = 2 := by decide
  have hdep : o.stack.length ≤ 64 := by omega
  have hdp : 1 ≤ o.stack.length := by omega
  have hWr := fun W => Wrong_any 3 o.stack.length o.inside (by decide) hpop hpush (fun e => h16 (by omega)) (fun e => h17 (by omega)) (fun e => h22 (by omega)) (by omega) W
  have HGO : Hid (o.go ⟨3, a⟩ = { o with stack := o.stack ++ [o.top 0], place := o.place + 1 }) := by
    show _ = _
    simp [Ow.go]
  rw [HGO.out]
  have s1 := h.box #[.int .i64 22, .int .i64 0] 91
  have b0 : w.cell? ⟨X, 14, none⟩ = some (.bool false) := by rw [← hdone]; exact h.late 3 rfl
  have f2 : (w.alloc (.cells #[.int .i64 22, .int .i64 0] 91)).cell? ⟨w.heap.size, 1, none⟩ = some (.int .i64 0) := s1.rCell 1
  have f3 : (w.alloc (.cells #[.int .i64 22, .int .i64 0] 91)).frozen? ⟨w.heap.size, 1, none⟩ = false := s1.rFrz 1
  have HS1 := hid (s1.rSet 1 (.int .i64 0))
  have HI1 := hid (hI.kept ((kept_alloc w (.cells #[.int .i64 22, .int .i64 0] 91)).setCell (p := ⟨w.heap.size, 1, none⟩) (.int .i64 0) (.inr (Nat.le_refl _))))
  generalize hw1 : w.alloc (.cells #[.int .i64 22, .int .i64 0] 91) = w1 at *
  generalize hY : w.heap.size = Y at *
  have hq0 : (0 : Int) ≤ (p : Int) := by omega
  have hq1 : (p : Int) < (n : Int) := by omega
  clear h hI hdone hkn hpop hpush h16 h22 s1 hrow
  go_enter Tryz.func30, Tryz.ntmps30
  go_upto_region 2 with (simp only [hw1, hY])
  obtain ⟨w1', hw1'⟩ : ∃ w1', w1' = w1.setCell ⟨Y, 1, none⟩ (.int .i64 0) := ⟨_, rfl⟩
  rw [← hw1'] at HS1 HI1 ⊢
  have s1 : OwAt b X V o (boxI Y #[.int .i64 22, .int .i64 0] 91 :: R) w1' := HS1.out
  obtain ⟨x0, x1⟩ := HI1.out.cells (j := p) (by omega)
  rw [hx] at x0 x1
  simp only at x0 x1
  have b1 : w1'.cell? ⟨X, 1, none⟩ = some (.int .i64 p) := by rw [← hp]; exact s1.at 1 rfl
  have b2 : w1'.cell? ⟨Y, 0, none⟩ = some (.int .i64 22) := s1.rCell 0
  have b3 : w1'.cell? ⟨Y, 1, none⟩ = some (.int .i64 0) := s1.rCell 1
  have b4 : w1'.frozen? ⟨Y, 0, none⟩ = false := s1.rFrz 0
  have b5 : w1'.frozen? ⟨Y, 1, none⟩ = false := s1.rFrz 1
  have HS2 := hid ((s1.rSet 0 (.int .i64 3)).rSet 1 (.int .i64 a))
  clear hx hnl s1 hw1 hY hw1' HI1 HS1 f2 f3 b0
  go_upto_region 4 with fail
  obtain ⟨w2, hw2⟩ : ∃ w2, w2 = (w1'.setCell ⟨Y, 0, none⟩ (.int .i64 3)).setCell ⟨Y, 1, none⟩ (.int .i64 a) := ⟨_, rfl⟩
  rw [← hw2] at HS2 ⊢
  clear hw2 b1 b2 b3 b4 b5 x0 x1
  have s2 : OwAt b X V o (boxI Y #[.int .i64 3, .int .i64 a] 91 :: R) w2 := HS2.out
  have c0 : w2.cell? ⟨Y, 0, none⟩ = some (.int .i64 3) := s2.rCell 0
  have c1 : w2.drew.cell? ⟨X, 2, none⟩ = some (.slice sa o.stack.length sc) := by rw [← eS]; exact s2.drew.at 2 rfl
  have c2 : w2.drew.cell? ⟨X, 13, none⟩ = some (.bool o.inside) := s2.drew.late 2 rfl
  go_upto_region 5 with fail
  go_region_held3 (fun W => W.cell? ⟨X, 2, none⟩ = some (.slice sa o.stack.length sc) ∧ W.cell? ⟨X, 13, none⟩ = some (.bool o.inside)) (first | go_keep | exact rS | exact ⟨c1, c2⟩) (first | (go_at_call 53; refine (hWr _).mono ?_; rintro e wk ⟨rfl, rfl⟩))
  have HP := hid hp
  have HES := hid eS
  have HS3 := hid s2.drew
  clear s2 HS2 c0 c1 c2 hp hWr eS
  generalize w2.drew = w3 at *
  have hTop : Calls Tryz.prog 57 #[.pointer (some ⟨X, 0, none⟩), .int .i64 0] w3.drew _ := top_any HS3.out.drew 0 (by omega)
  generalize hvl : o.top 0 = vl at *
  have HVL := hid hvl
  clear hvl
  have c0 : w3.cell? ⟨X, 1, none⟩ = some (.int .i64 p) := by rw [← HP.out]; exact HS3.out.at 1 rfl
  have c1 : w3.cell? ⟨X, 2, none⟩ = some (.slice sa o.stack.length sc) := by rw [← HES.out]; exact HS3.out.at 2 rfl
  have c1' : w3.drew.cell? ⟨X, 2, none⟩ = some (.slice sa o.stack.length sc) := by rw [← HES.out]; exact HS3.out.drew.at 2 rfl
  have c1'' : w3.drew.drew.cell? ⟨X, 2, none⟩ = some (.slice sa o.stack.length sc) := by rw [← HES.out]; exact HS3.out.drew.drew.at 2 rfl
  have c2 : w3.frozen? ⟨X, 2, none⟩ = false := HS3.out.frz 2
  have hbs := fun W => buildX1 W vl
  have cA : ∀ c t, (w3.alloc (.cells c t)).cell? ⟨X, 2, none⟩ = some (.slice sa o.stack.length sc) := fun c t => by rw [World.cell?_of_block (Below.heap_alloc w3 _ X (World.block_lt_of_cell? w3 _ c1))]; exact c1
  have fA : ∀ c t, (w3.alloc (.cells c t)).frozen? ⟨X, 2, none⟩ = false := fun c t => by rw [frozen?_alloc_cells]; exact c2
  have hown : w3.ownsRow 0 2 1 (.slice sa o.stack.length sc) o.stack.length (xC o.stack) := by rw [← HES.out]; exact HS3.out.stk
  have HV : Hid (∀ g2 cap2 w1, w1.ownsRow 0 2 1 (.slice (some ⟨g2, 0, none⟩) (o.stack.length + 1) cap2) (o.stack.length + 1) (xC o.stack ++ [.int .i64 vl]) → ((w3.alloc (.cells #[.int .i64 vl] 2)).drew.drew).grownBy w1 (Value.ownBlock (.slice sa o.stack.length sc)) → (Value.ownBlock (.slice sa o.stack.length sc) = some g2 ∨ g2 = w3.heap.size + 1) →
      OwAt b X { V with s := .slice (some ⟨g2, 0, none⟩) (o.stack.length + 1) cap2 } { o with stack := o.stack ++ [vl] } (boxI Y #[.int .i64 3, .int .i64 a] 91 :: R) (w1.setCell ⟨X, 2, none⟩ (.slice (some ⟨g2, 0, none⟩) (o.stack.length + 1) cap2)) ∧ w1.cell? ⟨X, 2, none⟩ = some (.slice sa o.stack.length sc) ∧ w1.frozen? ⟨X, 2, none⟩ = false) := by
    intro g2 cap2 w1 p1 p2 p3
    have hh := HS3.out.drew.pushD (ob := .cells #[.int .i64 vl] 2) p1 (by rw [HES.out]; exact p2) (by rw [HES.out]; exact p3)
    rw [HES.out] at hh
    exact hh
  clear HS3
  generalize hST : o.stack.length = st at *
  have HST := hid hST
  clear hST
  generalize hXS : xC o.stack = XS at *
  clear hXS
  go_upto_region 17 with fail
  go_region_law
    (first
      | (refine step_append_lies _ (by rfl) _ _ _ (by rfl) 0 2 i0 _ 1 8 Tryz.underlying24 hi0 hz0 hz1 hz2 rfl (by omega) (.slice sa st sc) st XS (by rfl) ((hown.alloc _).drew.drew)
            ⟨w3.heap.size, 0, none⟩ 1 1 [.int .i64 vl] (by rfl) (by rfl) (World.news_of_block (cs := #[.int .i64 vl]) (t := 2) (fr := (0, 0)) (heap_alloc_new w3 _)) (by simp [Value.oneCell'])
            (by omega) (by unfold maxLen; omega) (by omega) (Nat.zero_le _) (w3.heap.size + 1) (by simp) ?_; intro g2 cap2 w1 hown1 hgrow hat hlt
         obtain ⟨s8, e4, ef4⟩ := HV.out g2 cap2 w1 hown1 hgrow hat
         have H8 := hid s8
         clear HV s8 hown1 hgrow hat hlt)
      | (go_simp; go_at_call 57; refine hTop.mono ?_; rintro e wt ⟨rfl, rfl⟩))
  all_goals
    have s9 := H8.out
    obtain ⟨w9, hw9⟩ : ∃ w9, w9 = w1.setCell ⟨X, 2, none⟩ (.slice (some ⟨g2, 0, none⟩) (st + 1) cap2) := ⟨_, rfl⟩
    rw [← hw9] at s9 ⊢
    have c9 : w9.cell? ⟨X, 1, none⟩ = some (.int .i64 p) := by rw [← HP.out]; exact s9.at 1 rfl
    have f9 : w9.frozen? ⟨X, 1, none⟩ = false := s9.frz 1
    have H9 : Hid (OwAt b X { V with s := .slice (some ⟨g2, 0, none⟩) (st + 1) cap2 } { o with stack := o.stack ++ [vl], place := o.place + 1 } R (w9.setCell ⟨X, 1, none⟩ (.int .i64 ((p : Int) + 1)))) := by
      have := (s9.setPlace ((p : Int) + 1)).popR
      rw [show (p : Int) + 1 = o.place + 1 by rw [HP.out]] at this ⊢
      exact this
    clear s9 H8 hw9 c0 c1 c1' c2 cA fA e4 ef4 hown hbs
    go_wp2
    go_end0
    exact ⟨rfl, _, by rw [HVL.out]; exact H9.out⟩
set_option maxRecDepth 100000 in
set_option maxHeartbeats 4000000 in
theorem step_5 {b w : World} {X : Nat} {V : OwV} {o : Ow} {R : List It} {la : Option Addr} {n lc : Nat} {l : List Ins} {p : Nat} {a : Int} (h : OwAt b X V o R w) (hI : IIn w la n l) (hp : o.place = p) (hpn : p < n) (hx : l.getD p Ins.zero = ⟨5, a⟩) (hm : o.may ⟨5, a⟩) (hn : n ≤ 400) :
    Calls Tryz.prog 30 #[.pointer (some ⟨X, 0, none⟩), .slice la n lc] w fun e w' => e = .returned (.tuple #[]) ∧ ∃ V', OwAt b X V' (o.go ⟨5, a⟩) R w' := by
  obtain ⟨i0, hi0, hz0, hz1, hz2⟩ := info_parts Tryz.infoX
  obtain ⟨hdone, hkn, hpop, hpush, h16, h17, h22, h56, hc17, hc18⟩ := hm
  simp only at hkn hpop hpush h16 h17 h22 h56 hc17 hc18
  obtain ⟨ha0, ha1⟩ := h56 (by decide)
  obtain ⟨ka, rfl⟩ : ∃ ka : Nat, a = (ka : Int) := ⟨a.toNat, by omega⟩
  obtain ⟨sa, sc, eS, hmx⟩ := h.stkForm
  have hnl := hI.1
  obtain ⟨g, o1, rfl⟩ := hI.addr (by omega)
  have hrow : (rowOf (5 : Int)).pops = 0 ∧ (rowOf (5 : Int)).pushes = 1 := by decide
  have hdep : o.stack.length ≤ 64 := by omega
  have hdp : 0 ≤ o.stack.length := by omega
  have hWr := fun W => Wrong_any 5 o.stack.length o.inside (by decide) hpop hpush (fun e => h16 (by omega)) (fun e => h17 (by omega)) (fun e => h22 (by omega)) (by omega) W
  have HGO : Hid (o.go ⟨5, (ka : Int)⟩ = { o with stack := o.stack ++ [o.loc.getD ka 0], place := o.place + 1 }) := by
    show _ = _
    simp [Ow.go]
  rw [HGO.out]
  have s1 := h.box #[.int .i64 22, .int .i64 0] 91
  have b0 : w.cell? ⟨X, 14, none⟩ = some (.bool false) := by rw [← hdone]; exact h.late 3 rfl
  have f2 : (w.alloc (.cells #[.int .i64 22, .int .i64 0] 91)).cell? ⟨w.heap.size, 1, none⟩ = some (.int .i64 0) := s1.rCell 1
  have f3 : (w.alloc (.cells #[.int .i64 22, .int .i64 0] 91)).frozen? ⟨w.heap.size, 1, none⟩ = false := s1.rFrz 1
  have HS1 := hid (s1.rSet 1 (.int .i64 0))
  have HI1 := hid (hI.kept ((kept_alloc w (.cells #[.int .i64 22, .int .i64 0] 91)).setCell (p := ⟨w.heap.size, 1, none⟩) (.int .i64 0) (.inr (Nat.le_refl _))))
  generalize hw1 : w.alloc (.cells #[.int .i64 22, .int .i64 0] 91) = w1 at *
  generalize hY : w.heap.size = Y at *
  have hq0 : (0 : Int) ≤ (p : Int) := by omega
  have hq1 : (p : Int) < (n : Int) := by omega
  clear h hI hdone hkn hpop hpush h16 h22 s1 hrow
  go_enter Tryz.func30, Tryz.ntmps30
  go_upto_region 2 with (simp only [hw1, hY])
  obtain ⟨w1', hw1'⟩ : ∃ w1', w1' = w1.setCell ⟨Y, 1, none⟩ (.int .i64 0) := ⟨_, rfl⟩
  rw [← hw1'] at HS1 HI1 ⊢
  have s1 : OwAt b X V o (boxI Y #[.int .i64 22, .int .i64 0] 91 :: R) w1' := HS1.out
  obtain ⟨x0, x1⟩ := HI1.out.cells (j := p) (by omega)
  rw [hx] at x0 x1
  simp only at x0 x1
  have b1 : w1'.cell? ⟨X, 1, none⟩ = some (.int .i64 p) := by rw [← hp]; exact s1.at 1 rfl
  have b2 : w1'.cell? ⟨Y, 0, none⟩ = some (.int .i64 22) := s1.rCell 0
  have b3 : w1'.cell? ⟨Y, 1, none⟩ = some (.int .i64 0) := s1.rCell 1
  have b4 : w1'.frozen? ⟨Y, 0, none⟩ = false := s1.rFrz 0
  have b5 : w1'.frozen? ⟨Y, 1, none⟩ = false := s1.rFrz 1
  have HS2 := hid ((s1.rSet 0 (.int .i64 5)).rSet 1 (.int .i64 (ka : Int)))
  clear hx hnl s1 hw1 hY hw1' HI1 HS1 f2 f3 b0
  go_upto_region 4 with fail
  obtain ⟨w2, hw2⟩ : ∃ w2, w2 = (w1'.setCell ⟨Y, 0, none⟩ (.int .i64 5)).setCell ⟨Y, 1, none⟩ (.int .i64 (ka : Int)) := ⟨_, rfl⟩
  rw [← hw2] at HS2 ⊢
  clear hw2 b1 b2 b3 b4 b5 x0 x1
  have s2 : OwAt b X V o (boxI Y #[.int .i64 5, .int .i64 (ka : Int)] 91 :: R) w2 := HS2.out
  have c0 : w2.cell? ⟨Y, 0, none⟩ = some (.int .i64 5) := s2.rCell 0
  have c1 : w2.drew.cell? ⟨X, 2, none⟩ = some (.slice sa o.stack.length sc) := by rw [← eS]; exact s2.drew.at 2 rfl
  have c2 : w2.drew.cell? ⟨X, 13, none⟩ = some (.bool o.inside) := s2.drew.late 2 rfl
  go_upto_region 5 with fail
  go_region_held3 (fun W => W.cell? ⟨X, 2, none⟩ = some (.slice sa o.stack.length sc) ∧ W.cell? ⟨X, 13, none⟩ = some (.bool o.inside)) (first | go_keep | exact rS | exact ⟨c1, c2⟩) (first | (go_at_call 53; refine (hWr _).mono ?_; rintro e wk ⟨rfl, rfl⟩))
  have HP := hid hp
  have HES := hid eS
  have HS3 := hid s2.drew
  clear s2 HS2 c0 c1 c2 hp hWr eS
  generalize w2.drew = w3 at *
  have c0 : w3.cell? ⟨X, 1, none⟩ = some (.int .i64 p) := by rw [← HP.out]; exact HS3.out.at 1 rfl
  have c1 : w3.cell? ⟨X, 2, none⟩ = some (.slice sa o.stack.length sc) := by rw [← HES.out]; exact HS3.out.at 2 rfl
  have c1' : w3.drew.cell? ⟨X, 2, none⟩ = some (.slice sa o.stack.length sc) := by rw [← HES.out]; exact HS3.out.drew.at 2 rfl
  have c2 : w3.frozen? ⟨X, 2, none⟩ = false := HS3.out.frz 2
  have c3 : w3.cell? ⟨Y, 1, none⟩ = some (.int .i64 (ka : Int)) := HS3.out.rCell 1
  have c3' : w3.drew.cell? ⟨Y, 1, none⟩ = some (.int .i64 (ka : Int)) := HS3.out.drew.rCell 1
  have hk0 : (0 : Int) ≤ (ka : Int) := by omega
  have hk1 : (ka : Int) < 8 := by omega
  have d1 : w3.cell? ⟨X, 3 + ka, none⟩ = some (.int .i64 (o.loc.getD ka 0)) := HS3.out.lcl ka (by omega)
  have d1' : w3.drew.cell? ⟨X, 3 + ka, none⟩ = some (.int .i64 (o.loc.getD ka 0)) := HS3.out.drew.lcl ka (by omega)
  have hbs := buildX1 w3 (o.loc.getD ka 0)
  have hbs' := buildX1 w3.drew (o.loc.getD ka 0)
  have cA : ∀ c t, (w3.alloc (.cells c t)).cell? ⟨X, 2, none⟩ = some (.slice sa o.stack.length sc) := fun c t => by rw [World.cell?_of_block (Below.heap_alloc w3 _ X (World.block_lt_of_cell? w3 _ c1))]; exact c1
  have fA : ∀ c t, (w3.alloc (.cells c t)).frozen? ⟨X, 2, none⟩ = false := fun c t => by rw [frozen?_alloc_cells]; exact c2
  have hown : w3.ownsRow 0 2 1 (.slice sa o.stack.length sc) o.stack.length (xC o.stack) := by rw [← HES.out]; exact HS3.out.stk
  have HV : Hid (∀ g2 cap2 w1, w1.ownsRow 0 2 1 (.slice (some ⟨g2, 0, none⟩) (o.stack.length + 1) cap2) (o.stack.length + 1) (xC o.stack ++ [.int .i64 (o.loc.getD ka 0)]) → ((w3.alloc (.cells #[.int .i64 (o.loc.getD ka 0)] 2)).drew).grownBy w1 (Value.ownBlock (.slice sa o.stack.length sc)) → (Value.ownBlock (.slice sa o.stack.length sc) = some g2 ∨ g2 = w3.heap.size + 1) →
      OwAt b X { V with s := .slice (some ⟨g2, 0, none⟩) (o.stack.length + 1) cap2 } { o with stack := o.stack ++ [(o.loc.getD ka 0)] } (boxI Y #[.int .i64 5, .int .i64 (ka : Int)] 91 :: R) (w1.setCell ⟨X, 2, none⟩ (.slice (some ⟨g2, 0, none⟩) (o.stack.length + 1) cap2)) ∧ w1.cell? ⟨X, 2, none⟩ = some (.slice sa o.stack.length sc) ∧ w1.frozen? ⟨X, 2, none⟩ = false) := by
    intro g2 cap2 w1 p1 p2 p3
    have hh := HS3.out.pushD p1 (by rw [HES.out]; exact p2) (by rw [HES.out]; exact p3)
    rw [HES.out] at hh
    exact hh
  clear HS3
  generalize hST : o.stack.length = st at *
  have HST := hid hST
  clear hST
  generalize hXS : xC o.stack = XS at *
  clear hXS
  generalize hvl : o.loc.getD ka 0 = vl at *
  have HVL := hid hvl
  clear hvl
  go_upto_region 24 with fail
  go_region_law
    ((refine step_append_lies _ (by rfl) _ _ _ (by rfl) 0 2 i0 _ 1 8 Tryz.underlying24 hi0 hz0 hz1 hz2 rfl (by omega) (.slice sa st sc) st XS (by rfl) ((hown.alloc _).drew)
        ⟨w3.heap.size, 0, none⟩ 1 1 [.int .i64 vl] (by rfl) (by rfl) (World.news_of_block (cs := #[.int .i64 vl]) (t := 2) (fr := (0, 0)) (heap_alloc_new w3 _)) (by simp [Value.oneCell'])
        (by omega) (by unfold maxLen; omega) (by omega) (Nat.zero_le _) (w3.heap.size + 1) (by simp) ?_; intro g2 cap2 w1 hown1 hgrow hat hlt
      obtain ⟨s8, e4, ef4⟩ := HV.out g2 cap2 w1 hown1 hgrow hat
      have H8 := hid s8
      clear HV s8 hown1 hgrow hat hlt))
  all_goals
    have s9 := H8.out
    obtain ⟨w9, hw9⟩ : ∃ w9, w9 = w1.setCell ⟨X, 2, none⟩ (.slice (some ⟨g2, 0, none⟩) (st + 1) cap2) := ⟨_, rfl⟩
    rw [← hw9] at s9 ⊢
    have c9 : w9.cell? ⟨X, 1, none⟩ = some (.int .i64 p) := by rw [← HP.out]; exact s9.at 1 rfl
    have f9 : w9.frozen? ⟨X, 1, none⟩ = false := s9.frz 1
    have H9 : Hid (OwAt b X { V with s := .slice (some ⟨g2, 0, none⟩) (st + 1) cap2 } { o with stack := o.stack ++ [vl], place := o.place + 1 } R (w9.setCell ⟨X, 1, none⟩ (.int .i64 ((p : Int) + 1)))) := by
      have := (s9.setPlace ((p : Int) + 1)).popR
      rw [show (p : Int) + 1 = o.place + 1 by rw [HP.out]] at this ⊢
      exact this
    clear s9 H8 hw9 c0 c1 c1' c2 c3 c3' cA fA e4 ef4 hown hbs hbs'
    go_wp2
    go_end0
    exact ⟨rfl, _, by rw [HVL.out]; exact H9.out⟩
end Go.Proofs.YtbpilhjomfkpaaaGreatDoor
