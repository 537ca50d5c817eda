/- The document's gate: note, Look, Take, Give: the same as the code's. -/
import Derived.Test.YtajfjkhbimehbaaGreatRefNote
import Derived.Test.YtajfjkhbimehbaaGreatGateB
import Derived.Test.YtajfjkhbimehbaaGreatTurn
namespace Go.Proofs.YtajfjkhbimehbaaGreat
open Go.RowKit
set_option linter.unusedVariables false
set_option linter.unusedSimpArgs false
attribute [local go_sem ↓] Go.wp_at_zero Go.wp_at_succ

/-- The document's gate in block y; its meter in block x. -/
def refGateI (y x : Nat) (z : Gt) : It := boxI y #[.pointer (some ⟨x, 0, none⟩), .int .i64 z.n, .int .i64 z.o] 90

set_option maxRecDepth 100000 in
theorem refGthread (t : Int) (w : World) : Calls Tryz.prog 90 #[.int .i64 t] w fun e w' => e = .returned (.bool (gTh t)) ∧ w' = w := by
  unfold gTh
  cases h1 : decide ((1 : Int) ≤ t) <;> cases h2 : decide (t ≤ (8 : Int))
  all_goals
    go_enter Tryz.func90, Tryz.ntmps90
    go_wp2
    go_ret
    first | exact ⟨rfl, rfl⟩ | simp_all

set_option maxRecDepth 100000 in
theorem refGnote_st {o w : World} {its : List It} (h : St o its w) (i j : Nat) {x y : Nat} {s : Mt} {v : Value} {z : Gt} (hi : its[i]? = some (meterI 67 (some x) s v)) (hj : its[j]? = some (refGateI y x z)) {n : Nat} (hw : s.within n) (hn : n ≤ 4611686018427) (op : Int) (ok : Bool) :
    Calls Tryz.prog 81 #[.pointer (some ⟨y, 0, none⟩), .int .i64 op, .bool ok] w fun e w' => e = .returned (.tuple #[]) ∧ ∃ v', St o (its.set i (meterI 67 (some x) (s.note 2 0 op ok) v')) w' := by
  have c0 : w.cell? ⟨y, 0, none⟩ = some (.pointer (some ⟨x, 0, none⟩)) := h.cell j hj 0
  have hc := refNote_st h i hi hw hn 2 0 op ok
  clear h
  go_enter Tryz.func81, Tryz.ntmps81
  go_wp2_with (go_at_call 109; refine hc.mono ?_; rintro e w' ⟨rfl, hS⟩)
  first | go_end0 | refine bodyPost_ret (results_none rfl _ _ _) rfl ?_
  exact ⟨rfl, hS⟩

set_option maxRecDepth 100000 in
set_option maxHeartbeats 1000000 in
theorem refGlook_st {o w : World} {its : List It} (h : St o its w) (i j : Nat) {x y : Nat} {s : Mt} {v : Value} {z : Gt} (hi : its[i]? = some (meterI 67 (some x) s v)) (hj : its[j]? = some (refGateI y x z)) (hij : i ≠ j) {n : Nat} (hw : s.within n) (hn : n ≤ 4611686018427) :
    Calls Tryz.prog 39 #[.pointer (some ⟨y, 0, none⟩)] w fun e w' => e = .returned z.val ∧ ∃ v', St o (its.set i (meterI 67 (some x) (s.note 2 0 1 true) v')) w' := by
  have hS0 := h.box #[.int .i64 0, .int .i64 0] 88
  have hc := refGnote_st hS0 (i + 1) (j + 1) hi hj hw hn 1 true
  obtain ⟨zn, zo⟩ := z
  simp only [Gt.val, List.set_cons_succ] at *
  go_enter Tryz.func39, Tryz.ntmps39
  go_wp2_with fail
  generalize w.alloc (.cells #[.int .i64 0, .int .i64 0] 88) = W0 at *
  generalize w.heap.size = B at *
  refine hc.mono ?_
  rintro e w1 ⟨rfl, v', hS⟩
  have hjj : (boxI B #[.int .i64 0, .int .i64 0] 88 :: its.set i (meterI 67 (some x) (s.note 2 0 1 true) v'))[j + 1]? = some (refGateI y x ⟨zn, zo⟩) := set_other hj hij
  have d1 : w1.cell? ⟨y, 1, none⟩ = some (.int .i64 zn) := hS.cell (j + 1) hjj 1
  have d2 : w1.cell? ⟨y, 2, none⟩ = some (.int .i64 zo) := hS.cell (j + 1) hjj 2
  have b0 : w1.cell? ⟨B, 0, none⟩ = some (.int .i64 0) := hS.cell 0 rfl 0
  have b1 : w1.cell? ⟨B, 1, none⟩ = some (.int .i64 0) := hS.cell 0 rfl 1
  have f0 : w1.frozen? ⟨B, 0, none⟩ = false := hS.frozen 0 rfl 0
  have f1 : w1.frozen? ⟨B, 1, none⟩ = false := hS.frozen 0 rfl 1
  have ne : ¬ y = B := hS.ne (j + 1) 0 hjj rfl (by omega) (by simp [refGateI, boxI]) (by simp [boxI])
  have HS : Hid (∀ u0 u1 : Value, St o (its.set i (meterI 67 (some x) (s.note 2 0 1 true) v')) ((w1.setCell ⟨B, 0, none⟩ u0).setCell ⟨B, 1, none⟩ u1)) := fun u0 u1 => ((hS.write 0 rfl 0 u0).write 0 rfl 1 u1).pop
  clear hS hc hS0 h hjj
  go_wp2
  exact bodyPost_ret (v := .agg #[.int .i64 zn, .int .i64 zo]) (by simp [results, Tryz.results39, go_sem, b0, b1]) rfl ⟨rfl, v', HS.out _ _⟩

theorem GOk.free {n o : Int} (h : GOk n o) : (n % 2 == 0) = (o == 0) := by
  rcases h with ⟨rfl, h⟩ | ⟨h1, h2, h⟩
  · rw [h]
  · have : (o == 0) = false := by simp; omega
    rw [h, this]; rfl
theorem GOk.held {n o : Int} (h : GOk n o) : (n % 2 == 1) = !(o == 0) := by
  rcases h with ⟨rfl, h⟩ | ⟨h1, h2, h⟩
  · rw [h]; rfl
  · have : (o == 0) = false := by simp; omega
    rw [h, this]; rfl

set_option maxRecDepth 100000 in
set_option maxHeartbeats 1000000 in
theorem refGtake_st {o w : World} {its : List It} (h : St o its w) (i j : Nat) {x y : Nat} {s : Mt} {v : Value} {z : Gt} (hi : its[i]? = some (meterI 67 (some x) s v)) (hj : its[j]? = some (refGateI y x z)) (hij : i ≠ j) {n : Nat} (hw : s.within n) (hn : n ≤ 4611686018427)
    (hz0 : 0 ≤ z.n) (hz1 : z.n ≤ 4611686018427387904) (hz : GOk z.n z.o) (t : Int) :
    Calls Tryz.prog 45 #[.pointer (some ⟨y, 0, none⟩), .int .i64 t] w fun e w' => e = .returned (.tuple #[.int .i64 (takeR z t), .int .i64 (takeE z t)]) ∧ ∃ v', St o ((its.set i (meterI 67 (some x) (takeS s z t) v')).set j (refGateI y x (takeX z t))) w' := by
  unfold takeR takeE takeS takeX
  cases ht : gTh t
  · simp only [Bool.false_and, Bool.false_eq_true, if_false]
    have hS : Hid (St o ((its.set i (meterI 67 (some x) s v)).set j (refGateI y x z)) w) := gkeep_all h hi hj
    have hth : Calls Tryz.prog 90 #[.int .i64 t] w fun e w' => e = .returned (.bool false) ∧ w' = w := ht ▸ refGthread t w
    clear h
    go_enter Tryz.func45, Tryz.ntmps45
    go_wp2_with (go_at_call 90; refine hth.mono ?_; rintro e w' ⟨rfl, rfl⟩)
    go_ret2
    exact ⟨rfl, v, hS.out⟩
  · simp only [Bool.true_and, if_true]
    have hth : Calls Tryz.prog 90 #[.int .i64 t] w fun e w' => e = .returned (.bool true) ∧ w' = w := ht ▸ refGthread t w
    have hf := hz.free
    obtain ⟨zn, zo⟩ := z
    have d1 : w.cell? ⟨y, 1, none⟩ = some (.int .i64 zn) := h.cell j hj 1
    have hc := refGnote_st h i j hi hj hw hn 3 (zo == 0)
    simp only at *
    generalize (zo == 0) = ok at *
    clear h
    cases ok
    · simp only [Bool.false_eq_true, if_false]
      go_enter Tryz.func45, Tryz.ntmps45
      go_wp2_with (first | (go_at_call 90; refine hth.mono ?_; rintro e w' ⟨rfl, rfl⟩) | (go_at_call 81; refine hc.mono ?_; rintro e w1 ⟨rfl, v', hS⟩))
      go_ret2
      refine ⟨rfl, v', ?_⟩
      rw [set_back (set_other hj hij)]
      exact hS
    · simp only [if_true]
      go_enter Tryz.func45, Tryz.ntmps45
      go_wp2_with (go_at_call 90; refine hth.mono ?_; rintro e w' ⟨rfl, rfl⟩)
      refine hc.mono ?_
      rintro e w1 ⟨rfl, v', hS⟩
      have hjj : (its.set i (meterI 67 (some x) (s.note 2 0 3 true) v'))[j]? = some (refGateI y x ⟨zn, zo⟩) := set_other hj hij
      have e1 : w1.cell? ⟨y, 1, none⟩ = some (.int .i64 zn) := hS.cell j hjj 1
      have e2 : w1.cell? ⟨y, 2, none⟩ = some (.int .i64 zo) := hS.cell j hjj 2
      have f1 : w1.frozen? ⟨y, 1, none⟩ = false := hS.frozen j hjj 1
      have f2 : w1.frozen? ⟨y, 2, none⟩ = false := hS.frozen j hjj 2
      have hT := (hS.write j hjj 1 (.int .i64 (zn + 1))).write j (set_self hjj) 2 (.int .i64 t)
      rw [set_same] at hT
      have HT : Hid (St o ((its.set i (meterI 67 (some x) (s.note 2 0 3 true) v')).set j (refGateI y x ⟨zn + 1, t⟩)) ((w1.setCell ⟨y, 1, none⟩ (.int .i64 (zn + 1))).setCell ⟨y, 2, none⟩ (.int .i64 t))) := hT
      clear hc hth hS hT hjj
      go_wp2
      go_ret2
      exact ⟨rfl, v', HT.out⟩

set_option maxRecDepth 100000 in
set_option maxHeartbeats 1000000 in
theorem refGgive_st {o w : World} {its : List It} (h : St o its w) (i j : Nat) {x y : Nat} {s : Mt} {v : Value} {z : Gt} (hi : its[i]? = some (meterI 67 (some x) s v)) (hj : its[j]? = some (refGateI y x z)) (hij : i ≠ j) {n : Nat} (hw : s.within n) (hn : n ≤ 4611686018427)
    (hz0 : 0 ≤ z.n) (hz1 : z.n ≤ 4611686018427387904) (hz : GOk z.n z.o) (t : Int) :
    Calls Tryz.prog 47 #[.pointer (some ⟨y, 0, none⟩), .int .i64 t] w fun e w' => e = .returned (.int .i64 (giveE z t)) ∧ ∃ v', St o ((its.set i (meterI 67 (some x) (giveS s z t) v')).set j (refGateI y x (giveX z t))) w' := by
  unfold giveE giveS giveX
  cases ht : gTh t
  · simp only [Bool.false_and, Bool.false_eq_true, if_false]
    have hS : Hid (St o ((its.set i (meterI 67 (some x) s v)).set j (refGateI y x z)) w) := gkeep_all h hi hj
    have hth : Calls Tryz.prog 90 #[.int .i64 t] w fun e w' => e = .returned (.bool false) ∧ w' = w := ht ▸ refGthread t w
    clear h
    go_enter Tryz.func47, Tryz.ntmps47
    go_wp2_with (go_at_call 90; refine hth.mono ?_; rintro e w' ⟨rfl, rfl⟩)
    go_ret
    exact ⟨rfl, v, hS.out⟩
  · simp only [Bool.true_and, if_true]
    have hth : Calls Tryz.prog 90 #[.int .i64 t] w fun e w' => e = .returned (.bool true) ∧ w' = w := ht ▸ refGthread t w
    have hf := hz.held
    obtain ⟨zn, zo⟩ := z
    have d1 : w.cell? ⟨y, 1, none⟩ = some (.int .i64 zn) := h.cell j hj 1
    have d2 : w.cell? ⟨y, 2, none⟩ = some (.int .i64 zo) := h.cell j hj 2
    have hc := refGnote_st h i j hi hj hw hn 3 (zo == t)
    have ht1 : 1 ≤ t := by simp only [gTh, Bool.and_eq_true, decide_eq_true_eq] at ht; exact ht.1
    simp only at *
    clear h ht
    by_cases hp : zo = 0
    · subst hp
      have e0 : ((0 : Int) == t) = false := by simp; omega
      rw [e0] at hc ⊢
      simp only [beq_self_eq_true, Bool.not_true] at hf
      simp only [Bool.false_eq_true, if_false]
      go_enter Tryz.func47, Tryz.ntmps47
      go_wp2_with (first | (go_at_call 90; refine hth.mono ?_; rintro e w' ⟨rfl, rfl⟩) | (go_at_call 81; refine hc.mono ?_; rintro e w1 ⟨rfl, v', hS⟩))
      go_ret
      refine ⟨rfl, v', ?_⟩
      rw [set_back (set_other hj hij)]
      exact hS
    · have e0 : (zo == 0) = false := by simpa using hp
      rw [e0] at hf
      simp only [Bool.not_false] at hf
      clear hp
      generalize hok : (zo == t) = ok at *
      cases ok
      · simp only [Bool.false_eq_true, if_false]
        go_enter Tryz.func47, Tryz.ntmps47
        go_wp2_with (first | (go_at_call 90; refine hth.mono ?_; rintro e w' ⟨rfl, rfl⟩) | (go_at_call 81; refine hc.mono ?_; rintro e w1 ⟨rfl, v', hS⟩))
        go_ret
        refine ⟨rfl, v', ?_⟩
        rw [set_back (set_other hj hij)]
        exact hS
      · simp only [if_true]
        go_enter Tryz.func47, Tryz.ntmps47
        go_wp2_with (go_at_call 90; refine hth.mono ?_; rintro e w' ⟨rfl, rfl⟩)
        refine hc.mono ?_
        rintro e w1 ⟨rfl, v', hS⟩
        have hjj : (its.set i (meterI 67 (some x) (s.note 2 0 3 true) v'))[j]? = some (refGateI y x ⟨zn, zo⟩) := set_other hj hij
        have e1 : w1.cell? ⟨y, 1, none⟩ = some (.int .i64 zn) := hS.cell j hjj 1
        have e2 : w1.cell? ⟨y, 2, none⟩ = some (.int .i64 zo) := hS.cell j hjj 2
        have f1 : w1.frozen? ⟨y, 1, none⟩ = false := hS.frozen j hjj 1
        have f2 : w1.frozen? ⟨y, 2, none⟩ = false := hS.frozen j hjj 2
        have hT := (hS.write j hjj 1 (.int .i64 (zn + 1))).write j (set_self hjj) 2 (.int .i64 0)
        rw [set_same] at hT
        have HT : Hid (St o ((its.set i (meterI 67 (some x) (s.note 2 0 3 true) v')).set j (refGateI y x ⟨zn + 1, 0⟩)) ((w1.setCell ⟨y, 1, none⟩ (.int .i64 (zn + 1))).setCell ⟨y, 2, none⟩ (.int .i64 0))) := hT
        clear hc hth hS hT hjj
        go_wp2
        go_ret
        exact ⟨rfl, v', HT.out⟩
end Go.Proofs.YtajfjkhbimehbaaGreat
