/- Take and Give of the code's gate, in one sentence each. -/
import Derived.Test.YtajfjkhbimehbaaGreatGate
namespace Go.Proofs.YtajfjkhbimehbaaGreat
open Go.RowKit
set_option linter.unusedVariables false
set_option linter.unusedSimpArgs false
attribute [local go_sem ↓] Go.wp_at_zero Go.wp_at_succ

def takeX (x : Gt) (t : Int) : Gt := if gTh t && (x.o == 0) then ⟨x.n + 1, t⟩ else x
def takeS (s : Mt) (x : Gt) (t : Int) : Mt := if gTh t then s.note 2 0 3 (x.o == 0) else s
def takeR (x : Gt) (t : Int) : Int := if gTh t && (x.o == 0) then x.n + 1 else 0
def takeE (x : Gt) (t : Int) : Int := if gTh t then (if (x.o == 0) then 0 else 5) else 1
def giveX (x : Gt) (t : Int) : Gt := if gTh t && (x.o == t) then ⟨x.n + 1, 0⟩ else x
def giveS (s : Mt) (x : Gt) (t : Int) : Mt := if gTh t then s.note 2 0 3 (x.o == t) else s
def giveE (x : Gt) (t : Int) : Int := if gTh t then (if (x.o == t) then 0 else 4) else 1
theorem takeS_within {s : Mt} {n : Nat} (h : s.within n) (x : Gt) (t : Int) : (takeS s x t).within (n + 1) := by
  unfold takeS; split
  · exact h.note _ _ _ _
  · exact h.more (Nat.le_succ _)
theorem giveS_within {s : Mt} {n : Nat} (h : s.within n) (x : Gt) (t : Int) : (giveS s x t).within (n + 1) := by
  unfold giveS; split
  · exact h.note _ _ _ _
  · exact h.more (Nat.le_succ _)
theorem takeX_near (x : Gt) (t : Int) : x.n ≤ (takeX x t).n ∧ (takeX x t).n ≤ x.n + 1 := by
  unfold takeX; split
  · exact ⟨by show x.n ≤ x.n + 1; omega, Int.le_refl _⟩
  · exact ⟨Int.le_refl _, by omega⟩
theorem giveX_near (x : Gt) (t : Int) : x.n ≤ (giveX x t).n ∧ (giveX x t).n ≤ x.n + 1 := by
  unfold giveX; split
  · exact ⟨by show x.n ≤ x.n + 1; omega, Int.le_refl _⟩
  · exact ⟨Int.le_refl _, by omega⟩

theorem gtField_n (n o : Int) (w : World) : (Instr.field 88 (.agg #[.int .i64 n, .int .i64 o]) 0).run Tryz.prog w = .ok (.int .i64 n) w := by kernel_rfl

theorem gkeep_all {o w : World} {its : List It} {i b : Nat} {A B : It} (h : St o its w) (hi : its[i]? = some A) (hb : its[b]? = some B) : St o ((its.set i A).set b B) w := by
  rw [set_back hi, set_back hb]; exact h

set_option maxRecDepth 100000 in
set_option maxHeartbeats 1000000 in
theorem gateTake_st {o w : World} {its : List It} (h : St o its w) (i a b : Nat) {g r c : Nat} {mo : Option Nat} {s : Mt} {v : Value} {x : Gt} (hi : its[i]? = some (meterI 109 mo s v)) (ha : its[a]? = some (gateI g r)) (hb : its[b]? = some (gtRowI r c mo 2 [x])) (hib : i ≠ b)
    {n : Nat} (hw : s.within n) (hn : n ≤ 4611686018427) (hx0 : 0 ≤ x.n) (hx1 : x.n ≤ 4611686018427387904) (t : Int) :
    Calls Tryz.prog 44 #[.pointer (some ⟨g, 0, none⟩), .int .i64 t] w fun e w' => e = .returned (.tuple #[.int .i64 (takeR x t), .int .i64 (takeE x t)]) ∧ ∃ v', St o ((its.set i (meterI 109 mo (takeS s x t) v')).set b (gtRowI r c mo 2 [takeX x t])) w' := by
  unfold takeR takeE takeS takeX
  cases ht : gTh t
  · simp only [Bool.false_and, Bool.false_eq_true, if_false]
    have hS : Hid (St o ((its.set i (meterI 109 mo s v)).set b (gtRowI r c mo 2 [x])) w) := gkeep_all h hi hb
    have hth : Calls Tryz.prog 87 #[.int .i64 t] w fun e w' => e = .returned (.bool false) ∧ w' = w := ht ▸ gThread_any t w
    clear h
    go_enter Tryz.func44, Tryz.ntmps44
    go_wp2_with (go_at_call 87; refine hth.mono ?_; rintro e w' ⟨rfl, rfl⟩)
    go_ret2
    exact ⟨rfl, v, hS.out⟩
  · simp only [Bool.true_and, if_true]
    have hth : Calls Tryz.prog 87 #[.int .i64 t] w fun e w' => e = .returned (.bool true) ∧ w' = w := ht ▸ gThread_any t w
    have hnow := gateNow_st h a b ha hb
    obtain ⟨xn, xo⟩ := x
    simp only [Gt.val] at *
    have hsw : Gt.eq ⟨xn, xo⟩ ⟨xn, 0⟩ = (xo == 0) := by simp [Gt.eq]
    have htr : ∀ w1, St o its w1 → Calls Tryz.prog 89 #[.pointer (some ⟨g, 0, none⟩), .agg #[.int .i64 xn, .int .i64 0], .agg #[.int .i64 (xn + 1), .int .i64 t]] (w1.alloc (.cells #[.int .i64 (xn + 1), .int .i64 t] 88)) fun e w' => e = .returned (.bool (xo == 0)) ∧
        ∃ v', St o (boxI w1.heap.size #[.int .i64 (xn + 1), .int .i64 t] 88 :: ((its.set i (meterI 109 mo (s.note 2 0 3 (xo == 0)) v')).set b (gtRowI r c mo 2 [if (xo == 0) then ⟨xn + 1, t⟩ else ⟨xn, xo⟩]))) w' := by
      intro w1 hS
      refine (gateTrade_st (hS.box #[.int .i64 (xn + 1), .int .i64 t] 88) (i + 1) (a + 1) (b + 1) hi ha hb (by omega) hw hn ⟨xn, 0⟩ ⟨xn + 1, t⟩).mono ?_
      rintro e w' ⟨h1, v', h2⟩
      simp only [swapped, hsw] at h1 h2
      exact ⟨h1, v', h2⟩
    have hfd := gtField_n xn xo
    clear h hsw
    generalize (xo == 0) = ok at *
    cases ok <;> simp only [Bool.false_eq_true, if_false, if_true] at htr ⊢
    all_goals
      go_enter Tryz.func44, Tryz.ntmps44
      go_wp2_with (go_at_call 87; refine hth.mono ?_; rintro e w' ⟨rfl, rfl⟩)
      refine hnow.mono ?_
      rintro e w1 ⟨rfl, hS1⟩
      have hT := htr w1 hS1
      clear htr hnow hth hS1
      go_wp2_with fail
      generalize w1.alloc (.cells #[.int .i64 (xn + 1), .int .i64 t] 88) = w2 at *
      generalize w1.heap.size = H at *
      refine hT.mono ?_
      rintro e w3 ⟨rfl, v', hS3⟩
      have d0 : w3.cell? ⟨H, 0, none⟩ = some (.int .i64 (xn + 1)) := hS3.cell 0 rfl 0
      have HS : Hid _ := hS3.pop
      clear hT hS3
      go_wp2
      go_ret2
      exact ⟨rfl, v', HS.out⟩

set_option maxRecDepth 100000 in
set_option maxHeartbeats 1000000 in
theorem gateGive_st {o w : World} {its : List It} (h : St o its w) (i a b : Nat) {g r c : Nat} {mo : Option Nat} {s : Mt} {v : Value} {x : Gt} (hi : its[i]? = some (meterI 109 mo s v)) (ha : its[a]? = some (gateI g r)) (hb : its[b]? = some (gtRowI r c mo 2 [x])) (hib : i ≠ b)
    {n : Nat} (hw : s.within n) (hn : n ≤ 4611686018427) (hx0 : 0 ≤ x.n) (hx1 : x.n ≤ 4611686018427387904) (t : Int) :
    Calls Tryz.prog 46 #[.pointer (some ⟨g, 0, none⟩), .int .i64 t] w fun e w' => e = .returned (.int .i64 (giveE x t)) ∧ ∃ v', St o ((its.set i (meterI 109 mo (giveS s x t) v')).set b (gtRowI r c mo 2 [giveX x t])) w' := by
  unfold giveE giveS giveX
  cases ht : gTh t
  · simp only [Bool.false_and, Bool.false_eq_true, if_false]
    have hS : Hid (St o ((its.set i (meterI 109 mo s v)).set b (gtRowI r c mo 2 [x])) w) := gkeep_all h hi hb
    have hth : Calls Tryz.prog 87 #[.int .i64 t] w fun e w' => e = .returned (.bool false) ∧ w' = w := ht ▸ gThread_any t w
    clear h
    go_enter Tryz.func46, Tryz.ntmps46
    go_wp2_with (go_at_call 87; refine hth.mono ?_; rintro e w' ⟨rfl, rfl⟩)
    go_ret
    exact ⟨rfl, v, hS.out⟩
  · simp only [Bool.true_and, if_true]
    have hth : Calls Tryz.prog 87 #[.int .i64 t] w fun e w' => e = .returned (.bool true) ∧ w' = w := ht ▸ gThread_any t w
    have hnow := gateNow_st h a b ha hb
    obtain ⟨xn, xo⟩ := x
    simp only [Gt.val] at *
    have hsw : Gt.eq ⟨xn, xo⟩ ⟨xn, t⟩ = (xo == t) := by simp [Gt.eq]
    have htr : ∀ w1, St o its w1 → Calls Tryz.prog 89 #[.pointer (some ⟨g, 0, none⟩), .agg #[.int .i64 xn, .int .i64 t], .agg #[.int .i64 (xn + 1), .int .i64 0]] w1 fun e w' => e = .returned (.bool (xo == t)) ∧
        ∃ v', St o ((its.set i (meterI 109 mo (s.note 2 0 3 (xo == t)) v')).set b (gtRowI r c mo 2 [if (xo == t) then ⟨xn + 1, 0⟩ else ⟨xn, xo⟩])) w' := by
      intro w1 hS
      refine (gateTrade_st hS i a b hi ha hb hib hw hn ⟨xn, t⟩ ⟨xn + 1, 0⟩).mono ?_
      rintro e w' ⟨h1, v', h2⟩
      simp only [swapped, hsw] at h1 h2
      exact ⟨h1, v', h2⟩
    have hfd := gtField_n xn xo
    clear h hsw
    generalize (xo == t) = ok at *
    cases ok <;> simp only [Bool.false_eq_true, if_false, if_true] at htr ⊢
    all_goals
      go_enter Tryz.func46, Tryz.ntmps46
      go_wp2_with (go_at_call 87; refine hth.mono ?_; rintro e w' ⟨rfl, rfl⟩)
      refine hnow.mono ?_
      rintro e w1 ⟨rfl, hS1⟩
      have hT := htr w1 hS1
      clear htr hnow hth hS1
      go_wp2_with fail
      refine hT.mono ?_
      rintro e w3 ⟨rfl, v', hS3⟩
      have HS : Hid _ := hS3
      clear hT hS3
      go_wp2
      go_ret
      exact ⟨rfl, v', HS.out⟩
end Go.Proofs.YtajfjkhbimehbaaGreat
