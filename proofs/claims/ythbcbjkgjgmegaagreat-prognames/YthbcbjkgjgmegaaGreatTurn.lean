/- What the code's gate does: New, Now, Look, trade, Take, Give. Take and Give of the code's gate, in one sentence each. What a gate may be, and that Take and Give leave it so. -/
import Derived.Test.YthbcbjkgjgmegaaGreatGtAll
import Derived.Deep.RegionWith
namespace Go.Proofs.YthbcbjkgjgmegaaGreat
open Go.RowKit
set_option linter.unusedVariables false
set_option linter.unusedSimpArgs false
attribute [local go_sem ↓] Go.wp_at_zero Go.wp_at_succ

def gateI (g r : Nat) : It := boxI g #[.pointer (some ⟨r, 0, none⟩)] 191

set_option maxRecDepth 100000 in
theorem gateNew_st {o w : World} {its : List It} (h : St o its w) (mo : Option Nat) :
    Calls Tryz.prog 36 #[mptr mo] w fun e w' => e = .returned (.pointer (some ⟨w.heap.size + 1 + 1, 0, none⟩)) ∧ St o (gateI (w.heap.size + 1 + 1) (w.heap.size + 1) :: gtRowI (w.heap.size + 1) w.heap.size mo 2 [Gt.zero] :: its) w' ∧ w'.heap.size = w.heap.size + 3 := by
  have hnew := gtNew_st h mo 2 1 (by omega) (by omega)
  simp only [List.replicate] at hnew
  clear h
  simp only [mptr] at *
  generalize maddr mo = mp at *
  go_enter Tryz.func36, Tryz.ntmps36
  go_wp2_with fail
  refine hnew.mono ?_
  rintro e w1 ⟨rfl, hS1, hz⟩
  have hS2 := hS1.box #[.pointer (some ⟨w.heap.size + 1, 0, none⟩)] 191
  have HZ : Hid (w1.heap.size = w.heap.size + 2) := hz
  have HS : Hid (St o (gateI w1.heap.size (w.heap.size + 1) :: gtRowI (w.heap.size + 1) w.heap.size mo 2 [Gt.zero] :: its) (w1.alloc (.cells #[.pointer (some ⟨w.heap.size + 1, 0, none⟩)] 191))) := hS2
  clear hnew hS1 hz hS2
  go_wp2
  go_ret
  refine ⟨by rw [HZ.out]; rfl, ?_, by simp [HZ.out]⟩
  have := HS.out
  rw [HZ.out] at this
  exact this

set_option maxRecDepth 100000 in
set_option maxHeartbeats 1000000 in
theorem gateNow_st {o w : World} {its : List It} (h : St o its w) (a b : Nat) {g r c : Nat} {mo : Option Nat} {x : Gt} (ha : its[a]? = some (gateI g r)) (hb : its[b]? = some (gtRowI r c mo 2 [x])) :
    Calls Tryz.prog 78 #[.pointer (some ⟨g, 0, none⟩)] w fun e w' => e = .returned x.val ∧ St o its w' := by
  obtain ⟨xn, xo⟩ := x
  simp only [Gt.val]
  go_enter Tryz.func78, Tryz.ntmps78
  have hS0 := h.box #[.int .i64 0, .int .i64 0] 70
  have hc : (w.alloc (.cells #[.int .i64 0, .int .i64 0] 70)).cell? ⟨g, 0, none⟩ = some (.pointer (some ⟨r, 0, none⟩)) := hS0.cell (a + 1) ha 0
  have hcall := gtAll_st hS0 (b + 1) hb
  go_wp2_with fail
  generalize w.alloc (.cells #[.int .i64 0, .int .i64 0] 70) = W0 at *
  generalize w.heap.size = B at *
  refine hcall.mono ?_
  rintro e w1 ⟨v', rfl, hS1⟩
  have hown : w1.ownsRow 0 70 2 v' 1 [.int .i64 xn, .int .i64 xo] := hS1.get 0 rfl
  obtain ⟨q, cap, rfl, _, _⟩ := hown.form (by simp)
  have d0 : w1.cell? ⟨q, 0, none⟩ = some (.int .i64 xn) := hown.cellAt 0 (by simp)
  have d1 : w1.cell? ⟨q, 1, none⟩ = some (.int .i64 xo) := hown.cellAt 1 (by simp)
  have b0 : w1.cell? ⟨B, 0, none⟩ = some (.int .i64 0) := hS1.cell 1 rfl 0
  have b1 : w1.cell? ⟨B, 1, none⟩ = some (.int .i64 0) := hS1.cell 1 rfl 1
  have f0 : w1.frozen? ⟨B, 0, none⟩ = false := hS1.frozen 1 rfl 0
  have f1 : w1.frozen? ⟨B, 1, none⟩ = false := hS1.frozen 1 rfl 1
  have ne : ¬ q = B := hS1.ne 0 1 rfl rfl (by omega) (by simp [ownI, Value.ownBlock]) (by simp [boxI])
  have HS : Hid (∀ u0 u1 : Value, St o its ((w1.setCell ⟨B, 0, none⟩ u0).setCell ⟨B, 1, none⟩ u1)) := fun u0 u1 => ((hS1.write 1 rfl 0 u0).write 1 rfl 1 u1).pop.pop
  clear hown hS1 hcall hS0 h hc
  go_wp2
  exact bodyPost_ret (v := .agg #[.int .i64 xn, .int .i64 xo]) (by simp [results, Tryz.results78, go_sem, b0, b1]) rfl ⟨rfl, HS.out _ _⟩

set_option maxRecDepth 100000 in
set_option maxHeartbeats 1000000 in
theorem gateLook_st {o w : World} {its : List It} (h : St o its w) (i a b : Nat) {g r c : Nat} {mo : Option Nat} {s : Mt} {v : Value} {x : Gt} (hi : its[i]? = some (meterI 174 mo s v)) (ha : its[a]? = some (gateI g r)) (hb : its[b]? = some (gtRowI r c mo 2 [x])) (hib : i ≠ b)
    {n : Nat} (hw : s.within n) (hn : n ≤ 4611686018427) :
    Calls Tryz.prog 301 #[.pointer (some ⟨g, 0, none⟩)] w fun e w' => e = .returned x.val ∧ ∃ v', St o (its.set i (meterI 174 mo (s.note 2 0 1 true) v')) w' := by
  have hS0 := h.box #[.int .i64 0, .int .i64 0] 70
  have hc : (w.alloc (.cells #[.int .i64 0, .int .i64 0] 70)).cell? ⟨g, 0, none⟩ = some (.pointer (some ⟨r, 0, none⟩)) := hS0.cell (a + 1) ha 0
  have hcall := gtLoad_st hS0 (i + 1) (b + 1) hi hb (by omega) hw hn 0 (by simp)
  simp only [List.getElem_cons_zero, Int.natCast_zero, List.set_cons_succ] at hcall
  obtain ⟨xn, xo⟩ := x
  simp only [Gt.val] at *
  go_enter Tryz.func301, Tryz.ntmps301
  go_wp2_with fail
  generalize w.alloc (.cells #[.int .i64 0, .int .i64 0] 70) = W0 at *
  generalize w.heap.size = B at *
  refine hcall.mono ?_
  rintro e w1 ⟨rfl, v', hS1⟩
  have hlt : B < w1.heap.size := (boxI B #[.int .i64 0, .int .i64 0] 70).old w1 (hS1.get 0 rfl) B (by simp [boxI])
  have hne : ¬ B = w1.heap.size := by omega
  have hne' : ¬ w1.heap.size = B := by omega
  have b0 : w1.cell? ⟨B, 0, none⟩ = some (.int .i64 0) := hS1.cell 0 rfl 0
  have b1 : w1.cell? ⟨B, 1, none⟩ = some (.int .i64 0) := hS1.cell 0 rfl 1
  have f0 : w1.frozen? ⟨B, 0, none⟩ = false := hS1.frozen 0 rfl 0
  have f1 : w1.frozen? ⟨B, 1, none⟩ = false := hS1.frozen 0 rfl 1
  have hS2 := ((hS1.write 0 rfl 0 (.int .i64 xn)).write 0 rfl 1 (.int .i64 xo)).alloc (.cells #[.int .i64 xn, .int .i64 xo] 70)
  have r0 : Hid ((((w1.setCell ⟨B, 0, none⟩ (.int .i64 xn)).setCell ⟨B, 1, none⟩ (.int .i64 xo)).alloc (.cells #[.int .i64 xn, .int .i64 xo] 70)).cell? ⟨B, 0, none⟩ = some (.int .i64 xn)) := hS2.cell 0 rfl 0
  have r1 : Hid ((((w1.setCell ⟨B, 0, none⟩ (.int .i64 xn)).setCell ⟨B, 1, none⟩ (.int .i64 xo)).alloc (.cells #[.int .i64 xn, .int .i64 xo] 70)).cell? ⟨B, 1, none⟩ = some (.int .i64 xo)) := hS2.cell 0 rfl 1
  have HS : Hid (St o (its.set i (meterI 174 mo (s.note 2 0 1 true) v')) (((w1.setCell ⟨B, 0, none⟩ (.int .i64 xn)).setCell ⟨B, 1, none⟩ (.int .i64 xo)).alloc (.cells #[.int .i64 xn, .int .i64 xo] 70))) := hS2.pop
  clear hcall hS0 h hc hS1 hS2
  go_wp2
  exact bodyPost_ret (v := .agg #[.int .i64 xn, .int .i64 xo]) (by simp [results, Tryz.results301, go_sem, r0.out, r1.out]) rfl ⟨rfl, v', HS.out⟩

/-- A trade of the gate's one cell. -/
def swapped (x a b : Gt) : Gt := if x.eq a then b else x
theorem gtTrade_one {o w : World} {its : List It} (h : St o its w) (i j : Nat) {r c : Nat} {mo : Option Nat} {s : Mt} {v : Value} {kind : Int} {x : Gt} (hi : its[i]? = some (meterI 174 mo s v)) (hj : its[j]? = some (gtRowI r c mo kind [x])) (hij : i ≠ j)
    {n : Nat} (hw : s.within n) (hn : n ≤ 4611686018427) (a b : Gt) :
    Calls Tryz.prog 386 #[.pointer (some ⟨r, 0, none⟩), .int .i64 0, a.val, b.val] w fun e w' => e = .returned (.tuple #[x.val, .bool (x.eq a), .int .i64 0]) ∧ ∃ v', St o ((its.set i (meterI 174 mo (s.note kind 0 3 (x.eq a)) v')).set j (gtRowI r c mo kind [swapped x a b])) w' := by
  unfold swapped
  cases he : x.eq a
  · refine (gtTrade_miss h i j hi hj hij hw hn 0 (by simp) a b he).mono ?_
    rintro e w' ⟨h1, v', h2⟩
    refine ⟨h1, v', ?_⟩
    simp only [Bool.false_eq_true, if_false]
    rw [set_back (set_other hj hij)]
    exact h2
  · refine (gtTrade_hit h i j hi hj hij hw hn 0 (by simp) a b he).mono ?_
    rintro e w' ⟨h1, v', h2⟩
    exact ⟨h1, v', h2⟩

set_option maxRecDepth 100000 in
set_option maxHeartbeats 1000000 in
theorem gateTrade_st {o w : World} {its : List It} (h : St o its w) (i a b : Nat) {g r c : Nat} {mo : Option Nat} {s : Mt} {v : Value} {x : Gt} (hi : its[i]? = some (meterI 174 mo s v)) (ha : its[a]? = some (gateI g r)) (hb : its[b]? = some (gtRowI r c mo 2 [x])) (hib : i ≠ b)
    {n : Nat} (hw : s.within n) (hn : n ≤ 4611686018427) (y z : Gt) :
    Calls Tryz.prog 385 #[.pointer (some ⟨g, 0, none⟩), y.val, z.val] w fun e w' => e = .returned (.bool (x.eq y)) ∧ ∃ v', St o ((its.set i (meterI 174 mo (s.note 2 0 3 (x.eq y)) v')).set b (gtRowI r c mo 2 [swapped x y z])) w' := by
  generalize hxy : x.eq y = ok
  have hS0 := (h.box #[.int .i64 y.n, .int .i64 y.o] 70).box #[.int .i64 z.n, .int .i64 z.o] 70
  simp only [alloc_size] at hS0
  generalize hW : (w.alloc (.cells #[.int .i64 y.n, .int .i64 y.o] 70)).alloc (.cells #[.int .i64 z.n, .int .i64 z.o] 70) = W0 at hS0
  have hC : Calls Tryz.prog 386 #[.pointer (some ⟨r, 0, none⟩), .int .i64 0, y.val, z.val] W0.drew fun e w' => e = .returned (.tuple #[x.val, .bool ok, .int .i64 0]) ∧ ∃ v', St o ((its.set i (meterI 174 mo (s.note 2 0 3 ok) v')).set b (gtRowI r c mo 2 [swapped x y z])) w' := by
    refine (gtTrade_one hS0.drew (i + 2) (b + 2) hi hb (by omega) hw hn y z).mono ?_
    rintro e w' ⟨h1, v', h2⟩
    rw [hxy] at h1 h2
    exact ⟨h1, v', h2.pop.pop⟩
  have hD : Calls Tryz.prog 386 #[.pointer (some ⟨r, 0, none⟩), .int .i64 0, y.val, z.val] (W0.alloc (.cells #[.int .i64 0, .int .i64 0] 70)).drew fun e w' => e = .returned (.tuple #[x.val, .bool ok, .int .i64 0]) ∧ ∃ v', w'.cell? ⟨W0.heap.size, 0, none⟩ = some (.int .i64 0) ∧ w'.cell? ⟨W0.heap.size, 1, none⟩ = some (.int .i64 0) ∧ w'.frozen? ⟨W0.heap.size, 0, none⟩ = false ∧ w'.frozen? ⟨W0.heap.size, 1, none⟩ = false ∧
      Hid (∀ u0 u1 : Value, St o ((its.set i (meterI 174 mo (s.note 2 0 3 ok) v')).set b (gtRowI r c mo 2 [swapped x y z])) ((w'.setCell ⟨W0.heap.size, 0, none⟩ u0).setCell ⟨W0.heap.size, 1, none⟩ u1)) := by
    refine (gtTrade_one (hS0.box #[.int .i64 0, .int .i64 0] 70).drew (i + 3) (b + 3) hi hb (by omega) hw hn y z).mono ?_
    rintro e w' ⟨h1, v', h2⟩
    rw [hxy] at h1 h2
    exact ⟨h1, v', h2.cell 0 rfl 0, h2.cell 0 rfl 1, h2.frozen 0 rfl 0, h2.frozen 0 rfl 1, fun u0 u1 => ((h2.write 0 rfl 0 u0).write 0 rfl 1 u1).pop.pop.pop⟩
  obtain ⟨xn, xo⟩ := x
  obtain ⟨yn, yo⟩ := y
  obtain ⟨zn, zo⟩ := z
  simp only [Gt.val] at *
  clear hxy
  go_enter Tryz.func385, Tryz.ntmps385
  go_wp2_with fail
  try rw [hW]
  clear hW
  generalize w.heap.size + 1 = C at *
  generalize w.heap.size = B at *
  have c0 : W0.cell? ⟨g, 0, none⟩ = some (.pointer (some ⟨r, 0, none⟩)) := hS0.cell (a + 2) ha 0
  have y0 : W0.cell? ⟨B, 0, none⟩ = some (.int .i64 yn) := hS0.cell 1 rfl 0
  have y1 : W0.cell? ⟨B, 1, none⟩ = some (.int .i64 yo) := hS0.cell 1 rfl 1
  have z0 : W0.cell? ⟨C, 0, none⟩ = some (.int .i64 zn) := hS0.cell 0 rfl 0
  have z1 : W0.cell? ⟨C, 1, none⟩ = some (.int .i64 zo) := hS0.cell 0 rfl 1
  have l1 : B < W0.heap.size := (boxI B #[.int .i64 yn, .int .i64 yo] 70).old W0 (hS0.get 1 rfl) B (by simp [boxI])
  have l2 : C < W0.heap.size := (boxI C #[.int .i64 zn, .int .i64 zo] 70).old W0 (hS0.get 0 rfl) C (by simp [boxI])
  have l3 : g < W0.heap.size := (gateI g r).old W0 (hS0.get (a + 2) ha) g (by simp [gateI, boxI])
  have n1 : ¬ B = W0.heap.size := by omega
  have n2 : ¬ C = W0.heap.size := by omega
  have n3 : ¬ g = W0.heap.size := by omega
  clear hS0 h
  go_region_with (first | (go_at_call 386; refine hC.mono ?_; rintro e w2 ⟨rfl, v', hS⟩; have HS : Hid _ := hS; clear hS) | (go_at_call 386; refine hD.mono ?_; rintro e w2 ⟨rfl, v', k0, k1, k2, k3, HS⟩))
  all_goals
    go_wp2
    go_ret
    first | exact ⟨rfl, v', HS.out.alloc _⟩ | exact ⟨rfl, v', HS.out _ _⟩

/-- Is it a thread's number? -/
def gTh (t : Int) : Bool := decide (1 ≤ t) && decide (t ≤ 8)
set_option maxRecDepth 100000 in
theorem gThread_any (t : Int) (w : World) : Calls Tryz.prog 384 #[.int .i64 t] w fun e w' => e = .returned (.bool (gTh t)) ∧ w' = w := by
  unfold gTh
  cases h1 : decide ((1 : Int) ≤ t) <;> cases h2 : decide (t ≤ (8 : Int))
  all_goals
    go_enter Tryz.func384, Tryz.ntmps384
    go_wp2
    go_ret
    first | exact ⟨rfl, rfl⟩ | simp_all
end Go.Proofs.YthbcbjkgjgmegaaGreat

namespace Go.Proofs.YthbcbjkgjgmegaaGreat
open Go.RowKit
set_option linter.unusedVariables false
set_option linter.unusedSimpArgs false
attribute [local go_sem ↓] Go.wp_at_zero Go.wp_at_succ

def takeX (x : Gt) (t : Int) : Gt := if gTh t && (x.o == 0) then ⟨x.n + 1, t⟩ else x
def takeS (s : Mt) (x : Gt) (t : Int) : Mt := if gTh t then s.note 2 0 3 (x.o == 0) else s
def takeR (x : Gt) (t : Int) : Int := if gTh t && (x.o == 0) then x.n + 1 else 0
def takeE (x : Gt) (t : Int) : Int := if gTh t then (if (x.o == 0) then 0 else 5) else 1
def giveX (x : Gt) (t : Int) : Gt := if gTh t && (x.o == t) then ⟨x.n + 1, 0⟩ else x
def giveS (s : Mt) (x : Gt) (t : Int) : Mt := if gTh t then s.note 2 0 3 (x.o == t) else s
def giveE (x : Gt) (t : Int) : Int := if gTh t then (if (x.o == t) then 0 else 4) else 1
theorem takeS_within {s : Mt} {n : Nat} (h : s.within n) (x : Gt) (t : Int) : (takeS s x t).within (n + 1) := by
  unfold takeS; split
  · exact h.note _ _ _ _
  · exact h.more (Nat.le_succ _)
theorem giveS_within {s : Mt} {n : Nat} (h : s.within n) (x : Gt) (t : Int) : (giveS s x t).within (n + 1) := by
  unfold giveS; split
  · exact h.note _ _ _ _
  · exact h.more (Nat.le_succ _)
theorem takeX_near (x : Gt) (t : Int) : x.n ≤ (takeX x t).n ∧ (takeX x t).n ≤ x.n + 1 := by
  unfold takeX; split
  · exact ⟨by show x.n ≤ x.n + 1; omega, Int.le_refl _⟩
  · exact ⟨Int.le_refl _, by omega⟩
theorem giveX_near (x : Gt) (t : Int) : x.n ≤ (giveX x t).n ∧ (giveX x t).n ≤ x.n + 1 := by
  unfold giveX; split
  · exact ⟨by show x.n ≤ x.n + 1; omega, Int.le_refl _⟩
  · exact ⟨Int.le_refl _, by omega⟩

theorem gtField_n (n o : Int) (w : World) : (Instr.field 70 (.agg #[.int .i64 n, .int .i64 o]) 0).run Tryz.prog w = .ok (.int .i64 n) w := by kernel_rfl

theorem gkeep_all {o w : World} {its : List It} {i b : Nat} {A B : It} (h : St o its w) (hi : its[i]? = some A) (hb : its[b]? = some B) : St o ((its.set i A).set b B) w := by
  rw [set_back hi, set_back hb]; exact h

set_option maxRecDepth 100000 in
set_option maxHeartbeats 1000000 in
theorem gateTake_st {o w : World} {its : List It} (h : St o its w) (i a b : Nat) {g r c : Nat} {mo : Option Nat} {s : Mt} {v : Value} {x : Gt} (hi : its[i]? = some (meterI 174 mo s v)) (ha : its[a]? = some (gateI g r)) (hb : its[b]? = some (gtRowI r c mo 2 [x])) (hib : i ≠ b)
    {n : Nat} (hw : s.within n) (hn : n ≤ 4611686018427) (hx0 : 0 ≤ x.n) (hx1 : x.n ≤ 4611686018427387904) (t : Int) :
    Calls Tryz.prog 383 #[.pointer (some ⟨g, 0, none⟩), .int .i64 t] w fun e w' => e = .returned (.tuple #[.int .i64 (takeR x t), .int .i64 (takeE x t)]) ∧ ∃ v', St o ((its.set i (meterI 174 mo (takeS s x t) v')).set b (gtRowI r c mo 2 [takeX x t])) w' := by
  unfold takeR takeE takeS takeX
  cases ht : gTh t
  · simp only [Bool.false_and, Bool.false_eq_true, if_false]
    have hS : Hid (St o ((its.set i (meterI 174 mo s v)).set b (gtRowI r c mo 2 [x])) w) := gkeep_all h hi hb
    have hth : Calls Tryz.prog 384 #[.int .i64 t] w fun e w' => e = .returned (.bool false) ∧ w' = w := ht ▸ gThread_any t w
    clear h
    go_enter Tryz.func383, Tryz.ntmps383
    go_wp2_with (go_at_call 384; refine hth.mono ?_; rintro e w' ⟨rfl, rfl⟩)
    go_ret2
    exact ⟨rfl, v, hS.out⟩
  · simp only [Bool.true_and, if_true]
    have hth : Calls Tryz.prog 384 #[.int .i64 t] w fun e w' => e = .returned (.bool true) ∧ w' = w := ht ▸ gThread_any t w
    have hnow := gateNow_st h a b ha hb
    obtain ⟨xn, xo⟩ := x
    simp only [Gt.val] at *
    have hsw : Gt.eq ⟨xn, xo⟩ ⟨xn, 0⟩ = (xo == 0) := by simp [Gt.eq]
    have htr : ∀ w1, St o its w1 → Calls Tryz.prog 385 #[.pointer (some ⟨g, 0, none⟩), .agg #[.int .i64 xn, .int .i64 0], .agg #[.int .i64 (xn + 1), .int .i64 t]] (w1.alloc (.cells #[.int .i64 (xn + 1), .int .i64 t] 70)) fun e w' => e = .returned (.bool (xo == 0)) ∧
        ∃ v', St o (boxI w1.heap.size #[.int .i64 (xn + 1), .int .i64 t] 70 :: ((its.set i (meterI 174 mo (s.note 2 0 3 (xo == 0)) v')).set b (gtRowI r c mo 2 [if (xo == 0) then ⟨xn + 1, t⟩ else ⟨xn, xo⟩]))) w' := by
      intro w1 hS
      refine (gateTrade_st (hS.box #[.int .i64 (xn + 1), .int .i64 t] 70) (i + 1) (a + 1) (b + 1) hi ha hb (by omega) hw hn ⟨xn, 0⟩ ⟨xn + 1, t⟩).mono ?_
      rintro e w' ⟨h1, v', h2⟩
      simp only [swapped, hsw] at h1 h2
      exact ⟨h1, v', h2⟩
    have hfd := gtField_n xn xo
    clear h hsw
    generalize (xo == 0) = ok at *
    cases ok <;> simp only [Bool.false_eq_true, if_false, if_true] at htr ⊢
    all_goals
      go_enter Tryz.func383, Tryz.ntmps383
      go_wp2_with (go_at_call 384; refine hth.mono ?_; rintro e w' ⟨rfl, rfl⟩)
      refine hnow.mono ?_
      rintro e w1 ⟨rfl, hS1⟩
      have hT := htr w1 hS1
      clear htr hnow hth hS1
      go_wp2_with fail
      generalize w1.alloc (.cells #[.int .i64 (xn + 1), .int .i64 t] 70) = w2 at *
      generalize w1.heap.size = H at *
      refine hT.mono ?_
      rintro e w3 ⟨rfl, v', hS3⟩
      have d0 : w3.cell? ⟨H, 0, none⟩ = some (.int .i64 (xn + 1)) := hS3.cell 0 rfl 0
      have HS : Hid _ := hS3.pop
      clear hT hS3
      go_wp2
      go_ret2
      exact ⟨rfl, v', HS.out⟩

set_option maxRecDepth 100000 in
set_option maxHeartbeats 1000000 in
theorem gateGive_st {o w : World} {its : List It} (h : St o its w) (i a b : Nat) {g r c : Nat} {mo : Option Nat} {s : Mt} {v : Value} {x : Gt} (hi : its[i]? = some (meterI 174 mo s v)) (ha : its[a]? = some (gateI g r)) (hb : its[b]? = some (gtRowI r c mo 2 [x])) (hib : i ≠ b)
    {n : Nat} (hw : s.within n) (hn : n ≤ 4611686018427) (hx0 : 0 ≤ x.n) (hx1 : x.n ≤ 4611686018427387904) (t : Int) :
    Calls Tryz.prog 412 #[.pointer (some ⟨g, 0, none⟩), .int .i64 t] w fun e w' => e = .returned (.int .i64 (giveE x t)) ∧ ∃ v', St o ((its.set i (meterI 174 mo (giveS s x t) v')).set b (gtRowI r c mo 2 [giveX x t])) w' := by
  unfold giveE giveS giveX
  cases ht : gTh t
  · simp only [Bool.false_and, Bool.false_eq_true, if_false]
    have hS : Hid (St o ((its.set i (meterI 174 mo s v)).set b (gtRowI r c mo 2 [x])) w) := gkeep_all h hi hb
    have hth : Calls Tryz.prog 384 #[.int .i64 t] w fun e w' => e = .returned (.bool false) ∧ w' = w := ht ▸ gThread_any t w
    clear h
    go_enter Tryz.func412, Tryz.ntmps412
    go_wp2_with (go_at_call 384; refine hth.mono ?_; rintro e w' ⟨rfl, rfl⟩)
    go_ret
    exact ⟨rfl, v, hS.out⟩
  · simp only [Bool.true_and, if_true]
    have hth : Calls Tryz.prog 384 #[.int .i64 t] w fun e w' => e = .returned (.bool true) ∧ w' = w := ht ▸ gThread_any t w
    have hnow := gateNow_st h a b ha hb
    obtain ⟨xn, xo⟩ := x
    simp only [Gt.val] at *
    have hsw : Gt.eq ⟨xn, xo⟩ ⟨xn, t⟩ = (xo == t) := by simp [Gt.eq]
    have htr : ∀ w1, St o its w1 → Calls Tryz.prog 385 #[.pointer (some ⟨g, 0, none⟩), .agg #[.int .i64 xn, .int .i64 t], .agg #[.int .i64 (xn + 1), .int .i64 0]] w1 fun e w' => e = .returned (.bool (xo == t)) ∧
        ∃ v', St o ((its.set i (meterI 174 mo (s.note 2 0 3 (xo == t)) v')).set b (gtRowI r c mo 2 [if (xo == t) then ⟨xn + 1, 0⟩ else ⟨xn, xo⟩])) w' := by
      intro w1 hS
      refine (gateTrade_st hS i a b hi ha hb hib hw hn ⟨xn, t⟩ ⟨xn + 1, 0⟩).mono ?_
      rintro e w' ⟨h1, v', h2⟩
      simp only [swapped, hsw] at h1 h2
      exact ⟨h1, v', h2⟩
    have hfd := gtField_n xn xo
    clear h hsw
    generalize (xo == t) = ok at *
    cases ok <;> simp only [Bool.false_eq_true, if_false, if_true] at htr ⊢
    all_goals
      go_enter Tryz.func412, Tryz.ntmps412
      go_wp2_with (go_at_call 384; refine hth.mono ?_; rintro e w' ⟨rfl, rfl⟩)
      refine hnow.mono ?_
      rintro e w1 ⟨rfl, hS1⟩
      have hT := htr w1 hS1
      clear htr hnow hth hS1
      go_wp2_with fail
      refine hT.mono ?_
      rintro e w3 ⟨rfl, v', hS3⟩
      have HS : Hid _ := hS3
      clear hT hS3
      go_wp2
      go_ret
      exact ⟨rfl, v', HS.out⟩
end Go.Proofs.YthbcbjkgjgmegaaGreat

namespace Go.Proofs.YthbcbjkgjgmegaaGreat
open Go.RowKit
set_option linter.unusedVariables false
set_option linter.unusedSimpArgs false

/-- Where the number is even nobody holds it; where it is odd a thread does. -/
def GOk (n o : Int) : Prop := (o = 0 ∧ n % 2 = 0) ∨ (1 ≤ o ∧ o ≤ 8 ∧ n % 2 = 1)
theorem GOk.even {n : Int} (h : GOk n 0) : (n % 2 == 1) = false := by
  rcases h with ⟨_, h⟩ | ⟨h1, h2, h⟩
  · rw [h]; rfl
  · omega
theorem GOk.odd {n o : Int} (h : GOk n o) (h1 : 1 ≤ o) : (n % 2 == 1) = true := by
  rcases h with ⟨rfl, h⟩ | ⟨h1, h2, h⟩
  · omega
  · rw [h]; rfl
theorem GOk.give {xn xo : Int} (e : GOk xn xo) (t : Int) : GOk (giveX ⟨xn, xo⟩ t).n (giveX ⟨xn, xo⟩ t).o := by
  unfold giveX
  cases ht : gTh t
  · simpa using e
  · cases ho : (xo == t)
    · simpa using e
    · simp only [Bool.and_self, if_true]
      simp only [beq_iff_eq] at ho
      simp only [gTh, Bool.and_eq_true, decide_eq_true_eq] at ht
      rcases e with e | e
      · omega
      · exact .inl ⟨rfl, by omega⟩
theorem GOk.take {xn xo : Int} (e : GOk xn xo) (t : Int) : GOk (takeX ⟨xn, xo⟩ t).n (takeX ⟨xn, xo⟩ t).o := by
  unfold takeX
  cases ht : gTh t
  · simpa using e
  · cases ho : (xo == 0)
    · simpa using e
    · simp only [Bool.and_self, if_true]
      simp only [beq_iff_eq] at ho
      simp only [gTh, Bool.and_eq_true, decide_eq_true_eq] at ht
      rcases e with e | e
      · exact .inr ⟨ht.1, ht.2, by omega⟩
      · omega
end Go.Proofs.YthbcbjkgjgmegaaGreat
