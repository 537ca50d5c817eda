/- What the code's gate does: New, Now, Look, trade, Take, Give. -/
import Derived.Test.YtajfjkhbimehbaaGreatGtAll
import Derived.Deep.RegionWith
namespace Go.Proofs.YtajfjkhbimehbaaGreat
open Go.RowKit
set_option linter.unusedVariables false
set_option linter.unusedSimpArgs false
attribute [local go_sem ↓] Go.wp_at_zero Go.wp_at_succ

def gateI (g r : Nat) : It := boxI g #[.pointer (some ⟨r, 0, none⟩)] 142

set_option maxRecDepth 100000 in
theorem gateNew_st {o w : World} {its : List It} (h : St o its w) (mo : Option Nat) :
    Calls Tryz.prog 27 #[mptr mo] w fun e w' => e = .returned (.pointer (some ⟨w.heap.size + 1 + 1, 0, none⟩)) ∧ St o (gateI (w.heap.size + 1 + 1) (w.heap.size + 1) :: gtRowI (w.heap.size + 1) w.heap.size mo 2 [Gt.zero] :: its) w' ∧ w'.heap.size = w.heap.size + 3 := by
  have hnew := gtNew_st h mo 2 1 (by omega) (by omega)
  simp only [List.replicate] at hnew
  clear h
  simp only [mptr] at *
  generalize maddr mo = mp at *
  go_enter Tryz.func27, Tryz.ntmps27
  go_wp2_with fail
  refine hnew.mono ?_
  rintro e w1 ⟨rfl, hS1, hz⟩
  have hS2 := hS1.box #[.pointer (some ⟨w.heap.size + 1, 0, none⟩)] 142
  have HZ : Hid (w1.heap.size = w.heap.size + 2) := hz
  have HS : Hid (St o (gateI w1.heap.size (w.heap.size + 1) :: gtRowI (w.heap.size + 1) w.heap.size mo 2 [Gt.zero] :: its) (w1.alloc (.cells #[.pointer (some ⟨w.heap.size + 1, 0, none⟩)] 142))) := hS2
  clear hnew hS1 hz hS2
  go_wp2
  go_ret
  refine ⟨by rw [HZ.out]; rfl, ?_, by simp [HZ.out]⟩
  have := HS.out
  rw [HZ.out] at this
  exact this

set_option maxRecDepth 100000 in
set_option maxHeartbeats 1000000 in
theorem gateNow_st {o w : World} {its : List It} (h : St o its w) (a b : Nat) {g r c : Nat} {mo : Option Nat} {x : Gt} (ha : its[a]? = some (gateI g r)) (hb : its[b]? = some (gtRowI r c mo 2 [x])) :
    Calls Tryz.prog 88 #[.pointer (some ⟨g, 0, none⟩)] w fun e w' => e = .returned x.val ∧ St o its w' := by
  obtain ⟨xn, xo⟩ := x
  simp only [Gt.val]
  go_enter Tryz.func88, Tryz.ntmps88
  have hS0 := h.box #[.int .i64 0, .int .i64 0] 88
  have hc : (w.alloc (.cells #[.int .i64 0, .int .i64 0] 88)).cell? ⟨g, 0, none⟩ = some (.pointer (some ⟨r, 0, none⟩)) := hS0.cell (a + 1) ha 0
  have hcall := gtAll_st hS0 (b + 1) hb
  go_wp2_with fail
  generalize w.alloc (.cells #[.int .i64 0, .int .i64 0] 88) = W0 at *
  generalize w.heap.size = B at *
  refine hcall.mono ?_
  rintro e w1 ⟨v', rfl, hS1⟩
  have hown : w1.ownsRow 0 88 2 v' 1 [.int .i64 xn, .int .i64 xo] := hS1.get 0 rfl
  obtain ⟨q, cap, rfl, _, _⟩ := hown.form (by simp)
  have d0 : w1.cell? ⟨q, 0, none⟩ = some (.int .i64 xn) := hown.cellAt 0 (by simp)
  have d1 : w1.cell? ⟨q, 1, none⟩ = some (.int .i64 xo) := hown.cellAt 1 (by simp)
  have b0 : w1.cell? ⟨B, 0, none⟩ = some (.int .i64 0) := hS1.cell 1 rfl 0
  have b1 : w1.cell? ⟨B, 1, none⟩ = some (.int .i64 0) := hS1.cell 1 rfl 1
  have f0 : w1.frozen? ⟨B, 0, none⟩ = false := hS1.frozen 1 rfl 0
  have f1 : w1.frozen? ⟨B, 1, none⟩ = false := hS1.frozen 1 rfl 1
  have ne : ¬ q = B := hS1.ne 0 1 rfl rfl (by omega) (by simp [ownI, Value.ownBlock]) (by simp [boxI])
  have HS : Hid (∀ u0 u1 : Value, St o its ((w1.setCell ⟨B, 0, none⟩ u0).setCell ⟨B, 1, none⟩ u1)) := fun u0 u1 => ((hS1.write 1 rfl 0 u0).write 1 rfl 1 u1).pop.pop
  clear hown hS1 hcall hS0 h hc
  go_wp2
  exact bodyPost_ret (v := .agg #[.int .i64 xn, .int .i64 xo]) (by simp [results, Tryz.results88, go_sem, b0, b1]) rfl ⟨rfl, HS.out _ _⟩

set_option maxRecDepth 100000 in
set_option maxHeartbeats 1000000 in
theorem gateLook_st {o w : World} {its : List It} (h : St o its w) (i a b : Nat) {g r c : Nat} {mo : Option Nat} {s : Mt} {v : Value} {x : Gt} (hi : its[i]? = some (meterI 109 mo s v)) (ha : its[a]? = some (gateI g r)) (hb : its[b]? = some (gtRowI r c mo 2 [x])) (hib : i ≠ b)
    {n : Nat} (hw : s.within n) (hn : n ≤ 4611686018427) :
    Calls Tryz.prog 123 #[.pointer (some ⟨g, 0, none⟩)] w fun e w' => e = .returned x.val ∧ ∃ v', St o (its.set i (meterI 109 mo (s.note 2 0 1 true) v')) w' := by
  have hS0 := h.box #[.int .i64 0, .int .i64 0] 88
  have hc : (w.alloc (.cells #[.int .i64 0, .int .i64 0] 88)).cell? ⟨g, 0, none⟩ = some (.pointer (some ⟨r, 0, none⟩)) := hS0.cell (a + 1) ha 0
  have hcall := gtLoad_st hS0 (i + 1) (b + 1) hi hb (by omega) hw hn 0 (by simp)
  simp only [List.getElem_cons_zero, Int.natCast_zero, List.set_cons_succ] at hcall
  obtain ⟨xn, xo⟩ := x
  simp only [Gt.val] at *
  go_enter Tryz.func123, Tryz.ntmps123
  go_wp2_with fail
  generalize w.alloc (.cells #[.int .i64 0, .int .i64 0] 88) = W0 at *
  generalize w.heap.size = B at *
  refine hcall.mono ?_
  rintro e w1 ⟨rfl, v', hS1⟩
  have hlt : B < w1.heap.size := (boxI B #[.int .i64 0, .int .i64 0] 88).old w1 (hS1.get 0 rfl) B (by simp [boxI])
  have hne : ¬ B = w1.heap.size := by omega
  have hne' : ¬ w1.heap.size = B := by omega
  have b0 : w1.cell? ⟨B, 0, none⟩ = some (.int .i64 0) := hS1.cell 0 rfl 0
  have b1 : w1.cell? ⟨B, 1, none⟩ = some (.int .i64 0) := hS1.cell 0 rfl 1
  have f0 : w1.frozen? ⟨B, 0, none⟩ = false := hS1.frozen 0 rfl 0
  have f1 : w1.frozen? ⟨B, 1, none⟩ = false := hS1.frozen 0 rfl 1
  have hS2 := ((hS1.write 0 rfl 0 (.int .i64 xn)).write 0 rfl 1 (.int .i64 xo)).alloc (.cells #[.int .i64 xn, .int .i64 xo] 88)
  have r0 : Hid ((((w1.setCell ⟨B, 0, none⟩ (.int .i64 xn)).setCell ⟨B, 1, none⟩ (.int .i64 xo)).alloc (.cells #[.int .i64 xn, .int .i64 xo] 88)).cell? ⟨B, 0, none⟩ = some (.int .i64 xn)) := hS2.cell 0 rfl 0
  have r1 : Hid ((((w1.setCell ⟨B, 0, none⟩ (.int .i64 xn)).setCell ⟨B, 1, none⟩ (.int .i64 xo)).alloc (.cells #[.int .i64 xn, .int .i64 xo] 88)).cell? ⟨B, 1, none⟩ = some (.int .i64 xo)) := hS2.cell 0 rfl 1
  have HS : Hid (St o (its.set i (meterI 109 mo (s.note 2 0 1 true) v')) (((w1.setCell ⟨B, 0, none⟩ (.int .i64 xn)).setCell ⟨B, 1, none⟩ (.int .i64 xo)).alloc (.cells #[.int .i64 xn, .int .i64 xo] 88))) := hS2.pop
  clear hcall hS0 h hc hS1 hS2
  go_wp2
  exact bodyPost_ret (v := .agg #[.int .i64 xn, .int .i64 xo]) (by simp [results, Tryz.results123, go_sem, r0.out, r1.out]) rfl ⟨rfl, v', HS.out⟩

/-- A trade of the gate's one cell. -/
def swapped (x a b : Gt) : Gt := if x.eq a then b else x
theorem gtTrade_one {o w : World} {its : List It} (h : St o its w) (i j : Nat) {r c : Nat} {mo : Option Nat} {s : Mt} {v : Value} {kind : Int} {x : Gt} (hi : its[i]? = some (meterI 109 mo s v)) (hj : its[j]? = some (gtRowI r c mo kind [x])) (hij : i ≠ j)
    {n : Nat} (hw : s.within n) (hn : n ≤ 4611686018427) (a b : Gt) :
    Calls Tryz.prog 113 #[.pointer (some ⟨r, 0, none⟩), .int .i64 0, a.val, b.val] w fun e w' => e = .returned (.tuple #[x.val, .bool (x.eq a), .int .i64 0]) ∧ ∃ v', St o ((its.set i (meterI 109 mo (s.note kind 0 3 (x.eq a)) v')).set j (gtRowI r c mo kind [swapped x a b])) w' := by
  unfold swapped
  cases he : x.eq a
  · refine (gtTrade_miss h i j hi hj hij hw hn 0 (by simp) a b he).mono ?_
    rintro e w' ⟨h1, v', h2⟩
    refine ⟨h1, v', ?_⟩
    simp only [Bool.false_eq_true, if_false]
    rw [set_back (set_other hj hij)]
    exact h2
  · refine (gtTrade_hit h i j hi hj hij hw hn 0 (by simp) a b he).mono ?_
    rintro e w' ⟨h1, v', h2⟩
    exact ⟨h1, v', h2⟩

set_option maxRecDepth 100000 in
set_option maxHeartbeats 1000000 in
theorem gateTrade_st {o w : World} {its : List It} (h : St o its w) (i a b : Nat) {g r c : Nat} {mo : Option Nat} {s : Mt} {v : Value} {x : Gt} (hi : its[i]? = some (meterI 109 mo s v)) (ha : its[a]? = some (gateI g r)) (hb : its[b]? = some (gtRowI r c mo 2 [x])) (hib : i ≠ b)
    {n : Nat} (hw : s.within n) (hn : n ≤ 4611686018427) (y z : Gt) :
    Calls Tryz.prog 89 #[.pointer (some ⟨g, 0, none⟩), y.val, z.val] w fun e w' => e = .returned (.bool (x.eq y)) ∧ ∃ v', St o ((its.set i (meterI 109 mo (s.note 2 0 3 (x.eq y)) v')).set b (gtRowI r c mo 2 [swapped x y z])) w' := by
  generalize hxy : x.eq y = ok
  have hS0 := (h.box #[.int .i64 y.n, .int .i64 y.o] 88).box #[.int .i64 z.n, .int .i64 z.o] 88
  simp only [alloc_size] at hS0
  generalize hW : (w.alloc (.cells #[.int .i64 y.n, .int .i64 y.o] 88)).alloc (.cells #[.int .i64 z.n, .int .i64 z.o] 88) = W0 at hS0
  have hC : Calls Tryz.prog 113 #[.pointer (some ⟨r, 0, none⟩), .int .i64 0, y.val, z.val] W0.drew fun e w' => e = .returned (.tuple #[x.val, .bool ok, .int .i64 0]) ∧ ∃ v', St o ((its.set i (meterI 109 mo (s.note 2 0 3 ok) v')).set b (gtRowI r c mo 2 [swapped x y z])) w' := by
    refine (gtTrade_one hS0.drew (i + 2) (b + 2) hi hb (by omega) hw hn y z).mono ?_
    rintro e w' ⟨h1, v', h2⟩
    rw [hxy] at h1 h2
    exact ⟨h1, v', h2.pop.pop⟩
  have hD : Calls Tryz.prog 113 #[.pointer (some ⟨r, 0, none⟩), .int .i64 0, y.val, z.val] (W0.alloc (.cells #[.int .i64 0, .int .i64 0] 88)).drew fun e w' => e = .returned (.tuple #[x.val, .bool ok, .int .i64 0]) ∧ ∃ v', w'.cell? ⟨W0.heap.size, 0, none⟩ = some (.int .i64 0) ∧ w'.cell? ⟨W0.heap.size, 1, none⟩ = some (.int .i64 0) ∧ w'.frozen? ⟨W0.heap.size, 0, none⟩ = false ∧ w'.frozen? ⟨W0.heap.size, 1, none⟩ = false ∧
      Hid (∀ u0 u1 : Value, St o ((its.set i (meterI 109 mo (s.note 2 0 3 ok) v')).set b (gtRowI r c mo 2 [swapped x y z])) ((w'.setCell ⟨W0.heap.size, 0, none⟩ u0).setCell ⟨W0.heap.size, 1, none⟩ u1)) := by
    refine (gtTrade_one (hS0.box #[.int .i64 0, .int .i64 0] 88).drew (i + 3) (b + 3) hi hb (by omega) hw hn y z).mono ?_
    rintro e w' ⟨h1, v', h2⟩
    rw [hxy] at h1 h2
    exact ⟨h1, v', h2.cell 0 rfl 0, h2.cell 0 rfl 1, h2.frozen 0 rfl 0, h2.frozen 0 rfl 1, fun u0 u1 => ((h2.write 0 rfl 0 u0).write 0 rfl 1 u1).pop.pop.pop⟩
  obtain ⟨xn, xo⟩ := x
  obtain ⟨yn, yo⟩ := y
  obtain ⟨zn, zo⟩ := z
  simp only [Gt.val] at *
  clear hxy
  go_enter Tryz.func89, Tryz.ntmps89
  go_wp2_with fail
  try rw [hW]
  clear hW
  generalize w.heap.size + 1 = C at *
  generalize w.heap.size = B at *
  have c0 : W0.cell? ⟨g, 0, none⟩ = some (.pointer (some ⟨r, 0, none⟩)) := hS0.cell (a + 2) ha 0
  have y0 : W0.cell? ⟨B, 0, none⟩ = some (.int .i64 yn) := hS0.cell 1 rfl 0
  have y1 : W0.cell? ⟨B, 1, none⟩ = some (.int .i64 yo) := hS0.cell 1 rfl 1
  have z0 : W0.cell? ⟨C, 0, none⟩ = some (.int .i64 zn) := hS0.cell 0 rfl 0
  have z1 : W0.cell? ⟨C, 1, none⟩ = some (.int .i64 zo) := hS0.cell 0 rfl 1
  have l1 : B < W0.heap.size := (boxI B #[.int .i64 yn, .int .i64 yo] 88).old W0 (hS0.get 1 rfl) B (by simp [boxI])
  have l2 : C < W0.heap.size := (boxI C #[.int .i64 zn, .int .i64 zo] 88).old W0 (hS0.get 0 rfl) C (by simp [boxI])
  have l3 : g < W0.heap.size := (gateI g r).old W0 (hS0.get (a + 2) ha) g (by simp [gateI, boxI])
  have n1 : ¬ B = W0.heap.size := by omega
  have n2 : ¬ C = W0.heap.size := by omega
  have n3 : ¬ g = W0.heap.size := by omega
  clear hS0 h
  go_region_with (first | (go_at_call 113; refine hC.mono ?_; rintro e w2 ⟨rfl, v', hS⟩; have HS : Hid _ := hS; clear hS) | (go_at_call 113; refine hD.mono ?_; rintro e w2 ⟨rfl, v', k0, k1, k2, k3, HS⟩))
  all_goals
    go_wp2
    go_ret
    first | exact ⟨rfl, v', HS.out.alloc _⟩ | exact ⟨rfl, v', HS.out _ _⟩

/-- Is it a thread's number? -/
def gTh (t : Int) : Bool := decide (1 ≤ t) && decide (t ≤ 8)
set_option maxRecDepth 100000 in
theorem gThread_any (t : Int) (w : World) : Calls Tryz.prog 87 #[.int .i64 t] w fun e w' => e = .returned (.bool (gTh t)) ∧ w' = w := by
  unfold gTh
  cases h1 : decide ((1 : Int) ≤ t) <;> cases h2 : decide (t ≤ (8 : Int))
  all_goals
    go_enter Tryz.func87, Tryz.ntmps87
    go_wp2
    go_ret
    first | exact ⟨rfl, rfl⟩ | simp_all
end Go.Proofs.YtajfjkhbimehbaaGreat
