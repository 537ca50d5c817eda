/- The table's trade of a head, in one sentence; Word and Put. -/
import Derived.Test.YthbcbjkgjgmegaaGreatTab
import Derived.Test.YthbcbjkgjgmegaaGreatHdAll
import Derived.Deep.RegionWith
namespace Go.Proofs.YthbcbjkgjgmegaaGreat
open Go.RowKit
set_option linter.unusedVariables false
set_option linter.unusedSimpArgs false
attribute [local go_sem ↓] Go.wp_at_zero Go.wp_at_succ

def trDone (hs : List Hd) (k : Int) (x : Hd) : Bool := match headAt hs k with | none => false | some h => h.eq x
theorem hdTrade_any {o w : World} {its : List It} (h : St o its w) (i b : Nat) {r c : Nat} {mo : Option Nat} {s : Mt} {v : Value} {hs : List Hd} (hi : its[i]? = some (meterI 174 mo s v)) (hb : its[b]? = some (hdRowI r c mo 3 hs)) (hib : i ≠ b)
    {n : Nat} (hw : s.within n) (hn : n ≤ 4611686018427) (k : Int) (x y : Hd) (ref : Int) :
    Calls Tryz.prog 351 #[.pointer (some ⟨r, 0, none⟩), .int .i64 k, x.val, y.val] w fun e w' => e = .returned (.tuple #[(nowAt hs k).val, .bool (trDone hs k x), .int .i64 (lookE hs k)]) ∧
      ∃ v', St o ((its.set i (meterI 174 mo ((trOp x y ref).S s hs k) v')).set b (hdRowI r c mo 3 ((trOp x y ref).H hs k))) w' := by
  unfold trDone lookE nowAt HOp.S HOp.H
  simp only [trOp, if_true]
  rcases headAt_cases hs k with ⟨j, hj, rfl, he⟩ | ⟨hj, he⟩
  · simp only [he, Option.getD_some, Int.toNat_natCast]
    by_cases hx : hs[j].eq x = true
    · simp only [hx, if_true]
      exact hdTrade_hit h i b hi hb hib hw hn j hj x y hx
    · have hx' : hs[j].eq x = false := by simpa using hx
      simp only [hx', Bool.false_eq_true, if_false]
      refine (hdTrade_miss h i b hi hb hib hw hn j hj x y hx').mono ?_
      rintro e w' ⟨h1, v', h2⟩
      refine ⟨h1, v', ?_⟩
      rw [set_back (set_other hb hib)]
      exact h2
  · simp only [he, Option.getD_none]
    refine (hdTrade_out h b hb k hj x y).mono ?_
    rintro e w' ⟨h1, h2⟩
    refine ⟨h1, v, ?_⟩
    rw [set_back hi, set_back hb]
    exact h2

theorem trade_ways (hs : List Hd) (k : Int) (x y : Hd) (ref : Int) :
    (lookE hs k = 2 ∧ trDone hs k x = false ∧ (trOp x y ref).E hs k = 2) ∨ (lookE hs k = 0 ∧ trDone hs k x = true ∧ (trOp x y ref).E hs k = 0) ∨ (lookE hs k = 0 ∧ trDone hs k x = false ∧ (trOp x y ref).E hs k = ref) := by
  unfold lookE trDone HOp.E
  simp only [trOp, if_true]
  cases headAt hs k with
  | none => exact .inl ⟨rfl, rfl, rfl⟩
  | some h =>
    cases hx : h.eq x <;> simp [hx]

set_option maxRecDepth 100000 in
set_option maxHeartbeats 8000000 in
theorem tabTrade_st {o w : World} {its : List It} (h : St o its w) (i a b : Nat) {t r c q : Nat} {mo : Option Nat} {s : Mt} {v : Value} {hs : List Hd} (hi : its[i]? = some (meterI 174 mo s v)) (ha : its[a]? = some (tabI t r q)) (hb : its[b]? = some (hdRowI r c mo 3 hs)) (hib : i ≠ b)
    {n : Nat} (hw : s.within n) (hn : n ≤ 4611686018427) (k : Int) (y z : Hd) (ref : Int) :
    Calls Tryz.prog 350 #[.pointer (some ⟨t, 0, none⟩), .int .i64 k, y.val, z.val, .int .i64 ref] w fun e w' => e = .returned (.int .i64 ((trOp y z ref).E hs k)) ∧
      ∃ v', St o ((its.set i (meterI 174 mo ((trOp y z ref).S s hs k) v')).set b (hdRowI r c mo 3 ((trOp y z ref).H hs k))) w' := by
  have hS0 := (h.box #[.int .i64 y.gn, .int .i64 y.sa, .int .i64 y.sp, .int .i64 y.th, .bool y.dm, .int .i64 y.wy] 181).box #[.int .i64 z.gn, .int .i64 z.sa, .int .i64 z.sp, .int .i64 z.th, .bool z.dm, .int .i64 z.wy] 181
  simp only [alloc_size] at hS0
  generalize hW : (w.alloc (.cells #[.int .i64 y.gn, .int .i64 y.sa, .int .i64 y.sp, .int .i64 y.th, .bool y.dm, .int .i64 y.wy] 181)).alloc (.cells #[.int .i64 z.gn, .int .i64 z.sa, .int .i64 z.sp, .int .i64 z.th, .bool z.dm, .int .i64 z.wy] 181) = W0 at hS0
  have hC : Calls Tryz.prog 351 #[.pointer (some ⟨r, 0, none⟩), .int .i64 k, y.val, z.val] W0.drew fun e w' => e = .returned (.tuple #[(nowAt hs k).val, .bool (trDone hs k y), .int .i64 (lookE hs k)]) ∧
      ∃ v', St o ((its.set i (meterI 174 mo ((trOp y z ref).S s hs k) v')).set b (hdRowI r c mo 3 ((trOp y z ref).H hs k))) w' := by
    refine (hdTrade_any hS0.drew (i + 2) (b + 2) hi hb (by omega) hw hn k y z ref).mono ?_
    rintro e w' ⟨h1, v', h2⟩
    exact ⟨h1, v', h2.pop.pop⟩
  have hD : Calls Tryz.prog 351 #[.pointer (some ⟨r, 0, none⟩), .int .i64 k, y.val, z.val] (W0.alloc (.cells #[.int .i64 0, .int .i64 0, .int .i64 0, .int .i64 0, .bool false, .int .i64 0] 181)).drew fun e w' => e = .returned (.tuple #[(nowAt hs k).val, .bool (trDone hs k y), .int .i64 (lookE hs k)]) ∧
      ∃ v', w'.cell? ⟨W0.heap.size, 0, none⟩ = some (.int .i64 0) ∧ w'.cell? ⟨W0.heap.size, 1, none⟩ = some (.int .i64 0) ∧ w'.cell? ⟨W0.heap.size, 2, none⟩ = some (.int .i64 0) ∧ w'.cell? ⟨W0.heap.size, 3, none⟩ = some (.int .i64 0) ∧ w'.cell? ⟨W0.heap.size, 4, none⟩ = some (.bool false) ∧ w'.cell? ⟨W0.heap.size, 5, none⟩ = some (.int .i64 0) ∧ w'.frozen? ⟨W0.heap.size, 0, none⟩ = false ∧ w'.frozen? ⟨W0.heap.size, 1, none⟩ = false ∧ w'.frozen? ⟨W0.heap.size, 2, none⟩ = false ∧ w'.frozen? ⟨W0.heap.size, 3, none⟩ = false ∧ w'.frozen? ⟨W0.heap.size, 4, none⟩ = false ∧ w'.frozen? ⟨W0.heap.size, 5, none⟩ = false ∧
      Hid (∀ u0 u1 u2 u3 u4 u5 : Value, St o ((its.set i (meterI 174 mo ((trOp y z ref).S s hs k) v')).set b (hdRowI r c mo 3 ((trOp y z ref).H hs k))) ((((((w'.setCell ⟨W0.heap.size, 0, none⟩ u0).setCell ⟨W0.heap.size, 1, none⟩ u1).setCell ⟨W0.heap.size, 2, none⟩ u2).setCell ⟨W0.heap.size, 3, none⟩ u3).setCell ⟨W0.heap.size, 4, none⟩ u4).setCell ⟨W0.heap.size, 5, none⟩ u5)) := by
    refine (hdTrade_any (hS0.box #[.int .i64 0, .int .i64 0, .int .i64 0, .int .i64 0, .bool false, .int .i64 0] 181).drew (i + 3) (b + 3) hi hb (by omega) hw hn k y z ref).mono ?_
    rintro e w' ⟨h1, v', h2⟩
    exact ⟨h1, v', h2.cell 0 rfl 0, h2.cell 0 rfl 1, h2.cell 0 rfl 2, h2.cell 0 rfl 3, h2.cell 0 rfl 4, h2.cell 0 rfl 5, h2.frozen 0 rfl 0, h2.frozen 0 rfl 1, h2.frozen 0 rfl 2, h2.frozen 0 rfl 3, h2.frozen 0 rfl 4, h2.frozen 0 rfl 5, fun u0 u1 u2 u3 u4 u5 => ((((((h2.write 0 rfl 0 u0).write 0 rfl 1 u1).write 0 rfl 2 u2).write 0 rfl 3 u3).write 0 rfl 4 u4).write 0 rfl 5 u5).pop.pop.pop⟩
  have hways := trade_ways hs k y z ref
  generalize (trOp y z ref).S s hs k = s' at *
  generalize (trOp y z ref).H hs k = hs' at *
  generalize (trOp y z ref).E hs k = R at *
  generalize trDone hs k y = D at *
  generalize lookE hs k = E2 at *
  generalize nowAt hs k = x at *
  obtain ⟨xgn, xsa, xsp, xth, xdm, xwy⟩ := x
  obtain ⟨ygn, ysa, ysp, yth, ydm, ywy⟩ := y
  obtain ⟨zgn, zsa, zsp, zth, zdm, zwy⟩ := z
  simp only [Hd.val] at *
  go_enter Tryz.func350, Tryz.ntmps350
  go_wp2_with fail
  try rw [hW]
  clear hW
  generalize w.heap.size + 1 = C at *
  generalize w.heap.size = B at *
  have c0 : W0.cell? ⟨t, 0, none⟩ = some (.pointer (some ⟨r, 0, none⟩)) := hS0.cell (a + 2) ha 0
  have y0 : W0.cell? ⟨B, 0, none⟩ = some (.int .i64 ygn) := hS0.cell 1 rfl 0
  have y1 : W0.cell? ⟨B, 1, none⟩ = some (.int .i64 ysa) := hS0.cell 1 rfl 1
  have y2 : W0.cell? ⟨B, 2, none⟩ = some (.int .i64 ysp) := hS0.cell 1 rfl 2
  have y3 : W0.cell? ⟨B, 3, none⟩ = some (.int .i64 yth) := hS0.cell 1 rfl 3
  have y4 : W0.cell? ⟨B, 4, none⟩ = some (.bool ydm) := hS0.cell 1 rfl 4
  have y5 : W0.cell? ⟨B, 5, none⟩ = some (.int .i64 ywy) := hS0.cell 1 rfl 5
  have z0 : W0.cell? ⟨C, 0, none⟩ = some (.int .i64 zgn) := hS0.cell 0 rfl 0
  have z1 : W0.cell? ⟨C, 1, none⟩ = some (.int .i64 zsa) := hS0.cell 0 rfl 1
  have z2 : W0.cell? ⟨C, 2, none⟩ = some (.int .i64 zsp) := hS0.cell 0 rfl 2
  have z3 : W0.cell? ⟨C, 3, none⟩ = some (.int .i64 zth) := hS0.cell 0 rfl 3
  have z4 : W0.cell? ⟨C, 4, none⟩ = some (.bool zdm) := hS0.cell 0 rfl 4
  have z5 : W0.cell? ⟨C, 5, none⟩ = some (.int .i64 zwy) := hS0.cell 0 rfl 5
  have l1 : B < W0.heap.size := (boxI B #[.int .i64 ygn, .int .i64 ysa, .int .i64 ysp, .int .i64 yth, .bool ydm, .int .i64 ywy] 181).old W0 (hS0.get 1 rfl) B (by simp [boxI])
  have l2 : C < W0.heap.size := (boxI C #[.int .i64 zgn, .int .i64 zsa, .int .i64 zsp, .int .i64 zth, .bool zdm, .int .i64 zwy] 181).old W0 (hS0.get 0 rfl) C (by simp [boxI])
  have l3 : t < W0.heap.size := (tabI t r q).old W0 (hS0.get (a + 2) ha) t (by simp [tabI, boxI])
  have n1 : ¬ B = W0.heap.size := by omega
  have n2 : ¬ C = W0.heap.size := by omega
  have n3 : ¬ t = W0.heap.size := by omega
  have hS1 := hS0.box #[.int .i64 0, .int .i64 0, .int .i64 0, .int .i64 0, .bool false, .int .i64 0] 181
  have cc : (W0.alloc (.cells #[.int .i64 0, .int .i64 0, .int .i64 0, .int .i64 0, .bool false, .int .i64 0] 181)).cell? ⟨t, 0, none⟩ = some (.pointer (some ⟨r, 0, none⟩)) := hS1.cell (a + 3) ha 0
  have yy0 : (W0.alloc (.cells #[.int .i64 0, .int .i64 0, .int .i64 0, .int .i64 0, .bool false, .int .i64 0] 181)).cell? ⟨B, 0, none⟩ = some (.int .i64 ygn) := hS1.cell 2 rfl 0
  have yy1 : (W0.alloc (.cells #[.int .i64 0, .int .i64 0, .int .i64 0, .int .i64 0, .bool false, .int .i64 0] 181)).cell? ⟨B, 1, none⟩ = some (.int .i64 ysa) := hS1.cell 2 rfl 1
  have yy2 : (W0.alloc (.cells #[.int .i64 0, .int .i64 0, .int .i64 0, .int .i64 0, .bool false, .int .i64 0] 181)).cell? ⟨B, 2, none⟩ = some (.int .i64 ysp) := hS1.cell 2 rfl 2
  have yy3 : (W0.alloc (.cells #[.int .i64 0, .int .i64 0, .int .i64 0, .int .i64 0, .bool false, .int .i64 0] 181)).cell? ⟨B, 3, none⟩ = some (.int .i64 yth) := hS1.cell 2 rfl 3
  have yy4 : (W0.alloc (.cells #[.int .i64 0, .int .i64 0, .int .i64 0, .int .i64 0, .bool false, .int .i64 0] 181)).cell? ⟨B, 4, none⟩ = some (.bool ydm) := hS1.cell 2 rfl 4
  have yy5 : (W0.alloc (.cells #[.int .i64 0, .int .i64 0, .int .i64 0, .int .i64 0, .bool false, .int .i64 0] 181)).cell? ⟨B, 5, none⟩ = some (.int .i64 ywy) := hS1.cell 2 rfl 5
  have zz0 : (W0.alloc (.cells #[.int .i64 0, .int .i64 0, .int .i64 0, .int .i64 0, .bool false, .int .i64 0] 181)).cell? ⟨C, 0, none⟩ = some (.int .i64 zgn) := hS1.cell 1 rfl 0
  have zz1 : (W0.alloc (.cells #[.int .i64 0, .int .i64 0, .int .i64 0, .int .i64 0, .bool false, .int .i64 0] 181)).cell? ⟨C, 1, none⟩ = some (.int .i64 zsa) := hS1.cell 1 rfl 1
  have zz2 : (W0.alloc (.cells #[.int .i64 0, .int .i64 0, .int .i64 0, .int .i64 0, .bool false, .int .i64 0] 181)).cell? ⟨C, 2, none⟩ = some (.int .i64 zsp) := hS1.cell 1 rfl 2
  have zz3 : (W0.alloc (.cells #[.int .i64 0, .int .i64 0, .int .i64 0, .int .i64 0, .bool false, .int .i64 0] 181)).cell? ⟨C, 3, none⟩ = some (.int .i64 zth) := hS1.cell 1 rfl 3
  have zz4 : (W0.alloc (.cells #[.int .i64 0, .int .i64 0, .int .i64 0, .int .i64 0, .bool false, .int .i64 0] 181)).cell? ⟨C, 4, none⟩ = some (.bool zdm) := hS1.cell 1 rfl 4
  have zz5 : (W0.alloc (.cells #[.int .i64 0, .int .i64 0, .int .i64 0, .int .i64 0, .bool false, .int .i64 0] 181)).cell? ⟨C, 5, none⟩ = some (.int .i64 zwy) := hS1.cell 1 rfl 5
  have nn0 : (W0.alloc (.cells #[.int .i64 0, .int .i64 0, .int .i64 0, .int .i64 0, .bool false, .int .i64 0] 181)).frozen? ⟨W0.heap.size, 0, none⟩ = false := hS1.frozen 0 rfl 0
  have nn1 : (W0.alloc (.cells #[.int .i64 0, .int .i64 0, .int .i64 0, .int .i64 0, .bool false, .int .i64 0] 181)).frozen? ⟨W0.heap.size, 1, none⟩ = false := hS1.frozen 0 rfl 1
  have nn2 : (W0.alloc (.cells #[.int .i64 0, .int .i64 0, .int .i64 0, .int .i64 0, .bool false, .int .i64 0] 181)).frozen? ⟨W0.heap.size, 2, none⟩ = false := hS1.frozen 0 rfl 2
  have nn3 : (W0.alloc (.cells #[.int .i64 0, .int .i64 0, .int .i64 0, .int .i64 0, .bool false, .int .i64 0] 181)).frozen? ⟨W0.heap.size, 3, none⟩ = false := hS1.frozen 0 rfl 3
  have nn4 : (W0.alloc (.cells #[.int .i64 0, .int .i64 0, .int .i64 0, .int .i64 0, .bool false, .int .i64 0] 181)).frozen? ⟨W0.heap.size, 4, none⟩ = false := hS1.frozen 0 rfl 4
  have nn5 : (W0.alloc (.cells #[.int .i64 0, .int .i64 0, .int .i64 0, .int .i64 0, .bool false, .int .i64 0] 181)).frozen? ⟨W0.heap.size, 5, none⟩ = false := hS1.frozen 0 rfl 5
  clear hS0 hS1 h hw l1 l2 l3
  have HV : Hid _ := hways
  clear hways
  go_region_with (first | (go_at_call 351; refine hC.mono ?_; rintro e w2 ⟨rfl, v', hS⟩; have HS : Hid _ := hS; clear hS) | (go_at_call 351; refine hD.mono ?_; rintro e w2 ⟨rfl, v', k0, k1, k2, k3, k4, k5, m0, m1, m2, m3, m4, m5, HS⟩))
  all_goals
    clear hC hD
    rcases HV.out with ⟨rfl, rfl, rfl⟩ | ⟨rfl, rfl, rfl⟩ | ⟨rfl, rfl, rfl⟩
    all_goals
      go_wp2
      go_ret
      first | exact ⟨rfl, v', HS.out.alloc _⟩ | exact ⟨rfl, v', HS.out _ _ _ _ _ _⟩
end Go.Proofs.YthbcbjkgjgmegaaGreat

