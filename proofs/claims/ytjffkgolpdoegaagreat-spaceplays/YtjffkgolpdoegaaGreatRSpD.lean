/- The document's space notes an event, and tells whether a list is what it has noted. What the document's space has noted, and what it is: are these the events, is that the view? -/
import Derived.Test.YtjffkgolpdoegaaGreatRSpB
import Derived.Test.YtjffkgolpdoegaaGreatEqS
import Derived.Test.YtjffkgolpdoegaaGreatRest
import Derived.BigQuiet
import Derived.Test.YtjffkgolpdoegaaGreatSame
namespace Go.Proofs.YtjffkgolpdoegaaGreat
open Go.RowKit
set_option linter.unusedVariables false
set_option linter.unusedSimpArgs false
attribute [local go_sem ↓] Go.wp_at_zero Go.wp_at_succ

set_option maxRecDepth 100000 in
set_option maxHeartbeats 4000000 in
theorem rpNote {o w : World} {its : List It} {B : Bd} {c : Cfg} {z : SSt} {v u : Value} (h : St o its w) (i : Nat) (hi : its[i]? = some (rpI B c z v u)) (hb : (z.ev.length + 1) * 80 ≤ 140737488355328) (x : Ev) :
    Calls Tryz.prog 55 #[rpp B, x.val] w fun e w' => e = .returned (.tuple #[]) ∧ ∃ u', St o (its.set i (rpI B c (z.noted x) v u')) w' := by
  obtain ⟨i0, hi0, hz0, hz1, hz2⟩ := info_parts Tryz.infoEv
  obtain ⟨xkd, xst, xth, xsp, xce, xx, xow, xga, xer, xby⟩ := x
  unfold Ev.val rpp
  simp only
  have h0 := h.box #[.int .i64 xkd, .int .i64 xst, .int .i64 xth, .int .i64 xsp, .int .i64 xce, .int .i64 xx, .bool xow, .int .i64 xga, .int .i64 xer, .int .i64 xby] 39
  have HN : Hid (∀ W s', St o (boxI w.heap.size #[.int .i64 xkd, .int .i64 s', .int .i64 xth, .int .i64 xsp, .int .i64 xce, .int .i64 xx, .bool xow, .int .i64 xga, .int .i64 xer, .int .i64 xby] 39 :: its) W → HeadAt 53 (rpF B c) W B.sp u z.ev) := fun W s' hS => rpHead hS (i + 1) hi
  clear h
  go_enter Tryz.func55, Tryz.ntmps55
  go_upto_region 1 with fail
  generalize w.alloc (.cells #[.int .i64 xkd, .int .i64 xst, .int .i64 xth, .int .i64 xsp, .int .i64 xce, .int .i64 xx, .bool xow, .int .i64 xga, .int .i64 xer, .int .i64 xby] 39) = W1 at *
  generalize w.heap.size = C at *
  have c1 : W1.cell? ⟨C, 1, none⟩ = some (.int .i64 xst) := h0.cell 0 rfl 1
  have f1 : W1.frozen? ⟨C, 1, none⟩ = false := h0.frozen 0 rfl 1
  have m6 : W1.cell? ⟨B.sp, 6, none⟩ = some (.pointer (some ⟨B.m, 0, none⟩)) := rpCell h0 (i + 1) hi 6
  have ms : W1.cell? ⟨B.m, 0, none⟩ = some (.int .i64 z.s.st) := cell_of_heap (rpMeter h0 (i + 1) hi).heap
  have h2 := h0.write 0 rfl 1 (.int .i64 z.s.st)
  generalize hst : z.s.st = st at *
  go_upto_region 2 with fail
  have h3 : St o (boxI C #[.int .i64 xkd, .int .i64 st, .int .i64 xth, .int .i64 xsp, .int .i64 xce, .int .i64 xx, .bool xow, .int .i64 xga, .int .i64 xer, .int .i64 xby] 39 :: its) (W1.setCell ⟨C, 1, none⟩ (.int .i64 st)) := h2
  clear h2 h0 c1 f1 m6 ms
  generalize W1.setCell ⟨C, 1, none⟩ (.int .i64 st) = w2 at *
  have hd := HN.out _ _ h3
  clear HN
  have d0 : w2.cell? ⟨C, 0, none⟩ = some (.int .i64 xkd) := h3.cell 0 rfl 0
  have d1 : w2.cell? ⟨C, 1, none⟩ = some (.int .i64 st) := h3.cell 0 rfl 1
  have d2 : w2.cell? ⟨C, 2, none⟩ = some (.int .i64 xth) := h3.cell 0 rfl 2
  have d3 : w2.cell? ⟨C, 3, none⟩ = some (.int .i64 xsp) := h3.cell 0 rfl 3
  have d4 : w2.cell? ⟨C, 4, none⟩ = some (.int .i64 xce) := h3.cell 0 rfl 4
  have d5 : w2.cell? ⟨C, 5, none⟩ = some (.int .i64 xx) := h3.cell 0 rfl 5
  have d6 : w2.cell? ⟨C, 6, none⟩ = some (.bool xow) := h3.cell 0 rfl 6
  have d7 : w2.cell? ⟨C, 7, none⟩ = some (.int .i64 xga) := h3.cell 0 rfl 7
  have d8 : w2.cell? ⟨C, 8, none⟩ = some (.int .i64 xer) := h3.cell 0 rfl 8
  have d9 : w2.cell? ⟨C, 9, none⟩ = some (.int .i64 xby) := h3.cell 0 rfl 9
  have dS : w2.cell? ⟨B.sp, 10, none⟩ = some u := cell_of_heap hd.heap
  have fS : w2.frozen? ⟨B.sp, 10, none⟩ = false := frozen_of_heap hd.heap
  have fA : ∀ c t, (w2.alloc (.cells c t)).frozen? ⟨B.sp, 10, none⟩ = false := fun c t => by rw [frozen?_alloc_cells]; exact fS
  have lm := lt_of_heap hd.heap
  have HD : Hid (HeadAt 53 (rpF B c) w2 B.sp u z.ev) := hd
  have hown2 := hd.own
  have hvm := hd.apart
  have HF : Hid (∀ g cap w1, w1.ownsRow 0 39 10 (.slice (some ⟨g, 0, none⟩) (z.ev.length + 1) cap) (z.ev.length + 1) (evCells z.ev ++ Ev.cells ⟨xkd, st, xth, xsp, xce, xx, xow, xga, xer, xby⟩) → ((w2.alloc (.cells #[.int .i64 xkd, .int .i64 st, .int .i64 xth, .int .i64 xsp, .int .i64 xce, .int .i64 xx, .bool xow, .int .i64 xga, .int .i64 xer, .int .i64 xby] 39)).drew).grownBy w1 u.ownBlock → (u.ownBlock = some g ∨ g = w2.heap.size + 1) → St o (its.set i (rpI B c (z.noted ⟨xkd, xst, xth, xsp, xce, xx, xow, xga, xer, xby⟩) v (.slice (some ⟨g, 0, none⟩) (z.ev.length + 1) cap))) (w1.setCell ⟨B.sp, 10, none⟩ (.slice (some ⟨g, 0, none⟩) (z.ev.length + 1) cap))) := by
    intro g cap w1 a1 a2 a3
    have := St.headNoted (h3.pop.open i hi) 0 rpAt0 (fun _ _ => rfl) a1 a2 a3
    have e : z.noted ⟨xkd, xst, xth, xsp, xce, xx, xow, xga, xer, xby⟩ = ⟨z.s, z.xs, z.x, z.hs, z.ws, z.ev ++ [⟨xkd, st, xth, xsp, xce, xx, xow, xga, xer, xby⟩]⟩ := by simp [SSt.noted, Ev.at_, hst]
    rw [e]
    exact St.shut (l := rpL B c ⟨z.s, z.xs, z.x, z.hs, z.ws, z.ev ++ [⟨xkd, st, xth, xsp, xce, xx, xow, xga, xer, xby⟩]⟩ v (.slice (some ⟨g, 0, none⟩) (z.ev.length + 1) cap)) hi this
  have hbs := buildEv w2 xkd st xth xsp xce xx xow xga xer xby
  have hbs' := buildEv w2.drew xkd st xth xsp xce xx xow xga xer xby
  clear h3 hi hd hst
  generalize hel : z.ev.length = n at *
  generalize heC : evCells z.ev = L at *
  clear hel heC
  go_region_law
    ((refine step_append_lies _ (by rfl) _ _ _ (by rfl) 0 39 i0 _ 10 80 Tryz.underlying51 hi0 hz0 hz1 hz2 rfl (by omega) u n L (by rfl) ((hown2.alloc _).drew)
        ⟨w2.heap.size, 0, none⟩ 1 1 (Ev.cells ⟨xkd, st, xth, xsp, xce, xx, xow, xga, xer, xby⟩) (by rfl) (by rfl) (World.news_of_block (cs := #[.int .i64 xkd, .int .i64 st, .int .i64 xth, .int .i64 xsp, .int .i64 xce, .int .i64 xx, .bool xow, .int .i64 xga, .int .i64 xer, .int .i64 xby]) (t := 39) (fr := (0, 0)) (heap_alloc_new w2 _)) (by simp [Value.oneCell', Ev.cells])
        (by omega) (by unfold maxLen; omega) hb (Nat.zero_le _) (w2.heap.size + 1) (by simp) ?_; intro g cap w1 hown1 hgrow hat hlt
      have e4 : w1.cell? ⟨B.sp, 10, none⟩ = some u := cell_of_heap ((grown_block lm hgrow hvm).trans HD.out.heap)
      have ef4 : w1.frozen? ⟨B.sp, 10, none⟩ = false := frozen_of_heap ((grown_block lm hgrow hvm).trans HD.out.heap)))
  all_goals (go_wp2; go_end0; exact ⟨rfl, _, HF.out _ _ _ hown1 hgrow hat⟩)
end Go.Proofs.YtjffkgolpdoegaaGreat

namespace Go.Proofs.YtjffkgolpdoegaaGreat
open Go.RowKit
set_option linter.unusedVariables false
set_option linter.unusedSimpArgs false
attribute [local go_sem ↓] Go.wp_at_zero Go.wp_at_succ

set_option maxRecDepth 100000 in
set_option maxHeartbeats 2000000 in
theorem rpTold {o w : World} {its : List It} {B : Bd} {c : Cfg} {z : SSt} {v u vl : Value} (h : St o its w) (i j : Nat) (hi : its[i]? = some (rpI B c z v u)) (hj : its[j]? = some (ownI 39 10 vl z.ev.length (evCells z.ev))) (hn : z.ev.length ≤ 2932031007317) :
    Calls Tryz.prog 17 #[rpp B, vl] w fun e w' => e = .returned (.bool true) ∧ ∃ k, w' = w.drewN k := by
  have ha : w.ownsRow 0 39 10 vl z.ev.length (evCells z.ev) := h.get j hj
  have hb : w.ownsRow 0 39 10 u z.ev.length (evCells z.ev) := (rpHead h i hi).own
  have cu : w.cell? ⟨B.sp, 10, none⟩ = some u := rpCell h i hi 10
  clear h hi hj
  obtain ⟨ga, ca, rfl⟩ := own_shape ha
  obtain ⟨gb, cb, rfl⟩ := own_shape hb
  generalize z.ev = l at *
  generalize hN : l.length = n at *
  have hnn : ((n : Int) != (n : Int)) = false := by simp
  have HN : Hid (l.length = n) := hN
  clear hN
  unfold rpp
  go_enter Tryz.func17, Tryz.ntmps17
  go_wp2
  go_loopw [5] (fun i wr => ∃ j q : Nat, i = .int .i64 j ∧ j ≤ n ∧ wr = w.drewN q) (fun i _ => n - (intOf i).toNat)
  case atStart => exact ⟨0, 0, rfl, Nat.zero_le _, rfl⟩
  case round =>
    obtain ⟨j, q, rfl, hj, rfl⟩ := hrel
    by_cases hlt : j < n
    · obtain ⟨g, hga⟩ : ∃ g, ga = some ⟨g, 0, none⟩ := by
        obtain ⟨g, c, he, _, _⟩ := ha.form (by omega)
        simp only [Value.slice.injEq] at he
        exact ⟨g, he.1⟩
      subst hga
      obtain ⟨g2, hgb⟩ : ∃ g, gb = some ⟨g, 0, none⟩ := by
        obtain ⟨g, c, he, _, _⟩ := hb.form (by omega)
        simp only [Value.slice.injEq] at he
        exact ⟨g, he.1⟩
      subst hgb
      have hjl : j < l.length := by rw [HN.out]; exact hlt
      obtain ⟨l0, l1, l2, l3, l4, l5, l6, l7, l8, l9⟩ := ev_cells l j hjl
      generalize l[j] = ac at l0 l1 l2 l3 l4 l5 l6 l7 l8 l9
      have a0 := (ha.cellAt (j * 10) (by omega)).trans l0
      have a1 := (ha.cellAt (j * 10 + 1) (by omega)).trans l1
      have a2 := (ha.cellAt (j * 10 + 2) (by omega)).trans l2
      have a3 := (ha.cellAt (j * 10 + 3) (by omega)).trans l3
      have a4 := (ha.cellAt (j * 10 + 4) (by omega)).trans l4
      have a5 := (ha.cellAt (j * 10 + 5) (by omega)).trans l5
      have a6 := (ha.cellAt (j * 10 + 6) (by omega)).trans l6
      have a7 := (ha.cellAt (j * 10 + 7) (by omega)).trans l7
      have a8 := (ha.cellAt (j * 10 + 8) (by omega)).trans l8
      have a9 := (ha.cellAt (j * 10 + 9) (by omega)).trans l9
      have b0 := (hb.cellAt (j * 10) (by omega)).trans l0
      have b1 := (hb.cellAt (j * 10 + 1) (by omega)).trans l1
      have b2 := (hb.cellAt (j * 10 + 2) (by omega)).trans l2
      have b3 := (hb.cellAt (j * 10 + 3) (by omega)).trans l3
      have b4 := (hb.cellAt (j * 10 + 4) (by omega)).trans l4
      have b5 := (hb.cellAt (j * 10 + 5) (by omega)).trans l5
      have b6 := (hb.cellAt (j * 10 + 6) (by omega)).trans l6
      have b7 := (hb.cellAt (j * 10 + 7) (by omega)).trans l7
      have b8 := (hb.cellAt (j * 10 + 8) (by omega)).trans l8
      have b9 := (hb.cellAt (j * 10 + 9) (by omega)).trans l9
      obtain ⟨xkd, xst, xth, xsp, xce, xx, xow, xga, xer, xby⟩ := ac
      simp only at a0 a1 a2 a3 a4 a5 a6 a7 a8 a9 b0 b1 b2 b3 b4 b5 b6 b7 b8 b9
      have hE := neEv xkd xst xth xsp xce xx xow xga xer xby
      have h0 : (0 : Int) ≤ (j : Int) := Int.natCast_nonneg _
      have h1 : (j : Int) < (n : Int) := by omega
      clear l0 l1 l2 l3 l4 l5 l6 l7 l8 l9 ha hb hjl
      go_wp2_with fail
      go_quiet (fail)
      go_wp2
      go_roundw
      case rel => exact ⟨j + 1, _, by go_num, by omega, rfl⟩
      case measure => simp [intOf]; omega
    · have h1 : ¬ (j : Int) < (n : Int) := by omega
      go_wp2
      go_ret
      exact ⟨rfl, q, rfl⟩

set_option maxRecDepth 100000 in
set_option maxHeartbeats 2000000 in
theorem rpIs {o w : World} {its : List It} {B : Bd} {c : Cfg} {z : SSt} {v u : Value} {pa ca ps cs nx nh : Nat} (h : St o its w) (i j k : Nat) (hi : its[i]? = some (rpI B c z v u))
    (hj : its[j]? = some (ownI 2 1 (.slice (some ⟨pa, 0, none⟩) nx ca) nx (clCells z.xs))) (hk : its[k]? = some (ownI 142 8 (.slice (some ⟨ps, 0, none⟩) nh cs) nh (slCells (slots z.hs z.ws)))) (hx : z.xs.length = nx) (hh : z.hs.length = nh) (h8 : nh ≤ 8) :
    Calls Tryz.prog 15 #[rpp B, .agg #[.slice (some ⟨pa, 0, none⟩) nx ca, .int .i64 z.x.n, .int .i64 z.x.o, .slice (some ⟨ps, 0, none⟩) nh cs]] w fun e w' => e = .returned (.bool true) ∧ Kept (fun _ => False) w w' := by
  have h0 := h.box #[.slice (some ⟨pa, 0, none⟩) nx ca, .int .i64 z.x.n, .int .i64 z.x.o, .slice (some ⟨ps, 0, none⟩) nh cs] 66
  have k0 := kept_alloc w (.cells #[.slice (some ⟨pa, 0, none⟩) nx ca, .int .i64 z.x.n, .int .i64 z.x.o, .slice (some ⟨ps, 0, none⟩) nh cs] 66)
  clear h
  unfold rpp
  go_enter Tryz.func15, Tryz.ntmps15
  go_upto_region 1 with fail
  generalize w.alloc (.cells #[.slice (some ⟨pa, 0, none⟩) nx ca, .int .i64 z.x.n, .int .i64 z.x.o, .slice (some ⟨ps, 0, none⟩) nh cs] 66) = W0 at *
  generalize w.heap.size = V at *
  have hr := rpRow h0 (i + 1) hi
  have ht := rpTab h0 (i + 1) hi
  have a0 : W0.cell? ⟨V, 0, none⟩ = some (.slice (some ⟨pa, 0, none⟩) nx ca) := h0.cell 0 rfl 0
  have a1 : W0.cell? ⟨V, 1, none⟩ = some (.int .i64 z.x.n) := h0.cell 0 rfl 1
  have a2 : W0.cell? ⟨V, 2, none⟩ = some (.int .i64 z.x.o) := h0.cell 0 rfl 2
  have a3 : W0.cell? ⟨V, 3, none⟩ = some (.slice (some ⟨ps, 0, none⟩) nh cs) := h0.cell 0 rfl 3
  have b7 : W0.cell? ⟨B.sp, 7, none⟩ = some (.pointer (some ⟨B.r, 0, none⟩)) := rpCell h0 (i + 1) hi 7
  have b8 : W0.cell? ⟨B.sp, 8, none⟩ = some (.pointer (some ⟨B.g, 0, none⟩)) := rpCell h0 (i + 1) hi 8
  have b9 : W0.cell? ⟨B.sp, 9, none⟩ = some (.pointer (some ⟨B.y, 0, none⟩)) := rpCell h0 (i + 1) hi 9
  have hx4 : (nx : Int) ≤ 4096 := by have := hr.small; omega
  have r2 : W0.cell? ⟨B.r, 2, none⟩ = some (.slice (some ⟨B.c, 0, none⟩) nx nx) := hx ▸ hr.c2
  have g1 : W0.cell? ⟨B.g, 1, none⟩ = some (.int .i64 z.x.n) := rpGate h0 (i + 1) hi 1
  have g2 : W0.cell? ⟨B.g, 2, none⟩ = some (.int .i64 z.x.o) := rpGate h0 (i + 1) hi 2
  have t1 : W0.cell? ⟨B.y, 1, none⟩ = some (.slice (some ⟨B.k, 0, none⟩) nh nh) := hh ▸ cell_of_heap ht.tab
  have HX : Hid (∀ q, q < nx → W0.cell? ⟨pa, q, none⟩ = some (.int .i64 (z.xs.getD q 0)) ∧ W0.cell? ⟨B.c, q, none⟩ = some (.int .i64 (z.xs.getD q 0))) := by
    intro q hq
    have hq' : q < z.xs.length := by omega
    have e : z.xs.getD q 0 = z.xs[q] := by simp [hq']
    refine ⟨?_, ?_⟩
    · rw [e]
      exact (h0.ownCell (j + 1) hj q (by omega)).trans (clCells_at z.xs q hq')
    · rw [e]
      exact hr.cell q hq'
  have hS : ∀ q n, Calls Tryz.prog 59 #[.slice (some ⟨ps, 0, none⟩) nh cs, .slice (some ⟨B.k, 0, none⟩) nh nh] (W0.drewN (q + n)) fun e w' => e = .returned (.bool true) ∧ ∃ m, w' = W0.drewN (q + m) := by
    intro q n
    have p1 : (W0.drewN (q + n)).ownsRow 0 142 8 (.slice (some ⟨ps, 0, none⟩) nh cs) nh (slCells (slots z.hs z.ws)) := h0.get (k + 1) hk
    have p2 : (W0.drewN (q + n)).ownsRow 0 142 8 (.slice (some ⟨B.k, 0, none⟩) nh nh) nh (slCells (slots z.hs z.ws)) := hh ▸ ht.own
    refine (same_slots ps B.k cs nh nh (slots z.hs z.ws) _ p1 p2 (by rw [slots_length z.hs z.ws ht.wn, hh]) h8).mono ?_
    rintro e w' ⟨he, m, rfl⟩
    exact ⟨he, n + m, by rw [World.drewN_drewN, Nat.add_assoc]⟩
  have HK : Hid (Kept (fun _ => False) w W0) := k0
  have hnn : ((nx : Int) != (nx : Int)) = false := by simp
  have hg : ∀ W, (binOp .neq 59 (.agg #[.int .i64 z.x.n, .int .i64 z.x.o]) (.agg #[.int .i64 z.x.n, .int .i64 z.x.o])).run Tryz.prog W = .ok (.bool false) W := fun W => neGt z.x.n z.x.o W
  clear h0 k0 hr ht hi hj hk
  generalize z.x.n = gn at *
  generalize z.x.o = go at *
  go_quiet (fail)
  go_wp2_with fail
  go_loopw [5] (fun i wr => ∃ j q : Nat, i = .int .i64 j ∧ j ≤ nx ∧ wr = W0.drewN q) (fun i _ => nx - (intOf i).toNat)
  case atStart => exact ⟨0, _, rfl, Nat.zero_le _, rfl⟩
  case round =>
    obtain ⟨j, q, rfl, hj, rfl⟩ := hrel
    have a0' : (W0.drewN q).cell? ⟨V, 0, none⟩ = some (.slice (some ⟨pa, 0, none⟩) nx ca) := a0
    by_cases hlt : j < nx
    · obtain ⟨x1, x2⟩ := HX.out j hlt
      generalize z.xs.getD j 0 = y at x1 x2
      have hyy : (y != y) = false := by simp
      have h0 : (0 : Int) ≤ (j : Int) := Int.natCast_nonneg _
      have h1 : (j : Int) < (nx : Int) := by omega
      clear hS
      go_wp2_with fail
      go_quiet (fail)
      go_wp2
      go_roundw
      case rel => exact ⟨j + 1, _, by go_num, by omega, rfl⟩
      case measure => simp [intOf]; omega
    · have h1 : ¬ (j : Int) < (nx : Int) := by omega
      go_wp2_with fail
      go_quiet (first | (go_at_call 59; exact hS _ _))
      go_wp2
      go_ret
      exact ⟨rfl, (HK.out.drewN _).drewN _⟩
end Go.Proofs.YtjffkgolpdoegaaGreat
