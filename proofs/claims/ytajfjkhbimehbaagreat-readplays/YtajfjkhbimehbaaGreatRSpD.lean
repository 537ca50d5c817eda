/- The document's space is made. The document's space notes an event, and tells whether a list is what it has noted. What the document's space has noted, and what it is: are these the events, is that the view? -/
import Derived.Test.YtajfjkhbimehbaaGreatRSp
import Derived.Deep.RegionWith
import Derived.Test.YtajfjkhbimehbaaGreatEqS
import Derived.Test.YtajfjkhbimehbaaGreatRest
import Derived.BigQuiet
import Derived.Test.YtajfjkhbimehbaaGreatSame
namespace Go.Proofs.YtajfjkhbimehbaaGreat
open Go.RowKit
set_option linter.unusedVariables false
set_option linter.unusedSimpArgs false
attribute [local go_sem ↓] Go.wp_at_zero Go.wp_at_succ

set_option maxRecDepth 100000 in
set_option maxHeartbeats 1000000 in
theorem rpNew_out (c : Cfg) (hc : c.fits = false) (w : World) :
    Calls Tryz.prog 6 #[c.val] w fun e w' => e = .returned (.tuple #[.pointer none, .int .i64 1]) ∧ Kept (fun _ => False) w w' := by
  obtain ⟨ce, sl, bi, ta, ba, de⟩ := c
  have hq : ∀ W, Calls Tryz.prog 28 #[.agg #[.int .i64 ce, .int .i64 sl, .int .i64 bi, .int .i64 ta, .int .i64 ba, .int .i64 de]] W fun e w' => e = .returned (.int .i64 1) ∧ Kept (fun _ => False) W w' := by
    intro W
    have := refCheck_any ⟨ce, sl, bi, ta, ba, de⟩ W
    rw [hc] at this
    exact this
  have k0 := kept_alloc w (.cells #[.int .i64 ce, .int .i64 sl, .int .i64 bi, .int .i64 ta, .int .i64 ba, .int .i64 de] 23)
  have hh := heap_alloc_new w (.cells #[.int .i64 ce, .int .i64 sl, .int .i64 bi, .int .i64 ta, .int .i64 ba, .int .i64 de] 23)
  clear hc
  unfold Cfg.val
  simp only
  go_enter Tryz.func6, Tryz.ntmps6
  go_upto_region 1 with fail
  generalize w.alloc (.cells #[.int .i64 ce, .int .i64 sl, .int .i64 bi, .int .i64 ta, .int .i64 ba, .int .i64 de] 23) = W0 at *
  generalize w.heap.size = B at *
  have c0 : W0.cell? ⟨B, 0, none⟩ = some (.int .i64 ce) := cell_of_heap hh
  have c1 : W0.cell? ⟨B, 1, none⟩ = some (.int .i64 sl) := cell_of_heap hh
  have c2 : W0.cell? ⟨B, 2, none⟩ = some (.int .i64 bi) := cell_of_heap hh
  have c3 : W0.cell? ⟨B, 3, none⟩ = some (.int .i64 ta) := cell_of_heap hh
  have c4 : W0.cell? ⟨B, 4, none⟩ = some (.int .i64 ba) := cell_of_heap hh
  have c5 : W0.cell? ⟨B, 5, none⟩ = some (.int .i64 de) := cell_of_heap hh
  clear hh
  go_wp2_with fail
  refine (hq _).mono ?_
  rintro e w1 ⟨rfl, k1⟩
  have HK : Hid (Kept (fun _ => False) w w1) := k0.trans k1 (fun _ _ f => f)
  clear hq k0 k1 c0 c1 c2 c3 c4 c5
  go_wp2
  go_ret2
  exact ⟨rfl, HK.out⟩

set_option maxRecDepth 100000 in
set_option maxHeartbeats 4000000 in
theorem rpNew_st {o w : World} {its : List It} (h : St o its w) (c : Cfg) (hc : c.fits = true) :
    Calls Tryz.prog 6 #[c.val] w fun e w' => ∃ B, e = .returned (.tuple #[rpp B, .int .i64 0]) ∧ St o (rpI B c (SSt.zero c) (.slice none 0 0) (.slice none 0 0) :: its) w' := by
  obtain ⟨ce, sl, bi, ta, ba, de⟩ := c
  obtain ⟨a1, a2, a3, a4⟩ := Cfg.fits_cells hc
  simp only at a1 a2 a3 a4
  obtain ⟨n, rfl⟩ : ∃ n : Nat, ce = n := ⟨ce.toNat, by omega⟩
  obtain ⟨m, rfl⟩ : ∃ m : Nat, sl = m := ⟨sl.toNat, by omega⟩
  have hq : ∀ W, Calls Tryz.prog 28 #[.agg #[.int .i64 n, .int .i64 m, .int .i64 bi, .int .i64 ta, .int .i64 ba, .int .i64 de]] W fun e w' => e = .returned (.int .i64 0) ∧ Kept (fun _ => False) W w' := by
    intro W
    have := refCheck_any ⟨n, m, bi, ta, ba, de⟩ W
    rw [hc] at this
    exact this
  have h0 := h.box #[.int .i64 n, .int .i64 m, .int .i64 bi, .int .i64 ta, .int .i64 ba, .int .i64 de] 23
  clear hc h
  have n1 : 1 ≤ n := by omega
  have n2 : n ≤ 4096 := by omega
  have m1 : 1 ≤ m := by omega
  have m2 : m ≤ 8 := by omega
  clear a1 a2 a3 a4
  unfold Cfg.val
  simp only
  go_enter Tryz.func6, Tryz.ntmps6
  go_upto_region 1 with fail
  generalize w.alloc (.cells #[.int .i64 n, .int .i64 m, .int .i64 bi, .int .i64 ta, .int .i64 ba, .int .i64 de] 23) = W0 at *
  generalize w.heap.size = C at *
  have c0 : W0.cell? ⟨C, 0, none⟩ = some (.int .i64 n) := h0.cell 0 rfl 0
  have c1 : W0.cell? ⟨C, 1, none⟩ = some (.int .i64 m) := h0.cell 0 rfl 1
  have c2 : W0.cell? ⟨C, 2, none⟩ = some (.int .i64 bi) := h0.cell 0 rfl 2
  have c3 : W0.cell? ⟨C, 3, none⟩ = some (.int .i64 ta) := h0.cell 0 rfl 3
  have c4 : W0.cell? ⟨C, 4, none⟩ = some (.int .i64 ba) := h0.cell 0 rfl 4
  have c5 : W0.cell? ⟨C, 5, none⟩ = some (.int .i64 de) := h0.cell 0 rfl 5
  go_wp2_with fail
  refine (hq _).mono ?_
  rintro e w1 ⟨rfl, k1⟩
  have h1 := h0.calm k1
  clear hq k1 c0 c1 c2 c3 c4 c5 h0
  have h2 : St o (meterI 67 (some w1.heap.size) Mt.zero (.slice none 0 0) :: boxI C #[.int .i64 n, .int .i64 m, .int .i64 bi, .int .i64 ta, .int .i64 ba, .int .i64 de] 23 :: its) (w1.alloc (.cells #[.int .i64 0, .int .i64 0, .int .i64 0, .int .i64 0, .slice none 0 0] 67)) :=
    h1.push (meterI 67 (some w1.heap.size) Mt.zero (.slice none 0 0)) (kept_alloc w1 _) ⟨heap_alloc_new w1 _, World.ownsRow_nil _ _ _ _, by simp [Value.ownBlock]⟩ (by simp [meterI, Value.ownBlock]) (by simp [meterI, Value.ownBlock])
  clear h1
  go_upto_region 4 with fail
  generalize w1.alloc (.cells #[.int .i64 0, .int .i64 0, .int .i64 0, .int .i64 0, .slice none 0 0] 67) = w2 at *
  generalize w1.heap.size = M at *
  have c1 : w2.cell? ⟨C, 1, none⟩ = some (.int .i64 m) := h2.cell 1 rfl 1
  go_wp2_with fail
  refine (refNew_st h2 M m m1 m2).mono ?_
  rintro e w4 ⟨y, g, rfl, h4⟩
  clear c1 h2
  have c0 : w4.cell? ⟨C, 0, none⟩ = some (.int .i64 n) := h4.cell 2 rfl 0
  have c1 : w4.cell? ⟨C, 1, none⟩ = some (.int .i64 m) := h4.cell 2 rfl 1
  have c2 : w4.cell? ⟨C, 2, none⟩ = some (.int .i64 bi) := h4.cell 2 rfl 2
  have c3 : w4.cell? ⟨C, 3, none⟩ = some (.int .i64 ta) := h4.cell 2 rfl 3
  have c4 : w4.cell? ⟨C, 4, none⟩ = some (.int .i64 ba) := h4.cell 2 rfl 4
  have c5 : w4.cell? ⟨C, 5, none⟩ = some (.int .i64 de) := h4.cell 2 rfl 5
  go_upto_region 7 with fail
  have k0 : (w4.alloc (.cells #[.pointer (some ⟨M, 0, none⟩), .int .i64 0, .int .i64 0] 90)).cell? ⟨C, 0, none⟩ = some (.int .i64 n) := (h4.box #[.pointer (some ⟨M, 0, none⟩), .int .i64 0, .int .i64 0] 90).cell 3 rfl 0
  have k1 : (w4.alloc (.cells #[.pointer (some ⟨M, 0, none⟩), .int .i64 0, .int .i64 0] 90)).cell? ⟨C, 1, none⟩ = some (.int .i64 m) := (h4.box #[.pointer (some ⟨M, 0, none⟩), .int .i64 0, .int .i64 0] 90).cell 3 rfl 1
  have k2 : (w4.alloc (.cells #[.pointer (some ⟨M, 0, none⟩), .int .i64 0, .int .i64 0] 90)).cell? ⟨C, 2, none⟩ = some (.int .i64 bi) := (h4.box #[.pointer (some ⟨M, 0, none⟩), .int .i64 0, .int .i64 0] 90).cell 3 rfl 2
  have k3 : (w4.alloc (.cells #[.pointer (some ⟨M, 0, none⟩), .int .i64 0, .int .i64 0] 90)).cell? ⟨C, 3, none⟩ = some (.int .i64 ta) := (h4.box #[.pointer (some ⟨M, 0, none⟩), .int .i64 0, .int .i64 0] 90).cell 3 rfl 3
  have k4 : (w4.alloc (.cells #[.pointer (some ⟨M, 0, none⟩), .int .i64 0, .int .i64 0] 90)).cell? ⟨C, 4, none⟩ = some (.int .i64 ba) := (h4.box #[.pointer (some ⟨M, 0, none⟩), .int .i64 0, .int .i64 0] 90).cell 3 rfl 4
  have k5 : (w4.alloc (.cells #[.pointer (some ⟨M, 0, none⟩), .int .i64 0, .int .i64 0] 90)).cell? ⟨C, 5, none⟩ = some (.int .i64 de) := (h4.box #[.pointer (some ⟨M, 0, none⟩), .int .i64 0, .int .i64 0] 90).cell 3 rfl 5
  have hq1 : Calls Tryz.prog 30 #[.pointer (some ⟨M, 0, none⟩), .int .i64 1, .int .i64 n] w4.drew fun e w' => ∃ r : Nat, e = .returned (.pointer (some ⟨r, 0, none⟩)) ∧ (w'.cell? ⟨C, 0, none⟩ = some (.int .i64 n) ∧ w'.cell? ⟨C, 1, none⟩ = some (.int .i64 m) ∧ w'.cell? ⟨C, 2, none⟩ = some (.int .i64 bi) ∧ w'.cell? ⟨C, 3, none⟩ = some (.int .i64 ta) ∧ w'.cell? ⟨C, 4, none⟩ = some (.int .i64 ba) ∧ w'.cell? ⟨C, 5, none⟩ = some (.int .i64 de)) ∧ ((w'.alloc (.cells #[.pointer (some ⟨M, 0, none⟩), .int .i64 0, .int .i64 0] 90)).cell? ⟨C, 0, none⟩ = some (.int .i64 n) ∧ (w'.alloc (.cells #[.pointer (some ⟨M, 0, none⟩), .int .i64 0, .int .i64 0] 90)).cell? ⟨C, 1, none⟩ = some (.int .i64 m) ∧ (w'.alloc (.cells #[.pointer (some ⟨M, 0, none⟩), .int .i64 0, .int .i64 0] 90)).cell? ⟨C, 2, none⟩ = some (.int .i64 bi) ∧ (w'.alloc (.cells #[.pointer (some ⟨M, 0, none⟩), .int .i64 0, .int .i64 0] 90)).cell? ⟨C, 3, none⟩ = some (.int .i64 ta) ∧ (w'.alloc (.cells #[.pointer (some ⟨M, 0, none⟩), .int .i64 0, .int .i64 0] 90)).cell? ⟨C, 4, none⟩ = some (.int .i64 ba) ∧ (w'.alloc (.cells #[.pointer (some ⟨M, 0, none⟩), .int .i64 0, .int .i64 0] 90)).cell? ⟨C, 5, none⟩ = some (.int .i64 de)) ∧ Hid (∃ B : Bd, B.sp = w'.heap.size + 1 ∧ St o (rpI B ⟨n, m, bi, ta, ba, de⟩ (SSt.zero ⟨n, m, bi, ta, ba, de⟩) (.slice none 0 0) (.slice none 0 0) :: its) ((w'.alloc (.cells #[.pointer (some ⟨M, 0, none⟩), .int .i64 0, .int .i64 0] 90)).alloc (.cells #[.int .i64 n, .int .i64 m, .int .i64 bi, .int .i64 ta, .int .i64 ba, .int .i64 de, .pointer (some ⟨M, 0, none⟩), .pointer (some ⟨r, 0, none⟩), .pointer (some ⟨w'.heap.size, 0, none⟩), .pointer (some ⟨y, 0, none⟩), .slice none 0 0] 41))) := by
    refine (rrNew_st h4.drew M 1 n n2).mono ?_
    rintro e w' ⟨he, h5, -⟩
    have h6 := h5.box #[.pointer (some ⟨M, 0, none⟩), .int .i64 0, .int .i64 0] 90
    refine ⟨_, he, ⟨h5.cell 3 rfl 0, h5.cell 3 rfl 1, h5.cell 3 rfl 2, h5.cell 3 rfl 3, h5.cell 3 rfl 4, h5.cell 3 rfl 5⟩, ⟨h6.cell 4 rfl 0, h6.cell 4 rfl 1, h6.cell 4 rfl 2, h6.cell 4 rfl 3, h6.cell 4 rfl 4, h6.cell 4 rfl 5⟩, ⟨⟨w'.heap.size + 1, M, w4.drew.heap.size + 1, w4.drew.heap.size, w'.heap.size, y, g⟩, rfl, ?_⟩⟩
    have h7 := h6.push (headI 41 (rpF ⟨w'.heap.size + 1, M, w4.drew.heap.size + 1, w4.drew.heap.size, w'.heap.size, y, g⟩ ⟨n, m, bi, ta, ba, de⟩) (w'.heap.size + 1) (.slice none 0 0) []) (kept_alloc _ _) ⟨by have := heap_alloc_new (w'.alloc (.cells #[.pointer (some ⟨M, 0, none⟩), .int .i64 0, .int .i64 0] 90)) (.cells (rpF ⟨w'.heap.size + 1, M, w4.drew.heap.size + 1, w4.drew.heap.size, w'.heap.size, y, g⟩ ⟨n, m, bi, ta, ba, de⟩ (.slice none 0 0)) 41); rw [alloc_size] at this; exact this, World.ownsRow_nil _ _ _ _, by simp [Value.ownBlock]⟩ (by simp [headI, Value.ownBlock]) (by simp [headI, Value.ownBlock])
    exact (St.unite (l := rpL ⟨w'.heap.size + 1, M, w4.drew.heap.size + 1, w4.drew.heap.size, w'.heap.size, y, g⟩ ⟨n, m, bi, ta, ba, de⟩ (SSt.zero ⟨n, m, bi, ta, ba, de⟩) (.slice none 0 0) (.slice none 0 0)) h7).drop1
  have hq2 : Calls Tryz.prog 30 #[.pointer (some ⟨M, 0, none⟩), .int .i64 1, .int .i64 n] (w4.alloc (.cells #[.pointer (some ⟨M, 0, none⟩), .int .i64 0, .int .i64 0] 90)).drew fun e w' => ∃ r : Nat, e = .returned (.pointer (some ⟨r, 0, none⟩)) ∧ (w'.cell? ⟨C, 0, none⟩ = some (.int .i64 n) ∧ w'.cell? ⟨C, 1, none⟩ = some (.int .i64 m) ∧ w'.cell? ⟨C, 2, none⟩ = some (.int .i64 bi) ∧ w'.cell? ⟨C, 3, none⟩ = some (.int .i64 ta) ∧ w'.cell? ⟨C, 4, none⟩ = some (.int .i64 ba) ∧ w'.cell? ⟨C, 5, none⟩ = some (.int .i64 de)) ∧ Hid (∃ B : Bd, B.sp = w'.heap.size ∧ St o (rpI B ⟨n, m, bi, ta, ba, de⟩ (SSt.zero ⟨n, m, bi, ta, ba, de⟩) (.slice none 0 0) (.slice none 0 0) :: its) (w'.alloc (.cells #[.int .i64 n, .int .i64 m, .int .i64 bi, .int .i64 ta, .int .i64 ba, .int .i64 de, .pointer (some ⟨M, 0, none⟩), .pointer (some ⟨r, 0, none⟩), .pointer (some ⟨w4.heap.size, 0, none⟩), .pointer (some ⟨y, 0, none⟩), .slice none 0 0] 41))) := by
    refine (rrNew_st ((h4.box #[.pointer (some ⟨M, 0, none⟩), .int .i64 0, .int .i64 0] 90).drew) M 1 n n2).mono ?_
    rintro e w' ⟨he, h5, -⟩
    refine ⟨_, he, ⟨h5.cell 4 rfl 0, h5.cell 4 rfl 1, h5.cell 4 rfl 2, h5.cell 4 rfl 3, h5.cell 4 rfl 4, h5.cell 4 rfl 5⟩, ?_⟩
    generalize (w4.alloc (.cells #[.pointer (some ⟨M, 0, none⟩), .int .i64 0, .int .i64 0] 90)).drew.heap.size = K at *
    refine ⟨⟨w'.heap.size, M, K + 1, K, w4.heap.size, y, g⟩, rfl, ?_⟩
    have h7 := h5.swap.push (headI 41 (rpF ⟨w'.heap.size, M, K + 1, K, w4.heap.size, y, g⟩ ⟨n, m, bi, ta, ba, de⟩) w'.heap.size (.slice none 0 0) []) (kept_alloc _ _) ⟨heap_alloc_new w' _, World.ownsRow_nil _ _ _ _, by simp [Value.ownBlock]⟩ (by simp [headI, Value.ownBlock]) (by simp [headI, Value.ownBlock])
    exact (St.unite (l := rpL ⟨w'.heap.size, M, K + 1, K, w4.heap.size, y, g⟩ ⟨n, m, bi, ta, ba, de⟩ (SSt.zero ⟨n, m, bi, ta, ba, de⟩) (.slice none 0 0) (.slice none 0 0)) h7).drop1
  clear h4
  go_region_with (first
    | (go_at_call 30; refine hq1.mono ?_; rintro e w5 ⟨r, rfl, ⟨d0, d1, d2, d3, d4, d5⟩, ⟨l0, l1, l2, l3, l4, l5⟩, HS⟩)
    | (go_at_call 30; refine hq2.mono ?_; rintro e w5 ⟨r, rfl, ⟨d0, d1, d2, d3, d4, d5⟩, HS2⟩))
  all_goals
    go_wp2
    first
      | (obtain ⟨B, e1, HT⟩ := HS.out; exact bodyPost_ret (v := .tuple #[.pointer (some ⟨w5.heap.size + 1, 0, none⟩), .int .i64 0]) (by simp [results, Tryz.results6, go_sem]) rfl ⟨B, by rw [rpp, e1], HT⟩)
      | (obtain ⟨B, e1, HT⟩ := HS2.out; exact bodyPost_ret (v := .tuple #[.pointer (some ⟨w5.heap.size, 0, none⟩), .int .i64 0]) (by simp [results, Tryz.results6, go_sem]) rfl ⟨B, by rw [rpp, e1], HT⟩)
end Go.Proofs.YtajfjkhbimehbaaGreat

namespace Go.Proofs.YtajfjkhbimehbaaGreat
open Go.RowKit
set_option linter.unusedVariables false
set_option linter.unusedSimpArgs false
attribute [local go_sem ↓] Go.wp_at_zero Go.wp_at_succ

set_option maxRecDepth 100000 in
set_option maxHeartbeats 2000000 in
theorem rpIs {o w : World} {its : List It} {B : Bd} {c : Cfg} {z : SSt} {v u : Value} {pa ca ps cs nx nh : Nat} (h : St o its w) (i j k : Nat) (hi : its[i]? = some (rpI B c z v u))
    (hj : its[j]? = some (ownI 2 1 (.slice (some ⟨pa, 0, none⟩) nx ca) nx (clCells z.xs))) (hk : its[k]? = some (ownI 156 8 (.slice (some ⟨ps, 0, none⟩) nh cs) nh (slCells (slots z.hs z.ws)))) (hx : z.xs.length = nx) (hh : z.hs.length = nh) (h8 : nh ≤ 8) :
    Calls Tryz.prog 61 #[rpp B, .agg #[.slice (some ⟨pa, 0, none⟩) nx ca, .int .i64 z.x.n, .int .i64 z.x.o, .slice (some ⟨ps, 0, none⟩) nh cs]] w fun e w' => e = .returned (.bool true) ∧ Kept (fun _ => False) w w' := by
  have h0 := h.box #[.slice (some ⟨pa, 0, none⟩) nx ca, .int .i64 z.x.n, .int .i64 z.x.o, .slice (some ⟨ps, 0, none⟩) nh cs] 123
  have k0 := kept_alloc w (.cells #[.slice (some ⟨pa, 0, none⟩) nx ca, .int .i64 z.x.n, .int .i64 z.x.o, .slice (some ⟨ps, 0, none⟩) nh cs] 123)
  clear h
  unfold rpp
  go_enter Tryz.func61, Tryz.ntmps61
  go_upto_region 1 with fail
  generalize w.alloc (.cells #[.slice (some ⟨pa, 0, none⟩) nx ca, .int .i64 z.x.n, .int .i64 z.x.o, .slice (some ⟨ps, 0, none⟩) nh cs] 123) = W0 at *
  generalize w.heap.size = V at *
  have hr := rpRow h0 (i + 1) hi
  have ht := rpTab h0 (i + 1) hi
  have a0 : W0.cell? ⟨V, 0, none⟩ = some (.slice (some ⟨pa, 0, none⟩) nx ca) := h0.cell 0 rfl 0
  have a1 : W0.cell? ⟨V, 1, none⟩ = some (.int .i64 z.x.n) := h0.cell 0 rfl 1
  have a2 : W0.cell? ⟨V, 2, none⟩ = some (.int .i64 z.x.o) := h0.cell 0 rfl 2
  have a3 : W0.cell? ⟨V, 3, none⟩ = some (.slice (some ⟨ps, 0, none⟩) nh cs) := h0.cell 0 rfl 3
  have b7 : W0.cell? ⟨B.sp, 7, none⟩ = some (.pointer (some ⟨B.r, 0, none⟩)) := rpCell h0 (i + 1) hi 7
  have b8 : W0.cell? ⟨B.sp, 8, none⟩ = some (.pointer (some ⟨B.g, 0, none⟩)) := rpCell h0 (i + 1) hi 8
  have b9 : W0.cell? ⟨B.sp, 9, none⟩ = some (.pointer (some ⟨B.y, 0, none⟩)) := rpCell h0 (i + 1) hi 9
  have hx4 : (nx : Int) ≤ 4096 := by have := hr.small; omega
  have r2 : W0.cell? ⟨B.r, 2, none⟩ = some (.slice (some ⟨B.c, 0, none⟩) nx nx) := hx ▸ hr.c2
  have g1 : W0.cell? ⟨B.g, 1, none⟩ = some (.int .i64 z.x.n) := rpGate h0 (i + 1) hi 1
  have g2 : W0.cell? ⟨B.g, 2, none⟩ = some (.int .i64 z.x.o) := rpGate h0 (i + 1) hi 2
  have t1 : W0.cell? ⟨B.y, 1, none⟩ = some (.slice (some ⟨B.k, 0, none⟩) nh nh) := hh ▸ cell_of_heap ht.tab
  have HX : Hid (∀ q, q < nx → W0.cell? ⟨pa, q, none⟩ = some (.int .i64 (z.xs.getD q 0)) ∧ W0.cell? ⟨B.c, q, none⟩ = some (.int .i64 (z.xs.getD q 0))) := by
    intro q hq
    have hq' : q < z.xs.length := by omega
    have e : z.xs.getD q 0 = z.xs[q] := by simp [hq']
    refine ⟨?_, ?_⟩
    · rw [e]
      exact (h0.ownCell (j + 1) hj q (by omega)).trans (clCells_at z.xs q hq')
    · rw [e]
      exact hr.cell q hq'
  have hS : ∀ q n, Calls Tryz.prog 96 #[.slice (some ⟨ps, 0, none⟩) nh cs, .slice (some ⟨B.k, 0, none⟩) nh nh] (W0.drewN (q + n)) fun e w' => e = .returned (.bool true) ∧ ∃ m, w' = W0.drewN (q + m) := by
    intro q n
    have p1 : (W0.drewN (q + n)).ownsRow 0 156 8 (.slice (some ⟨ps, 0, none⟩) nh cs) nh (slCells (slots z.hs z.ws)) := h0.get (k + 1) hk
    have p2 : (W0.drewN (q + n)).ownsRow 0 156 8 (.slice (some ⟨B.k, 0, none⟩) nh nh) nh (slCells (slots z.hs z.ws)) := hh ▸ ht.own
    refine (same_slots ps B.k cs nh nh (slots z.hs z.ws) _ p1 p2 (by rw [slots_length z.hs z.ws ht.wn, hh]) h8).mono ?_
    rintro e w' ⟨he, m, rfl⟩
    exact ⟨he, n + m, by rw [World.drewN_drewN, Nat.add_assoc]⟩
  have HK : Hid (Kept (fun _ => False) w W0) := k0
  have hnn : ((nx : Int) != (nx : Int)) = false := by simp
  have hg : ∀ W, (binOp .neq 88 (.agg #[.int .i64 z.x.n, .int .i64 z.x.o]) (.agg #[.int .i64 z.x.n, .int .i64 z.x.o])).run Tryz.prog W = .ok (.bool false) W := fun W => neGt z.x.n z.x.o W
  clear h0 k0 hr ht hi hj hk
  generalize z.x.n = gn at *
  generalize z.x.o = go at *
  go_quiet (fail)
  go_wp2_with fail
  go_loopw [5] (fun i wr => ∃ j q : Nat, i = .int .i64 j ∧ j ≤ nx ∧ wr = W0.drewN q) (fun i _ => nx - (intOf i).toNat)
  case atStart => exact ⟨0, _, rfl, Nat.zero_le _, rfl⟩
  case round =>
    obtain ⟨j, q, rfl, hj, rfl⟩ := hrel
    have a0' : (W0.drewN q).cell? ⟨V, 0, none⟩ = some (.slice (some ⟨pa, 0, none⟩) nx ca) := a0
    by_cases hlt : j < nx
    · obtain ⟨x1, x2⟩ := HX.out j hlt
      generalize z.xs.getD j 0 = y at x1 x2
      have hyy : (y != y) = false := by simp
      have h0 : (0 : Int) ≤ (j : Int) := Int.natCast_nonneg _
      have h1 : (j : Int) < (nx : Int) := by omega
      clear hS
      go_wp2_with fail
      go_quiet (fail)
      go_wp2
      go_roundw
      case rel => exact ⟨j + 1, _, by go_num, by omega, rfl⟩
      case measure => simp [intOf]; omega
    · have h1 : ¬ (j : Int) < (nx : Int) := by omega
      go_wp2_with fail
      go_quiet (first | (go_at_call 96; exact hS _ _))
      go_wp2
      go_ret
      exact ⟨rfl, (HK.out.drewN _).drewN _⟩
end Go.Proofs.YtajfjkhbimehbaaGreat
