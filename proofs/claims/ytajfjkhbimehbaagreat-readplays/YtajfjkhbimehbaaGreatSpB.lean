/- A space is made. -/
import Derived.Test.YtajfjkhbimehbaaGreatSpA
import Derived.Deep.RegionWith
namespace Go.Proofs.YtajfjkhbimehbaaGreat
open Go.RowKit
set_option linter.unusedVariables false
set_option linter.unusedSimpArgs false
attribute [local go_sem ↓] Go.wp_at_zero Go.wp_at_succ

set_option maxRecDepth 100000 in
set_option maxHeartbeats 1000000 in
theorem spNew_out (c : Cfg) (hc : c.fits = false) (w : World) :
    Calls Tryz.prog 5 #[c.val] w fun e w' => e = .returned (.tuple #[.pointer none, .int .i64 1]) ∧ Kept (fun _ => False) w w' := by
  obtain ⟨ce, sl, bi, ta, ba, de⟩ := c
  have hq : ∀ W, Calls Tryz.prog 23 #[.agg #[.int .i64 ce, .int .i64 sl, .int .i64 bi, .int .i64 ta, .int .i64 ba, .int .i64 de]] W fun e w' => e = .returned (.int .i64 1) ∧ Kept (fun _ => False) W w' := by
    intro W
    have := check_any ⟨ce, sl, bi, ta, ba, de⟩ W
    rw [hc] at this
    exact this
  have k0 := kept_alloc w (.cells #[.int .i64 ce, .int .i64 sl, .int .i64 bi, .int .i64 ta, .int .i64 ba, .int .i64 de] 23)
  have hh := heap_alloc_new w (.cells #[.int .i64 ce, .int .i64 sl, .int .i64 bi, .int .i64 ta, .int .i64 ba, .int .i64 de] 23)
  clear hc
  unfold Cfg.val
  simp only
  go_enter Tryz.func5, Tryz.ntmps5
  go_upto_region 1 with fail
  generalize w.alloc (.cells #[.int .i64 ce, .int .i64 sl, .int .i64 bi, .int .i64 ta, .int .i64 ba, .int .i64 de] 23) = W0 at *
  generalize w.heap.size = B at *
  have c0 : W0.cell? ⟨B, 0, none⟩ = some (.int .i64 ce) := cell_of_heap hh
  have c1 : W0.cell? ⟨B, 1, none⟩ = some (.int .i64 sl) := cell_of_heap hh
  have c2 : W0.cell? ⟨B, 2, none⟩ = some (.int .i64 bi) := cell_of_heap hh
  have c3 : W0.cell? ⟨B, 3, none⟩ = some (.int .i64 ta) := cell_of_heap hh
  have c4 : W0.cell? ⟨B, 4, none⟩ = some (.int .i64 ba) := cell_of_heap hh
  have c5 : W0.cell? ⟨B, 5, none⟩ = some (.int .i64 de) := cell_of_heap hh
  clear hh
  go_wp2_with fail
  refine (hq _).mono ?_
  rintro e w1 ⟨rfl, k1⟩
  have HK : Hid (Kept (fun _ => False) w w1) := k0.trans k1 (fun _ _ f => f)
  clear hq k0 k1 c0 c1 c2 c3 c4 c5
  go_wp2
  go_ret2
  exact ⟨rfl, HK.out⟩

set_option maxRecDepth 100000 in
set_option maxHeartbeats 4000000 in
theorem spNew_st {o w : World} {its : List It} (h : St o its w) (c : Cfg) (hc : c.fits = true) :
    Calls Tryz.prog 5 #[c.val] w fun e w' => ∃ A, e = .returned (.tuple #[spp A, .int .i64 0]) ∧ St o (spI A c (SSt.zero c) (.slice none 0 0) (.slice none 0 0) :: its) w' := by
  obtain ⟨ce, sl, bi, ta, ba, de⟩ := c
  obtain ⟨a1, a2, a3, a4⟩ := Cfg.fits_cells hc
  simp only at a1 a2 a3 a4
  obtain ⟨n, rfl⟩ : ∃ n : Nat, ce = n := ⟨ce.toNat, by omega⟩
  obtain ⟨m, rfl⟩ : ∃ m : Nat, sl = m := ⟨sl.toNat, by omega⟩
  have hq : ∀ W, Calls Tryz.prog 23 #[.agg #[.int .i64 n, .int .i64 m, .int .i64 bi, .int .i64 ta, .int .i64 ba, .int .i64 de]] W fun e w' => e = .returned (.int .i64 0) ∧ Kept (fun _ => False) W w' := by
    intro W
    have := check_any ⟨n, m, bi, ta, ba, de⟩ W
    rw [hc] at this
    exact this
  have h0 := h.box #[.int .i64 n, .int .i64 m, .int .i64 bi, .int .i64 ta, .int .i64 ba, .int .i64 de] 23
  clear hc h
  have n1 : 1 ≤ n := by omega
  have n2 : n ≤ 4096 := by omega
  have m1 : 1 ≤ m := by omega
  have m2 : m ≤ 8 := by omega
  clear a1 a2 a3 a4
  unfold Cfg.val
  simp only
  go_enter Tryz.func5, Tryz.ntmps5
  go_upto_region 1 with fail
  generalize w.alloc (.cells #[.int .i64 n, .int .i64 m, .int .i64 bi, .int .i64 ta, .int .i64 ba, .int .i64 de] 23) = W0 at *
  generalize w.heap.size = B at *
  have c0 : W0.cell? ⟨B, 0, none⟩ = some (.int .i64 n) := h0.cell 0 rfl 0
  have c1 : W0.cell? ⟨B, 1, none⟩ = some (.int .i64 m) := h0.cell 0 rfl 1
  have c2 : W0.cell? ⟨B, 2, none⟩ = some (.int .i64 bi) := h0.cell 0 rfl 2
  have c3 : W0.cell? ⟨B, 3, none⟩ = some (.int .i64 ta) := h0.cell 0 rfl 3
  have c4 : W0.cell? ⟨B, 4, none⟩ = some (.int .i64 ba) := h0.cell 0 rfl 4
  have c5 : W0.cell? ⟨B, 5, none⟩ = some (.int .i64 de) := h0.cell 0 rfl 5
  go_wp2_with fail
  refine (hq _).mono ?_
  rintro e w1 ⟨rfl, k1⟩
  have h1 := h0.calm k1
  clear hq k1 c0 c1 c2 c3 c4 c5 h0
  go_wp2_with fail
  refine (newMeter_st h1).mono ?_
  rintro e w2 ⟨rfl, h2, -⟩
  clear h1
  generalize w1.heap.size = M at *
  have c0 : w2.cell? ⟨B, 0, none⟩ = some (.int .i64 n) := h2.cell 1 rfl 0
  have hq : Calls Tryz.prog 25 #[.pointer (some ⟨M, 0, none⟩), .int .i64 1, .int .i64 n] w2 _ := clNew_st h2 (some M) 1 n n1 n2
  clear h2
  go_wp2_with fail
  refine hq.mono ?_
  rintro e w3 ⟨rfl, h3, -⟩
  clear hq c0
  generalize w2.heap.size = C at *
  have c1 : w3.cell? ⟨B, 1, none⟩ = some (.int .i64 m) := h3.cell 2 rfl 1
  have hq : Calls Tryz.prog 26 #[.pointer (some ⟨M, 0, none⟩), .int .i64 m] w3 _ := tabNew_st h3 (some M) m m1 m2
  clear h3
  go_wp2_with fail
  refine hq.mono ?_
  rintro e w4 ⟨t, r, hc, q, d, rfl, h4⟩
  clear hq c1
  have c0 : w4.cell? ⟨B, 0, none⟩ = some (.int .i64 n) := h4.cell 5 rfl 0
  have c1 : w4.cell? ⟨B, 1, none⟩ = some (.int .i64 m) := h4.cell 5 rfl 1
  have c2 : w4.cell? ⟨B, 2, none⟩ = some (.int .i64 bi) := h4.cell 5 rfl 2
  have c3 : w4.cell? ⟨B, 3, none⟩ = some (.int .i64 ta) := h4.cell 5 rfl 3
  have c4 : w4.cell? ⟨B, 4, none⟩ = some (.int .i64 ba) := h4.cell 5 rfl 4
  have c5 : w4.cell? ⟨B, 5, none⟩ = some (.int .i64 de) := h4.cell 5 rfl 5
  have hq : Calls Tryz.prog 27 #[.pointer (some ⟨M, 0, none⟩)] w4.drew fun e w' => ∃ g : Nat, e = .returned (.pointer (some ⟨g, 0, none⟩)) ∧ w'.cell? ⟨B, 0, none⟩ = some (.int .i64 n) ∧ w'.cell? ⟨B, 1, none⟩ = some (.int .i64 m) ∧ w'.cell? ⟨B, 2, none⟩ = some (.int .i64 bi) ∧ w'.cell? ⟨B, 3, none⟩ = some (.int .i64 ta) ∧ w'.cell? ⟨B, 4, none⟩ = some (.int .i64 ba) ∧ w'.cell? ⟨B, 5, none⟩ = some (.int .i64 de) ∧ Hid (∃ A : Ad, (A.sp = w'.heap.size ∧ A.m = M ∧ A.r = C + 1 ∧ A.g = g ∧ A.t = t) ∧ St o (spI A ⟨n, m, bi, ta, ba, de⟩ (SSt.zero ⟨n, m, bi, ta, ba, de⟩) (.slice none 0 0) (.slice none 0 0) :: its) (w'.alloc (.cells #[.pointer (some ⟨M, 0, none⟩), .int .i64 n, .int .i64 m, .int .i64 bi, .int .i64 ta, .int .i64 ba, .int .i64 de, .pointer (some ⟨C + 1, 0, none⟩), .pointer (some ⟨g, 0, none⟩), .pointer (some ⟨t, 0, none⟩), .slice none 0 0] 64))) := by
    refine (gateNew_st h4.drew (some M)).mono ?_
    rintro e w' ⟨he, h5, -⟩
    refine ⟨_, he, h5.cell 7 rfl 0, h5.cell 7 rfl 1, h5.cell 7 rfl 2, h5.cell 7 rfl 3, h5.cell 7 rfl 4, h5.cell 7 rfl 5, ⟨⟨w'.heap.size, M, C + 1, C, w4.drew.heap.size + 1 + 1, w4.drew.heap.size + 1, w4.drew.heap.size, t, r, hc, q, d⟩, ⟨rfl, rfl, rfl, rfl, rfl⟩, ?_⟩⟩
    have h6 := h5.push (headI 64 (spF ⟨w'.heap.size, M, C + 1, C, w4.drew.heap.size + 1 + 1, w4.drew.heap.size + 1, w4.drew.heap.size, t, r, hc, q, d⟩ ⟨n, m, bi, ta, ba, de⟩) w'.heap.size (.slice none 0 0) []) (kept_alloc w' _) ⟨heap_alloc_new w' _, World.ownsRow_nil _ _ _ _, by simp [Value.ownBlock]⟩ (by simp [headI, Value.ownBlock]) (by simp [headI, Value.ownBlock])
    exact (St.unite (l := spL ⟨w'.heap.size, M, C + 1, C, w4.drew.heap.size + 1 + 1, w4.drew.heap.size + 1, w4.drew.heap.size, t, r, hc, q, d⟩ ⟨n, m, bi, ta, ba, de⟩ (SSt.zero ⟨n, m, bi, ta, ba, de⟩) (.slice none 0 0) (.slice none 0 0)) h6).drop1
  clear h4
  go_upto_region 7 with fail
  go_region_with (go_at_call 27; refine hq.mono ?_; rintro e w5 ⟨g, rfl, d0, d1, d2, d3, d4, d5, HS⟩)
  all_goals
    go_wp2
    obtain ⟨A, ⟨e1, e2, e3, e4, e5⟩, HT⟩ := HS.out
    have e6 : spp A = .pointer (some ⟨w5.heap.size, 0, none⟩) := by rw [spp, e1]
    exact bodyPost_ret (v := .tuple #[.pointer (some ⟨w5.heap.size, 0, none⟩), .int .i64 0]) (by simp [results, Tryz.results5, go_sem]) rfl ⟨A, by rw [e6], HT⟩
end Go.Proofs.YtajfjkhbimehbaaGreat
