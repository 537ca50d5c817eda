/- A space is made. Events: noted, and told. A space notes an event. A view of a space. -/
import Derived.Test.YthbcbjkgjgmegaaGreatSpA
import Derived.Deep.RegionWith
namespace Go.Proofs.YthbcbjkgjgmegaaGreat
open Go.RowKit
set_option linter.unusedVariables false
set_option linter.unusedSimpArgs false
attribute [local go_sem ↓] Go.wp_at_zero Go.wp_at_succ

set_option maxRecDepth 100000 in
set_option maxHeartbeats 1000000 in
theorem spNew_out (c : Cfg) (hc : c.fits = false) (w : World) :
    Calls Tryz.prog 10 #[c.val] w fun e w' => e = .returned (.tuple #[.pointer none, .int .i64 1]) ∧ Kept (fun _ => False) w w' := by
  obtain ⟨ce, sl, bi, ta, ba, de⟩ := c
  have hq : ∀ W, Calls Tryz.prog 32 #[.agg #[.int .i64 ce, .int .i64 sl, .int .i64 bi, .int .i64 ta, .int .i64 ba, .int .i64 de]] W fun e w' => e = .returned (.int .i64 1) ∧ Kept (fun _ => False) W w' := by
    intro W
    have := check_any ⟨ce, sl, bi, ta, ba, de⟩ W
    rw [hc] at this
    exact this
  have k0 := kept_alloc w (.cells #[.int .i64 ce, .int .i64 sl, .int .i64 bi, .int .i64 ta, .int .i64 ba, .int .i64 de] 24)
  have hh := heap_alloc_new w (.cells #[.int .i64 ce, .int .i64 sl, .int .i64 bi, .int .i64 ta, .int .i64 ba, .int .i64 de] 24)
  clear hc
  unfold Cfg.val
  simp only
  go_enter Tryz.func10, Tryz.ntmps10
  go_upto_region 1 with fail
  generalize w.alloc (.cells #[.int .i64 ce, .int .i64 sl, .int .i64 bi, .int .i64 ta, .int .i64 ba, .int .i64 de] 24) = W0 at *
  generalize w.heap.size = B at *
  have c0 : W0.cell? ⟨B, 0, none⟩ = some (.int .i64 ce) := cell_of_heap hh
  have c1 : W0.cell? ⟨B, 1, none⟩ = some (.int .i64 sl) := cell_of_heap hh
  have c2 : W0.cell? ⟨B, 2, none⟩ = some (.int .i64 bi) := cell_of_heap hh
  have c3 : W0.cell? ⟨B, 3, none⟩ = some (.int .i64 ta) := cell_of_heap hh
  have c4 : W0.cell? ⟨B, 4, none⟩ = some (.int .i64 ba) := cell_of_heap hh
  have c5 : W0.cell? ⟨B, 5, none⟩ = some (.int .i64 de) := cell_of_heap hh
  clear hh
  go_wp2_with fail
  refine (hq _).mono ?_
  rintro e w1 ⟨rfl, k1⟩
  have HK : Hid (Kept (fun _ => False) w w1) := k0.trans k1 (fun _ _ f => f)
  clear hq k0 k1 c0 c1 c2 c3 c4 c5
  go_wp2
  go_ret2
  exact ⟨rfl, HK.out⟩

set_option maxRecDepth 100000 in
set_option maxHeartbeats 4000000 in
theorem spNew_st {o w : World} {its : List It} (h : St o its w) (c : Cfg) (hc : c.fits = true) :
    Calls Tryz.prog 10 #[c.val] w fun e w' => ∃ A, e = .returned (.tuple #[spp A, .int .i64 0]) ∧ St o (spI A c (SSt.zero c) (.slice none 0 0) (.slice none 0 0) :: its) w' := by
  obtain ⟨ce, sl, bi, ta, ba, de⟩ := c
  obtain ⟨a1, a2, a3, a4⟩ := Cfg.fits_cells hc
  simp only at a1 a2 a3 a4
  obtain ⟨n, rfl⟩ : ∃ n : Nat, ce = n := ⟨ce.toNat, by omega⟩
  obtain ⟨m, rfl⟩ : ∃ m : Nat, sl = m := ⟨sl.toNat, by omega⟩
  have hq : ∀ W, Calls Tryz.prog 32 #[.agg #[.int .i64 n, .int .i64 m, .int .i64 bi, .int .i64 ta, .int .i64 ba, .int .i64 de]] W fun e w' => e = .returned (.int .i64 0) ∧ Kept (fun _ => False) W w' := by
    intro W
    have := check_any ⟨n, m, bi, ta, ba, de⟩ W
    rw [hc] at this
    exact this
  have h0 := h.box #[.int .i64 n, .int .i64 m, .int .i64 bi, .int .i64 ta, .int .i64 ba, .int .i64 de] 24
  clear hc h
  have n1 : 1 ≤ n := by omega
  have n2 : n ≤ 4096 := by omega
  have m1 : 1 ≤ m := by omega
  have m2 : m ≤ 8 := by omega
  clear a1 a2 a3 a4
  unfold Cfg.val
  simp only
  go_enter Tryz.func10, Tryz.ntmps10
  go_upto_region 1 with fail
  generalize w.alloc (.cells #[.int .i64 n, .int .i64 m, .int .i64 bi, .int .i64 ta, .int .i64 ba, .int .i64 de] 24) = W0 at *
  generalize w.heap.size = B at *
  have c0 : W0.cell? ⟨B, 0, none⟩ = some (.int .i64 n) := h0.cell 0 rfl 0
  have c1 : W0.cell? ⟨B, 1, none⟩ = some (.int .i64 m) := h0.cell 0 rfl 1
  have c2 : W0.cell? ⟨B, 2, none⟩ = some (.int .i64 bi) := h0.cell 0 rfl 2
  have c3 : W0.cell? ⟨B, 3, none⟩ = some (.int .i64 ta) := h0.cell 0 rfl 3
  have c4 : W0.cell? ⟨B, 4, none⟩ = some (.int .i64 ba) := h0.cell 0 rfl 4
  have c5 : W0.cell? ⟨B, 5, none⟩ = some (.int .i64 de) := h0.cell 0 rfl 5
  go_wp2_with fail
  refine (hq _).mono ?_
  rintro e w1 ⟨rfl, k1⟩
  have h1 := h0.calm k1
  clear hq k1 c0 c1 c2 c3 c4 c5 h0
  go_wp2_with fail
  refine (newMeter_st h1).mono ?_
  rintro e w2 ⟨rfl, h2, -⟩
  clear h1
  generalize w1.heap.size = M at *
  have c0 : w2.cell? ⟨B, 0, none⟩ = some (.int .i64 n) := h2.cell 1 rfl 0
  have hq : Calls Tryz.prog 34 #[.pointer (some ⟨M, 0, none⟩), .int .i64 1, .int .i64 n] w2 _ := clNew_st h2 (some M) 1 n n1 n2
  clear h2
  go_wp2_with fail
  refine hq.mono ?_
  rintro e w3 ⟨rfl, h3, -⟩
  clear hq c0
  generalize w2.heap.size = C at *
  have c1 : w3.cell? ⟨B, 1, none⟩ = some (.int .i64 m) := h3.cell 2 rfl 1
  have hq : Calls Tryz.prog 35 #[.pointer (some ⟨M, 0, none⟩), .int .i64 m] w3 _ := tabNew_st h3 (some M) m m1 m2
  clear h3
  go_wp2_with fail
  refine hq.mono ?_
  rintro e w4 ⟨t, r, hc, q, d, rfl, h4⟩
  clear hq c1
  have c0 : w4.cell? ⟨B, 0, none⟩ = some (.int .i64 n) := h4.cell 5 rfl 0
  have c1 : w4.cell? ⟨B, 1, none⟩ = some (.int .i64 m) := h4.cell 5 rfl 1
  have c2 : w4.cell? ⟨B, 2, none⟩ = some (.int .i64 bi) := h4.cell 5 rfl 2
  have c3 : w4.cell? ⟨B, 3, none⟩ = some (.int .i64 ta) := h4.cell 5 rfl 3
  have c4 : w4.cell? ⟨B, 4, none⟩ = some (.int .i64 ba) := h4.cell 5 rfl 4
  have c5 : w4.cell? ⟨B, 5, none⟩ = some (.int .i64 de) := h4.cell 5 rfl 5
  have hq : Calls Tryz.prog 36 #[.pointer (some ⟨M, 0, none⟩)] w4.drew fun e w' => ∃ g : Nat, e = .returned (.pointer (some ⟨g, 0, none⟩)) ∧ w'.cell? ⟨B, 0, none⟩ = some (.int .i64 n) ∧ w'.cell? ⟨B, 1, none⟩ = some (.int .i64 m) ∧ w'.cell? ⟨B, 2, none⟩ = some (.int .i64 bi) ∧ w'.cell? ⟨B, 3, none⟩ = some (.int .i64 ta) ∧ w'.cell? ⟨B, 4, none⟩ = some (.int .i64 ba) ∧ w'.cell? ⟨B, 5, none⟩ = some (.int .i64 de) ∧ Hid (∃ A : Ad, (A.sp = w'.heap.size ∧ A.m = M ∧ A.r = C + 1 ∧ A.g = g ∧ A.t = t) ∧ St o (spI A ⟨n, m, bi, ta, ba, de⟩ (SSt.zero ⟨n, m, bi, ta, ba, de⟩) (.slice none 0 0) (.slice none 0 0) :: its) (w'.alloc (.cells #[.pointer (some ⟨M, 0, none⟩), .int .i64 n, .int .i64 m, .int .i64 bi, .int .i64 ta, .int .i64 ba, .int .i64 de, .pointer (some ⟨C + 1, 0, none⟩), .pointer (some ⟨g, 0, none⟩), .pointer (some ⟨t, 0, none⟩), .slice none 0 0] 92))) := by
    refine (gateNew_st h4.drew (some M)).mono ?_
    rintro e w' ⟨he, h5, -⟩
    refine ⟨_, he, h5.cell 7 rfl 0, h5.cell 7 rfl 1, h5.cell 7 rfl 2, h5.cell 7 rfl 3, h5.cell 7 rfl 4, h5.cell 7 rfl 5, ⟨⟨w'.heap.size, M, C + 1, C, w4.drew.heap.size + 1 + 1, w4.drew.heap.size + 1, w4.drew.heap.size, t, r, hc, q, d⟩, ⟨rfl, rfl, rfl, rfl, rfl⟩, ?_⟩⟩
    have h6 := h5.push (headI 92 (spF ⟨w'.heap.size, M, C + 1, C, w4.drew.heap.size + 1 + 1, w4.drew.heap.size + 1, w4.drew.heap.size, t, r, hc, q, d⟩ ⟨n, m, bi, ta, ba, de⟩) w'.heap.size (.slice none 0 0) []) (kept_alloc w' _) ⟨heap_alloc_new w' _, World.ownsRow_nil _ _ _ _, by simp [Value.ownBlock]⟩ (by simp [headI, Value.ownBlock]) (by simp [headI, Value.ownBlock])
    exact (St.unite (l := spL ⟨w'.heap.size, M, C + 1, C, w4.drew.heap.size + 1 + 1, w4.drew.heap.size + 1, w4.drew.heap.size, t, r, hc, q, d⟩ ⟨n, m, bi, ta, ba, de⟩ (SSt.zero ⟨n, m, bi, ta, ba, de⟩) (.slice none 0 0) (.slice none 0 0)) h6).drop1
  clear h4
  go_upto_region 7 with fail
  go_region_with (go_at_call 36; refine hq.mono ?_; rintro e w5 ⟨g, rfl, d0, d1, d2, d3, d4, d5, HS⟩)
  all_goals
    go_wp2
    obtain ⟨A, ⟨e1, e2, e3, e4, e5⟩, HT⟩ := HS.out
    have e6 : spp A = .pointer (some ⟨w5.heap.size, 0, none⟩) := by rw [spp, e1]
    exact bodyPost_ret (v := .tuple #[.pointer (some ⟨w5.heap.size, 0, none⟩), .int .i64 0]) (by simp [results, Tryz.results10, go_sem]) rfl ⟨A, by rw [e6], HT⟩
end Go.Proofs.YthbcbjkgjgmegaaGreat

namespace Go.Proofs.YthbcbjkgjgmegaaGreat
open Go.RowKit
set_option linter.unusedVariables false
set_option linter.unusedSimpArgs false
attribute [local go_sem ↓] Go.wp_at_zero Go.wp_at_succ

set_option maxRecDepth 100000 in
set_option maxHeartbeats 1000000 in
theorem cloneEv (b0 : Nat) (v : Value) (l : List Ev) (w : World) (hown : w.ownsRow b0 145 10 v l.length (evCells l)) (hb : (l.length + 1) * 80 ≤ 140737488355328) :
    Calls Tryz.prog 56 #[v] w fun e w' => ∃ v', e = .returned v' ∧ w'.ownsRow w.heap.size 145 10 v' l.length (evCells l) ∧ Kept (fun _ => False) w w' := by
  obtain ⟨i0, hi0, hz0, hz1, hz2⟩ := info_parts Tryz.infoEv
  have hE : ∀ a n c w, (binOp .eql 55 (.slice a n c) (.slice none 0 0)).run Tryz.prog w = .ok (.bool a.isNone) w := fun a n c w => Lib.run_eql_slice_nil w 55 145 a n c 0 0 Tryz.underlying55
  rcases hown.2 with ⟨hv, hn⟩ | ⟨g, cap, cur, hv, _⟩
  · subst hv
    have hl : l = [] := List.length_eq_zero_iff.1 hn
    subst hl
    clear hown hn
    go_enter Tryz.func56, Tryz.ntmps56
    go_wp2
    go_ret
    exact ⟨_, rfl, World.ownsRow_nil _ _ _ _, Kept.refl _ _⟩
  · subst hv
    have hcells : ∀ j u, (evCells l)[j]? = some u → (w.alloc (.cells #[] 145)).cell? ((⟨g, 0, none⟩ : Addr).add j) = some u := (hown.alloc _).cells (g := g) rfl
    have hlen := hown.1
    have hml : l.length ≤ maxLen := by unfold maxLen; omega
    clear hown
    go_enter Tryz.func56, Tryz.ntmps56
    go_wp2_with (at_builtin; refine wpList_append_own_at _ rfl (.tmp 5) (.tmp 6) 55 rfl w.heap.size 145 i0 _ 10 80 Tryz.underlying55 hi0 hz0 hz1 hz2 rfl (by omega) (.slice (some ⟨w.heap.size, 0, none⟩) 0 0) 0 [] rfl (World.ownsRow_made w #[] 0 (Nat.le_refl _) (Nat.zero_le _) rfl) ⟨g, 0, none⟩ l.length cap (evCells l) rfl hlen hcells (evCells_one l) (by omega) (by omega) (by simp) ?_; intro v' w1 hown' hgrow hnil hat)
    go_ret
    refine ⟨_, rfl, by simpa using hown', ((Kept.refl _ w).alloc _).grown hgrow (fun k e => ?_)⟩
    right
    simp [Value.ownBlock] at e
    omega

set_option maxRecDepth 100000 in
theorem spEvents {o w : World} {its : List It} {A : Ad} {c : Cfg} {z : SSt} {v u : Value} (h : St o its w) (i : Nat) (hi : its[i]? = some (spI A c z v u)) (hb : (z.ev.length + 1) * 80 ≤ 140737488355328) :
    Calls Tryz.prog 22 #[spp A] w fun e w' => ∃ v', e = .returned v' ∧ St o (ownI 145 10 v' z.ev.length (evCells z.ev) :: its) w' := by
  have c10 : w.cell? ⟨A.sp, 10, none⟩ = some u := spCell h i hi 10
  have hc := cloneEv 0 u z.ev w (spHead h i hi).own hb
  have hS : Hid (∀ v' w', w'.ownsRow w.heap.size 145 10 v' z.ev.length (evCells z.ev) → Kept (fun _ => False) w w' → St o (ownI 145 10 v' z.ev.length (evCells z.ev) :: its) w') := fun v' w' p k => h.own k p
  clear h hi hb
  generalize evCells z.ev = L at *
  unfold spp
  go_enter Tryz.func22, Tryz.ntmps22
  go_wp2_with (go_at_call 56; refine hc.mono ?_; rintro e w' ⟨v', rfl, ho', hk⟩)
  go_ret
  exact ⟨_, rfl, hS.out _ _ ho' hk⟩

/-- Behind the append the new list is stored. -/
theorem St.headNoted {o w2 w1 : World} {its : List It} (h : St o its w2) (j : Nat) {ty : TypeId} {F : Value → Array Value} {k : Nat} {v : Value} {l : List Ev} (hj : its[j]? = some (headI ty F k v l)) (hF : ∀ a b, (F a).setIfInBounds 10 b = F b) {x : Ev} {g cap : Nat} {ob : Obj}
    (hown1 : w1.ownsRow 0 145 10 (.slice (some ⟨g, 0, none⟩) (l.length + 1) cap) (l.length + 1) (evCells l ++ x.cells)) (hgrow : ((w2.alloc ob).drew).grownBy w1 v.ownBlock) (hat : v.ownBlock = some g ∨ g = w2.heap.size + 1) :
    St o (its.set j (headI ty F k (.slice (some ⟨g, 0, none⟩) (l.length + 1) cap) (l ++ [x]))) (w1.setCell ⟨k, 10, none⟩ (.slice (some ⟨g, 0, none⟩) (l.length + 1) cap)) := by
  have hd : HeadAt ty F w2 k v l := h.get j hj
  have hlt := lt_of_heap hd.heap
  have h1 := (grown_block hlt hgrow hd.apart).trans hd.heap
  have hgk : k ≠ g := by
    rcases hat with e | e
    · intro e'; subst e'; exact hd.apart e
    · omega
  have hkk : Kept (fun b => b ∈ (headI ty F k v l).fp) w2 (w1.setCell ⟨k, 10, none⟩ (.slice (some ⟨g, 0, none⟩) (l.length + 1) cap)) :=
    Kept.setCell (Kept.grown (((Kept.refl _ w2).alloc ob).drew) hgrow (fun b e => .inl (by simp [headI, e]))) _ (.inl (by simp [headI]))
  refine h.set j hj hkk ⟨?_, ?_, by simp [Value.ownBlock]; omega⟩ ?_ ?_
  · rw [heap_setCell_at h1, hF]
  · have := ownsRow_setCell_far hown1 (a := ⟨k, 10, none⟩) (by simp [Value.ownBlock]; omega) (.slice (some ⟨g, 0, none⟩) (l.length + 1) cap)
    simpa [evCells_append, evCells] using this
  · simp [headI, Value.ownBlock]; omega
  · intro b hb
    simp only [headI, Value.ownBlock, List.mem_cons, Option.toList_some, List.not_mem_nil, or_false] at hb
    rcases hb with rfl | rfl
    · exact .inl (by simp [headI])
    · rcases hat with e | e
      · exact .inl (by simp [headI, e])
      · exact .inr (by omega)
theorem buildEv (W : World) (a b c d e f : Int) (g : Bool) (h i j : Int) : (Instr.buildSlice 55 1 #[(0, .agg #[.int .i64 a, .int .i64 b, .int .i64 c, .int .i64 d, .int .i64 e, .int .i64 f, .bool g, .int .i64 h, .int .i64 i, .int .i64 j])]).run Tryz.prog W = .ok (.slice (some ⟨W.heap.size, 0, none⟩) 1 1) (W.alloc (.cells #[.int .i64 a, .int .i64 b, .int .i64 c, .int .i64 d, .int .i64 e, .int .i64 f, .bool g, .int .i64 h, .int .i64 i, .int .i64 j] 145)) := by kernel_rfl
end Go.Proofs.YthbcbjkgjgmegaaGreat

namespace Go.Proofs.YthbcbjkgjgmegaaGreat
open Go.RowKit
set_option linter.unusedVariables false
set_option linter.unusedSimpArgs false
attribute [local go_sem ↓] Go.wp_at_zero Go.wp_at_succ

set_option maxRecDepth 100000 in
set_option maxHeartbeats 4000000 in
theorem spNote {o w : World} {its : List It} {A : Ad} {c : Cfg} {z : SSt} {v u : Value} (h : St o its w) (i : Nat) (hi : its[i]? = some (spI A c z v u)) (hb : (z.ev.length + 1) * 80 ≤ 140737488355328) (x : Ev) :
    Calls Tryz.prog 245 #[spp A, x.val] w fun e w' => e = .returned (.tuple #[]) ∧ ∃ u', St o (its.set i (spI A c (z.noted x) v u')) w' := by
  obtain ⟨i0, hi0, hz0, hz1, hz2⟩ := info_parts Tryz.infoEv
  obtain ⟨xkd, xst, xth, xsp, xce, xx, xow, xga, xer, xby⟩ := x
  unfold Ev.val spp
  simp only
  have h0 := h.box #[.int .i64 xkd, .int .i64 xst, .int .i64 xth, .int .i64 xsp, .int .i64 xce, .int .i64 xx, .bool xow, .int .i64 xga, .int .i64 xer, .int .i64 xby] 145
  have hq : Calls Tryz.prog 192 #[.pointer (some ⟨A.sp, 0, none⟩)] (w.alloc (.cells #[.int .i64 xkd, .int .i64 xst, .int .i64 xth, .int .i64 xsp, .int .i64 xce, .int .i64 xx, .bool xow, .int .i64 xga, .int .i64 xer, .int .i64 xby] 145)) fun e w' => e = .returned (.int .i64 z.s.st) ∧ w' = _ := spStep h0 (i + 1) hi
  have HN : Hid (∀ W s', St o (boxI w.heap.size #[.int .i64 xkd, .int .i64 s', .int .i64 xth, .int .i64 xsp, .int .i64 xce, .int .i64 xx, .bool xow, .int .i64 xga, .int .i64 xer, .int .i64 xby] 145 :: its) W → HeadAt 92 (spF A c) W A.sp u z.ev) := fun W s' hS => spHead hS (i + 1) hi
  clear h
  go_enter Tryz.func245, Tryz.ntmps245
  go_upto_region 1 with fail
  generalize w.alloc (.cells #[.int .i64 xkd, .int .i64 xst, .int .i64 xth, .int .i64 xsp, .int .i64 xce, .int .i64 xx, .bool xow, .int .i64 xga, .int .i64 xer, .int .i64 xby] 145) = W0 at *
  generalize w.heap.size = B at *
  have c1 : W0.cell? ⟨B, 1, none⟩ = some (.int .i64 xst) := h0.cell 0 rfl 1
  have f1 : W0.frozen? ⟨B, 1, none⟩ = false := h0.frozen 0 rfl 1
  go_wp2_with fail
  refine hq.mono ?_
  rintro e W1 ⟨rfl, rfl⟩
  have h2 := h0.write 0 rfl 1 (.int .i64 z.s.st)
  clear hq
  generalize hst : z.s.st = st at *
  go_upto_region 2 with fail
  have h3 : St o (boxI B #[.int .i64 xkd, .int .i64 st, .int .i64 xth, .int .i64 xsp, .int .i64 xce, .int .i64 xx, .bool xow, .int .i64 xga, .int .i64 xer, .int .i64 xby] 145 :: its) (W1.setCell ⟨B, 1, none⟩ (.int .i64 st)) := h2
  clear h2 h0 c1 f1
  generalize W1.setCell ⟨B, 1, none⟩ (.int .i64 st) = w2 at *
  have hd := HN.out _ _ h3
  clear HN
  have d0 : w2.cell? ⟨B, 0, none⟩ = some (.int .i64 xkd) := h3.cell 0 rfl 0
  have d1 : w2.cell? ⟨B, 1, none⟩ = some (.int .i64 st) := h3.cell 0 rfl 1
  have d2 : w2.cell? ⟨B, 2, none⟩ = some (.int .i64 xth) := h3.cell 0 rfl 2
  have d3 : w2.cell? ⟨B, 3, none⟩ = some (.int .i64 xsp) := h3.cell 0 rfl 3
  have d4 : w2.cell? ⟨B, 4, none⟩ = some (.int .i64 xce) := h3.cell 0 rfl 4
  have d5 : w2.cell? ⟨B, 5, none⟩ = some (.int .i64 xx) := h3.cell 0 rfl 5
  have d6 : w2.cell? ⟨B, 6, none⟩ = some (.bool xow) := h3.cell 0 rfl 6
  have d7 : w2.cell? ⟨B, 7, none⟩ = some (.int .i64 xga) := h3.cell 0 rfl 7
  have d8 : w2.cell? ⟨B, 8, none⟩ = some (.int .i64 xer) := h3.cell 0 rfl 8
  have d9 : w2.cell? ⟨B, 9, none⟩ = some (.int .i64 xby) := h3.cell 0 rfl 9
  have dS : w2.cell? ⟨A.sp, 10, none⟩ = some u := cell_of_heap hd.heap
  have fS : w2.frozen? ⟨A.sp, 10, none⟩ = false := frozen_of_heap hd.heap
  have fA : ∀ c t, (w2.alloc (.cells c t)).frozen? ⟨A.sp, 10, none⟩ = false := fun c t => by rw [frozen?_alloc_cells]; exact fS
  have lm := lt_of_heap hd.heap
  have HD : Hid (HeadAt 92 (spF A c) w2 A.sp u z.ev) := hd
  have hown2 := hd.own
  have hvm := hd.apart
  have HF : Hid (∀ g cap w1, w1.ownsRow 0 145 10 (.slice (some ⟨g, 0, none⟩) (z.ev.length + 1) cap) (z.ev.length + 1) (evCells z.ev ++ Ev.cells ⟨xkd, st, xth, xsp, xce, xx, xow, xga, xer, xby⟩) → ((w2.alloc (.cells #[.int .i64 xkd, .int .i64 st, .int .i64 xth, .int .i64 xsp, .int .i64 xce, .int .i64 xx, .bool xow, .int .i64 xga, .int .i64 xer, .int .i64 xby] 145)).drew).grownBy w1 u.ownBlock → (u.ownBlock = some g ∨ g = w2.heap.size + 1) → St o (its.set i (spI A c (z.noted ⟨xkd, xst, xth, xsp, xce, xx, xow, xga, xer, xby⟩) v (.slice (some ⟨g, 0, none⟩) (z.ev.length + 1) cap))) (w1.setCell ⟨A.sp, 10, none⟩ (.slice (some ⟨g, 0, none⟩) (z.ev.length + 1) cap))) := by
    intro g cap w1 a1 a2 a3
    have := St.headNoted (h3.pop.open i hi) 0 spAt0 (fun _ _ => rfl) a1 a2 a3
    have e : z.noted ⟨xkd, xst, xth, xsp, xce, xx, xow, xga, xer, xby⟩ = ⟨z.s, z.xs, z.x, z.hs, z.ws, z.ev ++ [⟨xkd, st, xth, xsp, xce, xx, xow, xga, xer, xby⟩]⟩ := by simp [SSt.noted, Ev.at_, hst]
    rw [e]
    exact St.shut (l := spL A c ⟨z.s, z.xs, z.x, z.hs, z.ws, z.ev ++ [⟨xkd, st, xth, xsp, xce, xx, xow, xga, xer, xby⟩]⟩ v (.slice (some ⟨g, 0, none⟩) (z.ev.length + 1) cap)) hi this
  have hbs := buildEv w2 xkd st xth xsp xce xx xow xga xer xby
  have hbs' := buildEv w2.drew xkd st xth xsp xce xx xow xga xer xby
  clear h3 hi hd hst
  generalize hel : z.ev.length = n at *
  generalize heC : evCells z.ev = L at *
  clear hel heC
  go_region_law
    ((refine step_append_lies _ (by rfl) _ _ _ (by rfl) 0 145 i0 _ 10 80 Tryz.underlying55 hi0 hz0 hz1 hz2 rfl (by omega) u n L (by rfl) ((hown2.alloc _).drew)
        ⟨w2.heap.size, 0, none⟩ 1 1 (Ev.cells ⟨xkd, st, xth, xsp, xce, xx, xow, xga, xer, xby⟩) (by rfl) (by rfl) (World.news_of_block (cs := #[.int .i64 xkd, .int .i64 st, .int .i64 xth, .int .i64 xsp, .int .i64 xce, .int .i64 xx, .bool xow, .int .i64 xga, .int .i64 xer, .int .i64 xby]) (t := 145) (fr := (0, 0)) (heap_alloc_new w2 _)) (by simp [Value.oneCell', Ev.cells])
        (by omega) (by unfold maxLen; omega) hb (Nat.zero_le _) (w2.heap.size + 1) (by simp) ?_; intro g cap w1 hown1 hgrow hat hlt
      have e4 : w1.cell? ⟨A.sp, 10, none⟩ = some u := cell_of_heap ((grown_block lm hgrow hvm).trans HD.out.heap)
      have ef4 : w1.frozen? ⟨A.sp, 10, none⟩ = false := frozen_of_heap ((grown_block lm hgrow hvm).trans HD.out.heap)))
  all_goals (go_wp2; go_end0; exact ⟨rfl, _, HF.out _ _ _ hown1 hgrow hat⟩)
end Go.Proofs.YthbcbjkgjgmegaaGreat

namespace Go.Proofs.YthbcbjkgjgmegaaGreat
open Go.RowKit
set_option linter.unusedVariables false
set_option linter.unusedSimpArgs false
attribute [local go_sem ↓] Go.wp_at_zero Go.wp_at_succ

theorem St.tail {o w : World} {its : List It} : ∀ (l : List It), St o (l ++ its) w → St o its w
  | [], h => h
  | A :: l, h => St.tail l h.pop
theorem St.drop2 {o w : World} {A B C : It} {its : List It} (h : St o (A :: B :: C :: its) w) : St o (A :: B :: its) w :=
  (h.perm (List.perm_middle (l₁ := [A, B]) (l₂ := its) (a := C))).pop
section
variable {o w : World} {its : List It} {A : Ad} {c : Cfg} {z : SSt} {v u : Value}
theorem spAll (h : St o its w) (i : Nat) (hi : its[i]? = some (spI A c z v u)) : Calls Tryz.prog 77 #[.pointer (some ⟨A.r, 0, none⟩)] w fun e w' => ∃ v', e = .returned v' ∧ St o (ownI 2 1 v' z.xs.length (clCells z.xs) :: its) w' := by
  refine (clAll_st (h.open i hi) 6 spAt6).mono ?_
  rintro e w' ⟨v', he, hS⟩
  have := St.shut1 hi hS
  rw [show its.set i (joinI (spL A c z v u)) = its from set_back hi] at this
  exact ⟨v', he, this⟩
theorem spTabAll (h : St o its w) (i : Nat) (hi : its[i]? = some (spI A c z v u)) (hl : z.ws.length = z.hs.length * 2) (h1 : 1 ≤ z.hs.length) (h8 : z.hs.length ≤ 8) : Calls Tryz.prog 79 #[.pointer (some ⟨A.t, 0, none⟩)] w fun e w' => ∃ v', e = .returned v' ∧ St o (ownI 249 8 v' z.hs.length (slCells (slots z.hs z.ws)) :: its) w' := by
  refine (tabAll_st (h.open i hi) 3 5 4 spAt3 spAt5 spAt4 hl h1 h8).mono ?_
  rintro e w' ⟨v', he, hS⟩
  have := St.shut1 hi hS
  rw [show its.set i (joinI (spL A c z v u)) = its from set_back hi] at this
  exact ⟨v', he, this⟩
end
theorem own_form {w : World} {t : TypeId} {z : Nat} {v : Value} {n : Nat} {xs : List Value} (h : (ownI t z v n xs).P w) : ∃ a cap, v = .slice a n cap := by
  have p : w.ownsRow 0 t z v n xs := h
  rcases p.2 with ⟨e, hn⟩ | ⟨g, cap, cur, e, _⟩
  · subst hn; exact ⟨_, _, e⟩
  · exact ⟨_, _, e⟩
/-- A list, or none yet. -/
def mayI (t : TypeId) (z : Nat) (a : Option Value) (n : Nat) (xs : List Value) : List It := match a with
  | none => []
  | some v => [ownI t z v n xs]

set_option maxRecDepth 100000 in
set_option maxHeartbeats 4000000 in
theorem spView {o w : World} {its : List It} {A : Ad} {c : Cfg} {z : SSt} {v u : Value} (h : St o its w) (i : Nat) (hi : its[i]? = some (spI A c z v u)) (hl : z.ws.length = z.hs.length * 2) (h1 : 1 ≤ z.hs.length) (h8 : z.hs.length ≤ 8) :
    Calls Tryz.prog 30 #[spp A] w fun e w' => ∃ va vs, e = .returned (.agg #[va, .int .i64 z.x.n, .int .i64 z.x.o, vs]) ∧ St o (ownI 2 1 va z.xs.length (clCells z.xs) :: ownI 249 8 vs z.hs.length (slCells (slots z.hs z.ws)) :: its) w' := by
  have h0 := h.box #[.slice none 0 0, .int .i64 0, .int .i64 0, .slice none 0 0] 73
  clear h
  unfold spp
  go_enter Tryz.func30, Tryz.ntmps30
  go_upto_region 1 with fail
  generalize w.alloc (.cells #[.slice none 0 0, .int .i64 0, .int .i64 0, .slice none 0 0] 73) = W0 at *
  generalize w.heap.size = B at *
  obtain ⟨V, HV⟩ : ∃ V : World → Option Value → Option Value → Prop, V = fun W a s => St o (mayI 2 1 a z.xs.length (clCells z.xs) ++ (mayI 249 8 s z.hs.length (slCells (slots z.hs z.ws)) ++ (boxI B #[.slice none 0 0, .int .i64 0, .int .i64 0, .slice none 0 0] 73 :: its))) W := ⟨_, rfl⟩
  have hV : V W0.drew none none := by rw [HV]; exact h0.drew
  have hF : ∀ W a s, V W a s → W.cell? ⟨A.sp, 7, none⟩ = some (.pointer (some ⟨A.r, 0, none⟩)) ∧ W.cell? ⟨A.sp, 8, none⟩ = some (.pointer (some ⟨A.g, 0, none⟩)) ∧ W.cell? ⟨A.sp, 9, none⟩ = some (.pointer (some ⟨A.t, 0, none⟩)) ∧ W.cell? ⟨B, 0, none⟩ = some (.slice none 0 0) ∧ W.cell? ⟨B, 1, none⟩ = some (.int .i64 0) ∧ W.cell? ⟨B, 2, none⟩ = some (.int .i64 0) ∧ W.cell? ⟨B, 3, none⟩ = some (.slice none 0 0) ∧ W.frozen? ⟨B, 0, none⟩ = false ∧ W.frozen? ⟨B, 1, none⟩ = false ∧ W.frozen? ⟨B, 2, none⟩ = false ∧ W.frozen? ⟨B, 3, none⟩ = false := by
    intro W a s hS
    rw [HV] at hS
    have hT := St.tail _ (St.tail _ hS)
    exact ⟨spCell hT (i + 1) hi 7, spCell hT (i + 1) hi 8, spCell hT (i + 1) hi 9, hT.cell 0 rfl 0, hT.cell 0 rfl 1, hT.cell 0 rfl 2, hT.cell 0 rfl 3, hT.frozen 0 rfl 0, hT.frozen 0 rfl 1, hT.frozen 0 rfl 2, hT.frozen 0 rfl 3⟩
  have hA : ∀ W s, V W none s → Calls Tryz.prog 77 #[.pointer (some ⟨A.r, 0, none⟩)] W fun e w' => ∃ p n c, e = .returned (.slice p n c) ∧ V w' (some (.slice p n c)) s := by
    intro W s hS
    rw [HV] at hS ⊢
    cases s with
    | none => exact (spAll hS (i + 1) hi).mono (fun e w' ⟨v', he, h'⟩ => by obtain ⟨p, c, rfl⟩ := own_form (h'.get 0 rfl); exact ⟨_, _, _, he, h'⟩)
    | some s => exact (spAll hS (i + 2) hi).mono (fun e w' ⟨v', he, h'⟩ => by obtain ⟨p, c, rfl⟩ := own_form (h'.get 0 rfl); exact ⟨_, _, _, he, h'⟩)
  have hG : ∀ W a s, V W a s → Calls Tryz.prog 78 #[.pointer (some ⟨A.g, 0, none⟩)] W fun e w' => e = .returned (.agg #[.int .i64 z.x.n, .int .i64 z.x.o]) ∧ V w' a s := by
    intro W a s hS
    rw [HV] at hS ⊢
    cases a with
    | none =>
      cases s with
      | none => exact spNow hS (i + 1) hi
      | some s => exact spNow hS (i + 2) hi
    | some a =>
      cases s with
      | none => exact spNow hS (i + 2) hi
      | some s => exact spNow hS (i + 3) hi
  have hT : ∀ W a, V W a none → Calls Tryz.prog 79 #[.pointer (some ⟨A.t, 0, none⟩)] W fun e w' => ∃ p n c, e = .returned (.slice p n c) ∧ V w' a (some (.slice p n c)) := by
    intro W a hS
    rw [HV] at hS ⊢
    cases a with
    | none => exact (spTabAll hS (i + 1) hi hl h1 h8).mono (fun e w' ⟨v', he, h'⟩ => by obtain ⟨p, c, rfl⟩ := own_form (h'.get 0 rfl); exact ⟨_, _, _, he, h'⟩)
    | some a =>
      refine (spTabAll hS (i + 2) hi hl h1 h8).mono ?_
      rintro e w' ⟨v', he, h'⟩
      obtain ⟨p, c, rfl⟩ := own_form (h'.get 0 rfl)
      exact ⟨_, _, _, he, h'.swap⟩
  have HE : Hid (∀ W a s u0 u1 u2 u3, V W (some a) (some s) → St o (ownI 2 1 a z.xs.length (clCells z.xs) :: ownI 249 8 s z.hs.length (slCells (slots z.hs z.ws)) :: its) ((((W.setCell ⟨B, 0, none⟩ u0).setCell ⟨B, 1, none⟩ u1).setCell ⟨B, 2, none⟩ u2).setCell ⟨B, 3, none⟩ u3)) := by
    intro W a s u0 u1 u2 u3 hS
    rw [HV] at hS
    exact ((((St.write (its := ownI 2 1 a z.xs.length (clCells z.xs) :: ownI 249 8 s z.hs.length (slCells (slots z.hs z.ws)) :: boxI B #[.slice none 0 0, .int .i64 0, .int .i64 0, .slice none 0 0] 73 :: its) hS 2 rfl 0 u0).write 2 rfl 1 u1).write 2 rfl 2 u2).write 2 rfl 3 u3).drop2
  clear HV h0
  obtain ⟨p7, p8, p9, q0, q1, q2, q3, g0, g1, g2, g3⟩ := hF _ _ _ hV
  go_region_with (first
    | (go_at_call 77; refine (hA _ _ hV).mono ?_; rintro e wx ⟨pa, na, ca, rfl, hV⟩; obtain ⟨p7, p8, p9, q0, q1, q2, q3, g0, g1, g2, g3⟩ := hF _ _ _ hV)
    | (go_at_call 78; refine (hG _ _ _ hV).mono ?_; rintro e wx ⟨rfl, hV⟩; obtain ⟨p7, p8, p9, q0, q1, q2, q3, g0, g1, g2, g3⟩ := hF _ _ _ hV)
    | (go_at_call 79; refine (hT _ _ hV).mono ?_; rintro e wx ⟨ps, ns, cs, rfl, hV⟩; obtain ⟨p7, p8, p9, q0, q1, q2, q3, g0, g1, g2, g3⟩ := hF _ _ _ hV))
  all_goals
    go_wp2
    exact bodyPost_ret (v := .agg #[.slice pa na ca, .int .i64 z.x.n, .int .i64 z.x.o, .slice ps ns cs]) (by simp [results, Tryz.results30, go_sem, q0, q1, q2, q3]) rfl ⟨_, _, rfl, HE.out _ _ _ _ _ _ _ hV⟩
end Go.Proofs.YthbcbjkgjgmegaaGreat
