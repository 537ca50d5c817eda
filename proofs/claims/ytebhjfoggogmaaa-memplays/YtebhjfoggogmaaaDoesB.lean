/- One step of a script that asks for all cells: it answers true, and what is done to the answer touches neither side. -/
import Derived.Test.YtebhjfoggogmaaaDoesA
namespace Go.Proofs.Ytebhjfoggogmaaa
open Go.RowKit
set_option linter.unusedVariables false
set_option linter.unusedSimpArgs false
attribute [local go_sem ↓] Go.wp_at_zero Go.wp_at_succ

theorem owned_set {w : World} {base g n cap : Nat} {ys : List Int} (h : w.ownsRow base 2 1 (.slice (some ⟨g, 0, none⟩) n cap) n (ys.map (Value.int .i64))) (j : Nat) (X : Int) :
    (w.setCell ⟨g, j, none⟩ (.int .i64 X)).ownsRow base 2 1 (.slice (some ⟨g, 0, none⟩) n cap) n ((ys.set j X).map (Value.int .i64)) := by
  have := (h.stored j (.int .i64 X)).1
  rwa [← List.map_set] at this
theorem owned_cell {w : World} {base g n cap : Nat} {ys : List Int} (h : w.ownsRow base 2 1 (.slice (some ⟨g, 0, none⟩) n cap) n (ys.map (Value.int .i64))) {j : Nat} (hj : j < n) : w.cell? ⟨g, j, none⟩ = some (.int .i64 (ys.getD j 0)) := by
  have hl := h.1
  rw [h.cellAt j (by omega)]
  simp at hl
  simp [show j < ys.length by omega]
theorem owned_shape {w : World} {base n : Nat} {v : Value} {e : TypeId} {size : Nat} {xs : List Value} (h : w.ownsRow base e size v n xs) : ∃ ga ca, v = .slice ga n ca ∧ (0 < n → ∃ g, ga = some ⟨g, 0, none⟩ ∧ base ≤ g ∧ g < w.heap.size) := by
  rcases h.2 with ⟨h1, h0⟩ | ⟨g, c3, _, h1, hb, hg, _⟩
  · exact ⟨none, 0, by rw [h1, h0], fun h => by omega⟩
  · exact ⟨_, _, h1, fun _ => ⟨g, rfl, hb, lt_of_heap hg⟩⟩
theorem owned_ints {w : World} {base n ca : Nat} {ga : Option Addr} {ys : List Int} (h : w.ownsRow base 2 1 (.slice ga n ca) n (ys.map (Value.int .i64))) : IntsIn w ga n ys := by
  have hl := h.1
  simp at hl
  refine ⟨hl.symm, fun h0 => ?_⟩
  obtain ⟨g, c, he, _, _⟩ := h.form h0
  simp only [Value.slice.injEq] at he
  obtain ⟨rfl, _⟩ := he
  exact ⟨g, 0, rfl, fun j hj => by rw [Nat.zero_add]; exact owned_cell h hj⟩
theorem row_ints {t : TypeId} {b : Nat} {w : World} {r c m : Nat} {kind : Int} {xs : List Int} (h : RowIn t b w r c m kind xs) : IntsIn w (some ⟨c, 0, none⟩) xs.length xs :=
  ⟨rfl, fun _ => ⟨c, 0, rfl, fun j hj => by rw [Nat.zero_add]; exact (cell_of_heap h.cells).trans (ints_at xs j hj)⟩⟩
theorem ownsRow_drewN {w : World} {base n : Nat} {v : Value} {e : TypeId} {size : Nat} {xs : List Value} (h : w.ownsRow base e size v n xs) (k : Nat) : (w.drewN k).ownsRow base e size v n xs := h
theorem Kept.drewN {F : Nat → Prop} {a w : World} (h : Kept F a w) (k : Nat) : Kept F a (w.drewN k) := ⟨h.os, h.tape, h.output, h.size, h.block⟩

set_option maxRecDepth 100000 in
set_option maxHeartbeats 2000000 in
theorem does_all {b : Nat} {w : World} {m r c x y d : Nat} {kind : Int} {s : Mt} {v v2 : Value} {xs : List Int} {n : Nat} (other : Bool) (i xv old : Int) (la : Option Addr) (ll lc : Nat) (h : Pair b w m r c x y d kind s v v2 xs) (hw : s.within n) :
    Calls Try.prog 14 #[.pointer (some ⟨m, 0, none⟩), .pointer (some ⟨x, 0, none⟩), .pointer (some ⟨r, 0, none⟩), .pointer (some ⟨y, 0, none⟩), .agg #[.bool other, .int .i64 6, .int .i64 i, .int .i64 xv, .int .i64 old, .slice la ll lc]] w fun e w' => e = .returned (.bool true) ∧ Did b w w' m r c x y d kind n v v2 xs := by
  obtain ⟨i0, hi0, hz0, hz1, hz2⟩ := info_parts Try.info2
  have hk0 := boxed w (.cells #[.bool other, .int .i64 6, .int .i64 i, .int .i64 xv, .int .i64 old, .slice la ll lc] 39)
  have h0 := h.calm hk0
  have hsm := h.r1.small
  go_enter Try.func14, Try.ntmps14
  go_wp2_with fail
  generalize w.alloc (.cells #[.bool other, .int .i64 6, .int .i64 i, .int .i64 xv, .int .i64 old, .slice la ll lc] 39) = w0 at *
  refine (all_any _ h0.r1).mono ?_
  rintro e w1 ⟨v1, rfl, ho1, k1⟩
  have h1 := h0.calm k1
  have c2 : w1.cell? ⟨y, 2, none⟩ = some (.slice (some ⟨d, 0, none⟩) xs.length xs.length) := cell_of_heap h1.r2.row
  obtain ⟨ga, ca, rfl, hga⟩ := owned_shape ho1
  have hsame := sameRow_true ga (some ⟨d, 0, none⟩) xs.length ca xs.length xs w1 (owned_ints ho1) (row_ints h1.r2) (by omega)
  go_wp2_with fail
  refine hsame.mono ?_
  rintro e w2 ⟨rfl, q, hq⟩
  have ho2 : w2.ownsRow w0.heap.size 2 1 (.slice ga xs.length ca) xs.length (xs.map (Value.int .i64)) := by rw [hq]; exact ownsRow_drewN ho1 q
  have k2 : Kept (fun k => w0.heap.size ≤ k) w0 w2 := by rw [hq]; exact (k1.mono (fun _ _ f => f.elim)).drewN q
  clear hq hsame c2 ho1 k1 h1
  have HD : Hid (∀ w', Kept (fun k => w0.heap.size ≤ k) w0 w' → Did b w w' m r c x y d kind n v v2 xs) := fun w' kw => by
    have kf : Kept (fun _ => False) w0 w' := kw.mono (fun i hi f => by omega)
    exact Did.before ⟨s, v, v2, xs, h0.calm kf, hw.more (Nat.le_succ _), rfl, Fresh.refl _ _, Fresh.refl _ _, kf.mono (fun _ _ f => f.elim)⟩ hk0
  generalize hN : xs.length = N at *
  generalize hH : w0.heap.size = H at *
  have HH : Hid (w0.heap.size = H) := hH
  clear hN hH h0 h hk0
  go_wp2_with fail
  go_loopw [29] (fun iv wr => ∃ (j : Nat) (ys : List Int), iv = .int .i64 j ∧ j ≤ N ∧ wr.ownsRow H 2 1 (.slice ga N ca) N (ys.map (Value.int .i64)) ∧ Kept (fun k => H ≤ k) w0 wr) (fun iv _ => N - (intOf iv).toNat)
  case atStart => exact ⟨0, xs, rfl, Nat.zero_le _, ho2, k2⟩
  case round =>
    obtain ⟨j, ys, rfl, hj, hor, hkr⟩ := hrel
    by_cases hlt : j < N
    · obtain ⟨g, rfl, hg1, hg2⟩ := hga (by omega)
      have cj := owned_cell hor hlt
      have fj : wr.frozen? ⟨g, j, none⟩ = false := hor.frozenAt j
      generalize ys.getD j 0 = z at cj
      have hi0' : (0 : Int) ≤ (j : Int) := Int.natCast_nonneg _
      have hi1' : (j : Int) < (N : Int) := by omega
      have HO : Hid (∀ X, (wr.setCell ⟨g, j, none⟩ (.int .i64 X)).ownsRow H 2 1 (.slice (some ⟨g, 0, none⟩) N ca) N ((ys.set j X).map (Value.int .i64)) ∧ Kept (fun k => H ≤ k) w0 (wr.setCell ⟨g, j, none⟩ (.int .i64 X))) := fun X => ⟨owned_set hor j X, hkr.setCell _ (.inl hg1)⟩
      clear hor hkr ho2 k2
      go_wp2
      go_roundw
      case rel => exact ⟨j + 1, _, by go_num, by omega, (HO.out _).1, (HO.out _).2⟩
      case measure => simp [intOf]; omega
    · have hbase : H ≤ wr.heap.size := by have := hkr.size; have := HH.out; omega
      clear ho2 k2
      go_wp2_with (at_builtin; refine wpList_append_own_at _ rfl (.tmp 211) (.tmp 212) 37 rfl H 2 i0 _ 1 8 Try.underlying37 hi0 hz0 hz1 hz2 rfl (by omega) (.slice ga N ca) N (ys.map (Value.int .i64)) rfl (hor.alloc _) ⟨wr.heap.size, 0, none⟩ 1 1 [.int .i64 5] rfl rfl (cell_one_new wr (.int .i64 5) 2) (by simp [Value.oneCell']) (by unfold maxLen; omega) (by omega) (by simp; omega) ?_; intro v' w3 hown' hgrow hnil hat)
      have kl : Kept (fun k => H ≤ k) w0 w3 := (hkr.alloc _).grown hgrow (fun k e => .inl (hor.lt k e).1)
      clear hgrow hown' hor hkr
      go_wp2
      go_ret
      exact ⟨rfl, HD.out _ kl⟩
end Go.Proofs.Ytebhjfoggogmaaa
