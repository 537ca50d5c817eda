/- One step of a script over a row and the document's: Begin, Load, Store, Trade, and a kind that does nothing: it answers true, and both sides stay alike. -/
import Derived.Test.YtebhjfoggogmaaaPair
namespace Go.Proofs.Ytebhjfoggogmaaa
open Go.RowKit
set_option linter.unusedVariables false
set_option linter.unusedSimpArgs false
attribute [local go_sem ↓] Go.wp_at_zero Go.wp_at_succ

def opVal (o : OpD) : Value := .agg #[.bool o.other, .int .i64 o.kind, .int .i64 o.i, .int .i64 o.x, .int .i64 o.old, .slice o.la o.ll o.lc]
def opCells (o : OpD) : Array Value := #[.bool o.other, .int .i64 o.kind, .int .i64 o.i, .int .i64 o.x, .int .i64 o.old, .slice o.la o.ll o.lc]

/-- The box stands behind a call on the code's side. -/
theorem box_left {b : Nat} {w w0 w1 : World} {m r c x y d B : Nat} {kind : Int} {s : Mt} {v v2 : Value} {xs : List Int} {o : Obj} (h : Pair b w m r c x y d kind s v v2 xs) (hB : B = w.heap.size) (hbox : w0.heap[B]? = some o) (k : Kept (rowFoot m c v) w0 w1) : w1.heap[B]? = some o := by
  refine (k.block B (lt_of_heap hbox) ?_).trans hbox
  have hh := h.m1.high
  rintro (f | f | f)
  · have := h.m1.low; omega
  · have := (h.m1.own.lt B f).2; omega
  · have := h.r1.cb; omega

set_option maxRecDepth 100000 in
set_option maxHeartbeats 1000000 in
theorem does_begin {b : Nat} {w : World} {m r c x y d : Nat} {kind : Int} {s : Mt} {v v2 : Value} {xs : List Int} {n : Nat} (other : Bool) (i xv old : Int) (la : Option Addr) (ll lc : Nat) (h : Pair b w m r c x y d kind s v v2 xs) (hw : s.within n) (hn : n ≤ 2199023255552) :
    Calls Try.prog 14 #[.pointer (some ⟨m, 0, none⟩), .pointer (some ⟨x, 0, none⟩), .pointer (some ⟨r, 0, none⟩), .pointer (some ⟨y, 0, none⟩), .agg #[.bool other, .int .i64 1, .int .i64 i, .int .i64 xv, .int .i64 old, .slice la ll lc]] w fun e w' => e = .returned (.bool true) ∧ Did b w w' m r c x y d kind n v v2 xs := by
  have hk0 := boxed w (.cells #[.bool other, .int .i64 1, .int .i64 i, .int .i64 xv, .int .i64 old, .slice la ll lc] 39)
  have h0 := h.calm hk0
  have hB := heap_alloc_new w (.cells #[.bool other, .int .i64 1, .int .i64 i, .int .i64 xv, .int .i64 old, .slice la ll lc] 39)
  go_enter Try.func14, Try.ntmps14
  go_wp2_with fail
  generalize w.alloc (.cells #[.bool other, .int .i64 1, .int .i64 i, .int .i64 xv, .int .i64 old, .slice la ll lc] 39) = w0 at *
  refine (begin_met i _ h0.m1 hw hn).mono ?_
  rintro e w1 ⟨rfl, hm1, k1⟩
  have kk1 : Kept (rowFoot m c v) w0 w1 := k1.mono (fun _ _ f => .inl f)
  have hB1 := box_left h rfl hB kk1
  have c2 : w1.cell? ⟨w.heap.size, 2, none⟩ = some (.int .i64 i) := cell_of_heap hB1
  have hl := h0.left kk1
  go_wp2_with fail
  refine (refBegin_met i _ hl.1 hw hn).mono ?_
  rintro e w2 ⟨rfl, hm2, k2⟩
  have kk2 : Kept (rowFoot x d v2) w1 w2 := k2.mono (fun _ _ f => .inl f)
  have hp := h0.both hm1 (h0.r1.kept k1 h0.r1.rm h0.r1.cm) (Fresh.refl _ _) kk1 hm2 (hl.2.kept k2 h0.r2.rm h0.r2.cm) (Fresh.refl _ _) kk2
  go_wp2
  go_ret
  exact ⟨rfl, Did.before ⟨_, _, _, _, hp.1, hw.start i, rfl, hp.2.1, hp.2.2.1, hp.2.2.2⟩ hk0⟩

set_option maxRecDepth 100000 in
set_option maxHeartbeats 1000000 in
theorem does_load {b : Nat} {w : World} {m r c x y d : Nat} {kind : Int} {s : Mt} {v v2 : Value} {xs : List Int} {n : Nat} (other : Bool) (i xv old : Int) (la : Option Addr) (ll lc : Nat) (h : Pair b w m r c x y d kind s v v2 xs) (hw : s.within n) (hn : n ≤ 2199023255552) :
    Calls Try.prog 14 #[.pointer (some ⟨m, 0, none⟩), .pointer (some ⟨x, 0, none⟩), .pointer (some ⟨r, 0, none⟩), .pointer (some ⟨y, 0, none⟩), .agg #[.bool other, .int .i64 2, .int .i64 i, .int .i64 xv, .int .i64 old, .slice la ll lc]] w fun e w' => e = .returned (.bool true) ∧ Did b w w' m r c x y d kind n v v2 xs := by
  have hk0 := boxed w (.cells #[.bool other, .int .i64 2, .int .i64 i, .int .i64 xv, .int .i64 old, .slice la ll lc] 39)
  have h0 := h.calm hk0
  have hB := heap_alloc_new w (.cells #[.bool other, .int .i64 2, .int .i64 i, .int .i64 xv, .int .i64 old, .slice la ll lc] 39)
  go_enter Try.func14, Try.ntmps14
  go_wp2_with fail
  generalize w.alloc (.cells #[.bool other, .int .i64 2, .int .i64 i, .int .i64 xv, .int .i64 old, .slice la ll lc] 39) = w0 at *
  refine (load_met i _ h0.m1 h0.r1 hw hn).mono ?_
  rintro e w1 ⟨rfl, v1, hm1, hr1, f1, k1⟩
  have hB1 := box_left h rfl hB k1
  have c2 : w1.cell? ⟨w.heap.size, 2, none⟩ = some (.int .i64 i) := cell_of_heap hB1
  have hl := h0.left k1
  go_wp2_with fail
  refine (refLoad_met i _ hl.1 hl.2 hw hn).mono ?_
  rintro e w2 ⟨rfl, v3, hm2, hr2, f2, k2⟩
  have hp := h0.both hm1 hr1 f1 k1 hm2 hr2 f2 k2
  generalize rowLoad xs i = ld
  generalize rowErr xs i = er
  have e1 : (ld == ld) = true := by simp
  have e2 : (er == er) = true := by simp
  go_wp2
  go_ret
  exact ⟨rfl, Did.before ⟨_, _, _, _, hp.1, rowNote_within hw _ _ _ _ _, rfl, hp.2.1, hp.2.2.1, hp.2.2.2⟩ hk0⟩

set_option maxRecDepth 100000 in
set_option maxHeartbeats 1000000 in
theorem does_store {b : Nat} {w : World} {m r c x y d : Nat} {kind : Int} {s : Mt} {v v2 : Value} {xs : List Int} {n : Nat} (other : Bool) (i xv old : Int) (la : Option Addr) (ll lc : Nat) (h : Pair b w m r c x y d kind s v v2 xs) (hw : s.within n) (hn : n ≤ 2199023255552) :
    Calls Try.prog 14 #[.pointer (some ⟨m, 0, none⟩), .pointer (some ⟨x, 0, none⟩), .pointer (some ⟨r, 0, none⟩), .pointer (some ⟨y, 0, none⟩), .agg #[.bool other, .int .i64 3, .int .i64 i, .int .i64 xv, .int .i64 old, .slice la ll lc]] w fun e w' => e = .returned (.bool true) ∧ Did b w w' m r c x y d kind n v v2 xs := by
  have hk0 := boxed w (.cells #[.bool other, .int .i64 3, .int .i64 i, .int .i64 xv, .int .i64 old, .slice la ll lc] 39)
  have h0 := h.calm hk0
  have hB := heap_alloc_new w (.cells #[.bool other, .int .i64 3, .int .i64 i, .int .i64 xv, .int .i64 old, .slice la ll lc] 39)
  go_enter Try.func14, Try.ntmps14
  go_wp2_with fail
  generalize w.alloc (.cells #[.bool other, .int .i64 3, .int .i64 i, .int .i64 xv, .int .i64 old, .slice la ll lc] 39) = w0 at *
  refine (store_met i xv _ h0.m1 h0.r1 hw hn).mono ?_
  rintro e w1 ⟨rfl, v1, hm1, hr1, f1, k1⟩
  have hB1 := box_left h rfl hB k1
  have c2 : w1.cell? ⟨w.heap.size, 2, none⟩ = some (.int .i64 i) := cell_of_heap hB1
  have c3 : w1.cell? ⟨w.heap.size, 3, none⟩ = some (.int .i64 xv) := cell_of_heap hB1
  have hl := h0.left k1
  go_wp2_with fail
  refine (refStore_met i xv _ hl.1 hl.2 hw hn).mono ?_
  rintro e w2 ⟨rfl, v3, hm2, hr2, f2, k2⟩
  have hp := h0.both hm1 hr1 f1 k1 hm2 hr2 f2 k2
  generalize rowErr xs i = er
  have e2 : (er == er) = true := by simp
  go_wp2
  go_ret
  exact ⟨rfl, Did.before ⟨_, _, _, _, hp.1, rowNote_within hw _ _ _ _ _, rowStore_length _ _ _, hp.2.1, hp.2.2.1, hp.2.2.2⟩ hk0⟩

set_option maxRecDepth 100000 in
set_option maxHeartbeats 1000000 in
theorem does_trade {b : Nat} {w : World} {m r c x y d : Nat} {kind : Int} {s : Mt} {v v2 : Value} {xs : List Int} {n : Nat} (other : Bool) (i xv old : Int) (la : Option Addr) (ll lc : Nat) (h : Pair b w m r c x y d kind s v v2 xs) (hw : s.within n) (hn : n ≤ 2199023255552) :
    Calls Try.prog 14 #[.pointer (some ⟨m, 0, none⟩), .pointer (some ⟨x, 0, none⟩), .pointer (some ⟨r, 0, none⟩), .pointer (some ⟨y, 0, none⟩), .agg #[.bool other, .int .i64 4, .int .i64 i, .int .i64 xv, .int .i64 old, .slice la ll lc]] w fun e w' => e = .returned (.bool true) ∧ Did b w w' m r c x y d kind n v v2 xs := by
  have hk0 := boxed w (.cells #[.bool other, .int .i64 4, .int .i64 i, .int .i64 xv, .int .i64 old, .slice la ll lc] 39)
  have h0 := h.calm hk0
  have hB := heap_alloc_new w (.cells #[.bool other, .int .i64 4, .int .i64 i, .int .i64 xv, .int .i64 old, .slice la ll lc] 39)
  go_enter Try.func14, Try.ntmps14
  go_wp2_with fail
  generalize w.alloc (.cells #[.bool other, .int .i64 4, .int .i64 i, .int .i64 xv, .int .i64 old, .slice la ll lc] 39) = w0 at *
  refine (trade_met i old xv _ h0.m1 h0.r1 hw hn).mono ?_
  rintro e w1 ⟨rfl, v1, hm1, hr1, f1, k1⟩
  have hB1 := box_left h rfl hB k1
  have c2 : w1.cell? ⟨w.heap.size, 2, none⟩ = some (.int .i64 i) := cell_of_heap hB1
  have c3 : w1.cell? ⟨w.heap.size, 3, none⟩ = some (.int .i64 xv) := cell_of_heap hB1
  have c4 : w1.cell? ⟨w.heap.size, 4, none⟩ = some (.int .i64 old) := cell_of_heap hB1
  have hl := h0.left k1
  go_wp2_with fail
  refine (refTrade_met i old xv _ hl.1 hl.2 hw hn).mono ?_
  rintro e w2 ⟨rfl, v3, hm2, hr2, f2, k2⟩
  have hp := h0.both hm1 hr1 f1 k1 hm2 hr2 f2 k2
  generalize rowLoad xs i = ld
  generalize rowErr xs i = er
  generalize rowHit xs i old = hi at *
  have e1 : (ld == ld) = true := by simp
  have e2 : (er == er) = true := by simp
  have e3 : (hi == hi) = true := by simp
  go_wp2
  go_ret
  exact ⟨rfl, Did.before ⟨_, _, _, _, hp.1, rowNote_within hw _ _ _ _ _, rowTrade_length _ _ _ _, hp.2.1, hp.2.2.1, hp.2.2.2⟩ hk0⟩

set_option maxRecDepth 100000 in
set_option maxHeartbeats 1000000 in
theorem does_none {b : Nat} {w : World} {m r c x y d : Nat} {kind : Int} {s : Mt} {v v2 : Value} {xs : List Int} {n : Nat} (other : Bool) (k i xv old : Int) (la : Option Addr) (ll lc : Nat) (h : Pair b w m r c x y d kind s v v2 xs) (hw : s.within n)
    (k1 : k ≠ 1) (k2 : k ≠ 2) (k3 : k ≠ 3) (k4 : k ≠ 4) (k5 : k ≠ 5) (k6 : k ≠ 6) :
    Calls Try.prog 14 #[.pointer (some ⟨m, 0, none⟩), .pointer (some ⟨x, 0, none⟩), .pointer (some ⟨r, 0, none⟩), .pointer (some ⟨y, 0, none⟩), .agg #[.bool other, .int .i64 k, .int .i64 i, .int .i64 xv, .int .i64 old, .slice la ll lc]] w fun e w' => e = .returned (.bool true) ∧ Did b w w' m r c x y d kind n v v2 xs := by
  have hk0 := boxed w (.cells #[.bool other, .int .i64 k, .int .i64 i, .int .i64 xv, .int .i64 old, .slice la ll lc] 39)
  have h0 := h.calm hk0
  have t1 : (k == 1) = false := by simp [k1]
  have t2 : (k == 2) = false := by simp [k2]
  have t3 : (k == 3) = false := by simp [k3]
  have t4 : (k == 4) = false := by simp [k4]
  have t5 : (k == 5) = false := by simp [k5]
  have t6 : (k == 6) = false := by simp [k6]
  clear k1 k2 k3 k4 k5 k6
  have HD : Hid (Did b w (w.alloc (.cells #[.bool other, .int .i64 k, .int .i64 i, .int .i64 xv, .int .i64 old, .slice la ll lc] 39)) m r c x y d kind n v v2 xs) :=
    ⟨s, v, v2, xs, h0, hw.more (Nat.le_succ _), rfl, Fresh.refl _ _, Fresh.refl _ _, hk0.mono (fun _ _ f => f.elim)⟩
  clear h h0 hk0
  go_enter Try.func14, Try.ntmps14
  go_wp2
  go_ret
  exact ⟨rfl, HD.out⟩
end Go.Proofs.Ytebhjfoggogmaaa
