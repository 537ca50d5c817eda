/- What the code's Trade does, over whatever its meter's note does. -/
import Derived.Test.YtebhjfoggogmaaaRow
import Derived.Test.YtebhjfoggogmaaaSame
namespace Go.Proofs.Ytebhjfoggogmaaa
open Go.RowKit
set_option linter.unusedVariables false
set_option linter.unusedSimpArgs false
attribute [local go_sem ↓] Go.wp_at_zero Go.wp_at_succ

/-- The world behind a call of same. -/
def sameW (w : World) (b : Bool) : World := (w.alloc (.cells #[.bool false] 4)).setCell ⟨w.heap.size, 0, none⟩ (.bool b)
theorem sameW_kept (w : World) (b : Bool) : Kept (fun _ => False) w (sameW w b) := ((Kept.refl _ w).alloc _).setCell _ (.inr (Nat.le_refl _))
theorem sameW_old {w : World} {b : Bool} {k : Nat} {o : Obj} (h : w.heap[k]? = some o) : (sameW w b).heap[k]? = some o := ((sameW_kept w b).block k (lt_of_heap h) (fun f => f)).trans h
theorem same_w (a b : Int) (w : World) :
    Calls Try.prog 43 #[.int .i64 a, .int .i64 b] w fun e w' => e = .returned (.bool (a == b)) ∧ w' = sameW w (a == b) := same_any a b w

set_option maxRecDepth 100000 in
theorem trade_out (r : Nat) (mp kd : Value) (c n : Nat) (i old x : Int) (cap : Nat) (w : World) (hr : w.heap[r]? = some (.cells #[mp, kd, .slice (some ⟨c, 0, none⟩) n cap] 81 (0, 0))) (hk : ¬ (0 ≤ i ∧ i < n)) (hn : n ≤ 4096) :
    Calls Try.prog 24 #[.pointer (some ⟨r, 0, none⟩), .int .i64 i, .int .i64 old, .int .i64 x] w fun e w' => e = .returned (.tuple #[.int .i64 0, .bool false, .int .i64 2]) ∧ w' = w := by
  go_enter Try.func24, Try.ntmps24
  go_wp2_with (go_at_call 41; refine (has_out r mp kd c n i cap _ hr hk hn).mono ?_; rintro e w' ⟨rfl, rfl⟩)
  go_ret3
  exact ⟨rfl, rfl⟩

set_option maxRecDepth 100000 in
set_option maxHeartbeats 1000000 in
theorem trade_in (r : Nat) (mp : Value) (kind : Int) (c n k cap : Nat) (xs : Array Value) (y old x : Int) (b : Bool) (w : World) (hr : w.heap[r]? = some (.cells #[mp, .int .i64 kind, .slice (some ⟨c, 0, none⟩) n cap] 81 (0, 0)))
    (hc : w.heap[c]? = some (.cells xs 2 (0, 0))) (hk : k < n) (hn : n ≤ 4096) (hs : xs.size = n) (hy : xs[k]? = some (.int .i64 y)) (hb : (y == old) = b) (R : World → Prop)
    (hR : ∀ w', R w' → w'.heap[r]? = some (.cells #[mp, .int .i64 kind, .slice (some ⟨c, 0, none⟩) n cap] 81 (0, 0)) ∧ w'.heap[c]? = some (.cells xs 2 (0, 0)))
    (hnote : Calls Try.prog 42 #[mp, .int .i64 kind, .int .i64 k, .int .i64 3, .bool b] (sameW w b).drew fun e w' => e = .returned (.tuple #[]) ∧ R w') :
    Calls Try.prog 24 #[.pointer (some ⟨r, 0, none⟩), .int .i64 k, .int .i64 old, .int .i64 x] w fun e w' => e = .returned (.tuple #[.int .i64 y, .bool b, .int .i64 0]) ∧ ∃ w1, R w1 ∧ w' = if b then w1.setCell ⟨c, k, none⟩ (.int .i64 x) else w1 := by
  have h0 : (0 : Int) ≤ (k : Int) := Int.natCast_nonneg _
  have h1 : (k : Int) < (n : Int) := by omega
  have HR : Hid (w.heap[r]? = some (.cells #[mp, .int .i64 kind, .slice (some ⟨c, 0, none⟩) n cap] 81 (0, 0))) := hr
  have Hs : Hid (xs.size = n) := hs
  have c2 : w.cell? ⟨r, 2, none⟩ = some (.slice (some ⟨c, 0, none⟩) n cap) := cell_of_heap hr
  have ck : w.cell? ⟨c, k, none⟩ = some (.int .i64 y) := (cell_of_heap hc).trans hy
  have d0 : (sameW w b).cell? ⟨r, 0, none⟩ = some mp := cell_of_heap (sameW_old hr)
  have d1 : (sameW w b).cell? ⟨r, 1, none⟩ = some (.int .i64 kind) := cell_of_heap (sameW_old hr)
  have hsame : Calls Try.prog 43 #[.int .i64 y, .int .i64 old] w fun e w' => e = .returned (.bool b) ∧ w' = sameW w b := hb ▸ same_w y old w
  clear hr hs hc hb
  go_enter Try.func24, Try.ntmps24
  go_wp2_with (first | (go_at_call 41; refine (has_in r mp _ c n k cap _ HR.out hk hn).mono ?_; rintro e w' ⟨rfl, rfl⟩) | (go_at_call 43; refine hsame.mono ?_; rintro e w' ⟨rfl, rfl⟩))
  go_region_held3 (fun w' => w'.cell? ⟨r, 0, none⟩ = some mp ∧ w'.cell? ⟨r, 1, none⟩ = some (.int .i64 kind)) (first | go_keep | exact ⟨cell_of_heap hrr.out, cell_of_heap hrr.out⟩)
    (first | (go_at_call 42; refine hnote.mono ?_; rintro e w' ⟨rfl, hq⟩; have hrr : Hid (w'.heap[r]? = some (.cells #[mp, .int .i64 kind, .slice (some ⟨c, 0, none⟩) n cap] 81 (0, 0))) := (hR _ hq).1; have hcc : Hid (w'.heap[c]? = some (.cells xs 2 (0, 0))) := (hR _ hq).2))
  have e2 : w'.cell? ⟨r, 2, none⟩ = some (.slice (some ⟨c, 0, none⟩) n cap) := cell_of_heap hrr.out
  obtain ⟨y', hy'⟩ : ∃ y, w'.cell? ⟨c, k, none⟩ = some y := ⟨_, (cell_of_heap hcc.out).trans (Array.getElem?_eq_getElem (by have := Hs.out; omega))⟩
  have fk : w'.frozen? ⟨c, k, none⟩ = false := frozen_of_heap hcc.out
  cases b
  · go_wp2
    go_ret3
    simpa using hq
  · go_wp2
    go_ret3
    exact ⟨rfl, w', hq, rfl⟩
end Go.Proofs.Ytebhjfoggogmaaa
