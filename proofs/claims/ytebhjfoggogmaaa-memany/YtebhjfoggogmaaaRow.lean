/- What the code's rows of int64 do: has, Load, Store, each over whatever its meter's note does. -/
import Derived.Test.YtebhjfoggogmaaaProg
import Derived.Test.YtebhjfoggogmaaaKit
import Derived.Deep.RegionHeld3
import Derived.Deep.DrawnRows
import Derived.BigQuiet
namespace Go.Proofs.Ytebhjfoggogmaaa
open Go.RowKit
set_option linter.unusedVariables false
set_option linter.unusedSimpArgs false
attribute [local go_sem ↓] Go.wp_at_zero Go.wp_at_succ

set_option maxRecDepth 100000 in
theorem has_in (r : Nat) (mp kd : Value) (c n k : Nat) (cap : Nat) (w : World) (hr : w.heap[r]? = some (.cells #[mp, kd, .slice (some ⟨c, 0, none⟩) n cap] 81 (0, 0))) (hk : k < n) (hn : n ≤ 4096) :
    Calls Try.prog 41 #[.pointer (some ⟨r, 0, none⟩), .int .i64 k] w fun e w' => e = .returned (.bool true) ∧ w' = w := by
  have c2 : w.cell? ⟨r, 2, none⟩ = some (.slice (some ⟨c, 0, none⟩) n cap) := cell_of_heap hr
  have h0 : (0 : Int) ≤ (k : Int) := Int.natCast_nonneg _
  have h1 : (k : Int) < (n : Int) := by omega
  clear hr
  go_enter Try.func41, Try.ntmps41
  go_wp2
  go_ret
  exact ⟨rfl, rfl⟩

set_option maxRecDepth 100000 in
theorem has_out (r : Nat) (mp kd : Value) (c n : Nat) (i : Int) (cap : Nat) (w : World) (hr : w.heap[r]? = some (.cells #[mp, kd, .slice (some ⟨c, 0, none⟩) n cap] 81 (0, 0))) (hk : ¬ (0 ≤ i ∧ i < n)) (hn : n ≤ 4096) :
    Calls Try.prog 41 #[.pointer (some ⟨r, 0, none⟩), .int .i64 i] w fun e w' => e = .returned (.bool false) ∧ w' = w := by
  have c2 : w.cell? ⟨r, 2, none⟩ = some (.slice (some ⟨c, 0, none⟩) n cap) := cell_of_heap hr
  clear hr
  by_cases h0 : (0 : Int) ≤ i
  · have h1 : ¬ i < (n : Int) := by omega
    clear hk
    go_enter Try.func41, Try.ntmps41
    go_wp2
    go_ret
    exact ⟨rfl, rfl⟩
  · clear hk
    have hd : decide ((0 : Int) ≤ i) = false := by simpa using h0
    go_enter Try.func41, Try.ntmps41
    go_wp2
    go_ret
    exact ⟨rfl, rfl⟩

set_option maxRecDepth 100000 in
theorem load_out (r : Nat) (mp kd : Value) (c n : Nat) (i : Int) (cap : Nat) (w : World) (hr : w.heap[r]? = some (.cells #[mp, kd, .slice (some ⟨c, 0, none⟩) n cap] 81 (0, 0))) (hk : ¬ (0 ≤ i ∧ i < n)) (hn : n ≤ 4096) :
    Calls Try.prog 22 #[.pointer (some ⟨r, 0, none⟩), .int .i64 i] w fun e w' => e = .returned (.tuple #[.int .i64 0, .int .i64 2]) ∧ w' = w := by
  go_enter Try.func22, Try.ntmps22
  go_wp2_with (go_at_call 41; refine (has_out r mp kd c n i cap _ hr hk hn).mono ?_; rintro e w' ⟨rfl, rfl⟩)
  go_ret2
  exact ⟨rfl, rfl⟩

set_option maxRecDepth 100000 in
set_option maxHeartbeats 1000000 in
theorem load_in (r : Nat) (mp : Value) (kind : Int) (c n k cap : Nat) (xs : Array Value) (x : Value) (w : World) (hr : w.heap[r]? = some (.cells #[mp, .int .i64 kind, .slice (some ⟨c, 0, none⟩) n cap] 81 (0, 0)))
    (hc : w.heap[c]? = some (.cells xs 2 (0, 0))) (hk : k < n) (hn : n ≤ 4096) (hx : xs[k]? = some x) (R : World → Prop)
    (hR : ∀ w', R w' → w'.heap[r]? = some (.cells #[mp, .int .i64 kind, .slice (some ⟨c, 0, none⟩) n cap] 81 (0, 0)) ∧ w'.heap[c]? = some (.cells xs 2 (0, 0)))
    (hnote : Calls Try.prog 42 #[mp, .int .i64 kind, .int .i64 k, .int .i64 1, .bool true] w.drew fun e w' => e = .returned (.tuple #[]) ∧ R w') :
    Calls Try.prog 22 #[.pointer (some ⟨r, 0, none⟩), .int .i64 k] w fun e w' => e = .returned (.tuple #[x, .int .i64 0]) ∧ R w' := by
  have c0 : w.cell? ⟨r, 0, none⟩ = some mp := cell_of_heap hr
  have c1 : w.cell? ⟨r, 1, none⟩ = some (.int .i64 kind) := cell_of_heap hr
  have h0 : (0 : Int) ≤ (k : Int) := Int.natCast_nonneg _
  have h1 : (k : Int) < (n : Int) := by omega
  have HR : Hid (w.heap[r]? = some (.cells #[mp, .int .i64 kind, .slice (some ⟨c, 0, none⟩) n cap] 81 (0, 0))) := hr
  clear hr hc
  go_enter Try.func22, Try.ntmps22
  go_wp2_with (go_at_call 41; refine (has_in r mp _ c n k cap _ HR.out hk hn).mono ?_; rintro e w' ⟨rfl, rfl⟩)
  go_region_held3 (fun w' => w'.cell? ⟨r, 0, none⟩ = some mp ∧ w'.cell? ⟨r, 1, none⟩ = some (.int .i64 kind)) (first | go_keep | exact ⟨cell_of_heap hrr.out, cell_of_heap hrr.out⟩)
    (first | (go_at_call 42; refine hnote.mono ?_; rintro e w' ⟨rfl, hq⟩; have hrr : Hid (w'.heap[r]? = some (.cells #[mp, .int .i64 kind, .slice (some ⟨c, 0, none⟩) n cap] 81 (0, 0))) := (hR _ hq).1; have hcc : Hid (w'.heap[c]? = some (.cells xs 2 (0, 0))) := (hR _ hq).2))
  have e2 : w'.cell? ⟨r, 2, none⟩ = some (.slice (some ⟨c, 0, none⟩) n cap) := cell_of_heap hrr.out
  have ek : w'.cell? ⟨c, k, none⟩ = some x := (cell_of_heap hcc.out).trans hx
  go_wp2
  go_ret2
  exact ⟨rfl, hq⟩

set_option maxRecDepth 100000 in
theorem store_out (r : Nat) (mp kd : Value) (c n : Nat) (i x : Int) (cap : Nat) (w : World) (hr : w.heap[r]? = some (.cells #[mp, kd, .slice (some ⟨c, 0, none⟩) n cap] 81 (0, 0))) (hk : ¬ (0 ≤ i ∧ i < n)) (hn : n ≤ 4096) :
    Calls Try.prog 23 #[.pointer (some ⟨r, 0, none⟩), .int .i64 i, .int .i64 x] w fun e w' => e = .returned (.int .i64 2) ∧ w' = w := by
  go_enter Try.func23, Try.ntmps23
  go_wp2_with (go_at_call 41; refine (has_out r mp kd c n i cap _ hr hk hn).mono ?_; rintro e w' ⟨rfl, rfl⟩)
  go_ret
  exact ⟨rfl, rfl⟩

set_option maxRecDepth 100000 in
set_option maxHeartbeats 1000000 in
theorem store_in (r : Nat) (mp : Value) (kind : Int) (c n k cap : Nat) (xs : Array Value) (x : Int) (w : World) (hr : w.heap[r]? = some (.cells #[mp, .int .i64 kind, .slice (some ⟨c, 0, none⟩) n cap] 81 (0, 0)))
    (hk : k < n) (hn : n ≤ 4096) (hs : xs.size = n) (R : World → Prop)
    (hR : ∀ w', R w' → w'.heap[r]? = some (.cells #[mp, .int .i64 kind, .slice (some ⟨c, 0, none⟩) n cap] 81 (0, 0)) ∧ w'.heap[c]? = some (.cells xs 2 (0, 0)))
    (hnote : Calls Try.prog 42 #[mp, .int .i64 kind, .int .i64 k, .int .i64 2, .bool true] w.drew fun e w' => e = .returned (.tuple #[]) ∧ R w') :
    Calls Try.prog 23 #[.pointer (some ⟨r, 0, none⟩), .int .i64 k, .int .i64 x] w fun e w' => e = .returned (.int .i64 0) ∧ ∃ w1, R w1 ∧ w' = w1.setCell ⟨c, k, none⟩ (.int .i64 x) := by
  have c0 : w.cell? ⟨r, 0, none⟩ = some mp := cell_of_heap hr
  have c1 : w.cell? ⟨r, 1, none⟩ = some (.int .i64 kind) := cell_of_heap hr
  have h0 : (0 : Int) ≤ (k : Int) := Int.natCast_nonneg _
  have h1 : (k : Int) < (n : Int) := by omega
  have HR : Hid (w.heap[r]? = some (.cells #[mp, .int .i64 kind, .slice (some ⟨c, 0, none⟩) n cap] 81 (0, 0))) := hr
  have Hs : Hid (xs.size = n) := hs
  clear hr hs
  go_enter Try.func23, Try.ntmps23
  go_wp2_with (go_at_call 41; refine (has_in r mp _ c n k cap _ HR.out hk hn).mono ?_; rintro e w' ⟨rfl, rfl⟩)
  go_region_held3 (fun w' => w'.cell? ⟨r, 0, none⟩ = some mp ∧ w'.cell? ⟨r, 1, none⟩ = some (.int .i64 kind)) (first | go_keep | exact ⟨cell_of_heap hrr.out, cell_of_heap hrr.out⟩)
    (first | (go_at_call 42; refine hnote.mono ?_; rintro e w' ⟨rfl, hq⟩; have hrr : Hid (w'.heap[r]? = some (.cells #[mp, .int .i64 kind, .slice (some ⟨c, 0, none⟩) n cap] 81 (0, 0))) := (hR _ hq).1; have hcc : Hid (w'.heap[c]? = some (.cells xs 2 (0, 0))) := (hR _ hq).2))
  have e2 : w'.cell? ⟨r, 2, none⟩ = some (.slice (some ⟨c, 0, none⟩) n cap) := cell_of_heap hrr.out
  obtain ⟨y, hy⟩ : ∃ y, w'.cell? ⟨c, k, none⟩ = some y := ⟨_, (cell_of_heap hcc.out).trans (Array.getElem?_eq_getElem (by have := Hs.out; omega))⟩
  have fk : w'.frozen? ⟨c, k, none⟩ = false := frozen_of_heap hcc.out
  go_wp2
  go_ret
  exact ⟨rfl, w', hq, rfl⟩
end Go.Proofs.Ytebhjfoggogmaaa
