/- A list lent with marks behind it, and looked at again: lent, whole. -/
import Derived.Test.YtbbllmhnhhbpiaaDoorLists
namespace Go.Proofs.YtbbllmhnhhbpiaaDoor
open Go.RowKit
set_option linter.unusedVariables false
set_option linter.unusedSimpArgs false

theorem ListAt.kept {w w' : World} {la : Option Addr} {ll lc : Nat} {zs : List Int} (h : ListAt w la ll lc zs) (k : Kept (fun _ => False) w w') : ListAt w' la ll lc zs :=
  h.below (k.below (Nat.le_refl _) (fun _ _ f => f)) (Nat.le_refl _)

set_option maxRecDepth 100000 in
set_option maxHeartbeats 1000000 in
theorem lent_any (la : Option Addr) (n lc : Nat) (zs : List Int) (w : World) (hL : ListAt w la n lc zs) :
    Calls Tryd.prog 12 #[.slice la n lc] w fun e w' => ∃ g cap, e = .returned (.slice (some ⟨g, 0, none⟩) n cap) ∧ w'.ownsRow w.heap.size 3 1 (.slice (some ⟨g, 0, none⟩) (n + 2) cap) (n + 2) ((zs ++ [991, 992]).map (Value.int .i64)) ∧ Kept (fun _ => False) w w' := by
  obtain ⟨i0, hi0, hz0, hz1, hz2⟩ := info_parts Tryd.info3
  obtain ⟨hI0, hll, hlb⟩ := list_ints hL
  have HLL : Hid (n = zs.length) := hll
  have k0 : Kept (fun _ => False) w (w.alloc (.cells #[] 3)) := (Kept.refl _ w).alloc _
  have hL1 := hL.kept k0
  have hown0 := World.ownsRow_made (base := w.heap.size) (e := 3) (size := 1) w #[] 0 (Nat.le_refl _) (Nat.zero_le _) rfl
  have hsm : n ≤ 17592186044414 := by omega
  clear hll hI0 hlb hL
  go_enter Tryd.func12, Tryd.ntmps12
  go_wp2_with (first | (at_builtin; refine wpList_append_list _ rfl (.tmp 4) (.tmp 5) 27 rfl w.heap.size i0 _ Tryd.underlying27 hi0 hz0 hz1 hz2 rfl (.slice (some ⟨w.heap.size, 0, none⟩) 0 0) 0 [] rfl hown0 la n lc zs rfl hL1 (by omega) (by simp) ?_; intro v1 w1 ho1 hg1; simp only [Nat.zero_add, List.nil_append] at ho1; have hs1 : w.heap.size ≤ w1.heap.size := (by have := hg1.size; simp at this; omega)) | (at_builtin; refine wpList_append_lies _ rfl (.tmp 7) (.tmp 8) 27 rfl w.heap.size 3 i0 _ 1 8 Tryd.underlying27 hi0 hz0 hz1 hz2 rfl (by omega) v1 n (zs.map (Value.int .i64)) rfl (ho1.alloc _) ⟨w1.heap.size, 0, none⟩ 2 2 [.int .i64 991, .int .i64 992] rfl rfl (World.news_of_block (cs := #[.int .i64 991, .int .i64 992]) (t := 3) (fr := (0, 0)) (heap_alloc_new w1 _)) (by simp [Value.oneCell']) (by omega) (by unfold maxLen; omega) (by omega) (by simp; omega) (w1.heap.size + 1) (by simp) ?_; intro g cap w2 ho2 hg2 ha2 hl2; have hcap := (owned_cap ho2).1; have hc1 : (n : Int) ≤ (cap : Int) := (by omega)))
  go_ret
  refine ⟨g, cap, rfl, by simpa using ho2, ?_⟩
  exact ((k0.grown hg1 (fun k e => .inr (by simp [Value.ownBlock] at e; omega))).alloc _).grown hg2 (fun k e => .inr (ho1.lt k e).1)

set_option maxRecDepth 100000 in
set_option maxHeartbeats 1000000 in
theorem whole_true (base g cap : Nat) (la : Option Addr) (n lc : Nat) (zs : List Int) (w : World) (hL : IntsIn w la n zs) (hn : n ≤ 17592186044414)
    (ho : w.ownsRow base 3 1 (.slice (some ⟨g, 0, none⟩) (n + 2) cap) (n + 2) ((zs ++ [991, 992]).map (Value.int .i64))) :
    Calls Tryd.prog 17 #[.slice (some ⟨g, 0, none⟩) n cap, .slice la n lc] w fun e w' => e = .returned (.bool true) ∧ Kept (fun _ => False) w w' := by
  have HLL : Hid (n = zs.length) := hL.1
  have hcap := (owned_cap ho).1
  have cg0 : w.cell? ⟨g, n, none⟩ = some (.int .i64 991) := by
    rw [owned_cell ho (by omega)]
    simp [HLL.out]
  have cg1 : w.cell? ⟨g, n + 1, none⟩ = some (.int .i64 992) := by
    rw [owned_cell ho (by omega)]
    simp [HLL.out]
  have hIg : IntsIn w (some ⟨g, 0, none⟩) n zs := by
    refine ⟨HLL.out, fun h0 => ⟨g, 0, rfl, fun j hj => ?_⟩⟩
    rw [Nat.zero_add, owned_cell ho (by omega)]
    have := HLL.out
    simp [List.getElem?_append_left (show j < zs.length by omega)]
  have hS := sameInts_true _ _ n cap lc zs w hIg hL (by omega)
  clear ho hIg hL
  have hl0 : (0 : Int) ≤ (n : Int) := Int.natCast_nonneg _
  have hl1 : (n : Int) < (n : Int) + 2 := by omega
  have hl3 : (n : Int) + 1 < (n : Int) + 2 := by omega
  have hl4 : (n : Int) + 2 ≤ (cap : Int) := by omega
  go_enter Tryd.func17, Tryd.ntmps17
  go_wp2_with fail
  refine hS.mono ?_
  rintro e w1 ⟨rfl, k, rfl⟩
  go_wp2
  go_ret
  exact ⟨rfl, (Kept.refl _ w).drewN k⟩
end Go.Proofs.YtbbllmhnhhbpiaaDoor
