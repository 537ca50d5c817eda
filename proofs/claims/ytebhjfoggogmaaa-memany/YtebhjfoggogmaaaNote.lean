/- What the code's note does to a meter: it counts one access more, and notes it behind the others. -/
import Derived.Test.YtebhjfoggogmaaaProg
import Derived.Test.YtebhjfoggogmaaaKit
import Derived.Deep.RegionHeld3
import Derived.Deep.DrawnRows
import Derived.RegionTactic
import Derived.ChangeAlike
import Derived.BigRegion
import Derived.Deep.RegionLaw
namespace Go.Proofs.Ytebhjfoggogmaaa
open Go.RowKit
set_option linter.unusedVariables false
set_option linter.unusedSimpArgs false
attribute [local go_sem ↓] Go.wp_at_zero Go.wp_at_succ

theorem Try.info50 : (Try.prog.info? 50).map (fun i => (i.zero, i.size, i.bytes)) = some (some (.agg #[.int .i64 0, .int .i64 0, .int .i64 0, .int .i64 0, .int .i64 0, .bool false]), 6, 48) := by kernel_rfl

theorem note_last {b : Nat} {w w2 w1 : World} {m g cap : Nat} {st th dn mo : Int} {a : Acc} {v : Value} {l : List Acc} {o : Obj} 
    (hm : w2.heap[m]? = some (.cells #[.int .i64 st, .int .i64 th, .int .i64 dn, .int .i64 mo, v] 79 (0, 0))) (hlow : m < b) (hhigh : b ≤ w.heap.size) (hk : Kept (fun k => k = m ∨ v.ownBlock = some k) w w2) (hs : w2.heap.size = w.heap.size)
    (hown1 : w1.ownsRow b 50 6 (.slice (some ⟨g, 0, none⟩) (l.length + 1) cap) (l.length + 1) (logCells l ++ a.cells))
    (hgrow : ((w2.alloc o).drew).grownBy w1 v.ownBlock) (hat : v.ownBlock = some g ∨ g = w2.heap.size + 1) (hvm : v.ownBlock ≠ some m) :
    MeterAt 79 50 b (w1.setCell ⟨m, 4, none⟩ (.slice (some ⟨g, 0, none⟩) (l.length + 1) cap)) m st th dn mo (.slice (some ⟨g, 0, none⟩) (l.length + 1) cap) (l ++ [a]) ∧
      Fresh w v (.slice (some ⟨g, 0, none⟩) (l.length + 1) cap) ∧ Kept (fun k => k = m ∨ v.ownBlock = some k) w (w1.setCell ⟨m, 4, none⟩ (.slice (some ⟨g, 0, none⟩) (l.length + 1) cap)) := by
  obtain ⟨h1, h2, h3⟩ := note_end o hlow hhigh hm hk hs hown1 hgrow hat hvm
  refine ⟨h1, ?_, h3⟩
  rcases h2 with h | h
  · exact .inl h.symm
  · exact .inr ⟨g, rfl, h⟩

set_option maxRecDepth 100000 in
set_option maxHeartbeats 2000000 in
theorem note_any (b m : Nat) (st th dn mo kind at_ op : Int) (ok : Bool) (v : Value) (l : List Acc) (w : World)
    (h : MeterAt 79 50 b w m st th dn mo v l) (hdn : 0 ≤ dn) (hdn' : dn < 4611686018427387904) (hb : (l.length + 1) * 48 ≤ 140737488355328) :
    Calls Try.prog 42 #[.pointer (some ⟨m, 0, none⟩), .int .i64 kind, .int .i64 at_, .int .i64 op, .bool ok] w fun e w' => e = .returned (.tuple #[]) ∧
      ∃ g cap, MeterAt 79 50 b w' m st th (dn + 1) (max mo (dn + 1)) (.slice (some ⟨g, 0, none⟩) (l.length + 1) cap) (l ++ [⟨st, th, kind, at_, op, ok⟩]) ∧
        Fresh w v (.slice (some ⟨g, 0, none⟩) (l.length + 1) cap) ∧ Kept (fun k => k = m ∨ v.ownBlock = some k) w w' := by
  obtain ⟨i0, hi0, hz0, hz1, hz2⟩ := info_parts Try.info50
  have hvm : v.ownBlock ≠ some m := h.apart h.low
  obtain ⟨hm, hown, hlow, hhigh⟩ := h
  have c0 : w.cell? ⟨m, 0, none⟩ = some (.int .i64 st) := cell_of_heap hm
  have c1 : w.cell? ⟨m, 1, none⟩ = some (.int .i64 th) := cell_of_heap hm
  have c2 : w.cell? ⟨m, 2, none⟩ = some (.int .i64 dn) := cell_of_heap hm
  have c3 : w.cell? ⟨m, 3, none⟩ = some (.int .i64 mo) := cell_of_heap hm
  have c4 : w.cell? ⟨m, 4, none⟩ = some v := cell_of_heap hm
  have f2 : w.frozen? ⟨m, 2, none⟩ = false := frozen_of_heap hm
  have f3 : w.frozen? ⟨m, 3, none⟩ = false := frozen_of_heap hm
  have hmx : ∃ M, max mo (dn + 1) = M := ⟨_, rfl⟩
  obtain ⟨M, HM⟩ := hmx
  rw [HM]
  have HW : ∀ w2, w2 = ((w.setCell ⟨m, 2, none⟩ (.int .i64 (dn + 1))).setCell ⟨m, 3, none⟩ (.int .i64 M)).drew → w2.heap[m]? = some (.cells #[.int .i64 st, .int .i64 th, .int .i64 (dn + 1), .int .i64 M, v] 79 (0, 0)) ∧ w2.ownsRow b 50 6 v l.length (logCells l) ∧ Kept (fun k => k = m ∨ v.ownBlock = some k) w w2 ∧ w2.heap.size = w.heap.size := by
    rintro w2 rfl
    refine ⟨?_, (ownsRow_setCell_far (ownsRow_setCell_far hown hvm _) hvm _).drew, (((Kept.refl _ w).setCell _ (.inl (.inl rfl))).setCell _ (.inl (.inl rfl))).drew, by simp [World.drew, World.setCell]⟩
    show ((w.setCell ⟨m, 2, none⟩ (.int .i64 (dn + 1))).setCell ⟨m, 3, none⟩ (.int .i64 M)).heap[m]? = _
    rw [heap_setCell_at (heap_setCell_at hm _) _]
    rfl
  have HH := HW
  clear HW hm
  go_enter Try.func42, Try.ntmps42
  go_wp2
  go_region
  all_goals go_wp2_with fail
  · obtain rfl : dn + 1 = M := by omega
    have hh := HH _ rfl
    clear HH
    generalize ((w.setCell ⟨m, 2, none⟩ (.int .i64 (dn + 1))).setCell ⟨m, 3, none⟩ (.int .i64 (dn + 1))).drew = w2 at hh ⊢
    obtain ⟨hm, hown2, hk, hsz⟩ := hh
    clear c0 c1 c2 c3 c4 f2 f3 hown
    have d0 : w2.cell? ⟨m, 0, none⟩ = some (.int .i64 st) := cell_of_heap hm
    have d1 : w2.cell? ⟨m, 1, none⟩ = some (.int .i64 th) := cell_of_heap hm
    have d4 : w2.cell? ⟨m, 4, none⟩ = some v := cell_of_heap hm
    have f4 : w2.frozen? ⟨m, 4, none⟩ = false := frozen_of_heap hm
    have fA : ∀ c t, (w2.alloc (.cells c t)).frozen? ⟨m, 4, none⟩ = false := fun c t => by rw [frozen?_alloc_cells]; exact f4
    have lm := lt_of_heap hm
    have HM2 : Hid (w2.heap[m]? = some (.cells #[.int .i64 st, .int .i64 th, .int .i64 (dn + 1), .int .i64 (dn + 1), v] 79 (0, 0))) := hm
    have HS : Hid (w2.heap.size = w.heap.size) := hsz
    clear hm hsz
    go_region_law
      ((refine step_append_lies _ (by rfl) _ _ _ (by rfl) b 50 i0 _ 6 48 Try.underlying32 hi0 hz0 hz1 hz2 rfl (by omega) v l.length (logCells l) (by rfl) ((hown2.alloc _).drew)
          ⟨w2.heap.size, 0, none⟩ 1 1 (Acc.cells ⟨st, th, kind, at_, op, ok⟩) (by rfl) (by rfl) (World.news_of_block (cs := #[.int .i64 st, .int .i64 th, .int .i64 kind, .int .i64 at_, .int .i64 op, .bool ok]) (t := 50) (fr := (0, 0)) (heap_alloc_new w2 _)) (by simp [Value.oneCell', Acc.cells])
          (by omega) (by unfold maxLen; omega) hb (by have := HS.out; simp; omega) (w2.heap.size + 1) (by simp) ?_; intro g cap w1 hown1 hgrow hat hlt
        have e4 : w1.cell? ⟨m, 4, none⟩ = some v := cell_of_heap ((grown_block lm hgrow hvm).trans HM2.out)
        have ef4 : w1.frozen? ⟨m, 4, none⟩ = false := frozen_of_heap ((grown_block lm hgrow hvm).trans HM2.out)))
    all_goals (go_wp2; go_end0; exact ⟨rfl, _, _, note_last HM2.out hlow hhigh hk HS.out hown1 hgrow hat hvm⟩)
  · obtain rfl : mo = M := by omega
    have hh := HH _ rfl
    clear HH
    generalize ((w.setCell ⟨m, 2, none⟩ (.int .i64 (dn + 1))).setCell ⟨m, 3, none⟩ (.int .i64 mo)).drew = w2 at hh ⊢
    obtain ⟨hm, hown2, hk, hsz⟩ := hh
    clear c0 c1 c2 c3 c4 f2 f3 hown
    have d0 : w2.cell? ⟨m, 0, none⟩ = some (.int .i64 st) := cell_of_heap hm
    have d1 : w2.cell? ⟨m, 1, none⟩ = some (.int .i64 th) := cell_of_heap hm
    have d4 : w2.cell? ⟨m, 4, none⟩ = some v := cell_of_heap hm
    have f4 : w2.frozen? ⟨m, 4, none⟩ = false := frozen_of_heap hm
    have fA : ∀ c t, (w2.alloc (.cells c t)).frozen? ⟨m, 4, none⟩ = false := fun c t => by rw [frozen?_alloc_cells]; exact f4
    have lm := lt_of_heap hm
    have HM2 : Hid (w2.heap[m]? = some (.cells #[.int .i64 st, .int .i64 th, .int .i64 (dn + 1), .int .i64 mo, v] 79 (0, 0))) := hm
    have HS : Hid (w2.heap.size = w.heap.size) := hsz
    clear hm hsz
    go_region_law
      ((refine step_append_lies _ (by rfl) _ _ _ (by rfl) b 50 i0 _ 6 48 Try.underlying32 hi0 hz0 hz1 hz2 rfl (by omega) v l.length (logCells l) (by rfl) ((hown2.alloc _).drew)
          ⟨w2.heap.size, 0, none⟩ 1 1 (Acc.cells ⟨st, th, kind, at_, op, ok⟩) (by rfl) (by rfl) (World.news_of_block (cs := #[.int .i64 st, .int .i64 th, .int .i64 kind, .int .i64 at_, .int .i64 op, .bool ok]) (t := 50) (fr := (0, 0)) (heap_alloc_new w2 _)) (by simp [Value.oneCell', Acc.cells])
          (by omega) (by unfold maxLen; omega) hb (by have := HS.out; simp; omega) (w2.heap.size + 1) (by simp) ?_; intro g cap w1 hown1 hgrow hat hlt
        have e4 : w1.cell? ⟨m, 4, none⟩ = some v := cell_of_heap ((grown_block lm hgrow hvm).trans HM2.out)
        have ef4 : w1.frozen? ⟨m, 4, none⟩ = false := frozen_of_heap ((grown_block lm hgrow hvm).trans HM2.out)))
    all_goals (go_wp2; go_end0; exact ⟨rfl, _, _, note_last HM2.out hlow hhigh hk HS.out hown1 hgrow hat hvm⟩)
end Go.Proofs.Ytebhjfoggogmaaa
