/- What the code's note does to a meter: it counts one access more, and notes it behind the others. -/
import Derived.Test.YthbcbjkgjgmegaaGreatSmall
namespace Go.Proofs.YthbcbjkgjgmegaaGreat
open Go.RowKit
set_option linter.unusedVariables false
set_option linter.unusedSimpArgs false
attribute [local go_sem ↓] Go.wp_at_zero Go.wp_at_succ

set_option maxRecDepth 100000 in
set_option maxHeartbeats 2000000 in
theorem note_any (m : Nat) (st th dn mo kind at_ op : Int) (ok : Bool) (v : Value) (l : List Acc) (w : World)
    (h : MeterAt 174 391 w m st th dn mo v l) (hdn : 0 ≤ dn) (hdn' : dn < 4611686018427387904) (hb : l.length ≤ 4611686018427) :
    Calls Tryz.prog 306 #[.pointer (some ⟨m, 0, none⟩), .int .i64 kind, .int .i64 at_, .int .i64 op, .bool ok] w fun e w' => e = .returned (.tuple #[]) ∧
      ∃ g cap, MeterAt 174 391 w' m st th (dn + 1) (max mo (dn + 1)) (.slice (some ⟨g, 0, none⟩) (l.length + 1) cap) (l ++ [⟨st, th, kind, at_, op, ok⟩]) ∧
        Fresh w v (.slice (some ⟨g, 0, none⟩) (l.length + 1) cap) ∧ Kept (fun k => k = m ∨ v.ownBlock = some k) w w' := by
  obtain ⟨i0, hi0, hz0, hz1, hz2⟩ := info_parts Tryz.infoAcc
  have hvm : v.ownBlock ≠ some m := h.apart
  obtain ⟨hm, hown, _⟩ := h
  have c0 : w.cell? ⟨m, 0, none⟩ = some (.int .i64 st) := cell_of_heap hm
  have c1 : w.cell? ⟨m, 1, none⟩ = some (.int .i64 th) := cell_of_heap hm
  have c2 : w.cell? ⟨m, 2, none⟩ = some (.int .i64 dn) := cell_of_heap hm
  have c3 : w.cell? ⟨m, 3, none⟩ = some (.int .i64 mo) := cell_of_heap hm
  have c4 : w.cell? ⟨m, 4, none⟩ = some v := cell_of_heap hm
  have f2 : w.frozen? ⟨m, 2, none⟩ = false := frozen_of_heap hm
  have f3 : w.frozen? ⟨m, 3, none⟩ = false := frozen_of_heap hm
  have hmx : ∃ M, max mo (dn + 1) = M := ⟨_, rfl⟩
  obtain ⟨M, HM⟩ := hmx
  rw [HM]
  have HW : ∀ w2, w2 = ((w.setCell ⟨m, 2, none⟩ (.int .i64 (dn + 1))).setCell ⟨m, 3, none⟩ (.int .i64 M)).drew → w2.heap[m]? = some (.cells #[.int .i64 st, .int .i64 th, .int .i64 (dn + 1), .int .i64 M, v] 174 (0, 0)) ∧ w2.ownsRow 0 391 6 v l.length (logCells l) ∧ Kept (fun k => k = m ∨ v.ownBlock = some k) w w2 ∧ w2.heap.size = w.heap.size := by
    rintro w2 rfl
    refine ⟨?_, (ownsRow_setCell_far (ownsRow_setCell_far hown hvm _) hvm _).drew, (((Kept.refl _ w).setCell _ (.inl (.inl rfl))).setCell _ (.inl (.inl rfl))).drew, by simp [World.drew, World.setCell]⟩
    show ((w.setCell ⟨m, 2, none⟩ (.int .i64 (dn + 1))).setCell ⟨m, 3, none⟩ (.int .i64 M)).heap[m]? = _
    rw [heap_setCell_at (heap_setCell_at hm _) _]
    rfl
  have HH := HW
  clear HW hm
  go_enter Tryz.func306, Tryz.ntmps306
  go_wp2
  go_region
  all_goals go_wp2_with fail
  · obtain rfl : dn + 1 = M := by omega
    have hh := HH _ rfl
    clear HH
    generalize ((w.setCell ⟨m, 2, none⟩ (.int .i64 (dn + 1))).setCell ⟨m, 3, none⟩ (.int .i64 (dn + 1))).drew = w2 at hh ⊢
    obtain ⟨hm, hown2, hk, hsz⟩ := hh
    clear c0 c1 c2 c3 c4 f2 f3 hown
    have d0 : w2.cell? ⟨m, 0, none⟩ = some (.int .i64 st) := cell_of_heap hm
    have d1 : w2.cell? ⟨m, 1, none⟩ = some (.int .i64 th) := cell_of_heap hm
    have d4 : w2.cell? ⟨m, 4, none⟩ = some v := cell_of_heap hm
    have f4 : w2.frozen? ⟨m, 4, none⟩ = false := frozen_of_heap hm
    have fA : ∀ c t, (w2.alloc (.cells c t)).frozen? ⟨m, 4, none⟩ = false := fun c t => by rw [frozen?_alloc_cells]; exact f4
    have lm := lt_of_heap hm
    have HM2 : Hid (w2.heap[m]? = some (.cells #[.int .i64 st, .int .i64 th, .int .i64 (dn + 1), .int .i64 (dn + 1), v] 174 (0, 0))) := hm
    have HS : Hid (w2.heap.size = w.heap.size) := hsz
    clear hm hsz
    go_region_law
      ((refine step_append_one (news := (Acc.cells ⟨st, th, kind, at_, op, ok⟩)) (xs := logCells l) (n := l.length) (size := 6) (bytes := 48) (base := 0) (by rfl) _ _ _ (by rfl) i0 Tryz.underlying172 hi0 hz0 hz1 hz2 rfl (by omega) v (by rfl) ((hown2.alloc _).drew)
          ⟨w2.heap.size, 0, none⟩ 1 (by rfl) (by rfl) (World.news_of_block (cs := #[.int .i64 st, .int .i64 th, .int .i64 kind, .int .i64 at_, .int .i64 op, .bool ok]) (t := 391) (fr := (0, 0)) (heap_alloc_new w2 _)) (by simp [Value.oneCell', Acc.cells])
          (by unfold maxLen; omega) (by omega) (Nat.zero_le _) (w2.heap.size + 1) (by simp) ?_; intro g cap w1 hown1 hgrow hat hlt
        have e4 : w1.cell? ⟨m, 4, none⟩ = some v := cell_of_heap ((grown_block lm hgrow hvm).trans HM2.out)
        have ef4 : w1.frozen? ⟨m, 4, none⟩ = false := frozen_of_heap ((grown_block lm hgrow hvm).trans HM2.out)))
    all_goals (go_wp2; go_end0; exact ⟨rfl, _, _, note_end HM2.out hk HS.out hown1 hgrow hat hvm⟩)
  · obtain rfl : mo = M := by omega
    have hh := HH _ rfl
    clear HH
    generalize ((w.setCell ⟨m, 2, none⟩ (.int .i64 (dn + 1))).setCell ⟨m, 3, none⟩ (.int .i64 mo)).drew = w2 at hh ⊢
    obtain ⟨hm, hown2, hk, hsz⟩ := hh
    clear c0 c1 c2 c3 c4 f2 f3 hown
    have d0 : w2.cell? ⟨m, 0, none⟩ = some (.int .i64 st) := cell_of_heap hm
    have d1 : w2.cell? ⟨m, 1, none⟩ = some (.int .i64 th) := cell_of_heap hm
    have d4 : w2.cell? ⟨m, 4, none⟩ = some v := cell_of_heap hm
    have f4 : w2.frozen? ⟨m, 4, none⟩ = false := frozen_of_heap hm
    have fA : ∀ c t, (w2.alloc (.cells c t)).frozen? ⟨m, 4, none⟩ = false := fun c t => by rw [frozen?_alloc_cells]; exact f4
    have lm := lt_of_heap hm
    have HM2 : Hid (w2.heap[m]? = some (.cells #[.int .i64 st, .int .i64 th, .int .i64 (dn + 1), .int .i64 mo, v] 174 (0, 0))) := hm
    have HS : Hid (w2.heap.size = w.heap.size) := hsz
    clear hm hsz
    go_region_law
      ((refine step_append_one (news := (Acc.cells ⟨st, th, kind, at_, op, ok⟩)) (xs := logCells l) (n := l.length) (size := 6) (bytes := 48) (base := 0) (by rfl) _ _ _ (by rfl) i0 Tryz.underlying172 hi0 hz0 hz1 hz2 rfl (by omega) v (by rfl) ((hown2.alloc _).drew)
          ⟨w2.heap.size, 0, none⟩ 1 (by rfl) (by rfl) (World.news_of_block (cs := #[.int .i64 st, .int .i64 th, .int .i64 kind, .int .i64 at_, .int .i64 op, .bool ok]) (t := 391) (fr := (0, 0)) (heap_alloc_new w2 _)) (by simp [Value.oneCell', Acc.cells])
          (by unfold maxLen; omega) (by omega) (Nat.zero_le _) (w2.heap.size + 1) (by simp) ?_; intro g cap w1 hown1 hgrow hat hlt
        have e4 : w1.cell? ⟨m, 4, none⟩ = some v := cell_of_heap ((grown_block lm hgrow hvm).trans HM2.out)
        have ef4 : w1.frozen? ⟨m, 4, none⟩ = false := frozen_of_heap ((grown_block lm hgrow hvm).trans HM2.out)))
    all_goals (go_wp2; go_end0; exact ⟨rfl, _, _, note_end HM2.out hk HS.out hown1 hgrow hat hvm⟩)

theorem note_nil (a b c : Int) (d : Bool) (w : World) : Calls Tryz.prog 306 #[.pointer none, .int .i64 a, .int .i64 b, .int .i64 c, .bool d] w fun e w' => e = .returned (.tuple #[]) ∧ w' = w := by
  go_enter Tryz.func306, Tryz.ntmps306
  go_wp2
  first | go_end0 | refine bodyPost_ret (results_none rfl _ _ _) rfl ?_
  exact ⟨rfl, rfl⟩

theorem note_st {o w : World} {its : List It} (h : St o its w) (i : Nat) {mo : Option Nat} {s : Mt} {v : Value} (hi : its[i]? = some (meterI 174 mo s v)) {n : Nat} (hw : s.within n) (hn : n ≤ 4611686018427) (kind at_ op : Int) (ok : Bool) :
    Calls Tryz.prog 306 #[mptr mo, .int .i64 kind, .int .i64 at_, .int .i64 op, .bool ok] w fun e w' => e = .returned (.tuple #[]) ∧ ∃ v', St o (its.set i (meterI 174 mo (s.note kind at_ op ok) v')) w' := by
  cases mo with
  | none =>
    refine (note_nil kind at_ op ok w).mono ?_
    rintro e w' ⟨he, rfl⟩
    refine ⟨he, v, ?_⟩
    have : its.set i (meterI 174 none (s.note kind at_ op ok) v) = its := set_back hi
    rw [this]; exact h
  | some m =>
    obtain ⟨a1, a2, a3, a4, a5⟩ := hw
    refine (note_any m s.st s.th s.dn s.mo kind at_ op ok v s.l w (h.get i hi) a3 (by omega) (by omega)).mono ?_
    rintro e w' ⟨he, g, cap, h1, h2, h3⟩
    exact ⟨he, _, h.meter i hi h1 h2 h3⟩
end Go.Proofs.YthbcbjkgjgmegaaGreat
