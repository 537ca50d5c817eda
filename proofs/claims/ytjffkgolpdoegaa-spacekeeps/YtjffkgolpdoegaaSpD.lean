/- A space notes an event. -/
import Derived.Test.YtjffkgolpdoegaaSpC
namespace Go.Proofs.Ytjffkgolpdoegaa
open Go.RowKit
set_option linter.unusedVariables false
set_option linter.unusedSimpArgs false
attribute [local go_sem ↓] Go.wp_at_zero Go.wp_at_succ

set_option maxRecDepth 100000 in
set_option maxHeartbeats 4000000 in
theorem spNote {o w : World} {its : List It} {A : Ad} {c : Cfg} {z : SSt} {v u : Value} (h : St o its w) (i : Nat) (hi : its[i]? = some (spI A c z v u)) (hb : (z.ev.length + 1) * 80 ≤ 140737488355328) (x : Ev) :
    Calls Try.prog 17 #[spp A, x.val] w fun e w' => e = .returned (.tuple #[]) ∧ ∃ u', St o (its.set i (spI A c (z.noted x) v u')) w' := by
  obtain ⟨i0, hi0, hz0, hz1, hz2⟩ := info_parts Try.infoEv
  obtain ⟨xkd, xst, xth, xsp, xce, xx, xow, xga, xer, xby⟩ := x
  unfold Ev.val spp
  simp only
  have h0 := h.box #[.int .i64 xkd, .int .i64 xst, .int .i64 xth, .int .i64 xsp, .int .i64 xce, .int .i64 xx, .bool xow, .int .i64 xga, .int .i64 xer, .int .i64 xby] 51
  have hq : Calls Try.prog 11 #[.pointer (some ⟨A.sp, 0, none⟩)] (w.alloc (.cells #[.int .i64 xkd, .int .i64 xst, .int .i64 xth, .int .i64 xsp, .int .i64 xce, .int .i64 xx, .bool xow, .int .i64 xga, .int .i64 xer, .int .i64 xby] 51)) fun e w' => e = .returned (.int .i64 z.s.st) ∧ w' = _ := spStep h0 (i + 1) hi
  have HN : Hid (∀ W s', St o (boxI w.heap.size #[.int .i64 xkd, .int .i64 s', .int .i64 xth, .int .i64 xsp, .int .i64 xce, .int .i64 xx, .bool xow, .int .i64 xga, .int .i64 xer, .int .i64 xby] 51 :: its) W → HeadAt 47 (spF A c) W A.sp u z.ev) := fun W s' hS => spHead hS (i + 1) hi
  clear h
  go_enter Try.func17, Try.ntmps17
  go_upto_region 1 with fail
  generalize w.alloc (.cells #[.int .i64 xkd, .int .i64 xst, .int .i64 xth, .int .i64 xsp, .int .i64 xce, .int .i64 xx, .bool xow, .int .i64 xga, .int .i64 xer, .int .i64 xby] 51) = W0 at *
  generalize w.heap.size = B at *
  have c1 : W0.cell? ⟨B, 1, none⟩ = some (.int .i64 xst) := h0.cell 0 rfl 1
  have f1 : W0.frozen? ⟨B, 1, none⟩ = false := h0.frozen 0 rfl 1
  go_wp2_with fail
  refine hq.mono ?_
  rintro e W1 ⟨rfl, rfl⟩
  have h2 := h0.write 0 rfl 1 (.int .i64 z.s.st)
  clear hq
  generalize hst : z.s.st = st at *
  go_upto_region 2 with fail
  have h3 : St o (boxI B #[.int .i64 xkd, .int .i64 st, .int .i64 xth, .int .i64 xsp, .int .i64 xce, .int .i64 xx, .bool xow, .int .i64 xga, .int .i64 xer, .int .i64 xby] 51 :: its) (W1.setCell ⟨B, 1, none⟩ (.int .i64 st)) := h2
  clear h2 h0 c1 f1
  generalize W1.setCell ⟨B, 1, none⟩ (.int .i64 st) = w2 at *
  have hd := HN.out _ _ h3
  clear HN
  have d0 : w2.cell? ⟨B, 0, none⟩ = some (.int .i64 xkd) := h3.cell 0 rfl 0
  have d1 : w2.cell? ⟨B, 1, none⟩ = some (.int .i64 st) := h3.cell 0 rfl 1
  have d2 : w2.cell? ⟨B, 2, none⟩ = some (.int .i64 xth) := h3.cell 0 rfl 2
  have d3 : w2.cell? ⟨B, 3, none⟩ = some (.int .i64 xsp) := h3.cell 0 rfl 3
  have d4 : w2.cell? ⟨B, 4, none⟩ = some (.int .i64 xce) := h3.cell 0 rfl 4
  have d5 : w2.cell? ⟨B, 5, none⟩ = some (.int .i64 xx) := h3.cell 0 rfl 5
  have d6 : w2.cell? ⟨B, 6, none⟩ = some (.bool xow) := h3.cell 0 rfl 6
  have d7 : w2.cell? ⟨B, 7, none⟩ = some (.int .i64 xga) := h3.cell 0 rfl 7
  have d8 : w2.cell? ⟨B, 8, none⟩ = some (.int .i64 xer) := h3.cell 0 rfl 8
  have d9 : w2.cell? ⟨B, 9, none⟩ = some (.int .i64 xby) := h3.cell 0 rfl 9
  have dS : w2.cell? ⟨A.sp, 10, none⟩ = some u := cell_of_heap hd.heap
  have fS : w2.frozen? ⟨A.sp, 10, none⟩ = false := frozen_of_heap hd.heap
  have fA : ∀ c t, (w2.alloc (.cells c t)).frozen? ⟨A.sp, 10, none⟩ = false := fun c t => by rw [frozen?_alloc_cells]; exact fS
  have lm := lt_of_heap hd.heap
  have HD : Hid (HeadAt 47 (spF A c) w2 A.sp u z.ev) := hd
  have hown2 := hd.own
  have hvm := hd.apart
  have HF : Hid (∀ g cap w1, w1.ownsRow 0 51 10 (.slice (some ⟨g, 0, none⟩) (z.ev.length + 1) cap) (z.ev.length + 1) (evCells z.ev ++ Ev.cells ⟨xkd, st, xth, xsp, xce, xx, xow, xga, xer, xby⟩) → ((w2.alloc (.cells #[.int .i64 xkd, .int .i64 st, .int .i64 xth, .int .i64 xsp, .int .i64 xce, .int .i64 xx, .bool xow, .int .i64 xga, .int .i64 xer, .int .i64 xby] 51)).drew).grownBy w1 u.ownBlock → (u.ownBlock = some g ∨ g = w2.heap.size + 1) → St o (its.set i (spI A c (z.noted ⟨xkd, xst, xth, xsp, xce, xx, xow, xga, xer, xby⟩) v (.slice (some ⟨g, 0, none⟩) (z.ev.length + 1) cap))) (w1.setCell ⟨A.sp, 10, none⟩ (.slice (some ⟨g, 0, none⟩) (z.ev.length + 1) cap))) := by
    intro g cap w1 a1 a2 a3
    have := St.headNoted (h3.pop.open i hi) 0 spAt0 (fun _ _ => rfl) a1 a2 a3
    have e : z.noted ⟨xkd, xst, xth, xsp, xce, xx, xow, xga, xer, xby⟩ = ⟨z.s, z.xs, z.x, z.hs, z.ws, z.ev ++ [⟨xkd, st, xth, xsp, xce, xx, xow, xga, xer, xby⟩]⟩ := by simp [SSt.noted, Ev.at_, hst]
    rw [e]
    exact St.shut (l := spL A c ⟨z.s, z.xs, z.x, z.hs, z.ws, z.ev ++ [⟨xkd, st, xth, xsp, xce, xx, xow, xga, xer, xby⟩]⟩ v (.slice (some ⟨g, 0, none⟩) (z.ev.length + 1) cap)) hi this
  have hbs := buildEv w2 xkd st xth xsp xce xx xow xga xer xby
  have hbs' := buildEv w2.drew xkd st xth xsp xce xx xow xga xer xby
  clear h3 hi hd hst
  generalize hel : z.ev.length = n at *
  generalize heC : evCells z.ev = L at *
  clear hel heC
  go_region_law
    ((refine step_append_lies _ (by rfl) _ _ _ (by rfl) 0 51 i0 _ 10 80 Try.underlying45 hi0 hz0 hz1 hz2 rfl (by omega) u n L (by rfl) ((hown2.alloc _).drew)
        ⟨w2.heap.size, 0, none⟩ 1 1 (Ev.cells ⟨xkd, st, xth, xsp, xce, xx, xow, xga, xer, xby⟩) (by rfl) (by rfl) (World.news_of_block (cs := #[.int .i64 xkd, .int .i64 st, .int .i64 xth, .int .i64 xsp, .int .i64 xce, .int .i64 xx, .bool xow, .int .i64 xga, .int .i64 xer, .int .i64 xby]) (t := 51) (fr := (0, 0)) (heap_alloc_new w2 _)) (by simp [Value.oneCell', Ev.cells])
        (by omega) (by unfold maxLen; omega) hb (Nat.zero_le _) (w2.heap.size + 1) (by simp) ?_; intro g cap w1 hown1 hgrow hat hlt
      have e4 : w1.cell? ⟨A.sp, 10, none⟩ = some u := cell_of_heap ((grown_block lm hgrow hvm).trans HD.out.heap)
      have ef4 : w1.frozen? ⟨A.sp, 10, none⟩ = false := frozen_of_heap ((grown_block lm hgrow hvm).trans HD.out.heap)))
  all_goals (go_wp2; go_end0; exact ⟨rfl, _, HF.out _ _ _ hown1 hgrow hat⟩)
end Go.Proofs.Ytjffkgolpdoegaa
