/- Events: noted, and told. A space notes an event. -/
import Derived.Test.YtjffkgolpdoegaaGreatSpB
namespace Go.Proofs.YtjffkgolpdoegaaGreat
open Go.RowKit
set_option linter.unusedVariables false
set_option linter.unusedSimpArgs false
attribute [local go_sem ↓] Go.wp_at_zero Go.wp_at_succ

set_option maxRecDepth 100000 in
set_option maxHeartbeats 1000000 in
theorem cloneEv (b0 : Nat) (v : Value) (l : List Ev) (w : World) (hown : w.ownsRow b0 39 10 v l.length (evCells l)) (hb : (l.length + 1) * 80 ≤ 140737488355328) :
    Calls Tryz.prog 62 #[v] w fun e w' => ∃ v', e = .returned v' ∧ w'.ownsRow w.heap.size 39 10 v' l.length (evCells l) ∧ Kept (fun _ => False) w w' := by
  obtain ⟨i0, hi0, hz0, hz1, hz2⟩ := info_parts Tryz.infoEv
  have hE : ∀ a n c w, (binOp .eql 51 (.slice a n c) (.slice none 0 0)).run Tryz.prog w = .ok (.bool a.isNone) w := fun a n c w => Lib.run_eql_slice_nil w 51 39 a n c 0 0 Tryz.underlying51
  rcases hown.2 with ⟨hv, hn⟩ | ⟨g, cap, cur, hv, _⟩
  · subst hv
    have hl : l = [] := List.length_eq_zero_iff.1 hn
    subst hl
    clear hown hn
    go_enter Tryz.func62, Tryz.ntmps62
    go_wp2
    go_ret
    exact ⟨_, rfl, World.ownsRow_nil _ _ _ _, Kept.refl _ _⟩
  · subst hv
    have hcells : ∀ j u, (evCells l)[j]? = some u → (w.alloc (.cells #[] 39)).cell? ((⟨g, 0, none⟩ : Addr).add j) = some u := (hown.alloc _).cells (g := g) rfl
    have hlen := hown.1
    have hml : l.length ≤ maxLen := by unfold maxLen; omega
    clear hown
    go_enter Tryz.func62, Tryz.ntmps62
    go_wp2_with (at_builtin; refine wpList_append_own_at _ rfl (.tmp 5) (.tmp 6) 51 rfl w.heap.size 39 i0 _ 10 80 Tryz.underlying51 hi0 hz0 hz1 hz2 rfl (by omega) (.slice (some ⟨w.heap.size, 0, none⟩) 0 0) 0 [] rfl (World.ownsRow_made w #[] 0 (Nat.le_refl _) (Nat.zero_le _) rfl) ⟨g, 0, none⟩ l.length cap (evCells l) rfl hlen hcells (evCells_one l) (by omega) (by omega) (by simp) ?_; intro v' w1 hown' hgrow hnil hat)
    go_ret
    refine ⟨_, rfl, by simpa using hown', ((Kept.refl _ w).alloc _).grown hgrow (fun k e => ?_)⟩
    right
    simp [Value.ownBlock] at e
    omega

set_option maxRecDepth 100000 in
theorem spEvents {o w : World} {its : List It} {A : Ad} {c : Cfg} {z : SSt} {v u : Value} (h : St o its w) (i : Nat) (hi : its[i]? = some (spI A c z v u)) (hb : (z.ev.length + 1) * 80 ≤ 140737488355328) :
    Calls Tryz.prog 18 #[spp A] w fun e w' => ∃ v', e = .returned v' ∧ St o (ownI 39 10 v' z.ev.length (evCells z.ev) :: its) w' := by
  have c10 : w.cell? ⟨A.sp, 10, none⟩ = some u := spCell h i hi 10
  have hc := cloneEv 0 u z.ev w (spHead h i hi).own hb
  have hS : Hid (∀ v' w', w'.ownsRow w.heap.size 39 10 v' z.ev.length (evCells z.ev) → Kept (fun _ => False) w w' → St o (ownI 39 10 v' z.ev.length (evCells z.ev) :: its) w') := fun v' w' p k => h.own k p
  clear h hi hb
  generalize evCells z.ev = L at *
  unfold spp
  go_enter Tryz.func18, Tryz.ntmps18
  go_wp2_with (go_at_call 62; refine hc.mono ?_; rintro e w' ⟨v', rfl, ho', hk⟩)
  go_ret
  exact ⟨_, rfl, hS.out _ _ ho' hk⟩

/-- Behind the append the new list is stored. -/
theorem St.headNoted {o w2 w1 : World} {its : List It} (h : St o its w2) (j : Nat) {ty : TypeId} {F : Value → Array Value} {k : Nat} {v : Value} {l : List Ev} (hj : its[j]? = some (headI ty F k v l)) (hF : ∀ a b, (F a).setIfInBounds 10 b = F b) {x : Ev} {g cap : Nat} {ob : Obj}
    (hown1 : w1.ownsRow 0 39 10 (.slice (some ⟨g, 0, none⟩) (l.length + 1) cap) (l.length + 1) (evCells l ++ x.cells)) (hgrow : ((w2.alloc ob).drew).grownBy w1 v.ownBlock) (hat : v.ownBlock = some g ∨ g = w2.heap.size + 1) :
    St o (its.set j (headI ty F k (.slice (some ⟨g, 0, none⟩) (l.length + 1) cap) (l ++ [x]))) (w1.setCell ⟨k, 10, none⟩ (.slice (some ⟨g, 0, none⟩) (l.length + 1) cap)) := by
  have hd : HeadAt ty F w2 k v l := h.get j hj
  have hlt := lt_of_heap hd.heap
  have h1 := (grown_block hlt hgrow hd.apart).trans hd.heap
  have hgk : k ≠ g := by
    rcases hat with e | e
    · intro e'; subst e'; exact hd.apart e
    · omega
  have hkk : Kept (fun b => b ∈ (headI ty F k v l).fp) w2 (w1.setCell ⟨k, 10, none⟩ (.slice (some ⟨g, 0, none⟩) (l.length + 1) cap)) :=
    Kept.setCell (Kept.grown (((Kept.refl _ w2).alloc ob).drew) hgrow (fun b e => .inl (by simp [headI, e]))) _ (.inl (by simp [headI]))
  refine h.set j hj hkk ⟨?_, ?_, by simp [Value.ownBlock]; omega⟩ ?_ ?_
  · rw [heap_setCell_at h1, hF]
  · have := ownsRow_setCell_far hown1 (a := ⟨k, 10, none⟩) (by simp [Value.ownBlock]; omega) (.slice (some ⟨g, 0, none⟩) (l.length + 1) cap)
    simpa [evCells_append, evCells] using this
  · simp [headI, Value.ownBlock]; omega
  · intro b hb
    simp only [headI, Value.ownBlock, List.mem_cons, Option.toList_some, List.not_mem_nil, or_false] at hb
    rcases hb with rfl | rfl
    · exact .inl (by simp [headI])
    · rcases hat with e | e
      · exact .inl (by simp [headI, e])
      · exact .inr (by omega)
theorem buildEv (W : World) (a b c d e f : Int) (g : Bool) (h i j : Int) : (Instr.buildSlice 51 1 #[(0, .agg #[.int .i64 a, .int .i64 b, .int .i64 c, .int .i64 d, .int .i64 e, .int .i64 f, .bool g, .int .i64 h, .int .i64 i, .int .i64 j])]).run Tryz.prog W = .ok (.slice (some ⟨W.heap.size, 0, none⟩) 1 1) (W.alloc (.cells #[.int .i64 a, .int .i64 b, .int .i64 c, .int .i64 d, .int .i64 e, .int .i64 f, .bool g, .int .i64 h, .int .i64 i, .int .i64 j] 39)) := by kernel_rfl
end Go.Proofs.YtjffkgolpdoegaaGreat

namespace Go.Proofs.YtjffkgolpdoegaaGreat
open Go.RowKit
set_option linter.unusedVariables false
set_option linter.unusedSimpArgs false
attribute [local go_sem ↓] Go.wp_at_zero Go.wp_at_succ

set_option maxRecDepth 100000 in
set_option maxHeartbeats 4000000 in
theorem spNote {o w : World} {its : List It} {A : Ad} {c : Cfg} {z : SSt} {v u : Value} (h : St o its w) (i : Nat) (hi : its[i]? = some (spI A c z v u)) (hb : (z.ev.length + 1) * 80 ≤ 140737488355328) (x : Ev) :
    Calls Tryz.prog 26 #[spp A, x.val] w fun e w' => e = .returned (.tuple #[]) ∧ ∃ u', St o (its.set i (spI A c (z.noted x) v u')) w' := by
  obtain ⟨i0, hi0, hz0, hz1, hz2⟩ := info_parts Tryz.infoEv
  obtain ⟨xkd, xst, xth, xsp, xce, xx, xow, xga, xer, xby⟩ := x
  unfold Ev.val spp
  simp only
  have h0 := h.box #[.int .i64 xkd, .int .i64 xst, .int .i64 xth, .int .i64 xsp, .int .i64 xce, .int .i64 xx, .bool xow, .int .i64 xga, .int .i64 xer, .int .i64 xby] 39
  have hq : Calls Tryz.prog 10 #[.pointer (some ⟨A.sp, 0, none⟩)] (w.alloc (.cells #[.int .i64 xkd, .int .i64 xst, .int .i64 xth, .int .i64 xsp, .int .i64 xce, .int .i64 xx, .bool xow, .int .i64 xga, .int .i64 xer, .int .i64 xby] 39)) fun e w' => e = .returned (.int .i64 z.s.st) ∧ w' = _ := spStep h0 (i + 1) hi
  have HN : Hid (∀ W s', St o (boxI w.heap.size #[.int .i64 xkd, .int .i64 s', .int .i64 xth, .int .i64 xsp, .int .i64 xce, .int .i64 xx, .bool xow, .int .i64 xga, .int .i64 xer, .int .i64 xby] 39 :: its) W → HeadAt 57 (spF A c) W A.sp u z.ev) := fun W s' hS => spHead hS (i + 1) hi
  clear h
  go_enter Tryz.func26, Tryz.ntmps26
  go_upto_region 1 with fail
  generalize w.alloc (.cells #[.int .i64 xkd, .int .i64 xst, .int .i64 xth, .int .i64 xsp, .int .i64 xce, .int .i64 xx, .bool xow, .int .i64 xga, .int .i64 xer, .int .i64 xby] 39) = W0 at *
  generalize w.heap.size = B at *
  have c1 : W0.cell? ⟨B, 1, none⟩ = some (.int .i64 xst) := h0.cell 0 rfl 1
  have f1 : W0.frozen? ⟨B, 1, none⟩ = false := h0.frozen 0 rfl 1
  go_wp2_with fail
  refine hq.mono ?_
  rintro e W1 ⟨rfl, rfl⟩
  have h2 := h0.write 0 rfl 1 (.int .i64 z.s.st)
  clear hq
  generalize hst : z.s.st = st at *
  go_upto_region 2 with fail
  have h3 : St o (boxI B #[.int .i64 xkd, .int .i64 st, .int .i64 xth, .int .i64 xsp, .int .i64 xce, .int .i64 xx, .bool xow, .int .i64 xga, .int .i64 xer, .int .i64 xby] 39 :: its) (W1.setCell ⟨B, 1, none⟩ (.int .i64 st)) := h2
  clear h2 h0 c1 f1
  generalize W1.setCell ⟨B, 1, none⟩ (.int .i64 st) = w2 at *
  have hd := HN.out _ _ h3
  clear HN
  have d0 : w2.cell? ⟨B, 0, none⟩ = some (.int .i64 xkd) := h3.cell 0 rfl 0
  have d1 : w2.cell? ⟨B, 1, none⟩ = some (.int .i64 st) := h3.cell 0 rfl 1
  have d2 : w2.cell? ⟨B, 2, none⟩ = some (.int .i64 xth) := h3.cell 0 rfl 2
  have d3 : w2.cell? ⟨B, 3, none⟩ = some (.int .i64 xsp) := h3.cell 0 rfl 3
  have d4 : w2.cell? ⟨B, 4, none⟩ = some (.int .i64 xce) := h3.cell 0 rfl 4
  have d5 : w2.cell? ⟨B, 5, none⟩ = some (.int .i64 xx) := h3.cell 0 rfl 5
  have d6 : w2.cell? ⟨B, 6, none⟩ = some (.bool xow) := h3.cell 0 rfl 6
  have d7 : w2.cell? ⟨B, 7, none⟩ = some (.int .i64 xga) := h3.cell 0 rfl 7
  have d8 : w2.cell? ⟨B, 8, none⟩ = some (.int .i64 xer) := h3.cell 0 rfl 8
  have d9 : w2.cell? ⟨B, 9, none⟩ = some (.int .i64 xby) := h3.cell 0 rfl 9
  have dS : w2.cell? ⟨A.sp, 10, none⟩ = some u := cell_of_heap hd.heap
  have fS : w2.frozen? ⟨A.sp, 10, none⟩ = false := frozen_of_heap hd.heap
  have fA : ∀ c t, (w2.alloc (.cells c t)).frozen? ⟨A.sp, 10, none⟩ = false := fun c t => by rw [frozen?_alloc_cells]; exact fS
  have lm := lt_of_heap hd.heap
  have HD : Hid (HeadAt 57 (spF A c) w2 A.sp u z.ev) := hd
  have hown2 := hd.own
  have hvm := hd.apart
  have HF : Hid (∀ g cap w1, w1.ownsRow 0 39 10 (.slice (some ⟨g, 0, none⟩) (z.ev.length + 1) cap) (z.ev.length + 1) (evCells z.ev ++ Ev.cells ⟨xkd, st, xth, xsp, xce, xx, xow, xga, xer, xby⟩) → ((w2.alloc (.cells #[.int .i64 xkd, .int .i64 st, .int .i64 xth, .int .i64 xsp, .int .i64 xce, .int .i64 xx, .bool xow, .int .i64 xga, .int .i64 xer, .int .i64 xby] 39)).drew).grownBy w1 u.ownBlock → (u.ownBlock = some g ∨ g = w2.heap.size + 1) → St o (its.set i (spI A c (z.noted ⟨xkd, xst, xth, xsp, xce, xx, xow, xga, xer, xby⟩) v (.slice (some ⟨g, 0, none⟩) (z.ev.length + 1) cap))) (w1.setCell ⟨A.sp, 10, none⟩ (.slice (some ⟨g, 0, none⟩) (z.ev.length + 1) cap))) := by
    intro g cap w1 a1 a2 a3
    have := St.headNoted (h3.pop.open i hi) 0 spAt0 (fun _ _ => rfl) a1 a2 a3
    have e : z.noted ⟨xkd, xst, xth, xsp, xce, xx, xow, xga, xer, xby⟩ = ⟨z.s, z.xs, z.x, z.hs, z.ws, z.ev ++ [⟨xkd, st, xth, xsp, xce, xx, xow, xga, xer, xby⟩]⟩ := by simp [SSt.noted, Ev.at_, hst]
    rw [e]
    exact St.shut (l := spL A c ⟨z.s, z.xs, z.x, z.hs, z.ws, z.ev ++ [⟨xkd, st, xth, xsp, xce, xx, xow, xga, xer, xby⟩]⟩ v (.slice (some ⟨g, 0, none⟩) (z.ev.length + 1) cap)) hi this
  have hbs := buildEv w2 xkd st xth xsp xce xx xow xga xer xby
  have hbs' := buildEv w2.drew xkd st xth xsp xce xx xow xga xer xby
  clear h3 hi hd hst
  generalize hel : z.ev.length = n at *
  generalize heC : evCells z.ev = L at *
  clear hel heC
  go_region_law
    ((refine step_append_lies _ (by rfl) _ _ _ (by rfl) 0 39 i0 _ 10 80 Tryz.underlying51 hi0 hz0 hz1 hz2 rfl (by omega) u n L (by rfl) ((hown2.alloc _).drew)
        ⟨w2.heap.size, 0, none⟩ 1 1 (Ev.cells ⟨xkd, st, xth, xsp, xce, xx, xow, xga, xer, xby⟩) (by rfl) (by rfl) (World.news_of_block (cs := #[.int .i64 xkd, .int .i64 st, .int .i64 xth, .int .i64 xsp, .int .i64 xce, .int .i64 xx, .bool xow, .int .i64 xga, .int .i64 xer, .int .i64 xby]) (t := 39) (fr := (0, 0)) (heap_alloc_new w2 _)) (by simp [Value.oneCell', Ev.cells])
        (by omega) (by unfold maxLen; omega) hb (Nat.zero_le _) (w2.heap.size + 1) (by simp) ?_; intro g cap w1 hown1 hgrow hat hlt
      have e4 : w1.cell? ⟨A.sp, 10, none⟩ = some u := cell_of_heap ((grown_block lm hgrow hvm).trans HD.out.heap)
      have ef4 : w1.frozen? ⟨A.sp, 10, none⟩ = false := frozen_of_heap ((grown_block lm hgrow hvm).trans HD.out.heap)))
  all_goals (go_wp2; go_end0; exact ⟨rfl, _, HF.out _ _ _ hown1 hgrow hat⟩)
end Go.Proofs.YtjffkgolpdoegaaGreat
