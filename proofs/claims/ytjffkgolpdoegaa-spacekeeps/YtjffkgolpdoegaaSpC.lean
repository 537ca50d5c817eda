/- Events: noted, and told. -/
import Derived.Test.YtjffkgolpdoegaaSpB
namespace Go.Proofs.Ytjffkgolpdoegaa
open Go.RowKit
set_option linter.unusedVariables false
set_option linter.unusedSimpArgs false
attribute [local go_sem ↓] Go.wp_at_zero Go.wp_at_succ

set_option maxRecDepth 100000 in
set_option maxHeartbeats 1000000 in
theorem cloneEv (b0 : Nat) (v : Value) (l : List Ev) (w : World) (hown : w.ownsRow b0 51 10 v l.length (evCells l)) (hb : (l.length + 1) * 80 ≤ 140737488355328) :
    Calls Try.prog 34 #[v] w fun e w' => ∃ v', e = .returned v' ∧ w'.ownsRow w.heap.size 51 10 v' l.length (evCells l) ∧ Kept (fun _ => False) w w' := by
  obtain ⟨i0, hi0, hz0, hz1, hz2⟩ := info_parts Try.infoEv
  have hE : ∀ a n c w, (binOp .eql 45 (.slice a n c) (.slice none 0 0)).run Try.prog w = .ok (.bool a.isNone) w := fun a n c w => Lib.run_eql_slice_nil w 45 51 a n c 0 0 Try.underlying45
  rcases hown.2 with ⟨hv, hn⟩ | ⟨g, cap, cur, hv, _⟩
  · subst hv
    have hl : l = [] := List.length_eq_zero_iff.1 hn
    subst hl
    clear hown hn
    go_enter Try.func34, Try.ntmps34
    go_wp2
    go_ret
    exact ⟨_, rfl, World.ownsRow_nil _ _ _ _, Kept.refl _ _⟩
  · subst hv
    have hcells : ∀ j u, (evCells l)[j]? = some u → (w.alloc (.cells #[] 51)).cell? ((⟨g, 0, none⟩ : Addr).add j) = some u := (hown.alloc _).cells (g := g) rfl
    have hlen := hown.1
    have hml : l.length ≤ maxLen := by unfold maxLen; omega
    clear hown
    go_enter Try.func34, Try.ntmps34
    go_wp2_with (at_builtin; refine wpList_append_own_at _ rfl (.tmp 5) (.tmp 6) 45 rfl w.heap.size 51 i0 _ 10 80 Try.underlying45 hi0 hz0 hz1 hz2 rfl (by omega) (.slice (some ⟨w.heap.size, 0, none⟩) 0 0) 0 [] rfl (World.ownsRow_made w #[] 0 (Nat.le_refl _) (Nat.zero_le _) rfl) ⟨g, 0, none⟩ l.length cap (evCells l) rfl hlen hcells (evCells_one l) (by omega) (by omega) (by simp) ?_; intro v' w1 hown' hgrow hnil hat)
    go_ret
    refine ⟨_, rfl, by simpa using hown', ((Kept.refl _ w).alloc _).grown hgrow (fun k e => ?_)⟩
    right
    simp [Value.ownBlock] at e
    omega

set_option maxRecDepth 100000 in
theorem spEvents {o w : World} {its : List It} {A : Ad} {c : Cfg} {z : SSt} {v u : Value} (h : St o its w) (i : Nat) (hi : its[i]? = some (spI A c z v u)) (hb : (z.ev.length + 1) * 80 ≤ 140737488355328) :
    Calls Try.prog 13 #[spp A] w fun e w' => ∃ v', e = .returned v' ∧ St o (ownI 51 10 v' z.ev.length (evCells z.ev) :: its) w' := by
  have c10 : w.cell? ⟨A.sp, 10, none⟩ = some u := spCell h i hi 10
  have hc := cloneEv 0 u z.ev w (spHead h i hi).own hb
  have hS : Hid (∀ v' w', w'.ownsRow w.heap.size 51 10 v' z.ev.length (evCells z.ev) → Kept (fun _ => False) w w' → St o (ownI 51 10 v' z.ev.length (evCells z.ev) :: its) w') := fun v' w' p k => h.own k p
  clear h hi hb
  generalize evCells z.ev = L at *
  unfold spp
  go_enter Try.func13, Try.ntmps13
  go_wp2_with (go_at_call 34; refine hc.mono ?_; rintro e w' ⟨v', rfl, ho', hk⟩)
  go_ret
  exact ⟨_, rfl, hS.out _ _ ho' hk⟩

/-- Behind the append the new list is stored. -/
theorem St.headNoted {o w2 w1 : World} {its : List It} (h : St o its w2) (j : Nat) {ty : TypeId} {F : Value → Array Value} {k : Nat} {v : Value} {l : List Ev} (hj : its[j]? = some (headI ty F k v l)) (hF : ∀ a b, (F a).setIfInBounds 10 b = F b) {x : Ev} {g cap : Nat} {ob : Obj}
    (hown1 : w1.ownsRow 0 51 10 (.slice (some ⟨g, 0, none⟩) (l.length + 1) cap) (l.length + 1) (evCells l ++ x.cells)) (hgrow : ((w2.alloc ob).drew).grownBy w1 v.ownBlock) (hat : v.ownBlock = some g ∨ g = w2.heap.size + 1) :
    St o (its.set j (headI ty F k (.slice (some ⟨g, 0, none⟩) (l.length + 1) cap) (l ++ [x]))) (w1.setCell ⟨k, 10, none⟩ (.slice (some ⟨g, 0, none⟩) (l.length + 1) cap)) := by
  have hd : HeadAt ty F w2 k v l := h.get j hj
  have hlt := lt_of_heap hd.heap
  have h1 := (grown_block hlt hgrow hd.apart).trans hd.heap
  have hgk : k ≠ g := by
    rcases hat with e | e
    · intro e'; subst e'; exact hd.apart e
    · omega
  have hkk : Kept (fun b => b ∈ (headI ty F k v l).fp) w2 (w1.setCell ⟨k, 10, none⟩ (.slice (some ⟨g, 0, none⟩) (l.length + 1) cap)) :=
    Kept.setCell (Kept.grown (((Kept.refl _ w2).alloc ob).drew) hgrow (fun b e => .inl (by simp [headI, e]))) _ (.inl (by simp [headI]))
  refine h.set j hj hkk ⟨?_, ?_, by simp [Value.ownBlock]; omega⟩ ?_ ?_
  · rw [heap_setCell_at h1, hF]
  · have := ownsRow_setCell_far hown1 (a := ⟨k, 10, none⟩) (by simp [Value.ownBlock]; omega) (.slice (some ⟨g, 0, none⟩) (l.length + 1) cap)
    simpa [evCells_append, evCells] using this
  · simp [headI, Value.ownBlock]; omega
  · intro b hb
    simp only [headI, Value.ownBlock, List.mem_cons, Option.toList_some, List.not_mem_nil, or_false] at hb
    rcases hb with rfl | rfl
    · exact .inl (by simp [headI])
    · rcases hat with e | e
      · exact .inl (by simp [headI, e])
      · exact .inr (by omega)
theorem buildEv (W : World) (a b c d e f : Int) (g : Bool) (h i j : Int) : (Instr.buildSlice 45 1 #[(0, .agg #[.int .i64 a, .int .i64 b, .int .i64 c, .int .i64 d, .int .i64 e, .int .i64 f, .bool g, .int .i64 h, .int .i64 i, .int .i64 j])]).run Try.prog W = .ok (.slice (some ⟨W.heap.size, 0, none⟩) 1 1) (W.alloc (.cells #[.int .i64 a, .int .i64 b, .int .i64 c, .int .i64 d, .int .i64 e, .int .i64 f, .bool g, .int .i64 h, .int .i64 i, .int .i64 j] 51)) := by kernel_rfl
end Go.Proofs.Ytjffkgolpdoegaa
