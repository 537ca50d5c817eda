/- Events: noted, and told. -/
import Derived.Test.YtajfjkhbimehbaaSpB
namespace Go.Proofs.Ytajfjkhbimehbaa
open Go.RowKit
set_option linter.unusedVariables false
set_option linter.unusedSimpArgs false
attribute [local go_sem ↓] Go.wp_at_zero Go.wp_at_succ

/-- Behind the append the new list is stored. -/
theorem St.headNoted {o w2 w1 : World} {its : List It} (h : St o its w2) (j : Nat) {ty : TypeId} {F : Value → Array Value} {k : Nat} {v : Value} {l : List Ev} (hj : its[j]? = some (headI ty F k v l)) (hF : ∀ a b, (F a).setIfInBounds 10 b = F b) {x : Ev} {g cap : Nat} {ob : Obj}
    (hown1 : w1.ownsRow 0 183 10 (.slice (some ⟨g, 0, none⟩) (l.length + 1) cap) (l.length + 1) (evCells l ++ x.cells)) (hgrow : ((w2.alloc ob).drew).grownBy w1 v.ownBlock) (hat : v.ownBlock = some g ∨ g = w2.heap.size + 1) :
    St o (its.set j (headI ty F k (.slice (some ⟨g, 0, none⟩) (l.length + 1) cap) (l ++ [x]))) (w1.setCell ⟨k, 10, none⟩ (.slice (some ⟨g, 0, none⟩) (l.length + 1) cap)) := by
  have hd : HeadAt ty F w2 k v l := h.get j hj
  have hlt := lt_of_heap hd.heap
  have h1 := (grown_block hlt hgrow hd.apart).trans hd.heap
  have hgk : k ≠ g := by
    rcases hat with e | e
    · intro e'; subst e'; exact hd.apart e
    · omega
  have hkk : Kept (fun b => b ∈ (headI ty F k v l).fp) w2 (w1.setCell ⟨k, 10, none⟩ (.slice (some ⟨g, 0, none⟩) (l.length + 1) cap)) :=
    Kept.setCell (Kept.grown (((Kept.refl _ w2).alloc ob).drew) hgrow (fun b e => .inl (by simp [headI, e]))) _ (.inl (by simp [headI]))
  refine h.set j hj hkk ⟨?_, ?_, by simp [Value.ownBlock]; omega⟩ ?_ ?_
  · rw [heap_setCell_at h1, hF]
  · have := ownsRow_setCell_far hown1 (a := ⟨k, 10, none⟩) (by simp [Value.ownBlock]; omega) (.slice (some ⟨g, 0, none⟩) (l.length + 1) cap)
    simpa [evCells_append, evCells] using this
  · simp [headI, Value.ownBlock]; omega
  · intro b hb
    simp only [headI, Value.ownBlock, List.mem_cons, Option.toList_some, List.not_mem_nil, or_false] at hb
    rcases hb with rfl | rfl
    · exact .inl (by simp [headI])
    · rcases hat with e | e
      · exact .inl (by simp [headI, e])
      · exact .inr (by omega)
theorem buildEv (W : World) (a b c d e f : Int) (g : Bool) (h i j : Int) : (Instr.buildSlice 74 1 #[(0, .agg #[.int .i64 a, .int .i64 b, .int .i64 c, .int .i64 d, .int .i64 e, .int .i64 f, .bool g, .int .i64 h, .int .i64 i, .int .i64 j])]).run Try.prog W = .ok (.slice (some ⟨W.heap.size, 0, none⟩) 1 1) (W.alloc (.cells #[.int .i64 a, .int .i64 b, .int .i64 c, .int .i64 d, .int .i64 e, .int .i64 f, .bool g, .int .i64 h, .int .i64 i, .int .i64 j] 183)) := by kernel_rfl
end Go.Proofs.Ytajfjkhbimehbaa
