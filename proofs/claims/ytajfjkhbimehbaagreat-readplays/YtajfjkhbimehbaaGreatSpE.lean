/- Events: noted, and told. A space notes an event. A view of a space. -/
import Derived.Test.YtajfjkhbimehbaaGreatSpB
namespace Go.Proofs.YtajfjkhbimehbaaGreat
open Go.RowKit
set_option linter.unusedVariables false
set_option linter.unusedSimpArgs false
attribute [local go_sem ↓] Go.wp_at_zero Go.wp_at_succ

/-- Behind the append the new list is stored. -/
theorem St.headNoted {o w2 w1 : World} {its : List It} (h : St o its w2) (j : Nat) {ty : TypeId} {F : Value → Array Value} {k : Nat} {v : Value} {l : List Ev} (hj : its[j]? = some (headI ty F k v l)) (hF : ∀ a b, (F a).setIfInBounds 10 b = F b) {x : Ev} {g cap : Nat} {ob : Obj}
    (hown1 : w1.ownsRow 0 209 10 (.slice (some ⟨g, 0, none⟩) (l.length + 1) cap) (l.length + 1) (evCells l ++ x.cells)) (hgrow : ((w2.alloc ob).drew).grownBy w1 v.ownBlock) (hat : v.ownBlock = some g ∨ g = w2.heap.size + 1) :
    St o (its.set j (headI ty F k (.slice (some ⟨g, 0, none⟩) (l.length + 1) cap) (l ++ [x]))) (w1.setCell ⟨k, 10, none⟩ (.slice (some ⟨g, 0, none⟩) (l.length + 1) cap)) := by
  have hd : HeadAt ty F w2 k v l := h.get j hj
  have hlt := lt_of_heap hd.heap
  have h1 := (grown_block hlt hgrow hd.apart).trans hd.heap
  have hgk : k ≠ g := by
    rcases hat with e | e
    · intro e'; subst e'; exact hd.apart e
    · omega
  have hkk : Kept (fun b => b ∈ (headI ty F k v l).fp) w2 (w1.setCell ⟨k, 10, none⟩ (.slice (some ⟨g, 0, none⟩) (l.length + 1) cap)) :=
    Kept.setCell (Kept.grown (((Kept.refl _ w2).alloc ob).drew) hgrow (fun b e => .inl (by simp [headI, e]))) _ (.inl (by simp [headI]))
  refine h.set j hj hkk ⟨?_, ?_, by simp [Value.ownBlock]; omega⟩ ?_ ?_
  · rw [heap_setCell_at h1, hF]
  · have := ownsRow_setCell_far hown1 (a := ⟨k, 10, none⟩) (by simp [Value.ownBlock]; omega) (.slice (some ⟨g, 0, none⟩) (l.length + 1) cap)
    simpa [evCells_append, evCells] using this
  · simp [headI, Value.ownBlock]; omega
  · intro b hb
    simp only [headI, Value.ownBlock, List.mem_cons, Option.toList_some, List.not_mem_nil, or_false] at hb
    rcases hb with rfl | rfl
    · exact .inl (by simp [headI])
    · rcases hat with e | e
      · exact .inl (by simp [headI, e])
      · exact .inr (by omega)
theorem buildEv (W : World) (a b c d e f : Int) (g : Bool) (h i j : Int) : (Instr.buildSlice 39 1 #[(0, .agg #[.int .i64 a, .int .i64 b, .int .i64 c, .int .i64 d, .int .i64 e, .int .i64 f, .bool g, .int .i64 h, .int .i64 i, .int .i64 j])]).run Tryz.prog W = .ok (.slice (some ⟨W.heap.size, 0, none⟩) 1 1) (W.alloc (.cells #[.int .i64 a, .int .i64 b, .int .i64 c, .int .i64 d, .int .i64 e, .int .i64 f, .bool g, .int .i64 h, .int .i64 i, .int .i64 j] 209)) := by kernel_rfl
end Go.Proofs.YtajfjkhbimehbaaGreat

namespace Go.Proofs.YtajfjkhbimehbaaGreat
open Go.RowKit
set_option linter.unusedVariables false
set_option linter.unusedSimpArgs false
attribute [local go_sem ↓] Go.wp_at_zero Go.wp_at_succ

theorem St.tail {o w : World} {its : List It} : ∀ (l : List It), St o (l ++ its) w → St o its w
  | [], h => h
  | A :: l, h => St.tail l h.pop
theorem St.drop2 {o w : World} {A B C : It} {its : List It} (h : St o (A :: B :: C :: its) w) : St o (A :: B :: its) w :=
  (h.perm (List.perm_middle (l₁ := [A, B]) (l₂ := its) (a := C))).pop
section
variable {o w : World} {its : List It} {A : Ad} {c : Cfg} {z : SSt} {v u : Value}
theorem spAll (h : St o its w) (i : Nat) (hi : its[i]? = some (spI A c z v u)) : Calls Tryz.prog 97 #[.pointer (some ⟨A.r, 0, none⟩)] w fun e w' => ∃ v', e = .returned v' ∧ St o (ownI 2 1 v' z.xs.length (clCells z.xs) :: its) w' := by
  refine (clAll_st (h.open i hi) 6 spAt6).mono ?_
  rintro e w' ⟨v', he, hS⟩
  have := St.shut1 hi hS
  rw [show its.set i (joinI (spL A c z v u)) = its from set_back hi] at this
  exact ⟨v', he, this⟩
theorem spTabAll (h : St o its w) (i : Nat) (hi : its[i]? = some (spI A c z v u)) (hl : z.ws.length = z.hs.length * 2) (h1 : 1 ≤ z.hs.length) (h8 : z.hs.length ≤ 8) : Calls Tryz.prog 98 #[.pointer (some ⟨A.t, 0, none⟩)] w fun e w' => ∃ v', e = .returned v' ∧ St o (ownI 156 8 v' z.hs.length (slCells (slots z.hs z.ws)) :: its) w' := by
  refine (tabAll_st (h.open i hi) 3 5 4 spAt3 spAt5 spAt4 hl h1 h8).mono ?_
  rintro e w' ⟨v', he, hS⟩
  have := St.shut1 hi hS
  rw [show its.set i (joinI (spL A c z v u)) = its from set_back hi] at this
  exact ⟨v', he, this⟩
end
theorem own_form {w : World} {t : TypeId} {z : Nat} {v : Value} {n : Nat} {xs : List Value} (h : (ownI t z v n xs).P w) : ∃ a cap, v = .slice a n cap := by
  have p : w.ownsRow 0 t z v n xs := h
  rcases p.2 with ⟨e, hn⟩ | ⟨g, cap, cur, e, _⟩
  · subst hn; exact ⟨_, _, e⟩
  · exact ⟨_, _, e⟩
/-- A list, or none yet. -/
def mayI (t : TypeId) (z : Nat) (a : Option Value) (n : Nat) (xs : List Value) : List It := match a with
  | none => []
  | some v => [ownI t z v n xs]

set_option maxRecDepth 100000 in
set_option maxHeartbeats 4000000 in
theorem spView {o w : World} {its : List It} {A : Ad} {c : Cfg} {z : SSt} {v u : Value} (h : St o its w) (i : Nat) (hi : its[i]? = some (spI A c z v u)) (hl : z.ws.length = z.hs.length * 2) (h1 : 1 ≤ z.hs.length) (h8 : z.hs.length ≤ 8) :
    Calls Tryz.prog 62 #[spp A] w fun e w' => ∃ va vs, e = .returned (.agg #[va, .int .i64 z.x.n, .int .i64 z.x.o, vs]) ∧ St o (ownI 2 1 va z.xs.length (clCells z.xs) :: ownI 156 8 vs z.hs.length (slCells (slots z.hs z.ws)) :: its) w' := by
  have h0 := h.box #[.slice none 0 0, .int .i64 0, .int .i64 0, .slice none 0 0] 123
  clear h
  unfold spp
  go_enter Tryz.func62, Tryz.ntmps62
  go_upto_region 1 with fail
  generalize w.alloc (.cells #[.slice none 0 0, .int .i64 0, .int .i64 0, .slice none 0 0] 123) = W0 at *
  generalize w.heap.size = B at *
  obtain ⟨V, HV⟩ : ∃ V : World → Option Value → Option Value → Prop, V = fun W a s => St o (mayI 2 1 a z.xs.length (clCells z.xs) ++ (mayI 156 8 s z.hs.length (slCells (slots z.hs z.ws)) ++ (boxI B #[.slice none 0 0, .int .i64 0, .int .i64 0, .slice none 0 0] 123 :: its))) W := ⟨_, rfl⟩
  have hV : V W0.drew none none := by rw [HV]; exact h0.drew
  have hF : ∀ W a s, V W a s → W.cell? ⟨A.sp, 7, none⟩ = some (.pointer (some ⟨A.r, 0, none⟩)) ∧ W.cell? ⟨A.sp, 8, none⟩ = some (.pointer (some ⟨A.g, 0, none⟩)) ∧ W.cell? ⟨A.sp, 9, none⟩ = some (.pointer (some ⟨A.t, 0, none⟩)) ∧ W.cell? ⟨B, 0, none⟩ = some (.slice none 0 0) ∧ W.cell? ⟨B, 1, none⟩ = some (.int .i64 0) ∧ W.cell? ⟨B, 2, none⟩ = some (.int .i64 0) ∧ W.cell? ⟨B, 3, none⟩ = some (.slice none 0 0) ∧ W.frozen? ⟨B, 0, none⟩ = false ∧ W.frozen? ⟨B, 1, none⟩ = false ∧ W.frozen? ⟨B, 2, none⟩ = false ∧ W.frozen? ⟨B, 3, none⟩ = false := by
    intro W a s hS
    rw [HV] at hS
    have hT := St.tail _ (St.tail _ hS)
    exact ⟨spCell hT (i + 1) hi 7, spCell hT (i + 1) hi 8, spCell hT (i + 1) hi 9, hT.cell 0 rfl 0, hT.cell 0 rfl 1, hT.cell 0 rfl 2, hT.cell 0 rfl 3, hT.frozen 0 rfl 0, hT.frozen 0 rfl 1, hT.frozen 0 rfl 2, hT.frozen 0 rfl 3⟩
  have hA : ∀ W s, V W none s → Calls Tryz.prog 97 #[.pointer (some ⟨A.r, 0, none⟩)] W fun e w' => ∃ p n c, e = .returned (.slice p n c) ∧ V w' (some (.slice p n c)) s := by
    intro W s hS
    rw [HV] at hS ⊢
    cases s with
    | none => exact (spAll hS (i + 1) hi).mono (fun e w' ⟨v', he, h'⟩ => by obtain ⟨p, c, rfl⟩ := own_form (h'.get 0 rfl); exact ⟨_, _, _, he, h'⟩)
    | some s => exact (spAll hS (i + 2) hi).mono (fun e w' ⟨v', he, h'⟩ => by obtain ⟨p, c, rfl⟩ := own_form (h'.get 0 rfl); exact ⟨_, _, _, he, h'⟩)
  have hG : ∀ W a s, V W a s → Calls Tryz.prog 88 #[.pointer (some ⟨A.g, 0, none⟩)] W fun e w' => e = .returned (.agg #[.int .i64 z.x.n, .int .i64 z.x.o]) ∧ V w' a s := by
    intro W a s hS
    rw [HV] at hS ⊢
    cases a with
    | none =>
      cases s with
      | none => exact spNow hS (i + 1) hi
      | some s => exact spNow hS (i + 2) hi
    | some a =>
      cases s with
      | none => exact spNow hS (i + 2) hi
      | some s => exact spNow hS (i + 3) hi
  have hT : ∀ W a, V W a none → Calls Tryz.prog 98 #[.pointer (some ⟨A.t, 0, none⟩)] W fun e w' => ∃ p n c, e = .returned (.slice p n c) ∧ V w' a (some (.slice p n c)) := by
    intro W a hS
    rw [HV] at hS ⊢
    cases a with
    | none => exact (spTabAll hS (i + 1) hi hl h1 h8).mono (fun e w' ⟨v', he, h'⟩ => by obtain ⟨p, c, rfl⟩ := own_form (h'.get 0 rfl); exact ⟨_, _, _, he, h'⟩)
    | some a =>
      refine (spTabAll hS (i + 2) hi hl h1 h8).mono ?_
      rintro e w' ⟨v', he, h'⟩
      obtain ⟨p, c, rfl⟩ := own_form (h'.get 0 rfl)
      exact ⟨_, _, _, he, h'.swap⟩
  have HE : Hid (∀ W a s u0 u1 u2 u3, V W (some a) (some s) → St o (ownI 2 1 a z.xs.length (clCells z.xs) :: ownI 156 8 s z.hs.length (slCells (slots z.hs z.ws)) :: its) ((((W.setCell ⟨B, 0, none⟩ u0).setCell ⟨B, 1, none⟩ u1).setCell ⟨B, 2, none⟩ u2).setCell ⟨B, 3, none⟩ u3)) := by
    intro W a s u0 u1 u2 u3 hS
    rw [HV] at hS
    exact ((((St.write (its := ownI 2 1 a z.xs.length (clCells z.xs) :: ownI 156 8 s z.hs.length (slCells (slots z.hs z.ws)) :: boxI B #[.slice none 0 0, .int .i64 0, .int .i64 0, .slice none 0 0] 123 :: its) hS 2 rfl 0 u0).write 2 rfl 1 u1).write 2 rfl 2 u2).write 2 rfl 3 u3).drop2
  clear HV h0
  obtain ⟨p7, p8, p9, q0, q1, q2, q3, g0, g1, g2, g3⟩ := hF _ _ _ hV
  go_region_with (first
    | (go_at_call 97; refine (hA _ _ hV).mono ?_; rintro e wx ⟨pa, na, ca, rfl, hV⟩; obtain ⟨p7, p8, p9, q0, q1, q2, q3, g0, g1, g2, g3⟩ := hF _ _ _ hV)
    | (go_at_call 88; refine (hG _ _ _ hV).mono ?_; rintro e wx ⟨rfl, hV⟩; obtain ⟨p7, p8, p9, q0, q1, q2, q3, g0, g1, g2, g3⟩ := hF _ _ _ hV)
    | (go_at_call 98; refine (hT _ _ hV).mono ?_; rintro e wx ⟨ps, ns, cs, rfl, hV⟩; obtain ⟨p7, p8, p9, q0, q1, q2, q3, g0, g1, g2, g3⟩ := hF _ _ _ hV))
  all_goals
    go_wp2
    exact bodyPost_ret (v := .agg #[.slice pa na ca, .int .i64 z.x.n, .int .i64 z.x.o, .slice ps ns cs]) (by simp [results, Tryz.results62, go_sem, q0, q1, q2, q3]) rfl ⟨_, _, rfl, HE.out _ _ _ _ _ _ _ hV⟩
end Go.Proofs.YtajfjkhbimehbaaGreat
