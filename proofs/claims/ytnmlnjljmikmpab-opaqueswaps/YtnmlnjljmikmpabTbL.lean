/- OpaqueSwaps, lemmas. -/
import Derived.Test.YtnmlnjljmikmpabTa
namespace Go.Proofs.Ytnmlnjljmikmpab
open Go.RowKit Go.Shelf
set_option linter.unusedVariables false
set_option linter.unusedSimpArgs false
attribute [local go_sem ↓] Go.wp_at_zero Go.wp_at_succ

theorem buildSv (W : World) (s0 s1 s2 s3 s4 s5 s6 s7 s8 : Int) (la : Option Addr) (n lc : Nat) : (Instr.buildSlice 23 1 #[(0, .agg #[.int .i64 s0, .int .i64 s1, .int .i64 s2, .int .i64 s3, .int .i64 s4, .int .i64 s5, .int .i64 s6, .int .i64 s7, .int .i64 s8, .slice la n lc])]).run Try.prog W = .ok (.slice (some ⟨W.heap.size, 0, none⟩) 1 1) (W.alloc (.cells #[.int .i64 s0, .int .i64 s1, .int .i64 s2, .int .i64 s3, .int .i64 s4, .int .i64 s5, .int .i64 s6, .int .i64 s7, .int .i64 s8, .slice la n lc] 31)) := by kernel_rfl
theorem set_two {A B : List Nat} {x y : Nat} : ((A ++ x :: y :: B).set A.length y).set (A.length + 1) x = A ++ y :: x :: B := by
  rw [List.set_append_right _ _ (Nat.le_refl _), Nat.sub_self, List.set_cons_zero, List.set_append_right _ _ (by omega), show A.length + 1 - A.length = 1 by omega]
  rfl
theorem swap_st {o w : World} {R : List It} {v : Value} {os A B : List Nat} {x y k q : Nat} (h : St o (lstR iC 3 1 v (asI os) :: R) w) (he : os = A ++ x :: y :: B) (hq : A.length = q) (hk : os.length = k) :
    ∃ g cap, v = .slice (some ⟨g, 0, none⟩) k cap ∧ w.cell? ⟨g, q, none⟩ = some (.int .i64 x) ∧ w.cell? ⟨g, q + 1, none⟩ = some (.int .i64 y) ∧ w.frozen? ⟨g, q, none⟩ = false ∧ (w.setCell ⟨g, q, none⟩ (.int .i64 y)).cell? ⟨g, q + 1, none⟩ = some (.int .i64 y) ∧ (w.setCell ⟨g, q, none⟩ (.int .i64 y)).frozen? ⟨g, q + 1, none⟩ = false ∧
      St o (ownI 3 1 (.slice (some ⟨g, 0, none⟩) k cap) k (fl iC (asI (A ++ y :: x :: B))) :: R) ((w.setCell ⟨g, q, none⟩ (.int .i64 y)).setCell ⟨g, q + 1, none⟩ (.int .i64 x)) := by
  have hl : (asI os).length = k := by rw [asI_len, hk]
  have h2 : St o (ownI 3 1 v k (fl iC (asI os)) :: R) w := by rw [← hl]; exact h
  have hkp : 0 < k := by rw [← hk, he, List.length_append, List.length_cons]; omega
  obtain ⟨g, cap, rfl⟩ := h2.form 0 rfl hkp
  have hx : (asI os)[q]? = some (x : Int) := by rw [he, ← hq]; simp [asI]
  have hy : (asI os)[q + 1]? = some (y : Int) := by rw [he, ← hq]; simp [asI, List.getElem?_append_right]
  have s1 := r_set (f := iC) (k := 1) (fun _ => rfl) h2 0 rfl hl.symm hx 0 (by omega) (.int .i64 y) (x' := (y : Int)) rfl
  rw [Nat.mul_one, Nat.add_zero] at s1
  have s1' : St o (ownI 3 1 (.slice (some ⟨g, 0, none⟩) k cap) k (fl iC ((asI os).set q (y : Int))) :: R) (w.setCell ⟨g, q, none⟩ (.int .i64 y)) := s1
  have hl2 : k = ((asI os).set q (y : Int)).length := by rw [List.length_set, hl]
  have hy2 : ((asI os).set q (y : Int))[q + 1]? = some (y : Int) := by rw [List.getElem?_set_ne (by omega)]; exact hy
  have s2 := r_set (f := iC) (k := 1) (fun _ => rfl) s1' 0 rfl hl2 hy2 0 (by omega) (.int .i64 x) (x' := (x : Int)) rfl
  rw [Nat.mul_one, Nat.add_zero] at s2
  have r := st_rin (f := iC) h2 0 rfl hl.symm (fun _ => rfl)
  have r1 := st_rin (f := iC) s1' 0 rfl hl2 (fun _ => rfl)
  have q0 := r.at (k := 1) (fun _ => rfl) hx 0 _ rfl
  have q1 := r.at (k := 1) (fun _ => rfl) hy 0 _ rfl
  have q2 := r1.at (k := 1) (fun _ => rfl) hy2 0 _ rfl
  rw [Nat.mul_one, Nat.add_zero, Nat.zero_add] at q0 q1 q2
  refine ⟨g, cap, rfl, q0, q1, h2.ownFrozen 0 rfl _, q2, s1'.ownFrozen 0 rfl _, ?_⟩
  have e : ((asI os).set q (y : Int)).set (q + 1) (x : Int) = asI (A ++ y :: x :: B) := by
    rw [← set_two (x := x) (y := y), hq, ← he]
    simp [asI, List.map_set]
  rw [e] at s2
  exact s2
theorem smS_part (L : List Sm) (o : List Nat) : smS (o.map fun x => L.getD x Sm.zero) = o.map fun x => (smS L).getD x Sy.zero := by
  unfold smS
  rw [List.map_map]
  refine List.map_congr_left fun x _ => ?_
  simp only [Function.comp, List.getD_eq_getElem?_getD, List.getElem?_map]
  cases L[x]? <;> rfl

end Go.Proofs.Ytnmlnjljmikmpab
