/- The document's Writes; samePairs. -/
import Derived.Test.YtnmlnjljmikmpabHb
namespace Go.Proofs.Ytnmlnjljmikmpab
open Go.RowKit Go.Shelf
set_option linter.unusedVariables false
set_option linter.unusedSimpArgs false
attribute [local go_sem ↓] Go.wp_at_zero Go.wp_at_succ

theorem wrM_next {ms : List Mv} {j : Nat} {x : Mv} (h : ms[j]? = some x) : wrM (ms.take (j + 1)) = if x.wr = true then putP (wrM (ms.take j)) x.ce x.x else wrM (ms.take j) := by
  rw [take_nextM h]
  unfold wrM
  rw [List.filter_append]
  by_cases e : x.wr = true
  · rw [if_pos e, show [x].filter Mv.puts = [x] by simp [Mv.puts, e], wrs_snoc]
  · rw [if_neg e, show [x].filter Mv.puts = [] by simp [Mv.puts, e], List.append_nil]
theorem wrM_len (ms : List Mv) : (wrM ms).length ≤ ms.length := by
  unfold wrM wrs
  have h1 := wrs_len (ms.filter Mv.puts) []
  have h2 := List.length_filter_le Mv.puts ms
  simp only [List.length_nil] at h1
  omega
theorem keyAt_here {ps : List Pr} {c y : Int} {k : Nat} (h : ps[k]? = some (c, y)) (hb : ∀ (i : Nat) p, i < k → ps[i]? = some p → p.1 ≠ c) : keyAt ps c = some k := by
  unfold keyAt
  rw [List.findIdx?_eq_some_iff_getElem]
  obtain ⟨h1, h2⟩ := List.getElem?_eq_some_iff.1 h
  refine ⟨h1, by rw [h2]; simp, fun j hj => ?_⟩
  have := hb j _ hj (List.getElem?_eq_getElem (by omega))
  simpa using this
theorem keyAt_nowhere {ps : List Pr} {c : Int} (hb : ∀ (i : Nat) p, i < ps.length → ps[i]? = some p → p.1 ≠ c) : keyAt ps c = none := by
  unfold keyAt
  rw [List.findIdx?_eq_none_iff]
  intro x hx
  obtain ⟨i, hi⟩ := List.mem_iff_getElem?.1 hx
  have := hb i x (List.getElem?_eq_some_iff.1 hi).1 hi
  simpa using this
theorem pair_cell {o w : World} {its : List It} {ps : List Pr} {g n cap : Nat} (h : St o its w) (i : Nat) (hi : its[i]? = some (ownI 69 2 (.slice (some ⟨g, 0, none⟩) n cap) n (fl pC ps))) (hn : n = ps.length) {k : Nat} {p : Pr} (hp : ps[k]? = some p) : w.cell? ⟨g, k * 2, none⟩ = some (.int .i64 p.1) ∧ w.cell? ⟨g, k * 2 + 1, none⟩ = some (.int .i64 p.2) ∧ w.frozen? ⟨g, k * 2 + 1, none⟩ = false := by
  have r := st_rin (f := pC) (xs := ps) h i hi hn (fun _ => rfl)
  have q0 := r.at (k := 2) (fun _ => rfl) hp 0 _ rfl
  have q1 := r.at (k := 2) (fun _ => rfl) hp 1 _ rfl
  simp only [Nat.zero_add, Nat.add_zero] at q0 q1
  exact ⟨q0, q1, h.ownFrozen i hi _⟩
theorem found_st {o w : World} {R : List It} {ps : List Pr} {g cap k : Nat} {pc px xce : Int} {A : It} (h : St o (A :: lstR pC 69 2 (.slice (some ⟨g, 0, none⟩) ps.length cap) ps :: R) w) (hp : ps[k]? = some (pc, px)) (he : pc = xce) (xx : Int) : St o (lstR pC 69 2 (.slice (some ⟨g, 0, none⟩) ps.length cap) (ps.set k (xce, xx)) :: R) (w.setCell ⟨g, k * 2 + 1, none⟩ (.int .i64 xx)) := by
  subst he
  have := (r_set (f := pC) (k := 2) (fun _ => rfl) h 1 rfl rfl hp 1 (by omega) (.int .i64 xx) (x' := (pc, xx)) rfl).pop
  show St o (ownI _ _ _ (ps.set k (pc, xx)).length _ :: R) _
  rw [List.length_set]
  exact this
theorem new_st {w w1' : World} {v1 : Value} {ps : List Pr} {xce xx xst xga : Int} {xow : Bool} {E B : Nat} {cs : Array Value} (h : St w [lstR pC 69 2 v1 (ps ++ [(xce, 0)]), boxI B #[.int .i64 xst, .bool true, .int .i64 xce, .int .i64 xx, .bool xow, .int .i64 xga] 53, boxI E cs 31] w1') :
    ∃ g1 cap1, v1 = .slice (some ⟨g1, 0, none⟩) (ps.length + 1) cap1 ∧ w1'.cell? ⟨B, 3, none⟩ = some (.int .i64 xx) ∧ w1'.cell? ⟨g1, ps.length * 2 + 1, none⟩ = some (.int .i64 0) ∧ w1'.frozen? ⟨g1, ps.length * 2 + 1, none⟩ = false ∧ St w [lstR pC 69 2 (.slice (some ⟨g1, 0, none⟩) (ps.length + 1) cap1) (ps ++ [(xce, xx)]), boxI E cs 31] (w1'.setCell ⟨g1, ps.length * 2 + 1, none⟩ (.int .i64 xx)) := by
  have e : (ps ++ [(xce, (0 : Int))]).length = ps.length + 1 := by simp
  have h2 : St w [ownI 69 2 v1 (ps.length + 1) (fl pC (ps ++ [(xce, 0)])), boxI B #[.int .i64 xst, .bool true, .int .i64 xce, .int .i64 xx, .bool xow, .int .i64 xga] 53, boxI E cs 31] w1' := by rw [← e]; exact h
  obtain ⟨g1, cap1, rfl⟩ := h2.form 0 rfl (by omega)
  have hp : (ps ++ [(xce, (0 : Int))])[ps.length]? = some (xce, 0) := by simp
  obtain ⟨-, q1, qf⟩ := pair_cell h2 0 rfl e.symm hp
  refine ⟨g1, cap1, rfl, h2.cell 1 rfl 3, q1, qf, ?_⟩
  have := r_set (f := pC) (k := 2) (fun _ => rfl) h2 0 rfl e.symm hp 1 (by omega) (.int .i64 xx) (x' := (xce, xx)) rfl
  have e2 : (ps ++ [(xce, (0 : Int))]).set ps.length (xce, xx) = ps ++ [(xce, xx)] := by simp
  rw [e2] at this
  have e3 : (ps ++ [(xce, xx)]).length = ps.length + 1 := by simp
  have s3 : St w [ownI 69 2 (.slice (some ⟨g1, 0, none⟩) (ps.length + 1) cap1) (ps.length + 1) (fl pC (ps ++ [(xce, xx)])), boxI B #[.int .i64 xst, .bool true, .int .i64 xce, .int .i64 xx, .bool xow, .int .i64 xga] 53, boxI E cs 31] (w1'.setCell ⟨g1, ps.length * 2 + 1, none⟩ (.int .i64 xx)) := this
  have s4 := (s3.perm (List.Perm.swap _ _ _)).pop
  show St w [ownI _ _ _ (ps ++ [(xce, xx)]).length _, _] _
  rw [e3]
  exact s4
end Go.Proofs.Ytnmlnjljmikmpab
