/- A list of things as one thing, and back. No program is named here. -/
import Derived.Test.YtajfjkhbimehbaaGreatOne
namespace Go.Proofs.YtajfjkhbimehbaaGreat
open Go.RowKit
set_option linter.unusedVariables false
set_option linter.unusedSimpArgs false

/-- A list of things as one. -/
def joinI (l : List It) : It :=
  ⟨l.flatMap It.fp, fun w => ∀ i, i ∈ l → i.P w,
   fun w w' h p i hi => i.loc w w' (fun k hk => h k (List.mem_flatMap.2 ⟨i, hi, hk⟩)) (p i hi),
   fun w p k hk => by
     obtain ⟨i, hi, hk⟩ := List.mem_flatMap.1 hk
     exact i.old w (p i hi) k hk⟩
section
variable {o w : World} {l its : List It}
theorem St.split (h : St o (joinI l :: its) w) : St o (l ++ its) w := by
  refine ⟨?_, ?_, ?_, h.kept⟩
  · have := h.nodup
    rw [List.flatMap_cons] at this
    rw [List.flatMap_append]
    exact this
  · intro i hi
    rcases List.mem_append.1 hi with hi | hi
    · exact h.all (joinI l) (by simp) i hi
    · exact h.all i (List.mem_cons_of_mem _ hi)
  · intro i hi k hk
    rcases List.mem_append.1 hi with hi | hi
    · exact h.high (joinI l) (by simp) k (List.mem_flatMap.2 ⟨i, hi, hk⟩)
    · exact h.high i (List.mem_cons_of_mem _ hi) k hk
theorem St.unite (h : St o (l ++ its) w) : St o (joinI l :: its) w := by
  refine ⟨?_, ?_, ?_, h.kept⟩
  · have := h.nodup
    rw [List.flatMap_append] at this
    rw [List.flatMap_cons]
    exact this
  · intro i hi
    rcases List.mem_cons.1 hi with rfl | hi
    · exact fun j hj => h.all j (List.mem_append_left _ hj)
    · exact h.all i (List.mem_append_right _ hi)
  · intro i hi k hk
    rcases List.mem_cons.1 hi with rfl | hi
    · obtain ⟨j, hj, hk⟩ := List.mem_flatMap.1 hk
      exact h.high j (List.mem_append_left _ hj) k hk
    · exact h.high i (List.mem_append_right _ hi) k hk
theorem erase_at (a b : List It) (A : It) : (a ++ A :: b).eraseIdx a.length = a ++ b := by
  rw [List.eraseIdx_append_of_length_le (Nat.le_refl _)]
  simp
theorem perm_at {i : Nat} {A : It} (hi : its[i]? = some A) : its.Perm (A :: its.eraseIdx i) := by
  obtain ⟨a, b, rfl, rfl⟩ := split_at hi
  rw [erase_at]
  exact List.perm_middle
theorem perm_set {i : Nat} {A : It} (hi : its[i]? = some A) (B : It) : (its.set i B).Perm (B :: its.eraseIdx i) := by
  obtain ⟨a, b, rfl, rfl⟩ := split_at hi
  rw [erase_at, set_at]
  exact List.perm_middle
/-- What is made of things lies open, ahead of all others. -/
theorem St.open (h : St o its w) (i : Nat) (hi : its[i]? = some (joinI l)) : St o (l ++ its.eraseIdx i) w := (h.perm (perm_at hi)).split
/-- It is shut again. -/
theorem St.shut {i : Nat} {A : It} (hi : its[i]? = some A) (h : St o (l ++ its.eraseIdx i) w) : St o (its.set i (joinI l)) w := h.unite.perm (perm_set hi _).symm
/-- It is shut again, something new stays ahead. -/
theorem St.shut1 {i : Nat} {A X : It} (hi : its[i]? = some A) (h : St o (X :: (l ++ its.eraseIdx i)) w) : St o (X :: its.set i (joinI l)) w := by
  have h2 : St o (l ++ (X :: its.eraseIdx i)) w := h.perm List.perm_middle.symm
  exact (h2.unite.perm (List.Perm.swap ..)).perm ((perm_set hi _).symm.cons X)
theorem St.swap {A B : It} (h : St o (A :: B :: its) w) : St o (B :: A :: its) w := h.perm (List.Perm.swap ..)
end
end Go.Proofs.YtajfjkhbimehbaaGreat
