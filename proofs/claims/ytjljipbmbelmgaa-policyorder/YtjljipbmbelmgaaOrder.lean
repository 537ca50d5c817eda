/- Victims told again from the last to the first: what a verdict hangs on. -/
import Derived.Test.YtjljipbmbelmgaaJd
namespace Go.Proofs.Ytjljipbmbelmgaa
open Go.RowKit
set_option linter.unusedVariables false
set_option linter.unusedSimpArgs false

def bkAt (zs : List Vt) (i : Nat) : Vt := ⟨i, -i, (zs.getD i Vt.zero).sp, 0⟩
/-- The last m of them, the last one first, with nothing of theirs but the stamps. -/
def bk (zs : List Vt) (m : Nat) : List Vt := (List.range m).map (fun t => bkAt zs (zs.length - 1 - t))
theorem bk_succ (zs : List Vt) (m : Nat) : bk zs (m + 1) = bk zs m ++ [bkAt zs (zs.length - 1 - m)] := by
  simp [bk, List.range_succ]
theorem bk_length (zs : List Vt) (m : Nat) : (bk zs m).length = m := by simp [bk]
theorem anyOld_bk (sp : Int) (zs : List Vt) : anyOld sp (bk zs zs.length) = anyOld sp zs := by
  rw [Bool.eq_iff_iff]
  simp only [anyOld, bk, List.any_eq_true, List.mem_map, List.mem_range, decide_eq_true_eq]
  constructor
  · rintro ⟨t, ⟨i, hi, rfl⟩, h⟩
    have hj : zs.length - 1 - i < zs.length := by omega
    refine ⟨zs[zs.length - 1 - i], List.getElem_mem hj, ?_⟩
    simpa [bkAt, hj] using h
  · rintro ⟨t, ht, h⟩
    obtain ⟨i, hi, rfl⟩ := List.getElem_of_mem ht
    refine ⟨_, ⟨zs.length - 1 - i, by omega, rfl⟩, ?_⟩
    have e : zs.length - 1 - (zs.length - 1 - i) = i := by omega
    rw [e]
    simpa [bkAt, hi] using h
theorem vdV_congr (c : Cfg) (sp df : Int) {zs ys : List Vt} (h1 : zs.length = ys.length) (h2 : anyOld sp zs = anyOld sp ys) : vdV c sp df zs = vdV c sp df ys := by
  simp only [vdV, h1, h2]
theorem vdV_more (c : Cfg) (sp df : Int) (zs : List Vt) (t : Vt) : vdV c sp df zs = vdV c sp df (zs ++ [t]) ∨ vdV c sp df zs = 1 := by
  unfold vdV
  cases hok : vdOk c df
  · exact .inl rfl
  · simp only [if_true]
    by_cases h1 : c.ta = 2 ∧ c.ba < (zs.length : Int) ∧ df < c.de
    · rw [if_pos h1, if_pos ⟨h1.1, by simp; omega, h1.2.2⟩]
      exact .inl rfl
    · rw [if_neg h1]
      by_cases h2 : c.ta = 3 ∧ anyOld sp zs = true
      · have h3 : anyOld sp (zs ++ [t]) = true := by
          have := h2.2
          simp only [anyOld, List.any_append] at *
          simp [this]
        rw [if_pos h2, if_neg (fun h => by have := h.1; have := h2.1; omega), if_pos ⟨h2.1, h3⟩]
        exact .inl rfl
      · rw [if_neg h2]
        exact .inr rfl
end Go.Proofs.Ytjljipbmbelmgaa
