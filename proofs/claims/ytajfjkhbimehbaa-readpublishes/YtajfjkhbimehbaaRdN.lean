/- What a step leaves as it is, and what it notes. No program is named here. -/
import Derived.Test.YtajfjkhbimehbaaRdF
namespace Go.Proofs.Ytajfjkhbimehbaa
open Go.RowKit
set_option linter.unusedVariables false
set_option linter.unusedSimpArgs false

theorem Rd.fit_new {sl gn sn : Int} {sg : Sg} {ce : Int} {bi : Sg} (h1 : sg.ok) (h2 : bi.ok) : (Rd.new sl gn sn sg ce bi).fit := Rd.fit_on (r := ⟨sl, gn, sn, sg, ce, bi, 0, 0, 4⟩) h1 h2
theorem Rd.next_frame (r : Rd) (z : SSt) : (r.next z).sl = r.sl ∧ (r.next z).gn = r.gn ∧ (r.next z).ce = r.ce ∧ (r.next z).bi = r.bi := by
  unfold Rd.next
  split
  · exact ⟨rfl, rfl, rfl, rfl⟩
  · split
    · exact ⟨rfl, rfl, rfl, rfl⟩
    · split
      · split
        · split <;> exact ⟨rfl, rfl, rfl, rfl⟩
        · exact ⟨rfl, rfl, rfl, rfl⟩
      · split <;> exact ⟨rfl, rfl, rfl, rfl⟩
theorem SSt.reads_frame (z : SSt) (r : Rd) : (z.reads r).xs = z.xs ∧ (z.reads r).x = z.x ∧ (z.reads r).hs = z.hs ∧ (z.reads r).ev = z.ev := by
  unfold SSt.reads
  split
  · exact ⟨rfl, rfl, rfl, rfl⟩
  · split
    · exact ⟨rfl, rfl, rfl, rfl⟩
    · split
      · exact ⟨rfl, rfl, rfl, rfl⟩
      · split <;> exact ⟨rfl, rfl, rfl, rfl⟩
theorem inN_iff (n i : Int) : inN n i = true ↔ 0 ≤ i ∧ i < n := by simp [inN]
theorem wordAt_in {n : Nat} {s : Int} {j : Nat} (h0 : 0 ≤ s) (h1 : s < n) (hj : j < 2) : wordAt n s (j : Int) = some (s.toNat * 2 + j) := by
  unfold wordAt
  rw [if_pos ⟨h0, h1, by omega, by omega⟩]
  simp
/-- One access a step, and of which kind. -/
theorem SSt.reads_note {z : SSt} {r : Rd} (hf : r.fit) (h4 : r.st ≠ 4) (hs : 0 ≤ r.sl ∧ r.sl < z.hs.length) (hc : cin z.xs r.ce = true) : ∃ a b d, (z.reads r).s = z.s.note a b d true ∧ (a == 2) = (r.st == 2) ∧ (a == 1) = (r.st == 1) := by
  have h5 := hf.st
  unfold SSt.reads
  by_cases h0 : r.st = 0
  · rw [if_pos h0]
    obtain ⟨i, l, hm, hi, hd⟩ := miss_head (hf.pub h0)
    rw [hd]
    refine ⟨4, (r.sl.toNat * 2 + i : Nat), 2, ?_, by rw [h0]; rfl, by rw [h0]; rfl⟩
    show putS z.s z.hs.length r.sl (i : Nat) = _
    unfold putS
    rw [wordAt_in hs.1 hs.2 hi]
  · rw [if_neg h0]
    by_cases h1 : r.st = 1
    · rw [if_pos h1]
      refine ⟨1, r.ce, 1, ?_, by rw [h1]; rfl, by rw [h1]; rfl⟩
      show loadS z.s z.xs r.ce = _
      unfold loadS
      rw [hc]
      rfl
    · rw [if_neg h1]
      by_cases h2 : r.st = 2
      · rw [if_pos h2]
        exact ⟨2, 0, 1, rfl, by rw [h2]; rfl, by rw [h2]; rfl⟩
      · have h3 : r.st = 3 := by omega
        rw [if_neg h2, if_pos h3]
        refine ⟨3, r.sl, 1, ?_, by rw [h3]; rfl, by rw [h3]; rfl⟩
        show lookS z.s z.hs r.sl = _
        unfold lookS
        obtain ⟨k, hk⟩ := Int.eq_ofNat_of_zero_le hs.1
        rw [hk, headAt_in (k := k) (by have := hs.2; omega)]
/-- The last access of a log. -/
theorem logCells_last (l : List Acc) (a : Acc) : (logCells (l ++ [a]))[l.length * 6 + 2]? = some (.int .i64 a.kind) := by
  rw [logCells_append, List.getElem?_append_right (by rw [logCells_length]; omega), logCells_length]
  rw [show l.length * 6 + 2 - l.length * 6 = 2 by omega]
  rfl
end Go.Proofs.Ytajfjkhbimehbaa
