/- The document's cells of an empty set: Lay of nothing, by no seed; Start. -/
import Derived.Test.YtdfefjalamohjaaGreatDoorSeL
namespace Go.Proofs.YtdfefjalamohjaaGreatDoor
open Go.RowKit
set_option linter.unusedVariables false
set_option linter.unusedSimpArgs false
attribute [local go_sem ↓] Go.wp_at_zero Go.wp_at_succ

def ordM (n k : Nat) : List Int := (List.range n).map (fun i => if i < k then (i : Int) + 1 else 0)
theorem ordM_zero (n : Nat) : List.replicate n (0 : Int) = ordM n 0 := by
  apply List.ext_getElem
  · simp [ordM]
  · intro i h1 h2
    simp [ordM]
theorem ordM_set (n k : Nat) (hk : k < n) : (ordM n k).set k ((k : Int) + 1) = ordM n (k + 1) := by
  apply List.ext_getElem
  · simp [ordM]
  · intro i h1 h2
    rw [List.getElem_set]
    simp only [ordM, List.getElem_map, List.getElem_range]
    split
    · rename_i e; subst e; rw [if_pos (by omega)]
    · rename_i e
      by_cases h : i < k
      · rw [if_pos h, if_pos (by omega)]
      · rw [if_neg h, if_neg (by omega)]
theorem ordM_at (n k : Nat) (hk : k < n) : (ordM n n).getD k 0 = (k : Int) + 1 := by
  simp [ordM, List.getD_eq_getElem?_getD, hk]
def lyJ (n k j : Nat) : Int := if j % 2 = 0 ∧ 4 ≤ j ∧ j < 4 + 2 * k ∧ j < 2 + 2 * n then ((j / 2 : Nat) : Int) else 0
def lyM (n k : Nat) : List Int := (List.range (3 + 2 * n)).map (lyJ n k)
theorem lyM_zero (n : Nat) : (List.replicate (3 + 2 * n) (0 : Int)).set 2 0 = lyM n 0 := by
  apply List.ext_getElem
  · simp [lyM]
  · intro i h1 h2
    rw [List.getElem_set]
    simp only [lyM, List.getElem_map, List.getElem_range, lyJ, List.getElem_replicate]
    have hc : ¬ (i % 2 = 0 ∧ 4 ≤ i ∧ i < 4 + 2 * 0 ∧ i < 2 + 2 * n) := by omega
    rw [if_neg hc]
    split <;> rfl
theorem lyM_set (n k : Nat) (hk : k < n) (x : Int) (hx : x = if k + 1 < n then (k : Int) + 2 else 0) : (lyM n k).set (4 + 2 * k) x = lyM n (k + 1) := by
  apply List.ext_getElem
  · simp [lyM]
  · intro i h1 h2
    rw [List.getElem_set]
    simp only [lyM, List.getElem_map, List.getElem_range, lyJ]
    split
    · rename_i e
      subst e hx
      by_cases h : k + 1 < n
      · rw [if_pos h, if_pos (by omega)]
        omega
      · rw [if_neg h, if_neg (by omega)]
    · rename_i e
      by_cases hc : i % 2 = 0 ∧ 4 ≤ i ∧ i < 4 + 2 * k ∧ i < 2 + 2 * n
      · rw [if_pos hc, if_pos (by omega)]
      · rw [if_neg hc, if_neg (by omega)]
theorem lyM_end (n : Nat) : (lyM n n).set 1 1 = stM n n := by
  apply List.ext_getElem
  · simp [lyM, stM]
  · intro i h1 h2
    rw [List.getElem_set]
    simp only [lyM, stM, List.getElem_map, List.getElem_range, lyJ, stJ]
    split
    · rename_i e; subst e; rfl
    · rename_i e
      have e1 : ¬ i = 1 := fun h => e h.symm
      by_cases hc : i % 2 = 0 ∧ 4 ≤ i ∧ i < 2 + 2 * n
      · rw [if_neg e1, if_pos hc, if_pos (by omega)]
      · rw [if_neg e1, if_neg hc, if_neg (by omega)]

theorem Tryz.infoN : (Tryz.prog.info? 3).map (fun i => (i.zero, i.size, i.bytes)) = some (some (.int .i64 0), 1, 8) := by kernel_rfl
theorem makeN (k : Nat) (hk : k * 8 ≤ 140737488355328) (W : World) : (Instr.makeSlice 62 (.int .i64 (k : Int)) (.int .i64 (k : Int))).run Tryz.prog W = .ok (.slice (some ⟨W.heap.size, 0, none⟩) k k) (W.alloc (.cells (xC (List.replicate k 0)).toArray 3)) := by
  obtain ⟨i0, hi0, hz0, hz1, hz2⟩ := info_parts Tryz.infoN
  have := run_make (P := Tryz.prog) W 62 3 i0 _ Tryz.underlying62 hi0 hz0 .i64 .i64 k k (by omega) (by omega) (by rw [hz2]; omega) (by omega)
  rw [this, hz1, Int.toNat_natCast, made_one rfl]
  simp [xC]
abbrev rowN (g n cap : Nat) (zs : List Int) : It := ownI 3 1 (.slice (some ⟨g, 0, none⟩) n cap) n (xC zs)
theorem owns_newN (w : World) (zs : List Int) (hm : zs.length ≤ maxLen) : (w.alloc (.cells (xC zs).toArray 3)).ownsRow w.heap.size 3 1 (.slice (some ⟨w.heap.size, 0, none⟩) zs.length zs.length) zs.length (xC zs) :=
  ⟨by simp [xC], .inr ⟨w.heap.size, zs.length, (xC zs).toArray, rfl, Nat.le_refl _, heap_alloc_new w _, Nat.le_refl _, hm, by simp [xC], by rw [Nat.mul_one]; exact List.take_of_length_le (by simp [xC])⟩⟩
theorem St.newN {o w : World} {its : List It} (h : St o its w) (zs : List Int) (hm : zs.length ≤ maxLen) : St o (rowN w.heap.size zs.length zs.length zs :: its) (w.alloc (.cells (xC zs).toArray 3)) :=
  h.own (kept_alloc w _) (owns_newN w zs hm)
section
variable {o w : World} {R : List It} {g n cap h m c2 : Nat} {zs ys : List Int}
theorem rowN_len (h : St o (rowN g n cap zs :: R) w) : n = zs.length := by
  have := h.ownCap 0 rfl
  rw [xC_length] at this
  omega
theorem rowN_cell (h : St o (rowN g n cap zs :: R) w) {j : Nat} (hj : j < n) : w.cell? ⟨g, j, none⟩ = some (.int .i64 (zs.getD j 0)) := by
  rw [h.ownCell 0 rfl j (by omega)]
  exact xC_at zs j (by have := rowN_len h; omega)
theorem rowN_frozen (h : St o (rowN g n cap zs :: R) w) (j : Nat) : w.frozen? ⟨g, j, none⟩ = false := h.ownFrozen 0 rfl j
theorem rowN_set (h : St o (rowN g n cap zs :: R) w) {j : Nat} (hj : j < n) (x : Int) : St o (rowN g n cap (zs.set j x) :: R) (w.setCell ⟨g, j, none⟩ (.int .i64 x)) := by
  have := h.ownSet 0 rfl j (by omega) (.int .i64 x)
  rw [xC_set] at this
  exact this
/-- the second row, of int64, behind a first of int -/
theorem row2_cell (s : St o (rowN g n cap zs :: rowI h m c2 ys :: R) w) {j : Nat} (hj : j < m) (hl : ys.length = m) : w.cell? ⟨h, j, none⟩ = some (.int .i64 (ys.getD j 0)) := by
  rw [s.ownCell 1 rfl j (by omega)]
  exact xC_at ys j (by omega)
theorem row2_frozen (s : St o (rowN g n cap zs :: rowI h m c2 ys :: R) w) (j : Nat) : w.frozen? ⟨h, j, none⟩ = false := s.ownFrozen 1 rfl j
theorem row2_set (s : St o (rowN g n cap zs :: rowI h m c2 ys :: R) w) {j : Nat} (hj : j < m) (x : Int) : St o (rowN g n cap zs :: rowI h m c2 (ys.set j x) :: R) (w.setCell ⟨h, j, none⟩ (.int .i64 x)) := by
  have := s.ownSet 1 rfl j (by omega) (.int .i64 x)
  rw [xC_set] at this
  exact this
end
set_option maxRecDepth 100000 in
set_option maxHeartbeats 2000000 in
theorem Lay_none (k : Nat) (h1 : 1 ≤ k) (h2 : k ≤ 60) (w : World) : Calls Tryz.prog 19 #[.slice none 0 0, .int .i64 (k : Int), .int .i64 0] w fun e w' =>
    ∃ g, e = .returned (.slice (some ⟨g, 0, none⟩) (3 + 2 * k) (3 + 2 * k)) ∧ St w [rowI g (3 + 2 * k) (3 + 2 * k) (stM k k)] w' := by
  have hm := makeX (3 + 2 * k) (3 + 2 * (k : Int)) (by push_cast; rfl) (by omega) w
  have s0 : St w (rowI w.heap.size (3 + 2 * k) (3 + 2 * k) (List.replicate (3 + 2 * k) 0) :: []) (w.alloc (.cells (xC (List.replicate (3 + 2 * k) 0)).toArray 2)) := by
    have := (St.nil w).new64 (List.replicate (3 + 2 * k) 0) (by rw [List.length_replicate]; unfold maxLen; omega)
    rw [List.length_replicate] at this
    exact this
  generalize xC (List.replicate (3 + 2 * k) 0) = zz at *
  generalize hw1 : w.alloc (.cells zz.toArray 2) = w1 at *
  generalize hg : w.heap.size = g at *
  have hm2 := makeN k (by omega) w1
  have s1 : St w (rowN w1.heap.size k k (ordM k 0) :: rowI g (3 + 2 * k) (3 + 2 * k) (List.replicate (3 + 2 * k) 0) :: []) (w1.alloc (.cells (xC (List.replicate k 0)).toArray 3)) := by
    have := s0.newN (List.replicate k 0) (by rw [List.length_replicate]; unfold maxLen; omega)
    rw [List.length_replicate] at this
    rw [← ordM_zero]
    exact this
  generalize xC (List.replicate k 0) = zz2 at *
  generalize hw2 : w1.alloc (.cells zz2.toArray 3) = w2 at *
  generalize hg2 : w1.heap.size = q at *
  have hS1 := hid s1
  clear s0 s1
  have hk0 : (1 : Int) ≤ (k : Int) := by omega
  have hk6 : (k : Int) ≤ 60 := by omega
  go_enter Tryz.func19, Tryz.ntmps19
  go_wp2_with (first | simp only [hm, hw1, hg] | simp only [hm2, hw2, hg2])
  clear hm hm2 hw1 hw2 hg hg2
  have hK1 := hid h1
  have hK2 := hid h2
  clear h1 h2
  go_loopw [9] (fun v wr => ∃ j : Nat, j ≤ k ∧ v = .int .i64 j ∧ St w [rowN q k k (ordM k j), rowI g (3 + 2 * k) (3 + 2 * k) (List.replicate (3 + 2 * k) 0)] wr) (fun v _ => k - (intOf v).toNat)
  case atStart => exact ⟨0, by omega, rfl, hS1.out⟩
  case round =>
    obtain ⟨j, hj, rfl, hs⟩ := hrel
    by_cases hlt : j < k
    · have f2 : wr.frozen? ⟨q, j, none⟩ = false := rowN_frozen hs _
      obtain ⟨u2, c2⟩ : ∃ u, wr.cell? ⟨q, j, none⟩ = some u := ⟨_, rowN_cell hs (j := j) (by omega)⟩
      have s2 := rowN_set hs (j := j) hlt ((j : Int) + 1)
      rw [ordM_set k j hlt] at s2
      have HS2 := hid s2
      have hlt' : (j : Int) < (k : Int) := by omega
      have hj9 : (j : Int) + 1 ≤ 61 := by omega
      have hj0 : (0 : Int) ≤ (j : Int) := by omega
      clear hs s2
      go_wp2
      go_roundw
      case rel => exact ⟨j + 1, by omega, by simp, HS2.out⟩
      case measure => simp [intOf]; omega
    · obtain rfl : j = k := by omega
      have f2 : wr.frozen? ⟨g, 2, none⟩ = false := row2_frozen hs _
      obtain ⟨u2, c2⟩ : ∃ u, wr.cell? ⟨g, 2, none⟩ = some u := ⟨_, row2_cell hs (j := 2) (by omega) (by simp)⟩
      have s2 := row2_set hs (j := 2) (by omega) 0
      rw [lyM_zero] at s2
      have HS2 := hid s2
      have hm2 : (2 : Int) < ((3 + 2 * j : Nat) : Int) := by omega
      clear hs s2
      go_wp2
      generalize wr.setCell ⟨g, 2, none⟩ (.int .i64 0) = w3 at *
      clear f2 c2 hm2
      go_loopw [11] (fun v wr => ∃ i : Nat, i ≤ j ∧ v = .int .i64 i ∧ St w [rowN q j j (ordM j j), rowI g (3 + 2 * j) (3 + 2 * j) (lyM j i)] wr) (fun v _ => j - (intOf v).toNat)
      case atStart => exact ⟨0, by omega, rfl, HS2.out⟩
      case round =>
        obtain ⟨i, hi, rfl, hs⟩ := hrel
        have hk1 := hK1.out
        have hk2 := hK2.out
        by_cases hlt : i < j
        · have f2 : wr.frozen? ⟨g, 4 + 2 * i, none⟩ = false := row2_frozen hs _
          obtain ⟨u2, c2⟩ : ∃ u, wr.cell? ⟨g, 4 + 2 * i, none⟩ = some u := ⟨_, row2_cell hs (j := 4 + 2 * i) (by omega) (by simp [lyM])⟩
          have o0 := rowN_cell hs (j := i) hlt
          rw [ordM_at j i hlt] at o0
          have hi0 : (0 : Int) ≤ (i : Int) := by omega
          have hi1 : (i : Int) < (j : Int) := by omega
          have ei : ((2 : Int) + 2 * ((i : Int) + 1)).toNat = 4 + 2 * i := by omega
          have hq0 : (0 : Int) ≤ 2 + 2 * ((i : Int) + 1) := by omega
          have hq1 : (2 : Int) + 2 * ((i : Int) + 1) < ((3 + 2 * j : Nat) : Int) := by omega
          have hq2 : (2 : Int) + 2 * ((i : Int) + 1) ≤ 200 := by omega
          by_cases hn : i + 1 < j
          · have o1 := rowN_cell hs (j := i + 1) hn
            rw [ordM_at j (i + 1) hn] at o1
            have s2 := row2_set hs (j := 4 + 2 * i) (by omega) (((i + 1 : Nat) : Int) + 1)
            rw [lyM_set j i hlt _ (by rw [if_pos hn]; push_cast; omega)] at s2
            have HS3 := hid s2
            have hn1 : (i : Int) + 1 < (j : Int) := by omega
            have en : ((i : Int) + 1).toNat = i + 1 := by omega
            have t1 : (((i : Int) + 1) != 0) = true := by simp; omega
            clear hs s2 HS2
            push_cast at o1 HS3
            go_wp2_with (simp only [ei, en])
            go_roundw
            case rel => exact ⟨i + 1, by omega, by simp, HS3.out⟩
            case measure => simp [intOf]; omega
          · have s2 := row2_set hs (j := 4 + 2 * i) (by omega) 0
            rw [lyM_set j i hlt _ (by rw [if_neg hn])] at s2
            have HS3 := hid s2
            have hn1 : ¬ (i : Int) + 1 < (j : Int) := by omega
            clear hs s2 HS2
            go_wp2_with (simp only [ei])
            go_roundw
            case rel => exact ⟨i + 1, by omega, by simp, HS3.out⟩
            case measure => simp [intOf]; omega
        · obtain rfl : i = j := by omega
          have f2 : wr.frozen? ⟨g, 1, none⟩ = false := row2_frozen hs _
          obtain ⟨u2, c2⟩ : ∃ u, wr.cell? ⟨g, 1, none⟩ = some u := ⟨_, row2_cell hs (j := 1) (by omega) (by simp [lyM])⟩
          have o0 := rowN_cell hs (j := 0) (by omega)
          rw [ordM_at i 0 (by omega)] at o0
          have s2 := row2_set hs (j := 1) (by omega) 1
          rw [lyM_end] at s2
          have HS3 := hid s2
          have hm2 : (1 : Int) < ((3 + 2 * i : Nat) : Int) := by omega
          have hz : (0 : Int) < (i : Int) := by omega
          clear hs s2 HS2
          simp only [Int.natCast_zero, Int.zero_add] at o0
          go_wp2
          go_ret
          exact ⟨_, rfl, (St.cut (A := [rowI g (3 + 2 * i) (3 + 2 * i) (stM i i)]) (B := [rowN q i i (ordM i i)]) (HS3.out.perm (List.Perm.swap _ _ _)))⟩
end Go.Proofs.YtdfefjalamohjaaGreatDoor
