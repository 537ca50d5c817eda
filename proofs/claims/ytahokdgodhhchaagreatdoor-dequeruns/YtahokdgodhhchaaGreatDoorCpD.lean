/- Copied, pick. -/
import Derived.Test.YtahokdgodhhchaaGreatDoorDoesWalk
import Derived.Laws.CopyOwn
namespace Go.Proofs.YtahokdgodhhchaaGreatDoor
open Go.RowKit
set_option linter.unusedVariables false
set_option linter.unusedSimpArgs false
attribute [local go_sem ↓] Go.wp_at_zero Go.wp_at_succ

theorem sizeX : (Tryz.prog.info? 2).map (·.size) = some 1 := by kernel_rfl
/-- A list cut or filled up to a length. -/
def padM (k : Nat) (l : List Int) : List Int := l.take k ++ List.replicate (k - l.length) 0
theorem padM_length (k : Nat) (l : List Int) : (padM k l).length = k := by
  unfold padM
  rw [List.length_append, List.length_take, List.length_replicate]
  omega
theorem padM_self (l : List Int) : padM l.length l = l := by simp [padM]
theorem owns_row {w : World} {g n : Nat} {l : List Int} (h : w.heap[g]? = some (.cells (xC l).toArray 2 (0, 0))) (hn : l.length = n) (hm : n ≤ maxLen) : w.ownsRow g 2 1 (.slice (some ⟨g, 0, none⟩) n n) n (xC l) :=
  ⟨by rw [xC_length]; omega, .inr ⟨g, n, (xC l).toArray, rfl, Nat.le_refl _, h, Nat.le_refl _, hm, by simp [xC]; omega, by rw [Nat.mul_one]; exact List.take_of_length_le (by simp [xC]; omega)⟩⟩
theorem copyX (la : Option Addr) (m lc k : Nat) (l : List Int) (w : World) (hX : XIn w la m l) : ∃ w', (Builtin.copy_ #[24, 24] 3 #[.slice (some ⟨w.heap.size, 0, none⟩) k k, .slice la m lc]).run Tryz.prog (w.alloc (.cells (xC (List.replicate k 0)).toArray 2)) = .ok (goInt (Nat.min m k : Nat)) w' ∧ Kept (fun _ => False) w w' ∧ w'.heap[w.heap.size]? = some (.cells (xC (padM k l)).toArray 2 (0, 0)) := by
  have hml := hX.1
  by_cases h0 : Nat.min m k = 0
  · refine ⟨_, by rw [h0]; exact run_copy_none _ 24 24 3 2 _ _ _ _ _ _ Tryz.underlying24 sizeX h0, kept_alloc w _, ?_⟩
    have hp : padM k l = List.replicate k 0 := by
      unfold padM
      by_cases hk : k = 0
      · subst hk; simp
      · have hm0 : m = 0 := by
          simp only [Nat.min_def] at h0
          split at h0 <;> omega
        have : l = [] := List.length_eq_zero_iff.1 (by omega)
        subst this
        simp
    rw [hp]
    exact heap_alloc_new w _
  · have hm1 : 0 < m := by
      simp only [Nat.min_def] at h0
      split at h0 <;> omega
    obtain ⟨g, o, rfl, hc⟩ := (hX.kept (kept_alloc w (.cells (xC (List.replicate k 0)).toArray 2))).2 hm1
    have hl : (xC (l.take k)).length = Nat.min m k := by
      rw [xC_length, List.length_take, ← hml, Nat.min_comm]
    have hl2 : Nat.min m k ≤ k := Nat.min_le_right _ _
    have hl3 : Nat.min m k ≤ m := Nat.min_le_left _ _
    have hrun := run_copy_row (P := Tryz.prog) (w.alloc (.cells (xC (List.replicate k 0)).toArray 2)) 24 24 3 2 w.heap.size 0 k k ⟨g, o, none⟩ m lc (xC (List.replicate k 0)).toArray 2 (xC (l.take k)) Tryz.underlying24 sizeX (heap_alloc_new w _) hl (fun j v hj => by
      have hjl := (List.getElem?_eq_some_iff.1 hj).1
      rw [hl] at hjl
      rw [xC_at _ j (by rw [List.length_take]; omega)] at hj
      rw [Addr.add_lit, hc j (by omega), ← hj]
      congr 2
      simp only [List.getD_eq_getElem?_getD]
      rw [List.getElem?_take_of_lt (by omega)]) (by rw [hl]; simp [xC]; omega) (xC_one _)
    rw [hl] at hrun
    refine ⟨_, hrun, (kept_alloc w _).trans (G := fun b => b = w.heap.size) ⟨rfl, rfl, rfl, by simp [World.setRow], fun b _ hb => setRow_other _ _ _ _ hb⟩ (fun i hi e => by omega), ?_⟩
    rw [setRow_heap _ _ _ _ _ _ (heap_alloc_new w _)]
    have he : (List.take 0 (xC (List.replicate k 0)).toArray.toList ++ xC (l.take k) ++ List.drop (0 + Nat.min m k) (xC (List.replicate k 0)).toArray.toList) = xC (padM k l) := by
      unfold padM
      rw [xC_append, List.take_zero, List.nil_append, Nat.zero_add]
      have e1 : ∀ q, List.drop q (xC (List.replicate k 0)).toArray.toList = xC (List.replicate (k - q) 0) := fun q => by simp [xC, List.drop_replicate]
      rw [e1]
      have e2 : k - Nat.min m k = k - l.length := by
        rw [← hml]
        have hmin : Nat.min m k = if m ≤ k then m else k := rfl
        rw [hmin]
        split <;> omega
      rw [e2]
    rw [he]
set_option maxHeartbeats 1000000 in
theorem Copied_any (la : Option Addr) (n lc : Nat) (l : List Int) (w : World) (hX : XIn w la n l) (hb : n * 8 ≤ 140737488355328) :
    Calls Tryz.prog 16 #[.slice la n lc] w fun e w' => ∃ v, e = .returned v ∧ St w [ownI 2 1 v n (xC l)] w' := by
  have hm := makeX n (n : Int) rfl hb w
  obtain ⟨w2, hcp, k2, hg⟩ := copyX la n lc n l w hX
  have hln : l.length = n := hX.1.symm
  rw [← hln, padM_self] at hg
  have HS := hid ((St.nil w).own k2 (owns_row hg hln (by unfold maxLen; omega)))
  clear hX hln k2 hg
  generalize (xC (List.replicate n 0)).toArray = Z at *
  go_enter Tryz.func16, Tryz.ntmps16
  go_wp2_with (first | simp only [hm] | simp only [hcp])
  go_ret
  exact ⟨_, rfl, HS.out⟩
theorem pick_any (c : Int) (n : Nat) (w : World) (hn : 0 < n) (hn2 : n ≤ 9223372036854775807) (h0 : -9223372036854775808 ≤ c) (h1 : c ≤ 9223372036854775807) : Calls Tryz.prog 20 #[.int .i64 c, .int .i64 n] w fun e w' => (∃ k : Nat, k < n ∧ e = .returned (.int .i64 k)) ∧ w' = w := by
  have key : ∀ z : Int, 0 ≤ z → ∃ k : Nat, k < n ∧ z.tmod n = (k : Int) := fun z hz => by
    refine ⟨(z.tmod n).toNat, ?_, ?_⟩
    · have := Int.tmod_lt_of_pos z (show (0 : Int) < n by omega)
      have h2 := Int.tmod_nonneg (n : Int) hz
      omega
    · have h2 := Int.tmod_nonneg (n : Int) hz
      omega
  have hnz : ¬ (n : Int) = 0 := by omega
  by_cases hc : c < 0
  · obtain ⟨k, hk, ek⟩ := key (-(c + 1)) (by omega)
    have tc : decide (c < 0) = true := decide_eq_true hc
    clear key
    go_enter Tryz.func20, Tryz.ntmps20
    go_wp2_with (simp only [ek])
    go_ret
    exact ⟨⟨k, hk, by first | rfl | (simp; omega) | (simp [ek])⟩, rfl⟩
  · obtain ⟨k, hk, ek⟩ := key c (by omega)
    have tc : decide (c < 0) = false := decide_eq_false hc
    clear key
    go_enter Tryz.func20, Tryz.ntmps20
    go_wp2_with (simp only [ek])
    go_ret
    exact ⟨⟨k, hk, by first | rfl | (simp; omega) | (simp [ek])⟩, rfl⟩
theorem row_xin {o w : World} {R : List It} {g n cap : Nat} {zs : List Int} (h : St o (rowI g n cap zs :: R) w) : XIn w (some ⟨g, 0, none⟩) n zs :=
  ⟨row_len h, fun _ => ⟨g, 0, rfl, fun j hj => by rw [Nat.zero_add]; exact row_cell h hj⟩⟩
theorem own_slice {w : World} {base t n : Nat} {v : Value} {xs : List Value} (h : w.ownsRow base t 1 v n xs) : ∃ la lc, v = .slice la n lc := by
  rcases h.2 with ⟨rfl, hn⟩ | ⟨g, cap, cur, rfl, _⟩
  · exact ⟨none, 0, by rw [hn]⟩
  · exact ⟨_, _, rfl⟩
end Go.Proofs.YtahokdgodhhchaaGreatDoor
