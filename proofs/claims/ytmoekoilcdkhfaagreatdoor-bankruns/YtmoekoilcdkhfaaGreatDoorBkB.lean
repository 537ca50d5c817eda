/- Package bank: what the deeds do to a row of balances. -/
import Derived.Test.YtmoekoilcdkhfaaGreatDoorBkA
import Derived.Test.YtmoekoilcdkhfaaGreatDoorRest
import Derived.BigQuiet
import Derived.Deep.RegionHeld3
namespace Go.Proofs.YtmoekoilcdkhfaaGreatDoor
open Go.RowKit
set_option linter.unusedVariables false
set_option linter.unusedSimpArgs false
attribute [local go_sem ↓] Go.wp_at_zero Go.wp_at_succ

theorem xC_set (zs : List Int) (k : Nat) (x : Int) : (xC zs).set k (.int .i64 x) = xC (zs.set k x) := by simp [xC]
abbrev rowI (g n cap : Nat) (zs : List Int) : It := ownI 2 1 (.slice (some ⟨g, 0, none⟩) n cap) n (xC zs)
section
variable {o w : World} {R : List It} {g n cap : Nat} {zs : List Int}
theorem row_len (h : St o (rowI g n cap zs :: R) w) : n = zs.length := by
  have := h.ownCap 0 rfl
  rw [xC_length] at this
  omega
theorem row_cell (h : St o (rowI g n cap zs :: R) w) {j : Nat} (hj : j < n) : w.cell? ⟨g, j, none⟩ = some (.int .i64 (zs.getD j 0)) := by
  rw [h.ownCell 0 rfl j (by omega)]
  exact xC_at zs j (by have := row_len h; omega)
theorem row_frozen (h : St o (rowI g n cap zs :: R) w) (j : Nat) : w.frozen? ⟨g, j, none⟩ = false := h.ownFrozen 0 rfl j
theorem row_set (h : St o (rowI g n cap zs :: R) w) {j : Nat} (hj : j < n) (x : Int) : St o (rowI g n cap (zs.set j x) :: R) (w.setCell ⟨g, j, none⟩ (.int .i64 x)) := by
  have := h.ownSet 0 rfl j (by omega) (.int .i64 x)
  rw [xC_set] at this
  exact this
theorem getD_set_same (zs : List Int) {k : Nat} (hk : k < zs.length) (x : Int) : (zs.set k x).getD k 0 = x := by simp [List.getD_eq_getElem?_getD, hk]
/-- The deed's box goes, the row stays. -/
theorem St.swap {a b : It} (h : St o (a :: b :: R) w) : St o (b :: a :: R) w := h.perm (List.Perm.swap b a R)
set_option maxHeartbeats 2000000 in
theorem pay_any (h : St o (rowI g n cap zs :: R) w) (d : Dd) (k : Nat) (hk : d.a = k) (hn : k < n) :
    Calls Tryz.prog 61 #[.slice (some ⟨g, 0, none⟩) n cap, d.val] w fun e w' => e = .returned (.int .i64 (wrap64 (zs.getD k 0 + d.x))) ∧ St o (rowI g n cap (zs.set k (wrap64 (zs.getD k 0 + d.x))) :: R) w' := by
  obtain ⟨op, a, b, x, y⟩ := d
  simp only at hk
  subst hk
  have s1 := (h.box #[.int .i64 op, .int .i64 k, .int .i64 b, .int .i64 x, .int .i64 y] 40).swap
  have hl := row_len h
  clear h
  show Calls _ _ #[_, .agg #[.int .i64 op, .int .i64 k, .int .i64 b, .int .i64 x, .int .i64 y]] _ _
  generalize hM : w.heap.size = M at *
  generalize hw1 : w.alloc (.cells #[.int .i64 op, .int .i64 k, .int .i64 b, .int .i64 x, .int .i64 y] 40) = w1 at *
  have b1 : w1.drew.cell? ⟨M, 1, none⟩ = some (.int .i64 k) := s1.drew.cell 1 rfl 1
  have b3 : w1.drew.cell? ⟨M, 3, none⟩ = some (.int .i64 x) := s1.drew.cell 1 rfl 3
  have r1 : w1.drew.cell? ⟨g, k, none⟩ = some (.int .i64 (zs.getD k 0)) := row_cell s1.drew hn
  have r2 : w1.drew.frozen? ⟨g, k, none⟩ = false := row_frozen s1.drew k
  have h0 : (0 : Int) ≤ (k : Int) := Int.natCast_nonneg _
  have h1 : (k : Int) < (n : Int) := by omega
  have HS := hid (row_set s1.drew hn (wrap64 (zs.getD k 0 + x)))
  have HG := hid (getD_set_same zs (k := k) (by omega) (wrap64 (zs.getD k 0 + x)))
  clear hl
  generalize zs.getD k 0 = z at *
  go_enter Tryz.func61, Tryz.ntmps61
  go_upto_region 1 with (simp only [hw1, hM])
  go_region
  have s2 := (HS.out).drew
  have e2 : (w1.setCell ⟨g, k, none⟩ (.int .i64 (wrap64 (z + x)))).drew = w1.drew.setCell ⟨g, k, none⟩ (.int .i64 (wrap64 (z + x))) := rfl
  rw [e2]
  generalize w1.drew.setCell ⟨g, k, none⟩ (.int .i64 (wrap64 (z + x))) = w2 at *
  have c1 : w2.cell? ⟨M, 1, none⟩ = some (.int .i64 k) := HS.out.cell 1 rfl 1
  have c2 : w2.cell? ⟨g, k, none⟩ = some (.int .i64 (wrap64 (z + x))) := by rw [row_cell HS.out hn, HG.out]
  clear b1 b3 r1 r2 hw1 hM s1 s2 e2
  go_wp2
  go_ret
  exact ⟨rfl, HS.out.swap.pop⟩
set_option maxHeartbeats 2000000 in
theorem see_any (h : St o (rowI g n cap zs :: R) w) (d : Dd) (k : Nat) (hk : d.a = k) (hn : k < n) :
    Calls Tryz.prog 70 #[.slice (some ⟨g, 0, none⟩) n cap, d.val] w fun e w' => e = .returned (.int .i64 (zs.getD k 0)) ∧ St o (rowI g n cap zs :: R) w' := by
  obtain ⟨op, a, b, x, y⟩ := d
  simp only at hk
  subst hk
  have s1 := (h.box #[.int .i64 op, .int .i64 k, .int .i64 b, .int .i64 x, .int .i64 y] 40).swap
  clear h
  show Calls _ _ #[_, .agg #[.int .i64 op, .int .i64 k, .int .i64 b, .int .i64 x, .int .i64 y]] _ _
  generalize hM : w.heap.size = M at *
  generalize hw1 : w.alloc (.cells #[.int .i64 op, .int .i64 k, .int .i64 b, .int .i64 x, .int .i64 y] 40) = w1 at *
  have b1 : w1.cell? ⟨M, 1, none⟩ = some (.int .i64 k) := s1.cell 1 rfl 1
  have r1 : w1.cell? ⟨g, k, none⟩ = some (.int .i64 (zs.getD k 0)) := row_cell s1 hn
  have h0 : (0 : Int) ≤ (k : Int) := Int.natCast_nonneg _
  have h1 : (k : Int) < (n : Int) := by omega
  have HS := hid s1.swap.pop
  clear s1
  generalize zs.getD k 0 = z at *
  go_enter Tryz.func70, Tryz.ntmps70
  go_wp2_with (simp only [hw1, hM])
  go_ret
  exact ⟨rfl, HS.out⟩
set_option maxHeartbeats 2000000 in
theorem none_any (h : St o (rowI g n cap zs :: R) w) (d : Dd) :
    Calls Tryz.prog 65 #[.slice (some ⟨g, 0, none⟩) n cap, d.val] w fun e w' => e = .returned (.tuple #[]) ∧ St o (rowI g n cap zs :: R) w' := by
  obtain ⟨op, a, b, x, y⟩ := d
  have HS := hid ((h.box #[.int .i64 op, .int .i64 a, .int .i64 b, .int .i64 x, .int .i64 y] 40).pop)
  clear h
  show Calls _ _ #[_, .agg #[.int .i64 op, .int .i64 a, .int .i64 b, .int .i64 x, .int .i64 y]] _ _
  go_enter Tryz.func65, Tryz.ntmps65
  go_wp2
  go_end0
  exact ⟨rfl, HS.out⟩
set_option maxHeartbeats 2000000 in
theorem add_any (h : St o (rowI g n cap zs :: R) w) (d : Dd) (k : Nat) (hk : d.b = k) (hn : k < n) :
    Calls Tryz.prog 68 #[.slice (some ⟨g, 0, none⟩) n cap, d.val] w fun e w' => e = .returned (.tuple #[]) ∧ St o (rowI g n cap (zs.set k (wrap64 (zs.getD k 0 + d.x))) :: R) w' := by
  obtain ⟨op, a, b, x, y⟩ := d
  simp only at hk
  subst hk
  have s1 := (h.box #[.int .i64 op, .int .i64 a, .int .i64 k, .int .i64 x, .int .i64 y] 40).swap
  clear h
  show Calls _ _ #[_, .agg #[.int .i64 op, .int .i64 a, .int .i64 k, .int .i64 x, .int .i64 y]] _ _
  generalize hM : w.heap.size = M at *
  generalize hw1 : w.alloc (.cells #[.int .i64 op, .int .i64 a, .int .i64 k, .int .i64 x, .int .i64 y] 40) = w1 at *
  have b1 : w1.drew.cell? ⟨M, 2, none⟩ = some (.int .i64 k) := s1.drew.cell 1 rfl 2
  have b3 : w1.drew.cell? ⟨M, 3, none⟩ = some (.int .i64 x) := s1.drew.cell 1 rfl 3
  have r1 : w1.drew.cell? ⟨g, k, none⟩ = some (.int .i64 (zs.getD k 0)) := row_cell s1.drew hn
  have r2 : w1.drew.frozen? ⟨g, k, none⟩ = false := row_frozen s1.drew k
  have h0 : (0 : Int) ≤ (k : Int) := Int.natCast_nonneg _
  have h1 : (k : Int) < (n : Int) := by omega
  have HS := hid (row_set s1.drew hn (wrap64 (zs.getD k 0 + x)))
  generalize zs.getD k 0 = z at *
  go_enter Tryz.func68, Tryz.ntmps68
  go_upto_region 1 with (simp only [hw1, hM])
  go_region
  go_wp2
  go_end0
  exact ⟨rfl, HS.out.swap.pop⟩
abbrev fnV (f : Nat) : Value := .func (.func f) #[] #[]
set_option maxHeartbeats 4000000 in
/-- What is taken if it is there; what comes then is the closure's own. -/
theorem ifThere_any {F B : Nat} {ys : Int → List Int} (h : St o (rowI g n cap zs :: boxI B #[fnV F] 122 :: R) w) (d : Dd) (k : Nat) (hk : d.a = k) (hn : k < n)
    (hF : F = 65 ∨ F = 68)
    (hrest : ∀ (W : World) (z : Int), St o (rowI g n cap (zs.set k z) :: boxI B #[fnV F] 122 :: R) W → Calls Tryz.prog F #[.slice (some ⟨g, 0, none⟩) n cap, d.val] W fun e w' => e = .returned (.tuple #[]) ∧ St o (rowI g n cap (ys z) :: boxI B #[fnV F] 122 :: R) w') :
    Calls Tryz.prog 81 #[.slice (some ⟨g, 0, none⟩) n cap, d.val, .pointer (some ⟨B, 0, none⟩)] w fun e w' => e = .returned (.int .i64 (if zs.getD k 0 < d.x then 0 else 1)) ∧ St o (rowI g n cap (if zs.getD k 0 < d.x then zs else ys (wrap64 (zs.getD k 0 - d.x))) :: boxI B #[fnV F] 122 :: R) w' := by
  obtain ⟨op, a, b, x, y⟩ := d
  simp only at hk
  subst hk
  have hrest2 : ∀ (W : World) (z : Int) (M : Nat), St o (rowI g n cap (zs.set k z) :: boxI M #[.int .i64 op, .int .i64 k, .int .i64 b, .int .i64 x, .int .i64 y] 40 :: boxI B #[fnV F] 122 :: R) W → Calls Tryz.prog F #[.slice (some ⟨g, 0, none⟩) n cap, .agg #[.int .i64 op, .int .i64 k, .int .i64 b, .int .i64 x, .int .i64 y]] W fun e w' => e = .returned (.tuple #[]) ∧ St o (rowI g n cap (ys z) :: boxI B #[fnV F] 122 :: R) w' := fun W z M hW => hrest W z hW.swap.pop
  have s1 := (h.box #[.int .i64 op, .int .i64 k, .int .i64 b, .int .i64 x, .int .i64 y] 40).swap
  clear h hrest
  show Calls _ _ #[_, .agg #[.int .i64 op, .int .i64 k, .int .i64 b, .int .i64 x, .int .i64 y], _] _ _
  simp only
  generalize hM : w.heap.size = M at *
  generalize hw1 : w.alloc (.cells #[.int .i64 op, .int .i64 k, .int .i64 b, .int .i64 x, .int .i64 y] 40) = w1 at *
  have b1 : w1.drew.cell? ⟨M, 1, none⟩ = some (.int .i64 k) := s1.drew.cell 1 rfl 1
  have b3 : w1.drew.cell? ⟨M, 3, none⟩ = some (.int .i64 x) := s1.drew.cell 1 rfl 3
  have r1 : w1.drew.cell? ⟨g, k, none⟩ = some (.int .i64 (zs.getD k 0)) := row_cell s1.drew hn
  have h0 : (0 : Int) ≤ (k : Int) := Int.natCast_nonneg _
  have h1 : (k : Int) < (n : Int) := by omega
  have HS := hid s1.drew
  have HR := hid hrest2
  clear hrest2
  by_cases hlt : zs.getD k 0 < x
  · simp only [if_pos hlt]
    have t1 : decide (zs.getD k 0 < x) = true := by simpa using hlt
    clear hlt s1
    generalize zs.getD k 0 = z at *
    go_enter Tryz.func81, Tryz.ntmps81
    go_upto_region 1 with (simp only [hw1, hM])
    go_region
    go_wp2
    go_ret
    exact ⟨rfl, HS.out.swap.pop⟩
  · simp only [if_neg hlt]
    have t1 : decide (zs.getD k 0 < x) = false := by simpa using hlt
    clear hlt
    have HS2 := hid (row_set s1.drew.drew hn (wrap64 (zs.getD k 0 - x)))
    have b1' : w1.drew.drew.cell? ⟨M, 1, none⟩ = some (.int .i64 k) := s1.drew.drew.cell 1 rfl 1
    have b3' : w1.drew.drew.cell? ⟨M, 3, none⟩ = some (.int .i64 x) := s1.drew.drew.cell 1 rfl 3
    have r1' : w1.drew.drew.cell? ⟨g, k, none⟩ = some (.int .i64 (zs.getD k 0)) := row_cell s1.drew.drew hn
    have r2' : w1.drew.drew.frozen? ⟨g, k, none⟩ = false := row_frozen s1.drew.drew k
    clear s1
    generalize zs.getD k 0 = z at *
    go_enter Tryz.func81, Tryz.ntmps81
    go_upto_region 1 with (simp only [hw1, hM])
    go_region
    go_upto_region 3 with fail
    go_region
    have e2 : (w1.setCell ⟨g, k, none⟩ (.int .i64 (wrap64 (z - x)))).drew.drew = w1.drew.drew.setCell ⟨g, k, none⟩ (.int .i64 (wrap64 (z - x))) := rfl
    rw [e2]
    generalize w1.drew.drew.setCell ⟨g, k, none⟩ (.int .i64 (wrap64 (z - x))) = w2 at *
    have c1 : w2.cell? ⟨B, 0, none⟩ = some (fnV F) := HS2.out.cell 2 rfl 0
    have d0 : w2.cell? ⟨M, 0, none⟩ = some (.int .i64 op) := HS2.out.cell 1 rfl 0
    have d1 : w2.cell? ⟨M, 1, none⟩ = some (.int .i64 k) := HS2.out.cell 1 rfl 1
    have d2 : w2.cell? ⟨M, 2, none⟩ = some (.int .i64 b) := HS2.out.cell 1 rfl 2
    have d3 : w2.cell? ⟨M, 3, none⟩ = some (.int .i64 x) := HS2.out.cell 1 rfl 3
    have d4 : w2.cell? ⟨M, 4, none⟩ = some (.int .i64 y) := HS2.out.cell 1 rfl 4
    have hq := HR.out w2 _ M HS2.out
    clear b1 b3 r1 b1' b3' r1' r2' hw1 hM e2 HS HS2 HR
    rcases hF with rfl | rfl
    · go_wp2_with (go_at_call 65; refine hq.mono ?_; rintro e w3 ⟨rfl, s3⟩)
      go_ret
      exact ⟨rfl, s3⟩
    · go_wp2_with (go_at_call 68; refine hq.mono ?_; rintro e w3 ⟨rfl, s3⟩)
      go_ret
      exact ⟨rfl, s3⟩
theorem sumM_take (zs : List Int) (j : Nat) (hj : j < zs.length) : sumM (zs.take (j + 1)) = wrap64 (sumM (zs.take j) + zs.getD j 0) := by
  unfold sumM
  rw [List.take_succ_eq_append_getElem hj, List.foldl_append]
  simp [List.getD_eq_getElem?_getD, hj]
set_option maxHeartbeats 2000000 in
theorem sum_any (h : St o (rowI g n cap zs :: R) w) (d : Dd) :
    Calls Tryz.prog 72 #[.slice (some ⟨g, 0, none⟩) n cap, d.val] w fun e w' => e = .returned (.int .i64 (sumM zs)) ∧ St o (rowI g n cap zs :: R) w' := by
  obtain ⟨op, a, b, x, y⟩ := d
  have HN := hid (row_len h)
  have HC : Hid (∀ j, j < n → w.cell? ⟨g, j, none⟩ = some (.int .i64 (zs.getD j 0))) := fun j hj => row_cell h hj
  have s1 := (h.box #[.int .i64 op, .int .i64 a, .int .i64 b, .int .i64 x, .int .i64 y] 40).swap
  have HS := hid s1.swap.pop
  have HC1 : Hid (∀ j, j < n → (w.alloc (.cells #[.int .i64 op, .int .i64 a, .int .i64 b, .int .i64 x, .int .i64 y] 40)).cell? ⟨g, j, none⟩ = some (.int .i64 (zs.getD j 0))) := fun j hj => row_cell s1 hj
  have hcap : n ≤ maxLen := by
    have := h.get 0 rfl
    rcases this.2 with ⟨e, _⟩ | ⟨g', c', cur, e, _, _, h1, h2, _⟩
    · cases e
    · omega
  have hmx : n ≤ 9223372036854775807 := by unfold maxLen at hcap; omega
  clear h s1 HC hcap
  show Calls _ _ #[_, .agg #[.int .i64 op, .int .i64 a, .int .i64 b, .int .i64 x, .int .i64 y]] _ _
  generalize hw1 : w.alloc (.cells #[.int .i64 op, .int .i64 a, .int .i64 b, .int .i64 x, .int .i64 y] 40) = w1 at *
  go_enter Tryz.func72, Tryz.ntmps72
  go_wp2_with (simp only [hw1])
  clear hw1
  go_loopw [5, 10] (fun t i wr => ∃ j : Nat, i = .int .i64 j ∧ j ≤ n ∧ t = .int .i64 (sumM (zs.take j)) ∧ wr = w1) (fun _ i _ => n - (intOf i).toNat)
  case atStart => exact ⟨0, rfl, Nat.zero_le _, rfl, rfl⟩
  case round =>
    obtain ⟨j, rfl, hj, rfl, rfl⟩ := hrel
    by_cases hlt : j < n
    · have c1 := HC1.out j hlt
      have h0 : (0 : Int) ≤ (j : Int) := Int.natCast_nonneg _
      have h1 : (j : Int) < (n : Int) := by omega
      have HT := hid (sumM_take zs j (by have := HN.out; omega))
      generalize zs.getD j 0 = z at *
      generalize sumM (zs.take j) = t at *
      go_wp2
      go_roundw
      case rel => exact ⟨j + 1, by simp, by omega, by rw [HT.out], by trivial⟩
      case measure => simp [intOf]; omega
    · have h1 : ¬ (j : Int) < (n : Int) := by omega
      have HT : Hid (sumM (zs.take j) = sumM zs) := by
        show _ = _
        rw [List.take_of_length_le (by have := HN.out; omega)]
      rw [HT.out]
      clear HT
      go_wp2
      go_ret
      exact ⟨rfl, HS.out⟩
end
end Go.Proofs.YtmoekoilcdkhfaaGreatDoor
