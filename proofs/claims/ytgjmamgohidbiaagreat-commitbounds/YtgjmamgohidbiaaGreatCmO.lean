/- Which commits may be: the check of cells, of what is handed in; Most. -/
import Derived.Test.YtgjmamgohidbiaaGreatCmN
import Derived.Test.YtgjmamgohidbiaaGreatEqS
namespace Go.Proofs.YtgjmamgohidbiaaGreat
open Go.RowKit
set_option linter.unusedVariables false
set_option linter.unusedSimpArgs false
attribute [local go_sem ↓] Go.wp_at_zero Go.wp_at_succ

set_option maxRecDepth 100000 in
set_option maxHeartbeats 1000000 in
theorem idxInt (la : Option Addr) (n lc : Nat) (zs : List Int) (x : Int) (w : World) (hL : IntsIn w la n zs) (hn : n ≤ 4096) :
    Calls Tryz.prog 165 #[.slice la n lc, .int .i64 x] w fun e w' => ∃ r : Int, e = .returned (.int .i64 r) ∧ decide (0 ≤ r) = zs.contains x ∧ w' = w := by
  have HN : Hid (n = zs.length) := hL.1
  have HL : Hid (IntsIn w la n zs) := hL
  clear hL
  go_enter Tryz.func165, Tryz.ntmps165
  go_wp2
  go_loopw [8] (fun i wr => ∃ j : Nat, i = .int .i64 j ∧ j ≤ n ∧ (∀ k, k < j → zs.getD k 0 ≠ x) ∧ wr = w) (fun i _ => n - (intOf i).toNat)
  case atStart => exact ⟨0, rfl, Nat.zero_le _, fun k h0 => by omega, rfl⟩
  case round =>
    obtain ⟨j, rfl, hj, ho, rfl⟩ := hrel
    have HO : Hid (∀ k, k < j → zs.getD k 0 ≠ x) := ho
    clear ho
    by_cases hlt : j < n
    · obtain ⟨g, o, rfl, hc⟩ := HL.out.2 (by omega)
      have c0 := hc j hlt
      have h0 : (0 : Int) ≤ (j : Int) := Int.natCast_nonneg _
      have h1 : (j : Int) < (n : Int) := by omega
      have HZ : Hid (zs.getD j 0 = x → zs.contains x = true) := fun h => by
        have hz : j < zs.length := by have := HN.out; omega
        rw [List.contains_iff_mem, ← h, List.getD_eq_getElem?_getD, List.getElem?_eq_getElem hz]
        exact List.getElem_mem hz
      have HY : Hid (zs.getD j 0 ≠ x → ∀ k, k < j + 1 → zs.getD k 0 ≠ x) := fun h k hk => by
        by_cases e : k = j
        · subst e; exact h
        · exact HO.out k (by omega)
      clear hc
      generalize zs.getD j 0 = y at *
      by_cases hxy : y = x
      · subst hxy
        have HZ2 : Hid (zs.contains y = true) := HZ.out rfl
        clear HZ HY
        go_wp2
        go_ret
        exact ⟨_, rfl, by rw [HZ2.out]; simp, by trivial⟩
      · have t : (x == y) = false := by simp; exact fun e => hxy e.symm
        have HB : Hid (y ≠ x) := hxy
        clear hxy
        go_wp2_with fail
        go_roundw
        case rel => exact ⟨j + 1, by go_num, by omega, HY.out HB.out, by trivial⟩
        case measure => simp [intOf]; omega
    · obtain rfl : j = n := by omega
      have HF : Hid (zs.contains x = false) := by
        show zs.contains x = false
        cases hc : zs.contains x
        · rfl
        · rw [List.contains_iff_mem] at hc
          obtain ⟨i, hi, e⟩ := List.getElem_of_mem hc
          exact absurd (by rw [List.getD_eq_getElem?_getD, List.getElem?_eq_getElem hi]; exact e) (HO.out i (by have := HN.out; omega))
      clear HL HO
      go_wp2
      go_ret
      exact ⟨_, rfl, by rw [HF.out]; decide, by trivial⟩
theorem contInt (la : Option Addr) (n lc : Nat) (zs : List Int) (x : Int) (w : World) (hL : IntsIn w la n zs) (hn : n ≤ 4096) :
    Calls Tryz.prog 149 #[.slice la n lc, .int .i64 x] w fun e w' => e = .returned (.bool (zs.contains x)) ∧ w' = w := by
  have hq := idxInt la n lc zs x w hL hn
  clear hL
  generalize zs.contains x = b at *
  go_enter Tryz.func149, Tryz.ntmps149
  go_wp2_with (go_at_call 165; refine hq.mono ?_; rintro e w2 ⟨r, rfl, hr, rfl⟩)
  go_ret
  exact ⟨by rw [← hr]; rfl, rfl⟩

/-- Is one of them no cell, stands one of them twice? -/
def inC (m c : Int) : Bool := decide (0 ≤ c) && decide (c ≤ m - 1)
def outC (m : Int) (zs : List Int) : Bool := zs.any (fun c => !(inC m c))
def twiceB (zs : List Int) : Bool := (List.range zs.length).any (fun i => (zs.take i).contains (zs.getD i 0))
def cellsE (zs : List Int) (m : Int) : Int := if outC m zs then 2 else if twiceB zs then 1 else 0
theorem sliceUp (g off n i c : Nat) (hi : i ≤ n) (hc : n ≤ c) (W : World) : (Instr.slice 84 (.slice (some ⟨g, off, none⟩) n c) none (some (.int .i64 (i : Nat))) none).run Tryz.prog W = .ok (.slice (some ⟨g, off, none⟩) i c) W := by
  have e1 : (0 : Int) ≤ (i : Int) := by omega
  have e2 : (i : Int) ≤ (c : Int) := by omega
  have hcs : Tryz.prog.cellsOf 3 = 1 := by kernel_rfl
  simp [Instr.slice, Instr.sliceBounds, Instr.sliceBound, asIntOf, run_underlying Tryz.underlying84, go_sem, hcs, e1, e2]
  intro hh
  omega
theorem IntsIn.take {w : World} {la : Option Addr} {n : Nat} {zs : List Int} (h : IntsIn w la n zs) {i : Nat} (hi : i ≤ n) : IntsIn w la i (zs.take i) := by
  refine ⟨by have := h.1; simp; omega, fun h0 => ?_⟩
  obtain ⟨g, o, rfl, hc⟩ := h.2 (by omega)
  refine ⟨g, o, rfl, fun j hj => ?_⟩
  rw [hc j (by omega)]
  simp [List.getD_eq_getElem?_getD, List.getElem?_take, hj]
set_option maxRecDepth 100000 in
set_option maxHeartbeats 1000000 in
theorem ckCells (g n c : Nat) (zs : List Int) (m : Int) (w : World) (hL : IntsIn w (some ⟨g, 0, none⟩) n zs) (hn : n ≤ 16) (hc : n ≤ c) (m1 : 1 ≤ m) (m2 : m ≤ 256) :
    Calls Tryz.prog 114 #[.slice (some ⟨g, 0, none⟩) n c, .int .i64 m] w fun e w' => e = .returned (.int .i64 (cellsE zs m)) ∧ w' = w := by
  have HN : Hid (n = zs.length) := hL.1
  have HL : Hid (IntsIn w (some ⟨g, 0, none⟩) n zs) := hL
  have HO : Hid (∀ j, j < n → inC m (zs.getD j 0) = false → cellsE zs m = 2) := by
    intro j hj h
    have hz : j < zs.length := by have := HN.out; omega
    have : outC m zs = true := by
      unfold outC
      rw [List.any_eq_true]
      refine ⟨zs.getD j 0, ?_, by rw [h]; rfl⟩
      rw [List.getD_eq_getElem?_getD, List.getElem?_eq_getElem hz]
      exact List.getElem_mem hz
    unfold cellsE
    rw [if_pos this]
  have HO0 : Hid ((∀ j, j < n → inC m (zs.getD j 0) = true) → outC m zs = false) := by
    intro h
    unfold outC
    rw [List.any_eq_false]
    intro y hy
    obtain ⟨i, hi, e⟩ := List.getElem_of_mem hy
    have := h i (by have := HN.out; omega)
    rw [List.getD_eq_getElem?_getD, List.getElem?_eq_getElem hi] at this
    simp only [Option.getD_some, e] at this
    simp [this]
  have HT : Hid (∀ j, j < n → outC m zs = false → (zs.take j).contains (zs.getD j 0) = true → cellsE zs m = 1) := by
    intro j hj h0 h
    have : twiceB zs = true := by
      unfold twiceB
      rw [List.any_eq_true]
      exact ⟨j, by simp; have := HN.out; omega, h⟩
    unfold cellsE
    rw [h0, this]
    rfl
  have HT0 : Hid (outC m zs = false → (∀ j, j < n → (zs.take j).contains (zs.getD j 0) = false) → cellsE zs m = 0) := by
    intro h0 h
    have : twiceB zs = false := by
      unfold twiceB
      rw [List.any_eq_false]
      intro y hy
      have := h y (by simp at hy; have := HN.out; omega)
      rw [this]
      simp
    unfold cellsE
    rw [h0, this]
    rfl
  generalize cellsE zs m = E at *
  have hsl := fun i (hi : i ≤ n) W => sliceUp g 0 n i c hi hc W
  clear hL
  go_enter Tryz.func114, Tryz.ntmps114
  go_wp2
  go_loopw [6, 11] (fun _ i wr => ∃ j : Nat, i = .int .i64 j ∧ j ≤ n ∧ (∀ k, k < j → inC m (zs.getD k 0) = true) ∧ wr = w) (fun _ i _ => n - (intOf i).toNat)
  case atStart => exact ⟨0, rfl, Nat.zero_le _, fun k h0 => by omega, rfl⟩
  case round =>
    obtain ⟨j, rfl, hj, ho, rfl⟩ := hrel
    have HJ : Hid (∀ k, k < j → inC m (zs.getD k 0) = true) := ho
    clear ho
    by_cases hlt : j < n
    · obtain ⟨g', o, e, hc'⟩ := HL.out.2 (by omega)
      simp only [Option.some.injEq, Addr.mk.injEq, and_true] at e
      obtain ⟨rfl, rfl⟩ := e
      have c0 := hc' j hlt
      rw [Nat.zero_add] at c0
      have h0 : (0 : Int) ≤ (j : Int) := Int.natCast_nonneg _
      have h1 : (j : Int) < (n : Int) := by omega
      have HOj := HO.out j hlt
      have HY : Hid (inC m (zs.getD j 0) = true → ∀ k, k < j + 1 → inC m (zs.getD k 0) = true) := fun h k hk => by
        by_cases e : k = j
        · subst e; exact h
        · exact HJ.out k (by omega)
      clear hc' HO HT HT0 HO0
      generalize zs.getD j 0 = y at *
      have hq := cmWithin y 0 (m - 1) wr
      have hdef : inC m y = (decide (0 ≤ y) && decide (y ≤ m - 1)) := rfl
      rw [← hdef] at hq
      clear hdef
      cases hb : inC m y with
      | true =>
        rw [hb] at hq
        have HB : Hid _ := HY.out hb
        clear HOj HY hb
        go_wp2_with (go_at_call 102; refine hq.mono ?_; rintro e w2 ⟨rfl, rfl⟩)
        go_roundw
        case rel => exact ⟨j + 1, by go_num, by omega, HB.out, by trivial⟩
        case measure => simp [intOf]; omega
      | false =>
        rw [hb] at hq
        obtain rfl := HOj hb
        clear HY hb HOj
        go_wp2_with (go_at_call 102; refine hq.mono ?_; rintro e w2 ⟨rfl, rfl⟩)
        go_ret
        exact ⟨rfl, rfl⟩
    · obtain rfl : j = n := by omega
      have HC : Hid (outC m zs = false) := HO0.out HJ.out
      clear HO HO0 HJ hlt
      have HTj : Hid (∀ k, k < j → (zs.take k).contains (zs.getD k 0) = true → E = 1) := fun k hk h => HT.out k hk HC.out h
      have HT0' : Hid ((∀ k, k < j → (zs.take k).contains (zs.getD k 0) = false) → E = 0) := fun h => HT0.out HC.out h
      clear HT HT0 HC
      go_wp2
      obtain ⟨yy, hyy⟩ : ∃ yy, yy = wr := ⟨_, rfl⟩
      subst hyy
      go_loopw [7, 8, 23] (fun _ _ i wr => ∃ k : Nat, i = .int .i64 k ∧ k ≤ j ∧ (∀ q, q < k → (zs.take q).contains (zs.getD q 0) = false) ∧ wr = yy) (fun _ _ i _ => j - (intOf i).toNat)
      case atStart => exact ⟨0, rfl, Nat.zero_le _, fun k h0 => by omega, rfl⟩
      case round =>
        obtain ⟨k, rfl, hk, ho, rfl⟩ := hrel
        have HJ : Hid (∀ q, q < k → (zs.take q).contains (zs.getD q 0) = false) := ho
        clear ho
        by_cases hlt : k < j
        · obtain ⟨g', o, e, hc'⟩ := HL.out.2 (by omega)
          simp only [Option.some.injEq, Addr.mk.injEq, and_true] at e
          obtain ⟨rfl, rfl⟩ := e
          have c0 := hc' k hlt
          rw [Nat.zero_add] at c0
          have h0 : (0 : Int) ≤ (k : Int) := Int.natCast_nonneg _
          have h1 : (k : Int) < (j : Int) := by omega
          have hs := fun W => hsl k (by omega) W
          have HTk := HTj.out k hlt
          have HY : Hid ((zs.take k).contains (zs.getD k 0) = false → ∀ q, q < k + 1 → (zs.take q).contains (zs.getD q 0) = false) := fun h q hq => by
            by_cases e : q = k
            · subst e; exact h
            · exact HJ.out q (by omega)
          have hq := fun y => contInt (some ⟨g, 0, none⟩) k c (zs.take k) y wr (HL.out.take (by omega)) (by omega)
          have hq := hq (zs.getD k 0)
          clear hc' HTj HT0'
          generalize zs.getD k 0 = y at *
          cases hb : (zs.take k).contains y with
          | false =>
            rw [hb] at hq
            have HB : Hid _ := HY.out hb
            clear HTk HY hb hsl
            go_wp2_with (go_at_call 149; refine hq.mono ?_; rintro e w2 ⟨rfl, rfl⟩)
            go_roundw
            case rel => exact ⟨k + 1, by go_num, by omega, HB.out, by trivial⟩
            case measure => simp [intOf]; omega
          | true =>
            rw [hb] at hq
            obtain rfl := HTk hb
            clear HY hb HTk hsl
            go_wp2_with (go_at_call 149; refine hq.mono ?_; rintro e w2 ⟨rfl, rfl⟩)
            go_ret
            exact ⟨rfl, rfl⟩
        · obtain rfl : k = j := by omega
          obtain rfl := HT0'.out HJ.out
          clear HL hsl HJ HTj HT0'
          go_wp2
          go_ret
          exact ⟨rfl, rfl⟩
end Go.Proofs.YtgjmamgohidbiaaGreat
