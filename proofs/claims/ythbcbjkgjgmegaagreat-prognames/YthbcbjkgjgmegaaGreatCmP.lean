/- What a commit is made of: lists of pairs, their cells, what may be. Which commits may be: the check of cells, of what is handed in; Most. A commit is made. -/
import Derived.Test.YthbcbjkgjgmegaaGreatCmD
import Derived.Test.YthbcbjkgjgmegaaGreatEqS
namespace Go.Proofs.YthbcbjkgjgmegaaGreat
open Go.RowKit
set_option linter.unusedVariables false
set_option linter.unusedSimpArgs false
attribute [local go_sem ↓] Go.wp_at_zero Go.wp_at_succ

theorem Tryz.infoPr : (Tryz.prog.info? 220).map (fun i => (i.zero, i.size, i.bytes)) = some (some (.agg #[.int .i64 0, .int .i64 0]), 2, 16) := by kernel_rfl
theorem prCells_one (l : List Pr) : ∀ u ∈ prCells l, u.oneCell' = true := by
  induction l with
  | nil => intro u h; cases h
  | cons t l ih =>
    intro u h
    simp only [prCells, List.mem_cons] at h
    rcases h with h | h | h
    · subst h; rfl
    · subst h; rfl
    · exact ih u h
/-- A list of pairs in memory. -/
def PIn (w : World) (la : Option Addr) (n : Nat) (ps : List Pr) : Prop :=
  n = ps.length ∧ (0 < n → ∃ g o, la = some ⟨g, o, none⟩ ∧ ∀ j u, (prCells ps)[j]? = some u → w.cell? ⟨g, o + j, none⟩ = some u)
theorem PIn.kept {w w' : World} {la : Option Addr} {n : Nat} {ps : List Pr} (h : PIn w la n ps) (k : Kept (fun _ => False) w w') : PIn w' la n ps := by
  refine ⟨h.1, fun h0 => ?_⟩
  obtain ⟨g, o, rfl, hc⟩ := h.2 h0
  refine ⟨g, o, rfl, fun j u hj => ?_⟩
  have := hc j u hj
  rw [World.cell?_of_block (k.block g (World.block_lt_of_cell? w _ this) (fun f => f))]
  exact this
theorem PIn.drew {w : World} {la : Option Addr} {n : Nat} {ps : List Pr} (h : PIn w la n ps) : PIn w.drew la n ps := h
theorem PIn.cells {w : World} {g o n : Nat} {ps : List Pr} (h : PIn w (some ⟨g, o, none⟩) n ps) {j : Nat} (hj : j < ps.length) :
    w.cell? ⟨g, o + j * 2, none⟩ = some (.int .i64 (ps.getD j Pr.zero).ce) ∧ w.cell? ⟨g, o + j * 2 + 1, none⟩ = some (.int .i64 (ps.getD j Pr.zero).x) := by
  obtain ⟨g', o', e, hc⟩ := h.2 (by have := h.1; omega)
  simp only [Option.some.injEq, Addr.mk.injEq, and_true] at e
  obtain ⟨rfl, rfl⟩ := e
  obtain ⟨h0, h1⟩ := prCells_at ps j hj
  exact ⟨hc _ _ h0, by simpa [Nat.add_assoc] using hc _ _ h1⟩
theorem own_pin {w : World} {base : Nat} {v : Value} {ys : List Pr} (h : w.ownsRow base 220 2 v ys.length (prCells ys)) : ∃ la lc, v = .slice la ys.length lc ∧ PIn w la ys.length ys ∧ (la = none → ys.length = 0 ∧ lc = 0) := by
  rcases h.2 with ⟨rfl, hn⟩ | ⟨g, cap, cur, rfl, _⟩
  · exact ⟨none, 0, by rw [hn], ⟨rfl, fun h0 => by omega⟩, fun _ => ⟨hn, rfl⟩⟩
  · refine ⟨_, _, rfl, ⟨rfl, fun _ => ⟨g, 0, rfl, fun j u hu => ?_⟩⟩, fun e => by cases e⟩
    have hl := h.1
    have hj := (List.getElem?_eq_some_iff.1 hu).1
    rw [Nat.zero_add, h.cellAt j (by omega)]
    exact hu
set_option maxRecDepth 100000 in
set_option maxHeartbeats 1000000 in
theorem clonePr (la : Option Addr) (n lc : Nat) (zs : List Pr) (w : World) (hL : PIn w la n zs) (hN : la = none → n = 0 ∧ lc = 0) (hb : n * 16 ≤ 140737488355328) :
    Calls Tryz.prog 133 #[.slice la n lc] w fun e w' => ∃ v', e = .returned v' ∧ w'.ownsRow w.heap.size 220 2 v' zs.length (prCells zs) ∧ Kept (fun _ => False) w w' := by
  obtain ⟨i0, hi0, hz0, hz1, hz2⟩ := info_parts Tryz.infoPr
  have hE : ∀ a n c w, (binOp .eql 131 (.slice a n c) (.slice none 0 0)).run Tryz.prog w = .ok (.bool a.isNone) w := fun a n c w => Lib.run_eql_slice_nil w 131 220 a n c 0 0 Tryz.underlying131
  cases la with
  | none =>
    obtain ⟨rfl, rfl⟩ := hN rfl
    have hl : zs = [] := List.length_eq_zero_iff.1 hL.1.symm
    subst hl
    clear hL hN
    go_enter Tryz.func133, Tryz.ntmps133
    go_wp2
    go_ret
    exact ⟨_, rfl, World.ownsRow_nil _ _ _ _, Kept.refl _ _⟩
  | some ad =>
    have hcells : ∀ j u, (prCells zs)[j]? = some u → (w.alloc (.cells #[] 220)).cell? (ad.add j) = some u := by
      intro j u hu
      have hj := (List.getElem?_eq_some_iff.1 hu).1
      rw [prCells_length] at hj
      obtain ⟨g, off, e, hc⟩ := (hL.kept (kept_alloc w (.cells #[] 220))).2 (by have := hL.1; omega)
      simp only [Option.some.injEq] at e
      subst e
      rw [Addr.add_lit]
      exact hc j u hu
    have hlen : (prCells zs).length = n * 2 := by rw [prCells_length, ← hL.1]
    have hml : n ≤ maxLen := by unfold maxLen; omega
    have HL : Hid (n = zs.length) := hL.1
    clear hL hN
    go_enter Tryz.func133, Tryz.ntmps133
    go_wp2_with (at_builtin; refine wpList_append_own_at _ rfl (.tmp 5) (.tmp 6) 131 rfl w.heap.size 220 i0 _ 2 16 Tryz.underlying131 hi0 hz0 hz1 hz2 rfl (by omega) (.slice (some ⟨w.heap.size, 0, none⟩) 0 0) 0 [] rfl (World.ownsRow_made w #[] 0 (Nat.le_refl _) (Nat.zero_le _) rfl) ad n lc (prCells zs) rfl hlen hcells (prCells_one zs) (by omega) (by omega) (by simp) ?_; intro v' w1 hown' hgrow hnil hat)
    go_ret
    refine ⟨_, rfl, by rw [← HL.out]; simpa using hown', ((Kept.refl _ w).alloc _).grown hgrow (fun k e => ?_)⟩
    right
    simp [Value.ownBlock] at e
    omega

theorem cmWithin (n a b : Int) (w : World) : Calls Tryz.prog 278 #[.int .i64 n, .int .i64 a, .int .i64 b] w fun e w' => e = .returned (.bool (decide (a ≤ n) && decide (n ≤ b))) ∧ w' = w := by
  by_cases h1 : a ≤ n
  · by_cases h2 : n ≤ b
    · rw [decide_eq_true h1, decide_eq_true h2]
      go_enter Tryz.func278, Tryz.ntmps278
      go_wp2
      go_ret
      exact ⟨rfl, rfl⟩
    · rw [decide_eq_true h1, decide_eq_false h2]
      have t2 := decide_eq_false h2
      go_enter Tryz.func278, Tryz.ntmps278
      go_wp2
      go_ret
      exact ⟨rfl, rfl⟩
  · rw [decide_eq_false h1]
    have t1 := decide_eq_false h1
    go_enter Tryz.func278, Tryz.ntmps278
    go_wp2
    go_ret
    exact ⟨rfl, rfl⟩

/-- The cells that are written. -/
def cesOf (ps : List Pr) : List Int := ps.map Pr.ce
def partI (ps : List Pr) (j : Nat) : List Value := (List.range ps.length).map fun k => .int .i64 (if k < j then (ps.getD k Pr.zero).ce else 0)
theorem partI_len (ps : List Pr) (j : Nat) : (partI ps j).length = ps.length := by simp [partI]
theorem partI_zero (ps : List Pr) : partI ps 0 = List.replicate ps.length (.int .i64 0) := by
  apply List.ext_getElem?
  intro k
  by_cases hk : k < ps.length
  · simp [partI, hk]
  · simp [partI, hk]
theorem partI_set (ps : List Pr) (j : Nat) (hj : j < ps.length) : (partI ps j).set j (.int .i64 (ps.getD j Pr.zero).ce) = partI ps (j + 1) := by
  apply List.ext_getElem?
  intro k
  rw [List.getElem?_set]
  by_cases hk : k < ps.length
  · by_cases e : j = k
    · subst e
      simp [partI, hk]
    · have : (k < j) = (k < j + 1) := by
        apply propext
        omega
      simp [partI, hk, e, this]
  · by_cases e : j = k
    · omega
    · simp [partI, hk, e]
set_option maxRecDepth 100000 in
set_option maxHeartbeats 1000000 in
theorem cellsOf_any (la : Option Addr) (n lc : Nat) (ps : List Pr) (w : World) (hP : PIn w la n ps) (hn : n ≤ 16) (h0 : 0 < n) :
    Calls Tryz.prog 252 #[.slice la n lc] w fun e w' => ∃ g, e = .returned (.slice (some ⟨g, 0, none⟩) n n) ∧ IntsIn w' (some ⟨g, 0, none⟩) n (cesOf ps) ∧ Kept (fun _ => False) w w' := by
  obtain ⟨i0, hi0, hz0, hz1, hz2⟩ := info_parts Tryz.infoInt
  have HN : Hid (n = ps.length) := hP.1
  have hmk : (Instr.makeSlice 45 (.int .i64 n) (.int .i64 n)).run Tryz.prog w = .ok (.slice (some ⟨w.heap.size, 0, none⟩) n n) (w.alloc (.cells (List.replicate n (.int .i64 0)).toArray 3)) := by
    have := run_make (P := Tryz.prog) w 45 3 i0 _ Tryz.underlying45 hi0 hz0 .i64 .i64 n n (by omega) (by omega) (by rw [hz2]; omega) (by omega)
    rw [this, hz1, Int.toNat_natCast, made_ints]
  have hS0 : St w [ownI 3 1 (.slice (some ⟨w.heap.size, 0, none⟩) n n) n (partI ps 0)] (w.alloc (.cells (List.replicate n (.int .i64 0)).toArray 3)) := by
    rw [partI_zero, ← HN.out]
    refine (St.nil w).own (kept_alloc w _) ?_
    refine ⟨by simp, .inr ⟨w.heap.size, n, (List.replicate n (.int .i64 0)).toArray, rfl, Nat.le_refl _, heap_alloc_new w _, Nat.le_refl _, by unfold maxLen; omega, by simp, by simp⟩⟩
  obtain ⟨ga, oa, rfl, -⟩ := hP.2 h0
  have HP : Hid (PIn w (some ⟨ga, oa, none⟩) n ps) := hP
  have HPS : Hid (∀ j, j < n → (partI ps j).set j (.int .i64 (ps.getD j Pr.zero).ce) = partI ps (j + 1)) := fun j hj => partI_set ps j (by rw [← HN.out]; exact hj)
  clear hP
  generalize (List.replicate n (Value.int .i64 0)).toArray = CC at *
  go_enter Tryz.func252, Tryz.ntmps252
  go_wp2_with fail
  generalize w.alloc (.cells CC 3) = w1 at *
  generalize w.heap.size = M at *
  clear hmk
  go_loopw [4, 5, 11, 13, 14, 15, 16, 17, 18, 19, 20] (fun _ _ i _ _ _ _ _ _ _ _ wr => ∃ j : Nat, i = .int .i64 j ∧ j ≤ n ∧ St w [ownI 3 1 (.slice (some ⟨M, 0, none⟩) n n) n (partI ps j)] wr) (fun _ _ i _ _ _ _ _ _ _ _ _ => n - (intOf i).toNat)
  case atStart => exact ⟨0, rfl, Nat.zero_le _, hS0⟩
  case round =>
    clear hS0
    obtain ⟨j, rfl, hj, hS⟩ := hrel
    by_cases hlt : j < n
    · have h1 : (j : Int) < (n : Int) := by omega
      have h2 : (0 : Int) ≤ (j : Int) := by omega
      obtain ⟨c0, c1⟩ := (HP.out.kept hS.same).cells (j := j) (by have := HN.out; omega)
      generalize hP : ps.getD j Pr.zero = Pq at *
      obtain ⟨ce, xx⟩ := Pq
      simp only at c0 c1
      have sB := hS.box #[.int .i64 ce, .int .i64 xx] 220
      have hS2 := HPS.out j hlt
      rw [hP] at hS2
      clear hP
      go_upto_region 5 with fail
      generalize wr.alloc (.cells #[.int .i64 ce, .int .i64 xx] 220) = w2 at *
      generalize wr.heap.size = M2 at *
      have b0 : w2.cell? ⟨M2, 0, none⟩ = some (.int .i64 ce) := sB.cell 0 rfl 0
      have e0 : w2.cell? ⟨M, j, none⟩ = (partI ps j)[j]? := sB.ownCell 1 rfl j (by omega)
      obtain ⟨u0, hu0⟩ : ∃ u0, (partI ps j)[j]? = some u0 := ⟨_, List.getElem?_eq_getElem (by rw [partI_len, ← HN.out]; exact hlt)⟩
      rw [hu0] at e0
      have f0 : w2.frozen? ⟨M, j, none⟩ = false := sB.ownFrozen 1 rfl j
      have sC := (sB.ownSet 1 rfl j (by omega) (.int .i64 ce)).pop
      have HC : Hid (St w [ownI 3 1 (.slice (some ⟨M, 0, none⟩) n n) n (partI ps (j + 1))] (w2.setCell ⟨M, j, none⟩ (.int .i64 ce))) := by
        rw [← hS2]
        exact sC
      clear sB sC hS hu0 hS2 c0 c1
      go_wp2_with fail
      go_roundw
      case rel => exact ⟨j + 1, by go_num, hlt, HC.out⟩
      case measure => simp [intOf]; omega
    · obtain rfl : j = n := by omega
      have HI : Hid (IntsIn wr (some ⟨M, 0, none⟩) j (cesOf ps)) := by
        refine ⟨by simp [cesOf]; exact HN.out, fun _ => ⟨M, 0, rfl, fun k hk => ?_⟩⟩
        rw [Nat.zero_add, hS.ownCell 0 rfl k (by omega)]
        have hk2 : k < ps.length := by have := HN.out; omega
        simp [partI, cesOf, hk, hk2, List.getD_eq_getElem?_getD]
      have HK : Hid (Kept (fun _ => False) w wr) := hS.same
      clear hS
      go_wp2
      go_ret
      exact ⟨M, rfl, HI.out, HK.out⟩
end Go.Proofs.YthbcbjkgjgmegaaGreat

namespace Go.Proofs.YthbcbjkgjgmegaaGreat
open Go.RowKit
set_option linter.unusedVariables false
set_option linter.unusedSimpArgs false
attribute [local go_sem ↓] Go.wp_at_zero Go.wp_at_succ

set_option maxRecDepth 100000 in
set_option maxHeartbeats 1000000 in
theorem idxInt (la : Option Addr) (n lc : Nat) (zs : List Int) (x : Int) (w : World) (hL : IntsIn w la n zs) (hn : n ≤ 4096) :
    Calls Tryz.prog 303 #[.slice la n lc, .int .i64 x] w fun e w' => ∃ r : Int, e = .returned (.int .i64 r) ∧ decide (0 ≤ r) = zs.contains x ∧ w' = w := by
  have HN : Hid (n = zs.length) := hL.1
  have HL : Hid (IntsIn w la n zs) := hL
  clear hL
  go_enter Tryz.func303, Tryz.ntmps303
  go_wp2
  go_loopw [8] (fun i wr => ∃ j : Nat, i = .int .i64 j ∧ j ≤ n ∧ (∀ k, k < j → zs.getD k 0 ≠ x) ∧ wr = w) (fun i _ => n - (intOf i).toNat)
  case atStart => exact ⟨0, rfl, Nat.zero_le _, fun k h0 => by omega, rfl⟩
  case round =>
    obtain ⟨j, rfl, hj, ho, rfl⟩ := hrel
    have HO : Hid (∀ k, k < j → zs.getD k 0 ≠ x) := ho
    clear ho
    by_cases hlt : j < n
    · obtain ⟨g, o, rfl, hc⟩ := HL.out.2 (by omega)
      have c0 := hc j hlt
      have h0 : (0 : Int) ≤ (j : Int) := Int.natCast_nonneg _
      have h1 : (j : Int) < (n : Int) := by omega
      have HZ : Hid (zs.getD j 0 = x → zs.contains x = true) := fun h => by
        have hz : j < zs.length := by have := HN.out; omega
        rw [List.contains_iff_mem, ← h, List.getD_eq_getElem?_getD, List.getElem?_eq_getElem hz]
        exact List.getElem_mem hz
      have HY : Hid (zs.getD j 0 ≠ x → ∀ k, k < j + 1 → zs.getD k 0 ≠ x) := fun h k hk => by
        by_cases e : k = j
        · subst e; exact h
        · exact HO.out k (by omega)
      clear hc
      generalize zs.getD j 0 = y at *
      by_cases hxy : y = x
      · subst hxy
        have HZ2 : Hid (zs.contains y = true) := HZ.out rfl
        clear HZ HY
        go_wp2
        go_ret
        exact ⟨_, rfl, by rw [HZ2.out]; simp, by trivial⟩
      · have t : (x == y) = false := by simp; exact fun e => hxy e.symm
        have HB : Hid (y ≠ x) := hxy
        clear hxy
        go_wp2_with fail
        go_roundw
        case rel => exact ⟨j + 1, by go_num, by omega, HY.out HB.out, by trivial⟩
        case measure => simp [intOf]; omega
    · obtain rfl : j = n := by omega
      have HF : Hid (zs.contains x = false) := by
        show zs.contains x = false
        cases hc : zs.contains x
        · rfl
        · rw [List.contains_iff_mem] at hc
          obtain ⟨i, hi, e⟩ := List.getElem_of_mem hc
          exact absurd (by rw [List.getD_eq_getElem?_getD, List.getElem?_eq_getElem hi]; exact e) (HO.out i (by have := HN.out; omega))
      clear HL HO
      go_wp2
      go_ret
      exact ⟨_, rfl, by rw [HF.out]; decide, by trivial⟩
theorem contInt (la : Option Addr) (n lc : Nat) (zs : List Int) (x : Int) (w : World) (hL : IntsIn w la n zs) (hn : n ≤ 4096) :
    Calls Tryz.prog 295 #[.slice la n lc, .int .i64 x] w fun e w' => e = .returned (.bool (zs.contains x)) ∧ w' = w := by
  have hq := idxInt la n lc zs x w hL hn
  clear hL
  generalize zs.contains x = b at *
  go_enter Tryz.func295, Tryz.ntmps295
  go_wp2_with (go_at_call 303; refine hq.mono ?_; rintro e w2 ⟨r, rfl, hr, rfl⟩)
  go_ret
  exact ⟨by rw [← hr]; rfl, rfl⟩

/-- Is one of them no cell, stands one of them twice? -/
def inC (m c : Int) : Bool := decide (0 ≤ c) && decide (c ≤ m - 1)
def outC (m : Int) (zs : List Int) : Bool := zs.any (fun c => !(inC m c))
def twiceB (zs : List Int) : Bool := (List.range zs.length).any (fun i => (zs.take i).contains (zs.getD i 0))
def cellsE (zs : List Int) (m : Int) : Int := if outC m zs then 2 else if twiceB zs then 1 else 0
theorem sliceUp (g off n i c : Nat) (hi : i ≤ n) (hc : n ≤ c) (W : World) : (Instr.slice 45 (.slice (some ⟨g, off, none⟩) n c) none (some (.int .i64 (i : Nat))) none).run Tryz.prog W = .ok (.slice (some ⟨g, off, none⟩) i c) W := by
  have e1 : (0 : Int) ≤ (i : Int) := by omega
  have e2 : (i : Int) ≤ (c : Int) := by omega
  have hcs : Tryz.prog.cellsOf 3 = 1 := by kernel_rfl
  simp [Instr.slice, Instr.sliceBounds, Instr.sliceBound, asIntOf, run_underlying Tryz.underlying45, go_sem, hcs, e1, e2]
  intro hh
  omega
theorem IntsIn.take {w : World} {la : Option Addr} {n : Nat} {zs : List Int} (h : IntsIn w la n zs) {i : Nat} (hi : i ≤ n) : IntsIn w la i (zs.take i) := by
  refine ⟨by have := h.1; simp; omega, fun h0 => ?_⟩
  obtain ⟨g, o, rfl, hc⟩ := h.2 (by omega)
  refine ⟨g, o, rfl, fun j hj => ?_⟩
  rw [hc j (by omega)]
  simp [List.getD_eq_getElem?_getD, List.getElem?_take, hj]
set_option maxRecDepth 100000 in
set_option maxHeartbeats 1000000 in
theorem ckCells (g n c : Nat) (zs : List Int) (m : Int) (w : World) (hL : IntsIn w (some ⟨g, 0, none⟩) n zs) (hn : n ≤ 16) (hc : n ≤ c) (m1 : 1 ≤ m) (m2 : m ≤ 256) :
    Calls Tryz.prog 279 #[.slice (some ⟨g, 0, none⟩) n c, .int .i64 m] w fun e w' => e = .returned (.int .i64 (cellsE zs m)) ∧ w' = w := by
  have HN : Hid (n = zs.length) := hL.1
  have HL : Hid (IntsIn w (some ⟨g, 0, none⟩) n zs) := hL
  have HO : Hid (∀ j, j < n → inC m (zs.getD j 0) = false → cellsE zs m = 2) := by
    intro j hj h
    have hz : j < zs.length := by have := HN.out; omega
    have : outC m zs = true := by
      unfold outC
      rw [List.any_eq_true]
      refine ⟨zs.getD j 0, ?_, by rw [h]; rfl⟩
      rw [List.getD_eq_getElem?_getD, List.getElem?_eq_getElem hz]
      exact List.getElem_mem hz
    unfold cellsE
    rw [if_pos this]
  have HO0 : Hid ((∀ j, j < n → inC m (zs.getD j 0) = true) → outC m zs = false) := by
    intro h
    unfold outC
    rw [List.any_eq_false]
    intro y hy
    obtain ⟨i, hi, e⟩ := List.getElem_of_mem hy
    have := h i (by have := HN.out; omega)
    rw [List.getD_eq_getElem?_getD, List.getElem?_eq_getElem hi] at this
    simp only [Option.getD_some, e] at this
    simp [this]
  have HT : Hid (∀ j, j < n → outC m zs = false → (zs.take j).contains (zs.getD j 0) = true → cellsE zs m = 1) := by
    intro j hj h0 h
    have : twiceB zs = true := by
      unfold twiceB
      rw [List.any_eq_true]
      exact ⟨j, by simp; have := HN.out; omega, h⟩
    unfold cellsE
    rw [h0, this]
    rfl
  have HT0 : Hid (outC m zs = false → (∀ j, j < n → (zs.take j).contains (zs.getD j 0) = false) → cellsE zs m = 0) := by
    intro h0 h
    have : twiceB zs = false := by
      unfold twiceB
      rw [List.any_eq_false]
      intro y hy
      have := h y (by simp at hy; have := HN.out; omega)
      rw [this]
      simp
    unfold cellsE
    rw [h0, this]
    rfl
  generalize cellsE zs m = E at *
  have hsl := fun i (hi : i ≤ n) W => sliceUp g 0 n i c hi hc W
  clear hL
  go_enter Tryz.func279, Tryz.ntmps279
  go_wp2
  go_loopw [6, 11] (fun _ i wr => ∃ j : Nat, i = .int .i64 j ∧ j ≤ n ∧ (∀ k, k < j → inC m (zs.getD k 0) = true) ∧ wr = w) (fun _ i _ => n - (intOf i).toNat)
  case atStart => exact ⟨0, rfl, Nat.zero_le _, fun k h0 => by omega, rfl⟩
  case round =>
    obtain ⟨j, rfl, hj, ho, rfl⟩ := hrel
    have HJ : Hid (∀ k, k < j → inC m (zs.getD k 0) = true) := ho
    clear ho
    by_cases hlt : j < n
    · obtain ⟨g', o, e, hc'⟩ := HL.out.2 (by omega)
      simp only [Option.some.injEq, Addr.mk.injEq, and_true] at e
      obtain ⟨rfl, rfl⟩ := e
      have c0 := hc' j hlt
      rw [Nat.zero_add] at c0
      have h0 : (0 : Int) ≤ (j : Int) := Int.natCast_nonneg _
      have h1 : (j : Int) < (n : Int) := by omega
      have HOj := HO.out j hlt
      have HY : Hid (inC m (zs.getD j 0) = true → ∀ k, k < j + 1 → inC m (zs.getD k 0) = true) := fun h k hk => by
        by_cases e : k = j
        · subst e; exact h
        · exact HJ.out k (by omega)
      clear hc' HO HT HT0 HO0
      generalize zs.getD j 0 = y at *
      have hq := cmWithin y 0 (m - 1) wr
      have hdef : inC m y = (decide (0 ≤ y) && decide (y ≤ m - 1)) := rfl
      rw [← hdef] at hq
      clear hdef
      cases hb : inC m y with
      | true =>
        rw [hb] at hq
        have HB : Hid _ := HY.out hb
        clear HOj HY hb
        go_wp2_with (go_at_call 278; refine hq.mono ?_; rintro e w2 ⟨rfl, rfl⟩)
        go_roundw
        case rel => exact ⟨j + 1, by go_num, by omega, HB.out, by trivial⟩
        case measure => simp [intOf]; omega
      | false =>
        rw [hb] at hq
        obtain rfl := HOj hb
        clear HY hb HOj
        go_wp2_with (go_at_call 278; refine hq.mono ?_; rintro e w2 ⟨rfl, rfl⟩)
        go_ret
        exact ⟨rfl, rfl⟩
    · obtain rfl : j = n := by omega
      have HC : Hid (outC m zs = false) := HO0.out HJ.out
      clear HO HO0 HJ hlt
      have HTj : Hid (∀ k, k < j → (zs.take k).contains (zs.getD k 0) = true → E = 1) := fun k hk h => HT.out k hk HC.out h
      have HT0' : Hid ((∀ k, k < j → (zs.take k).contains (zs.getD k 0) = false) → E = 0) := fun h => HT0.out HC.out h
      clear HT HT0 HC
      go_wp2
      obtain ⟨yy, hyy⟩ : ∃ yy, yy = wr := ⟨_, rfl⟩
      subst hyy
      go_loopw [7, 8, 23] (fun _ _ i wr => ∃ k : Nat, i = .int .i64 k ∧ k ≤ j ∧ (∀ q, q < k → (zs.take q).contains (zs.getD q 0) = false) ∧ wr = yy) (fun _ _ i _ => j - (intOf i).toNat)
      case atStart => exact ⟨0, rfl, Nat.zero_le _, fun k h0 => by omega, rfl⟩
      case round =>
        obtain ⟨k, rfl, hk, ho, rfl⟩ := hrel
        have HJ : Hid (∀ q, q < k → (zs.take q).contains (zs.getD q 0) = false) := ho
        clear ho
        by_cases hlt : k < j
        · obtain ⟨g', o, e, hc'⟩ := HL.out.2 (by omega)
          simp only [Option.some.injEq, Addr.mk.injEq, and_true] at e
          obtain ⟨rfl, rfl⟩ := e
          have c0 := hc' k hlt
          rw [Nat.zero_add] at c0
          have h0 : (0 : Int) ≤ (k : Int) := Int.natCast_nonneg _
          have h1 : (k : Int) < (j : Int) := by omega
          have hs := fun W => hsl k (by omega) W
          have HTk := HTj.out k hlt
          have HY : Hid ((zs.take k).contains (zs.getD k 0) = false → ∀ q, q < k + 1 → (zs.take q).contains (zs.getD q 0) = false) := fun h q hq => by
            by_cases e : q = k
            · subst e; exact h
            · exact HJ.out q (by omega)
          have hq := fun y => contInt (some ⟨g, 0, none⟩) k c (zs.take k) y wr (HL.out.take (by omega)) (by omega)
          have hq := hq (zs.getD k 0)
          clear hc' HTj HT0'
          generalize zs.getD k 0 = y at *
          cases hb : (zs.take k).contains y with
          | false =>
            rw [hb] at hq
            have HB : Hid _ := HY.out hb
            clear HTk HY hb hsl
            go_wp2_with (go_at_call 295; refine hq.mono ?_; rintro e w2 ⟨rfl, rfl⟩)
            go_roundw
            case rel => exact ⟨k + 1, by go_num, by omega, HB.out, by trivial⟩
            case measure => simp [intOf]; omega
          | true =>
            rw [hb] at hq
            obtain rfl := HTk hb
            clear HY hb HTk hsl
            go_wp2_with (go_at_call 295; refine hq.mono ?_; rintro e w2 ⟨rfl, rfl⟩)
            go_ret
            exact ⟨rfl, rfl⟩
        · obtain rfl : k = j := by omega
          obtain rfl := HT0'.out HJ.out
          clear HL hsl HJ HTj HT0'
          go_wp2
          go_ret
          exact ⟨rfl, rfl⟩
end Go.Proofs.YthbcbjkgjgmegaaGreat

namespace Go.Proofs.YthbcbjkgjgmegaaGreat
open Go.RowKit
set_option linter.unusedVariables false
set_option linter.unusedSimpArgs false
attribute [local go_sem ↓] Go.wp_at_zero Go.wp_at_succ

/-- What New answers. -/
def ckE (c : Cfg) (so th sp : Int) (ps : List Pr) : Int :=
  if (decide (1 ≤ th) && decide (th ≤ 8)) = false then 1 else if sp < 1 then 1 else if ps = [] then 1
  else if 16 < ps.length then 3 else if inC c.sl so = false then 2 else cellsE (cesOf ps) c.ce

set_option maxRecDepth 100000 in
set_option maxHeartbeats 1000000 in
theorem cmCheck (c : Cfg) (hf : c.fits = true) (so ge th sp : Int) (la : Option Addr) (n lc : Nat) (ps : List Pr) (w : World) (hP : PIn w la n ps) (hn : n ≤ 17592186044416) :
    Calls Tryz.prog 251 #[c.val, .agg #[.int .i64 so, .int .i64 ge, .int .i64 th, .int .i64 sp, .slice la n lc]] w fun e w' => e = .returned (.int .i64 (ckE c so th sp ps)) ∧ Kept (fun _ => False) w w' := by
  obtain ⟨f1, f2, f3, f4⟩ := Cfg.fits_cells hf
  have h2 := ((St.nil w).box #[.int .i64 c.ce, .int .i64 c.sl, .int .i64 c.bi, .int .i64 c.ta, .int .i64 c.ba, .int .i64 c.de] 24).box #[.int .i64 so, .int .i64 ge, .int .i64 th, .int .i64 sp, .slice la n lc] 326
  have HN : Hid (n = ps.length) := hP.1
  have E1 : Hid ((decide (1 ≤ th) && decide (th ≤ 8)) = false → ckE c so th sp ps = 1) := fun h => by unfold ckE; rw [if_pos h]
  have E2 : Hid ((decide (1 ≤ th) && decide (th ≤ 8)) = true → sp < 1 → ckE c so th sp ps = 1) := fun h k => by unfold ckE; rw [if_neg (by rw [h]; simp), if_pos k]
  have E3 : Hid ((decide (1 ≤ th) && decide (th ≤ 8)) = true → ¬ sp < 1 → n = 0 → ckE c so th sp ps = 1) := fun h k e => by unfold ckE; rw [if_neg (by rw [h]; simp), if_neg k, if_pos (List.length_eq_zero_iff.1 (by rw [← HN.out]; exact e))]
  have E4 : Hid ((decide (1 ≤ th) && decide (th ≤ 8)) = true → ¬ sp < 1 → n ≠ 0 → 16 < n → ckE c so th sp ps = 3) := fun h k e g => by unfold ckE; rw [if_neg (by rw [h]; simp), if_neg k, if_neg (fun q => e (by rw [HN.out, q]; rfl)), if_pos (by rw [← HN.out]; exact g)]
  have E5 : Hid ((decide (1 ≤ th) && decide (th ≤ 8)) = true → ¬ sp < 1 → n ≠ 0 → ¬ 16 < n → inC c.sl so = false → ckE c so th sp ps = 2) := fun h k e g q => by unfold ckE; rw [if_neg (by rw [h]; simp), if_neg k, if_neg (fun q => e (by rw [HN.out, q]; rfl)), if_neg (by rw [← HN.out]; exact g), if_pos q]
  have E6 : Hid ((decide (1 ≤ th) && decide (th ≤ 8)) = true → ¬ sp < 1 → n ≠ 0 → ¬ 16 < n → inC c.sl so = true → ckE c so th sp ps = cellsE (cesOf ps) c.ce) := fun h k e g q => by unfold ckE; rw [if_neg (by rw [h]; simp), if_neg k, if_neg (fun q => e (by rw [HN.out, q]; rfl)), if_neg (by rw [← HN.out]; exact g), if_neg (by rw [q]; simp)]
  generalize ckE c so th sp ps = E at *
  have HCK : Hid (∀ W, Kept (fun _ => False) w W → 0 < n → n ≤ 16 → Calls Tryz.prog 252 #[.slice la n lc] W fun e w' => ∃ g, e = .returned (.slice (some ⟨g, 0, none⟩) n n) ∧ Kept (fun _ => False) W w' ∧ Calls Tryz.prog 279 #[.slice (some ⟨g, 0, none⟩) n n, .int .i64 c.ce] w' fun e w'' => e = .returned (.int .i64 (cellsE (cesOf ps) c.ce)) ∧ w'' = w') := by
    intro W hW h0 h16
    refine (cellsOf_any la n lc ps W (hP.kept hW) h16 h0).mono ?_
    rintro e w' ⟨g, he, hI, hK⟩
    exact ⟨g, he, hK, ckCells g n n _ _ w' hI h16 (Nat.le_refl _) f1 f2⟩
  clear hP
  have hWT := fun W => cmWithin th 1 8 W
  have hWS : ∀ W, Calls Tryz.prog 278 #[.int .i64 so, .int .i64 0, .int .i64 (c.sl - 1)] W fun e w' => e = .returned (.bool (inC c.sl so)) ∧ w' = W := fun W => cmWithin so 0 (c.sl - 1) W
  generalize (decide (1 ≤ th) && decide (th ≤ 8)) = bt at *
  generalize inC c.sl so = bs at *
  generalize cellsE (cesOf ps) c.ce = CE at *
  obtain ⟨ce, sl, bi, ta, ba, de⟩ := c
  simp only at *
  unfold Cfg.val
  simp only
  go_enter Tryz.func251, Tryz.ntmps251
  go_upto_region 1 with fail
  have s0 := h2.cell 0 rfl 0
  have s2 := h2.cell 0 rfl 2
  have s3 := h2.cell 0 rfl 3
  have s4 := h2.cell 0 rfl 4
  have t0 := h2.cell 1 rfl 0
  have t1 := h2.cell 1 rfl 1
  have HK : Hid _ := h2.same
  clear h2
  simp only [List.getElem?_toArray, List.getElem?_cons_zero, List.getElem?_cons_succ] at s0 s2 s3 s4 t0 t1
  have hsz : (w.alloc (.cells #[.int .i64 ce, .int .i64 sl, .int .i64 bi, .int .i64 ta, .int .i64 ba, .int .i64 de] 24)).heap.size = w.heap.size + 1 := Array.size_push _
  rw [hsz] at s0 s2 s3 s4
  clear hsz
  generalize (w.alloc (.cells #[.int .i64 ce, .int .i64 sl, .int .i64 bi, .int .i64 ta, .int .i64 ba, .int .i64 de] 24)).alloc (.cells #[.int .i64 so, .int .i64 ge, .int .i64 th, .int .i64 sp, .slice la n lc] 326) = W2 at *
  generalize w.heap.size = M1 at *
  generalize M1 + 1 = M2 at *
  cases bt with
  | false =>
    obtain rfl := E1.out rfl
    have hq := hWT W2
    clear E1 E2 E3 E4 E5 E6 hWT hWS HCK
    go_wp2_with (go_at_call 278; refine hq.mono ?_; rintro e w2 ⟨rfl, rfl⟩)
    go_ret
    exact ⟨rfl, HK.out⟩
  | true =>
  by_cases h1 : sp < 1
  · obtain rfl := E2.out rfl h1
    have hq := hWT W2
    clear E1 E2 E3 E4 E5 E6 hWT hWS HCK
    go_wp2_with (go_at_call 278; refine hq.mono ?_; rintro e w2 ⟨rfl, rfl⟩)
    go_ret
    exact ⟨rfl, HK.out⟩
  · have h1' : decide (sp < 1) = false := decide_eq_false h1
    by_cases h3 : n = 0
    · obtain rfl := E3.out rfl h1 h3
      subst h3
      have hq := hWT W2
      clear E1 E2 E3 E4 E5 E6 hWT hWS HCK
      go_wp2_with (go_at_call 278; refine hq.mono ?_; rintro e w2 ⟨rfl, rfl⟩)
      go_ret
      exact ⟨rfl, HK.out⟩
    · have h3' : ((n : Int) == 0) = false := by simpa using h3
      by_cases h4 : 16 < n
      · obtain rfl := E4.out rfl h1 h3 h4
        have h4' : (16 : Int) < (n : Int) := by omega
        have hq := hWT W2
        clear E1 E2 E3 E4 E5 E6 hWT hWS HCK
        go_wp2_with (go_at_call 278; refine hq.mono ?_; rintro e w2 ⟨rfl, rfl⟩)
        go_ret
        exact ⟨rfl, HK.out⟩
      · have h4' : ¬ (16 : Int) < (n : Int) := by omega
        have h4'' : decide ((16 : Int) < (n : Int)) = false := decide_eq_false h4'
        cases bs with
        | false =>
          obtain rfl := E5.out rfl h1 h3 h4 rfl
          have hq := hWT W2
          have hq2 := hWS W2
          clear E1 E2 E3 E4 E5 E6 hWT hWS HCK
          go_wp2_with fail
          refine hq.mono ?_
          rintro e w2 ⟨rfl, rfl⟩
          clear hq
          go_wp2_with fail
          refine hq2.mono ?_
          rintro e w3 ⟨rfl, rfl⟩
          clear hq2
          go_wp2
          go_ret
          exact ⟨rfl, HK.out⟩
        | true =>
          obtain rfl := E6.out rfl h1 h3 h4 rfl
          have hq := hWT W2
          have hq2 := hWS W2
          have hq3 : Calls Tryz.prog 252 #[.slice la n lc] W2.drew fun e w' => ∃ g, e = .returned (.slice (some ⟨g, 0, none⟩) n n) ∧ (w'.cell? ⟨M2, 4, none⟩ = some (.slice la n lc) ∧ w'.cell? ⟨M1, 0, none⟩ = some (.int .i64 ce)) ∧ Hid (Kept (fun _ => False) w w') ∧ Calls Tryz.prog 279 #[.slice (some ⟨g, 0, none⟩) n n, .int .i64 ce] w' fun e w'' => e = .returned (.int .i64 E) ∧ w'' = w' := by
            refine (HCK.out _ HK.out.drew (by omega) (by omega)).mono ?_
            rintro e w' ⟨g, he, hk, hc⟩
            exact ⟨g, he, ⟨(World.cell?_of_block (hk.block M2 (World.block_lt_of_cell? W2 _ s4) id)).trans s4, (World.cell?_of_block (hk.block M1 (World.block_lt_of_cell? W2 _ t0) id)).trans t0⟩, HK.out.drew.trans hk (fun _ _ f => f), hc⟩
          clear E1 E2 E3 E4 E5 E6 hWT hWS HCK
          go_wp2_with fail
          refine hq.mono ?_
          rintro e w2 ⟨rfl, rfl⟩
          clear hq
          go_wp2_with fail
          refine hq2.mono ?_
          rintro e w3 ⟨rfl, rfl⟩
          clear hq2
          go_upto_region 9 with fail
          clear HK
          go_region_held3 (fun W => W.cell? ⟨M2, 4, none⟩ = some (.slice la n lc) ∧ W.cell? ⟨M1, 0, none⟩ = some (.int .i64 ce)) (first | go_keep | exact rS)
            (first | (go_at_call 252; refine hq3.mono ?_; rintro e w4 ⟨g, rfl, rS, HK, hq4⟩) | (go_at_call 279; refine hq4.mono ?_; rintro e w5 ⟨rfl, rfl⟩))
          go_wp2
          go_ret
          exact ⟨rfl, HK.out⟩

/-- What is made. -/
def Cm.new (so : Nat) (ge th sp : Int) (ps : List Pr) (wr : Sg) (n : Nat) : Cm := ⟨so, ge, th, sp, ps, Lk.new wr n so, .take, 0, false, 0⟩
theorem ckE_zero {c : Cfg} {so th sp : Int} {ps : List Pr} (h : ckE c so th sp ps = 0) : 1 ≤ th ∧ th ≤ 8 ∧ 1 ≤ sp ∧ ps ≠ [] ∧ ps.length ≤ 16 ∧ 0 ≤ so ∧ so < c.sl ∧ outC c.ce (cesOf ps) = false ∧ twiceB (cesOf ps) = false := by
  unfold ckE at h
  split at h
  · omega
  split at h
  · omega
  split at h
  · omega
  split at h
  · omega
  split at h
  · omega
  rename_i h1 h2 h3 h4 h5
  simp only [Bool.not_eq_false, Bool.and_eq_true, decide_eq_true_eq] at h1
  simp only [Bool.not_eq_false, inC, Bool.and_eq_true, decide_eq_true_eq] at h5
  unfold cellsE at h
  split at h
  · omega
  split at h
  · omega
  rename_i h6 h7
  exact ⟨h1.1, h1.2, by omega, h3, by omega, h5.1, by omega, by simpa using h6, by simpa using h7⟩
theorem Cm.fit_new {c : Cfg} {so : Nat} {ge th sp : Int} {ps : List Pr} (h : ckE c so th sp ps = 0) {wr : Sg} (hw : wr.ok) {n : Nat} (hn : n ≤ 8) (hl : (n : Int) = c.sl) : (Cm.new so ge th sp ps wr n).fit n := by
  obtain ⟨a, b, _, e, f, _, g, _⟩ := ckE_zero h
  exact ⟨a, b, by simp [Cm.new], by simp only [Cm.new]; omega, List.length_pos_iff.2 e, f, Lk.fit_new hw hn _, Lk.inn_new _ _ _, fun d e => by simp [Cm.new] at e, fun k e => by simp [Cm.new] at e⟩

section
variable {o w : World} {its : List It} {A : Ad} {c : Cfg} {z : SSt} {v u : Value}
theorem St.popAt {pre : List It} {X : It} {l : List It} (h : St o (pre ++ X :: l) w) : St o (pre ++ l) w := (h.perm List.perm_middle).pop
theorem St.nilI (h : St o its w) : St o (joinI [] :: its) w := h.push (joinI []) (Kept.refl _ w) (fun B hB => by cases hB) List.nodup_nil (fun b hb => by cases hb)
set_option maxRecDepth 100000 in
set_option maxHeartbeats 1000000 in
theorem cmNew_out (h : St o its w) (i : Nat) (hi : its[i]? = some (spI A c z v u)) (hf : c.fits = true) (J : Nat) (so ge th sp : Int) (la : Option Addr) (n lc : Nat) (ps : List Pr) (hP : ∀ W, St o its W → PIn W la n ps) (hn : n ≤ 17592186044416) (hE : ckE c so th sp ps ≠ 0) :
    Calls Tryz.prog 223 #[spp A, .pointer (some ⟨J, 0, none⟩), .agg #[.int .i64 so, .int .i64 ge, .int .i64 th, .int .i64 sp, .slice la n lc]] w fun e w' => e = .returned (.tuple #[.pointer none, .int .i64 (ckE c so th sp ps)]) ∧ St o its w' := by
  have h1 := h.box #[.int .i64 so, .int .i64 ge, .int .i64 th, .int .i64 sp, .slice la n lc] 326
  have hq := spConfig h1 (i + 1) hi
  have HC : Hid (∀ W, St o its W → Calls Tryz.prog 251 #[.agg #[.int .i64 c.ce, .int .i64 c.sl, .int .i64 c.bi, .int .i64 c.ta, .int .i64 c.ba, .int .i64 c.de], .agg #[.int .i64 so, .int .i64 ge, .int .i64 th, .int .i64 sp, .slice la n lc]] W fun e w' => e = .returned (.int .i64 (ckE c so th sp ps)) ∧ Kept (fun _ => False) W w') := fun W hW => cmCheck c hf so ge th sp la n lc ps W (hP W hW) hn
  unfold spp at *
  unfold Cfg.val at hq
  go_enter Tryz.func223, Tryz.ntmps223
  go_upto_region 1 with fail
  generalize w.alloc (.cells #[.int .i64 so, .int .i64 ge, .int .i64 th, .int .i64 sp, .slice la n lc] 326) = W1 at *
  generalize w.heap.size = M1 at *
  go_wp2_with fail
  refine hq.mono ?_
  rintro e w2 ⟨rfl, s2⟩
  clear hq h1
  have s3 := s2.box #[.int .i64 c.ce, .int .i64 c.sl, .int .i64 c.bi, .int .i64 c.ta, .int .i64 c.ba, .int .i64 c.de] 24
  clear s2
  go_upto_region 2 with fail
  generalize w2.alloc (.cells #[.int .i64 c.ce, .int .i64 c.sl, .int .i64 c.bi, .int .i64 c.ta, .int .i64 c.ba, .int .i64 c.de] 24) = w3 at *
  generalize w2.heap.size = M3 at *
  have hq := HC.out w3 s3.pop.pop
  have a0 : w3.cell? ⟨M3, 0, none⟩ = some (.int .i64 c.ce) := s3.cell 0 rfl 0
  have a1 : w3.cell? ⟨M3, 1, none⟩ = some (.int .i64 c.sl) := s3.cell 0 rfl 1
  have a2 : w3.cell? ⟨M3, 2, none⟩ = some (.int .i64 c.bi) := s3.cell 0 rfl 2
  have a3 : w3.cell? ⟨M3, 3, none⟩ = some (.int .i64 c.ta) := s3.cell 0 rfl 3
  have a4 : w3.cell? ⟨M3, 4, none⟩ = some (.int .i64 c.ba) := s3.cell 0 rfl 4
  have a5 : w3.cell? ⟨M3, 5, none⟩ = some (.int .i64 c.de) := s3.cell 0 rfl 5
  have b0 : w3.cell? ⟨M1, 0, none⟩ = some (.int .i64 so) := s3.cell 1 rfl 0
  have b1 : w3.cell? ⟨M1, 1, none⟩ = some (.int .i64 ge) := s3.cell 1 rfl 1
  have b2 : w3.cell? ⟨M1, 2, none⟩ = some (.int .i64 th) := s3.cell 1 rfl 2
  have b3 : w3.cell? ⟨M1, 3, none⟩ = some (.int .i64 sp) := s3.cell 1 rfl 3
  have b4 : w3.cell? ⟨M1, 4, none⟩ = some (.slice la n lc) := s3.cell 1 rfl 4
  have HS3 : Hid _ := s3
  clear s3
  go_wp2_with fail
  refine hq.mono ?_
  rintro e w4 ⟨rfl, k4⟩
  have s4 := HS3.out.calm k4
  clear hq HS3 HC k4 a0 a1 a2 a3 a4 a5 b0 b1 b2 b3 b4
  have HS : Hid _ := s4.pop.pop
  have hE1 : (ckE c so th sp ps != 0) = true := by simpa using hE
  clear s4 h hP hi
  go_wp2
  go_ret2
  exact ⟨rfl, HS.out⟩

set_option maxRecDepth 100000 in
set_option maxHeartbeats 2000000 in
theorem cmNew_st (h : St o its w) (i : Nat) (hi : its[i]? = some (spI A c z v u)) (hf : c.fits = true) (hl : (z.hs.length : Int) = c.sl) (J : Nat) (so : Nat) (ge th sp : Int) (la : Option Addr) (n lc : Nat) (ps : List Pr) (hP : ∀ W, St o its W → PIn W la n ps) (hn : n ≤ 17592186044416) (hE : ckE c so th sp ps = 0) :
    Calls Tryz.prog 223 #[spp A, .pointer (some ⟨J, 0, none⟩), .agg #[.int .i64 (so : Nat), .int .i64 ge, .int .i64 th, .int .i64 sp, .slice la n lc]] w fun e w' => ∃ B vl dl dv, e = .returned (.tuple #[.pointer (some ⟨B.X, 0, none⟩), .int .i64 0]) ∧ B.J = J ∧ St o (cmI A B 0 (Cm.new so ge th sp ps (ofR (cesOf ps) c.bi).1 z.hs.length) vl (.slice none 0 0) (.slice none 0 0) dl dv :: its) w' := by
  obtain ⟨e1, e2, e3, e4, e5, e6, e7, e8, e9⟩ := ckE_zero hE
  have f8 := (Cfg.fits_cells hf).2.2.2
  have HN : Hid (n = ps.length) := (hP w h).1
  have n1 : 1 ≤ n := by have := HN.out; have := List.length_pos_iff.2 e4; omega
  have n16 : n ≤ 16 := by have := HN.out; omega
  have HP : Hid (∀ W, St o its W → PIn W la n ps) := hP
  have h1 := h.box #[.int .i64 (so : Nat), .int .i64 ge, .int .i64 th, .int .i64 sp, .slice la n lc] 326
  have hq := spConfig h1 (i + 1) hi
  have HC : Hid (∀ W, St o its W → Calls Tryz.prog 251 #[.agg #[.int .i64 c.ce, .int .i64 c.sl, .int .i64 c.bi, .int .i64 c.ta, .int .i64 c.ba, .int .i64 c.de], .agg #[.int .i64 (so : Nat), .int .i64 ge, .int .i64 th, .int .i64 sp, .slice la n lc]] W fun e w' => e = .returned (.int .i64 (ckE c so th sp ps)) ∧ Kept (fun _ => False) W w') := fun W hW => cmCheck c hf so ge th sp la n lc ps W (hP W hW) hn
  unfold spp at *
  unfold Cfg.val at hq
  go_enter Tryz.func223, Tryz.ntmps223
  go_upto_region 1 with fail
  generalize w.alloc (.cells #[.int .i64 (so : Nat), .int .i64 ge, .int .i64 th, .int .i64 sp, .slice la n lc] 326) = W1 at *
  generalize w.heap.size = M1 at *
  go_wp2_with fail
  refine hq.mono ?_
  rintro e w2 ⟨rfl, s2⟩
  clear hq h1
  have s3 := s2.box #[.int .i64 c.ce, .int .i64 c.sl, .int .i64 c.bi, .int .i64 c.ta, .int .i64 c.ba, .int .i64 c.de] 24
  clear s2
  go_upto_region 2 with fail
  generalize w2.alloc (.cells #[.int .i64 c.ce, .int .i64 c.sl, .int .i64 c.bi, .int .i64 c.ta, .int .i64 c.ba, .int .i64 c.de] 24) = w3 at *
  generalize w2.heap.size = M3 at *
  have hq := HC.out w3 s3.pop.pop
  have a0 : w3.cell? ⟨M3, 0, none⟩ = some (.int .i64 c.ce) := s3.cell 0 rfl 0
  have a1 : w3.cell? ⟨M3, 1, none⟩ = some (.int .i64 c.sl) := s3.cell 0 rfl 1
  have a2 : w3.cell? ⟨M3, 2, none⟩ = some (.int .i64 c.bi) := s3.cell 0 rfl 2
  have a3 : w3.cell? ⟨M3, 3, none⟩ = some (.int .i64 c.ta) := s3.cell 0 rfl 3
  have a4 : w3.cell? ⟨M3, 4, none⟩ = some (.int .i64 c.ba) := s3.cell 0 rfl 4
  have a5 : w3.cell? ⟨M3, 5, none⟩ = some (.int .i64 c.de) := s3.cell 0 rfl 5
  have b0 : w3.cell? ⟨M1, 0, none⟩ = some (.int .i64 (so : Nat)) := s3.cell 1 rfl 0
  have b1 : w3.cell? ⟨M1, 1, none⟩ = some (.int .i64 ge) := s3.cell 1 rfl 1
  have b2 : w3.cell? ⟨M1, 2, none⟩ = some (.int .i64 th) := s3.cell 1 rfl 2
  have b3 : w3.cell? ⟨M1, 3, none⟩ = some (.int .i64 sp) := s3.cell 1 rfl 3
  have b4 : w3.cell? ⟨M1, 4, none⟩ = some (.slice la n lc) := s3.cell 1 rfl 4
  have HS3 : Hid _ := s3
  clear s3
  go_wp2_with fail
  refine hq.mono ?_
  rintro e w4 ⟨rfl, k4⟩
  have s4 := HS3.out.calm k4
  clear hq HS3 HC k4 a0 a1 a2 a3 a4 a5 b0 b1 b2 b3 b4
  rw [hE]
  have b4 : w4.cell? ⟨M1, 4, none⟩ = some (.slice la n lc) := s4.cell 1 rfl 4
  have f4 : w4.frozen? ⟨M1, 4, none⟩ = false := s4.frozen 1 rfl 4
  obtain ⟨gl, ol, rfl, -⟩ := (HP.out _ s4.pop.pop).2 (by omega)
  have hq := clonePr (some ⟨gl, ol, none⟩) n lc ps w4 (HP.out _ s4.pop.pop) (fun e => by cases e) (by omega)
  have HS4 : Hid _ := s4
  clear s4 h hP
  go_wp2_with fail
  refine hq.mono ?_
  rintro e w5 ⟨vw, rfl, ow, k5⟩
  have s5 := HS4.out.own k5 ow
  obtain ⟨gw, cw, rfl⟩ := s5.form 0 rfl (by have := HN.out; omega)
  clear hq HS4 b4 ow k5
  have b4 : w5.cell? ⟨M1, 4, none⟩ = some (.slice (some ⟨gl, ol, none⟩) n lc) := s5.cell 2 rfl 4
  have f4 : w5.frozen? ⟨M1, 4, none⟩ = false := s5.frozen 2 rfl 4
  have s6 := s5.write 2 rfl 4 (.slice (some ⟨gw, 0, none⟩) ps.length cw)
  clear s5
  go_upto_region 6 with fail
  generalize w5.setCell ⟨M1, 4, none⟩ (.slice (some ⟨gw, 0, none⟩) ps.length cw) = w6 at *
  clear b4 f4
  have s6' : St o (ownI 220 2 (.slice (some ⟨gw, 0, none⟩) ps.length cw) ps.length (prCells ps) :: boxI M3 #[.int .i64 c.ce, .int .i64 c.sl, .int .i64 c.bi, .int .i64 c.ta, .int .i64 c.ba, .int .i64 c.de] 24 :: boxI M1 #[.int .i64 (so : Nat), .int .i64 ge, .int .i64 th, .int .i64 sp, .slice (some ⟨gw, 0, none⟩) ps.length cw] 326 :: its) w6 := s6
  clear s6
  have p1 : 0 < ps.length := List.length_pos_iff.2 e4
  have HA : Hid (∀ W, St o (ownI 220 2 (.slice (some ⟨gw, 0, none⟩) ps.length cw) ps.length (prCells ps) :: boxI M3 #[.int .i64 c.ce, .int .i64 c.sl, .int .i64 c.bi, .int .i64 c.ta, .int .i64 c.ba, .int .i64 c.de] 24 :: boxI M1 #[.int .i64 (so : Nat), .int .i64 ge, .int .i64 th, .int .i64 sp, .slice (some ⟨gw, 0, none⟩) ps.length cw] 326 :: its) W → Calls Tryz.prog 252 #[.slice (some ⟨gw, 0, none⟩) ps.length cw] W fun e w' => ∃ g, e = .returned (.slice (some ⟨g, 0, none⟩) ps.length ps.length) ∧ Kept (fun _ => False) W w' ∧ IntsIn w' (some ⟨g, 0, none⟩) ps.length (cesOf ps)) := by
    intro W hW
    obtain ⟨la', lc', e', hPI, _⟩ := own_pin (show W.ownsRow 0 220 2 (.slice (some ⟨gw, 0, none⟩) ps.length cw) ps.length (prCells ps) from hW.get 0 rfl)
    simp only [Value.slice.injEq, true_and] at e'
    obtain ⟨rfl, rfl⟩ := e'
    refine (cellsOf_any _ ps.length cw ps W hPI e5 p1).mono ?_
    rintro e w' ⟨g, he, hI, hK⟩
    exact ⟨g, he, hK, hI⟩
  have HOF : Hid (∀ W g, IntsIn W (some ⟨g, 0, none⟩) ps.length (cesOf ps) → Calls Tryz.prog 248 #[.slice (some ⟨g, 0, none⟩) ps.length ps.length, .int .i64 c.bi] W fun e w'' => e = .returned (.tuple #[(ofR (cesOf ps) c.bi).1.val, .int .i64 (ofR (cesOf ps) c.bi).2]) ∧ Kept (fun _ => False) W w'') := fun W g hI => of_any _ _ ps.length (cesOf ps) c.bi W hI (by omega)
  generalize hSG : (ofR (cesOf ps) c.bi).1 = sg at *
  generalize (ofR (cesOf ps) c.bi).2 = ser at *
  obtain ⟨sl0, sh0⟩ := sg
  unfold Sg.val at HOF
  simp only at HOF
  have HCL : Hid (∀ W, St o (ownI 220 2 (.slice (some ⟨gw, 0, none⟩) ps.length cw) ps.length (prCells ps) :: boxI M3 #[.int .i64 c.ce, .int .i64 c.sl, .int .i64 c.bi, .int .i64 c.ta, .int .i64 c.ba, .int .i64 c.de] 24 :: boxI M1 #[.int .i64 (so : Nat), .int .i64 ge, .int .i64 th, .int .i64 sp, .slice (some ⟨gw, 0, none⟩) ps.length cw] 326 :: its) W → W.cell? ⟨M1, 4, none⟩ = some (.slice (some ⟨gw, 0, none⟩) ps.length cw) ∧ W.cell? ⟨M3, 2, none⟩ = some (.int .i64 c.bi)) := fun W s => ⟨s.cell 2 rfl 4, s.cell 1 rfl 2⟩
  have g1 := (HCL.out _ s6').1
  have g2 := (HCL.out _ s6').2
  have y1 := (HCL.out _ (s6'.alloc (.cells #[.int .u64 0, .int .u64 0] 130))).1
  have y2 := (HCL.out _ (s6'.alloc (.cells #[.int .u64 0, .int .u64 0] 130))).2
  have x1 := (HCL.out _ s6'.drew).1
  have x2 := (HCL.out _ s6'.drew).2
  have hA : Calls Tryz.prog 252 #[.slice (some ⟨gw, 0, none⟩) ps.length cw] w6.drew fun e w' => ∃ g, e = .returned (.slice (some ⟨g, 0, none⟩) ps.length ps.length) ∧ w'.cell? ⟨M1, 4, none⟩ = some (.slice (some ⟨gw, 0, none⟩) ps.length cw) ∧ w'.cell? ⟨M3, 2, none⟩ = some (.int .i64 c.bi) ∧ (w'.alloc (.cells #[.int .u64 0, .int .u64 0] 130)).cell? ⟨M1, 4, none⟩ = some (.slice (some ⟨gw, 0, none⟩) ps.length cw) ∧ (w'.alloc (.cells #[.int .u64 0, .int .u64 0] 130)).cell? ⟨M3, 2, none⟩ = some (.int .i64 c.bi) ∧ (Calls Tryz.prog 248 #[.slice (some ⟨g, 0, none⟩) ps.length ps.length, .int .i64 c.bi] w' fun e w'' => e = .returned (.tuple #[.agg #[.int .u64 (sl0 : Nat), .int .u64 (sh0 : Nat)], .int .i64 ser]) ∧ Hid (St o (ownI 220 2 (.slice (some ⟨gw, 0, none⟩) ps.length cw) ps.length (prCells ps) :: boxI M3 #[.int .i64 c.ce, .int .i64 c.sl, .int .i64 c.bi, .int .i64 c.ta, .int .i64 c.ba, .int .i64 c.de] 24 :: boxI M1 #[.int .i64 (so : Nat), .int .i64 ge, .int .i64 th, .int .i64 sp, .slice (some ⟨gw, 0, none⟩) ps.length cw] 326 :: its) w'')) ∧ (Calls Tryz.prog 248 #[.slice (some ⟨g, 0, none⟩) ps.length ps.length, .int .i64 c.bi] (w'.alloc (.cells #[.int .u64 0, .int .u64 0] 130)) fun e w'' => e = .returned (.tuple #[.agg #[.int .u64 (sl0 : Nat), .int .u64 (sh0 : Nat)], .int .i64 ser]) ∧ w''.cell? ⟨w'.heap.size, 0, none⟩ = some (.int .u64 0) ∧ w''.cell? ⟨w'.heap.size, 1, none⟩ = some (.int .u64 0) ∧ w''.frozen? ⟨w'.heap.size, 0, none⟩ = false ∧ w''.frozen? ⟨w'.heap.size, 1, none⟩ = false ∧ Hid (∀ u0 u1 : Value, St o (boxI w'.heap.size #[u0, u1] 130 :: (ownI 220 2 (.slice (some ⟨gw, 0, none⟩) ps.length cw) ps.length (prCells ps) :: boxI M3 #[.int .i64 c.ce, .int .i64 c.sl, .int .i64 c.bi, .int .i64 c.ta, .int .i64 c.ba, .int .i64 c.de] 24 :: boxI M1 #[.int .i64 (so : Nat), .int .i64 ge, .int .i64 th, .int .i64 sp, .slice (some ⟨gw, 0, none⟩) ps.length cw] 326 :: its)) ((w''.setCell ⟨w'.heap.size, 0, none⟩ u0).setCell ⟨w'.heap.size, 1, none⟩ u1))) := by
    refine (HA.out _ s6'.drew).mono ?_
    rintro e w' ⟨g, he, hK, hI⟩
    have sw := s6'.drew.calm hK
    have q := HCL.out _ sw
    have q2 := HCL.out _ (sw.alloc (.cells #[.int .u64 0, .int .u64 0] 130))
    refine ⟨g, he, q.1, q.2, q2.1, q2.2, (HOF.out _ g hI).mono ?_, (HOF.out _ g (hI.kept (kept_alloc w' _))).mono ?_⟩
    · rintro e w'' ⟨he2, hK2⟩
      exact ⟨he2, sw.calm hK2⟩
    · rintro e w'' ⟨he2, hK2⟩
      have sd := (sw.box #[.int .u64 0, .int .u64 0] 130).calm hK2
      exact ⟨he2, sd.cell 0 rfl 0, sd.cell 0 rfl 1, sd.frozen 0 rfl 0, sd.frozen 0 rfl 1, fun u0 u1 => (sd.write 0 rfl 0 u0).write 0 rfl 1 u1⟩
  have hA1 : Calls Tryz.prog 252 #[.slice (some ⟨gw, 0, none⟩) ps.length cw] (w6.alloc (.cells #[.int .u64 0, .int .u64 0] 130)).drew fun e w' => ∃ g, e = .returned (.slice (some ⟨g, 0, none⟩) ps.length ps.length) ∧ w'.cell? ⟨M1, 4, none⟩ = some (.slice (some ⟨gw, 0, none⟩) ps.length cw) ∧ w'.cell? ⟨M3, 2, none⟩ = some (.int .i64 c.bi) ∧ w'.cell? ⟨w6.heap.size, 0, none⟩ = some (.int .u64 0) ∧ w'.cell? ⟨w6.heap.size, 1, none⟩ = some (.int .u64 0) ∧ w'.frozen? ⟨w6.heap.size, 0, none⟩ = false ∧ w'.frozen? ⟨w6.heap.size, 1, none⟩ = false ∧ (Calls Tryz.prog 248 #[.slice (some ⟨g, 0, none⟩) ps.length ps.length, .int .i64 c.bi] w' fun e w'' => e = .returned (.tuple #[.agg #[.int .u64 (sl0 : Nat), .int .u64 (sh0 : Nat)], .int .i64 ser]) ∧ w''.cell? ⟨w6.heap.size, 0, none⟩ = some (.int .u64 0) ∧ w''.cell? ⟨w6.heap.size, 1, none⟩ = some (.int .u64 0) ∧ w''.frozen? ⟨w6.heap.size, 0, none⟩ = false ∧ w''.frozen? ⟨w6.heap.size, 1, none⟩ = false ∧ Hid (∀ u0 u1 : Value, St o (boxI w6.heap.size #[u0, u1] 130 :: (ownI 220 2 (.slice (some ⟨gw, 0, none⟩) ps.length cw) ps.length (prCells ps) :: boxI M3 #[.int .i64 c.ce, .int .i64 c.sl, .int .i64 c.bi, .int .i64 c.ta, .int .i64 c.ba, .int .i64 c.de] 24 :: boxI M1 #[.int .i64 (so : Nat), .int .i64 ge, .int .i64 th, .int .i64 sp, .slice (some ⟨gw, 0, none⟩) ps.length cw] 326 :: its)) ((w''.setCell ⟨w6.heap.size, 0, none⟩ u0).setCell ⟨w6.heap.size, 1, none⟩ u1))) := by
    have sb := (s6'.box #[.int .u64 0, .int .u64 0] 130).drew
    refine (HA.out _ sb.pop).mono ?_
    rintro e w' ⟨g, he, hK, hI⟩
    have sc := sb.calm hK
    have q := HCL.out _ sc.pop
    refine ⟨g, he, q.1, q.2, sc.cell 0 rfl 0, sc.cell 0 rfl 1, sc.frozen 0 rfl 0, sc.frozen 0 rfl 1, (HOF.out _ g hI).mono ?_⟩
    rintro e w'' ⟨he2, hK2⟩
    have sd := sc.calm hK2
    exact ⟨he2, sd.cell 0 rfl 0, sd.cell 0 rfl 1, sd.frozen 0 rfl 0, sd.frozen 0 rfl 1, fun u0 u1 => (sd.write 0 rfl 0 u0).write 0 rfl 1 u1⟩
  clear HA s6' HCL HOF
  go_cut [10] from 14 (fun a W => ∃ H : Nat, a = .pointer (some ⟨H, 0, none⟩) ∧ Hid (St o (boxI H #[.int .u64 (sl0 : Nat), .int .u64 (sh0 : Nat)] 130 :: (ownI 220 2 (.slice (some ⟨gw, 0, none⟩) ps.length cw) ps.length (prCells ps) :: boxI M3 #[.int .i64 c.ce, .int .i64 c.sl, .int .i64 c.bi, .int .i64 c.ta, .int .i64 c.ba, .int .i64 c.de] 24 :: boxI M1 #[.int .i64 (so : Nat), .int .i64 ge, .int .i64 th, .int .i64 sp, .slice (some ⟨gw, 0, none⟩) ps.length cw] 326 :: its)) W))
  case first =>
    go_region_with (first | (go_at_call 252; refine hA.mono ?_; rintro e w7 ⟨g, rfl, d1, d2, d3, d4, hB, hB2⟩) | (go_at_call 252; refine hA1.mono ?_; rintro e w7 ⟨g, rfl, d1, d2, k0, k1, m0, m1, hB1⟩) | (go_at_call 248; refine hB.mono ?_; rintro e w8 ⟨rfl, HA⟩) | (go_at_call 248; refine hB1.mono ?_; rintro e w8 ⟨rfl, k0, k1, m0, m1, HB⟩) | (go_at_call 248; refine hB2.mono ?_; rintro e w8 ⟨rfl, k0, k1, m0, m1, HB⟩))
    all_goals
      go_wp2
      go_meet
      first
      | exact ⟨_, rfl, HA.out.box _ _⟩
      | exact ⟨_, rfl, HB.out (.int .u64 (sl0 : Nat)) (.int .u64 (sh0 : Nat))⟩
  case rest =>
    obtain ⟨H, rfl, HB⟩ := hcut
    have s7 := HB.out
    clear hA hA1 g1 g2 y1 y2 x1 x2 HB
    have q0 : wc.cell? ⟨M1, 0, none⟩ = some (.int .i64 (so : Nat)) := s7.cell 3 rfl 0
    have r0 : wc.cell? ⟨H, 0, none⟩ = some (.int .u64 (sl0 : Nat)) := s7.cell 0 rfl 0
    have r1 : wc.cell? ⟨H, 1, none⟩ = some (.int .u64 (sh0 : Nat)) := s7.cell 0 rfl 1
    have hq : Calls Tryz.prog 253 #[.pointer (some ⟨A.sp, 0, none⟩), .int .i64 (so : Nat), .agg #[.int .u64 (sl0 : Nat), .int .u64 (sh0 : Nat)]] wc _ := lkNew_st s7 (i + 4) hi so ⟨sl0, sh0⟩ (by omega) (by omega)
    clear s7
    go_wp2_with fail
    refine hq.mono ?_
    rintro e w9 ⟨K, vl, rfl, s9⟩
    clear hq q0 r0 r1
    have q0 : w9.cell? ⟨M1, 0, none⟩ = some (.int .i64 (so : Nat)) := s9.cell 4 rfl 0
    have q1 : w9.cell? ⟨M1, 1, none⟩ = some (.int .i64 ge) := s9.cell 4 rfl 1
    have q2 : w9.cell? ⟨M1, 2, none⟩ = some (.int .i64 th) := s9.cell 4 rfl 2
    have q3 : w9.cell? ⟨M1, 3, none⟩ = some (.int .i64 sp) := s9.cell 4 rfl 3
    have q4 : w9.cell? ⟨M1, 4, none⟩ = some (.slice (some ⟨gw, 0, none⟩) ps.length cw) := s9.cell 4 rfl 4
    have sX := s9.box #[.pointer (some ⟨A.sp, 0, none⟩), .pointer (some ⟨J, 0, none⟩), .int .i64 (so : Nat), .int .i64 ge, .int .i64 th, .int .i64 sp, .slice (some ⟨gw, 0, none⟩) ps.length cw, .pointer (some ⟨K, 0, none⟩), .iface 355 (.agg #[]), .int .i64 0, .bool false, .int .i64 0] 359
    have HF : Hid (St o (cmI A ⟨w9.heap.size, J, gw, cw, K⟩ 0 (Cm.new so ge th sp ps ⟨sl0, sh0⟩ z.hs.length) vl (.slice none 0 0) (.slice none 0 0) vl vl :: its) (w9.alloc (.cells #[.pointer (some ⟨A.sp, 0, none⟩), .pointer (some ⟨J, 0, none⟩), .int .i64 (so : Nat), .int .i64 ge, .int .i64 th, .int .i64 sp, .slice (some ⟨gw, 0, none⟩) ps.length cw, .pointer (some ⟨K, 0, none⟩), .iface 355 (.agg #[]), .int .i64 0, .bool false, .int .i64 0] 359))) := by
      have t1 := St.popAt (pre := [_, _]) sX
      have t2 := St.popAt (pre := [_, _, _]) t1
      have t3 := St.popAt (pre := [_, _, _]) t2
      have t4 := t3.nilI
      refine St.unite (l := cmL A ⟨w9.heap.size, J, gw, cw, K⟩ 0 (Cm.new so ge th sp ps ⟨sl0, sh0⟩ z.hs.length) vl (.slice none 0 0) (.slice none 0 0) vl vl) (t4.perm ?_)
      refine (((List.Perm.swap _ _ _).cons _).cons _).trans ?_
      exact (List.perm_middle (l₁ := [_, _, _])).symm
    clear s9 sX
    go_wp2
    go_ret2
    exact ⟨⟨w9.heap.size, J, gw, cw, K⟩, vl, vl, vl, rfl, rfl, by rw [hSG]; exact HF.out⟩
end
end Go.Proofs.YthbcbjkgjgmegaaGreat
