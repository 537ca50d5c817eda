/- What a commit is made of: lists of pairs, their cells, what may be. -/
import Derived.Test.YtgjmamgohidbiaaGreatCmD
namespace Go.Proofs.YtgjmamgohidbiaaGreat
open Go.RowKit
set_option linter.unusedVariables false
set_option linter.unusedSimpArgs false
attribute [local go_sem ↓] Go.wp_at_zero Go.wp_at_succ

theorem Tryz.infoPr : (Tryz.prog.info? 59).map (fun i => (i.zero, i.size, i.bytes)) = some (some (.agg #[.int .i64 0, .int .i64 0]), 2, 16) := by kernel_rfl
theorem prCells_one (l : List Pr) : ∀ u ∈ prCells l, u.oneCell' = true := by
  induction l with
  | nil => intro u h; cases h
  | cons t l ih =>
    intro u h
    simp only [prCells, List.mem_cons] at h
    rcases h with h | h | h
    · subst h; rfl
    · subst h; rfl
    · exact ih u h
/-- A list of pairs in memory. -/
def PIn (w : World) (la : Option Addr) (n : Nat) (ps : List Pr) : Prop :=
  n = ps.length ∧ (0 < n → ∃ g o, la = some ⟨g, o, none⟩ ∧ ∀ j u, (prCells ps)[j]? = some u → w.cell? ⟨g, o + j, none⟩ = some u)
theorem PIn.kept {w w' : World} {la : Option Addr} {n : Nat} {ps : List Pr} (h : PIn w la n ps) (k : Kept (fun _ => False) w w') : PIn w' la n ps := by
  refine ⟨h.1, fun h0 => ?_⟩
  obtain ⟨g, o, rfl, hc⟩ := h.2 h0
  refine ⟨g, o, rfl, fun j u hj => ?_⟩
  have := hc j u hj
  rw [World.cell?_of_block (k.block g (World.block_lt_of_cell? w _ this) (fun f => f))]
  exact this
theorem PIn.drew {w : World} {la : Option Addr} {n : Nat} {ps : List Pr} (h : PIn w la n ps) : PIn w.drew la n ps := h
theorem PIn.cells {w : World} {g o n : Nat} {ps : List Pr} (h : PIn w (some ⟨g, o, none⟩) n ps) {j : Nat} (hj : j < ps.length) :
    w.cell? ⟨g, o + j * 2, none⟩ = some (.int .i64 (ps.getD j Pr.zero).ce) ∧ w.cell? ⟨g, o + j * 2 + 1, none⟩ = some (.int .i64 (ps.getD j Pr.zero).x) := by
  obtain ⟨g', o', e, hc⟩ := h.2 (by have := h.1; omega)
  simp only [Option.some.injEq, Addr.mk.injEq, and_true] at e
  obtain ⟨rfl, rfl⟩ := e
  obtain ⟨h0, h1⟩ := prCells_at ps j hj
  exact ⟨hc _ _ h0, by simpa [Nat.add_assoc] using hc _ _ h1⟩
theorem own_pin {w : World} {base : Nat} {v : Value} {ys : List Pr} (h : w.ownsRow base 59 2 v ys.length (prCells ys)) : ∃ la lc, v = .slice la ys.length lc ∧ PIn w la ys.length ys ∧ (la = none → ys.length = 0 ∧ lc = 0) := by
  rcases h.2 with ⟨rfl, hn⟩ | ⟨g, cap, cur, rfl, _⟩
  · exact ⟨none, 0, by rw [hn], ⟨rfl, fun h0 => by omega⟩, fun _ => ⟨hn, rfl⟩⟩
  · refine ⟨_, _, rfl, ⟨rfl, fun _ => ⟨g, 0, rfl, fun j u hu => ?_⟩⟩, fun e => by cases e⟩
    have hl := h.1
    have hj := (List.getElem?_eq_some_iff.1 hu).1
    rw [Nat.zero_add, h.cellAt j (by omega)]
    exact hu
set_option maxRecDepth 100000 in
set_option maxHeartbeats 1000000 in
theorem clonePr (la : Option Addr) (n lc : Nat) (zs : List Pr) (w : World) (hL : PIn w la n zs) (hN : la = none → n = 0 ∧ lc = 0) (hb : n * 16 ≤ 140737488355328) :
    Calls Tryz.prog 61 #[.slice la n lc] w fun e w' => ∃ v', e = .returned v' ∧ w'.ownsRow w.heap.size 59 2 v' zs.length (prCells zs) ∧ Kept (fun _ => False) w w' := by
  obtain ⟨i0, hi0, hz0, hz1, hz2⟩ := info_parts Tryz.infoPr
  have hE : ∀ a n c w, (binOp .eql 45 (.slice a n c) (.slice none 0 0)).run Tryz.prog w = .ok (.bool a.isNone) w := fun a n c w => Lib.run_eql_slice_nil w 45 59 a n c 0 0 Tryz.underlying45
  cases la with
  | none =>
    obtain ⟨rfl, rfl⟩ := hN rfl
    have hl : zs = [] := List.length_eq_zero_iff.1 hL.1.symm
    subst hl
    clear hL hN
    go_enter Tryz.func61, Tryz.ntmps61
    go_wp2
    go_ret
    exact ⟨_, rfl, World.ownsRow_nil _ _ _ _, Kept.refl _ _⟩
  | some ad =>
    have hcells : ∀ j u, (prCells zs)[j]? = some u → (w.alloc (.cells #[] 59)).cell? (ad.add j) = some u := by
      intro j u hu
      have hj := (List.getElem?_eq_some_iff.1 hu).1
      rw [prCells_length] at hj
      obtain ⟨g, off, e, hc⟩ := (hL.kept (kept_alloc w (.cells #[] 59))).2 (by have := hL.1; omega)
      simp only [Option.some.injEq] at e
      subst e
      rw [Addr.add_lit]
      exact hc j u hu
    have hlen : (prCells zs).length = n * 2 := by rw [prCells_length, ← hL.1]
    have hml : n ≤ maxLen := by unfold maxLen; omega
    have HL : Hid (n = zs.length) := hL.1
    clear hL hN
    go_enter Tryz.func61, Tryz.ntmps61
    go_wp2_with (at_builtin; refine wpList_append_own_at _ rfl (.tmp 5) (.tmp 6) 45 rfl w.heap.size 59 i0 _ 2 16 Tryz.underlying45 hi0 hz0 hz1 hz2 rfl (by omega) (.slice (some ⟨w.heap.size, 0, none⟩) 0 0) 0 [] rfl (World.ownsRow_made w #[] 0 (Nat.le_refl _) (Nat.zero_le _) rfl) ad n lc (prCells zs) rfl hlen hcells (prCells_one zs) (by omega) (by omega) (by simp) ?_; intro v' w1 hown' hgrow hnil hat)
    go_ret
    refine ⟨_, rfl, by rw [← HL.out]; simpa using hown', ((Kept.refl _ w).alloc _).grown hgrow (fun k e => ?_)⟩
    right
    simp [Value.ownBlock] at e
    omega

theorem cmWithin (n a b : Int) (w : World) : Calls Tryz.prog 102 #[.int .i64 n, .int .i64 a, .int .i64 b] w fun e w' => e = .returned (.bool (decide (a ≤ n) && decide (n ≤ b))) ∧ w' = w := by
  by_cases h1 : a ≤ n
  · by_cases h2 : n ≤ b
    · rw [decide_eq_true h1, decide_eq_true h2]
      go_enter Tryz.func102, Tryz.ntmps102
      go_wp2
      go_ret
      exact ⟨rfl, rfl⟩
    · rw [decide_eq_true h1, decide_eq_false h2]
      have t2 := decide_eq_false h2
      go_enter Tryz.func102, Tryz.ntmps102
      go_wp2
      go_ret
      exact ⟨rfl, rfl⟩
  · rw [decide_eq_false h1]
    have t1 := decide_eq_false h1
    go_enter Tryz.func102, Tryz.ntmps102
    go_wp2
    go_ret
    exact ⟨rfl, rfl⟩

/-- The cells that are written. -/
def cesOf (ps : List Pr) : List Int := ps.map Pr.ce
def partI (ps : List Pr) (j : Nat) : List Value := (List.range ps.length).map fun k => .int .i64 (if k < j then (ps.getD k Pr.zero).ce else 0)
theorem partI_len (ps : List Pr) (j : Nat) : (partI ps j).length = ps.length := by simp [partI]
theorem partI_zero (ps : List Pr) : partI ps 0 = List.replicate ps.length (.int .i64 0) := by
  apply List.ext_getElem?
  intro k
  by_cases hk : k < ps.length
  · simp [partI, hk]
  · simp [partI, hk]
theorem partI_set (ps : List Pr) (j : Nat) (hj : j < ps.length) : (partI ps j).set j (.int .i64 (ps.getD j Pr.zero).ce) = partI ps (j + 1) := by
  apply List.ext_getElem?
  intro k
  rw [List.getElem?_set]
  by_cases hk : k < ps.length
  · by_cases e : j = k
    · subst e
      simp [partI, hk]
    · have : (k < j) = (k < j + 1) := by
        apply propext
        omega
      simp [partI, hk, e, this]
  · by_cases e : j = k
    · omega
    · simp [partI, hk, e]
set_option maxRecDepth 100000 in
set_option maxHeartbeats 1000000 in
theorem cellsOf_any (la : Option Addr) (n lc : Nat) (ps : List Pr) (w : World) (hP : PIn w la n ps) (hn : n ≤ 16) (h0 : 0 < n) :
    Calls Tryz.prog 62 #[.slice la n lc] w fun e w' => ∃ g, e = .returned (.slice (some ⟨g, 0, none⟩) n n) ∧ IntsIn w' (some ⟨g, 0, none⟩) n (cesOf ps) ∧ Kept (fun _ => False) w w' := by
  obtain ⟨i0, hi0, hz0, hz1, hz2⟩ := info_parts Tryz.infoInt
  have HN : Hid (n = ps.length) := hP.1
  have hmk : (Instr.makeSlice 84 (.int .i64 n) (.int .i64 n)).run Tryz.prog w = .ok (.slice (some ⟨w.heap.size, 0, none⟩) n n) (w.alloc (.cells (List.replicate n (.int .i64 0)).toArray 3)) := by
    have := run_make (P := Tryz.prog) w 84 3 i0 _ Tryz.underlying84 hi0 hz0 .i64 .i64 n n (by omega) (by omega) (by rw [hz2]; omega) (by omega)
    rw [this, hz1, Int.toNat_natCast, made_ints]
  have hS0 : St w [ownI 3 1 (.slice (some ⟨w.heap.size, 0, none⟩) n n) n (partI ps 0)] (w.alloc (.cells (List.replicate n (.int .i64 0)).toArray 3)) := by
    rw [partI_zero, ← HN.out]
    refine (St.nil w).own (kept_alloc w _) ?_
    refine ⟨by simp, .inr ⟨w.heap.size, n, (List.replicate n (.int .i64 0)).toArray, rfl, Nat.le_refl _, heap_alloc_new w _, Nat.le_refl _, by unfold maxLen; omega, by simp, by simp⟩⟩
  obtain ⟨ga, oa, rfl, -⟩ := hP.2 h0
  have HP : Hid (PIn w (some ⟨ga, oa, none⟩) n ps) := hP
  have HPS : Hid (∀ j, j < n → (partI ps j).set j (.int .i64 (ps.getD j Pr.zero).ce) = partI ps (j + 1)) := fun j hj => partI_set ps j (by rw [← HN.out]; exact hj)
  clear hP
  generalize (List.replicate n (Value.int .i64 0)).toArray = CC at *
  go_enter Tryz.func62, Tryz.ntmps62
  go_wp2_with fail
  generalize w.alloc (.cells CC 3) = w1 at *
  generalize w.heap.size = M at *
  clear hmk
  go_loopw [4, 5, 11, 13, 14, 15, 16, 17, 18, 19, 20] (fun _ _ i _ _ _ _ _ _ _ _ wr => ∃ j : Nat, i = .int .i64 j ∧ j ≤ n ∧ St w [ownI 3 1 (.slice (some ⟨M, 0, none⟩) n n) n (partI ps j)] wr) (fun _ _ i _ _ _ _ _ _ _ _ _ => n - (intOf i).toNat)
  case atStart => exact ⟨0, rfl, Nat.zero_le _, hS0⟩
  case round =>
    clear hS0
    obtain ⟨j, rfl, hj, hS⟩ := hrel
    by_cases hlt : j < n
    · have h1 : (j : Int) < (n : Int) := by omega
      have h2 : (0 : Int) ≤ (j : Int) := by omega
      obtain ⟨c0, c1⟩ := (HP.out.kept hS.same).cells (j := j) (by have := HN.out; omega)
      generalize hP : ps.getD j Pr.zero = Pq at *
      obtain ⟨ce, xx⟩ := Pq
      simp only at c0 c1
      have sB := hS.box #[.int .i64 ce, .int .i64 xx] 59
      have hS2 := HPS.out j hlt
      rw [hP] at hS2
      clear hP
      go_upto_region 5 with fail
      generalize wr.alloc (.cells #[.int .i64 ce, .int .i64 xx] 59) = w2 at *
      generalize wr.heap.size = M2 at *
      have b0 : w2.cell? ⟨M2, 0, none⟩ = some (.int .i64 ce) := sB.cell 0 rfl 0
      have e0 : w2.cell? ⟨M, j, none⟩ = (partI ps j)[j]? := sB.ownCell 1 rfl j (by omega)
      obtain ⟨u0, hu0⟩ : ∃ u0, (partI ps j)[j]? = some u0 := ⟨_, List.getElem?_eq_getElem (by rw [partI_len, ← HN.out]; exact hlt)⟩
      rw [hu0] at e0
      have f0 : w2.frozen? ⟨M, j, none⟩ = false := sB.ownFrozen 1 rfl j
      have sC := (sB.ownSet 1 rfl j (by omega) (.int .i64 ce)).pop
      have HC : Hid (St w [ownI 3 1 (.slice (some ⟨M, 0, none⟩) n n) n (partI ps (j + 1))] (w2.setCell ⟨M, j, none⟩ (.int .i64 ce))) := by
        rw [← hS2]
        exact sC
      clear sB sC hS hu0 hS2 c0 c1
      go_wp2_with fail
      go_roundw
      case rel => exact ⟨j + 1, by go_num, hlt, HC.out⟩
      case measure => simp [intOf]; omega
    · obtain rfl : j = n := by omega
      have HI : Hid (IntsIn wr (some ⟨M, 0, none⟩) j (cesOf ps)) := by
        refine ⟨by simp [cesOf]; exact HN.out, fun _ => ⟨M, 0, rfl, fun k hk => ?_⟩⟩
        rw [Nat.zero_add, hS.ownCell 0 rfl k (by omega)]
        have hk2 : k < ps.length := by have := HN.out; omega
        simp [partI, cesOf, hk, hk2, List.getD_eq_getElem?_getD]
      have HK : Hid (Kept (fun _ => False) w wr) := hS.same
      clear hS
      go_wp2
      go_ret
      exact ⟨M, rfl, HI.out, HK.out⟩
end Go.Proofs.YtgjmamgohidbiaaGreat
