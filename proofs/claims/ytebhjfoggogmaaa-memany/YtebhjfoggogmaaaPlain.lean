/- Lists held against each other, copied, told: sameRow, Same, meters, All, Len. -/
import Derived.Test.YtebhjfoggogmaaaRefRow
import Derived.Test.YtebhjfoggogmaaaRuns
import Derived.BigQuiet
import Derived.Deep.QuietTactic
namespace Go.Proofs.Ytebhjfoggogmaaa
open Go.RowKit
set_option linter.unusedVariables false
set_option linter.unusedSimpArgs false
attribute [local go_sem ↓] Go.wp_at_zero Go.wp_at_succ

/-- A list of int64 in memory, of n elements. -/
def IntsIn (w : World) (la : Option Addr) (n : Nat) (zs : List Int) : Prop :=
  n = zs.length ∧ (0 < n → ∃ g o, la = some ⟨g, o, none⟩ ∧ ∀ j, j < n → w.cell? ⟨g, o + j, none⟩ = some (.int .i64 (zs.getD j 0)))
theorem IntsIn.drewN {w : World} {la : Option Addr} {n : Nat} {zs : List Int} (h : IntsIn w la n zs) (k : Nat) : IntsIn (w.drewN k) la n zs := h

set_option maxRecDepth 100000 in
set_option maxHeartbeats 1000000 in
theorem sameRow_true (la lb : Option Addr) (n ca cb : Nat) (zs : List Int) (w : World) (ha : IntsIn w la n zs) (hb : IntsIn w lb n zs) (hn : n ≤ 17592186044416) :
    Calls Try.prog 19 #[.slice la n ca, .slice lb n cb] w fun e w' => e = .returned (.bool true) ∧ ∃ k, w' = w.drewN k := by
  obtain ⟨_, ha⟩ := ha
  obtain ⟨_, hb⟩ := hb
  have hnn : ((n : Int) != (n : Int)) = false := by simp
  go_enter Try.func19, Try.ntmps19
  go_wp2
  go_loopw [5] (fun i wr => ∃ j q : Nat, i = .int .i64 j ∧ j ≤ n ∧ wr = w.drewN q) (fun i _ => n - (intOf i).toNat)
  case atStart => exact ⟨0, 0, rfl, Nat.zero_le _, rfl⟩
  case round =>
    obtain ⟨j, q, rfl, hj, rfl⟩ := hrel
    by_cases hlt : j < n
    · obtain ⟨g, o, rfl, hga⟩ := ha (by omega)
      obtain ⟨g2, o2, rfl, hgb⟩ := hb (by omega)
      have c1 : w.cell? ⟨g, o + j, none⟩ = some (.int .i64 (zs.getD j 0)) := hga j hlt
      have c2 : w.cell? ⟨g2, o2 + j, none⟩ = some (.int .i64 (zs.getD j 0)) := hgb j hlt
      generalize zs.getD j 0 = z at c1 c2
      clear hga hgb ha hb
      have h0 : (0 : Int) ≤ (j : Int) := Int.natCast_nonneg _
      have h1 : (j : Int) < (n : Int) := by omega
      have hzz : (z != z) = false := by simp
      go_wp2_with fail
      go_quiet (fail)
      go_wp2
      go_roundw
      case rel => exact ⟨j + 1, _, by go_num, by omega, rfl⟩
      case measure => simp [intOf]; omega
    · go_wp2
      go_ret
      exact ⟨rfl, q, rfl⟩

theorem log_cells (l : List Acc) : ∀ j (hj : j < l.length), (logCells l)[j * 6]? = some (.int .i64 l[j].st) ∧ (logCells l)[j * 6 + 1]? = some (.int .i64 l[j].th) ∧ (logCells l)[j * 6 + 2]? = some (.int .i64 l[j].kind) ∧ (logCells l)[j * 6 + 3]? = some (.int .i64 l[j].at_) ∧ (logCells l)[j * 6 + 4]? = some (.int .i64 l[j].op) ∧ (logCells l)[j * 6 + 5]? = some (.bool l[j].ok) := by
  induction l with
  | nil => intro j hj; simp at hj
  | cons a l ih =>
    intro j hj
    cases j with
    | zero => simp [logCells, Acc.cells]
    | succ j =>
      have := ih j (by simpa using hj)
      have e : ∀ t, (logCells (a :: l))[(j + 1) * 6 + t]? = (logCells l)[j * 6 + t]? := fun t => by
        rw [show (j + 1) * 6 + t = 6 + (j * 6 + t) by omega]
        simp only [logCells]
        rw [List.getElem?_append_right (by simp [Acc.cells])]
        simp [Acc.cells]
      have e0 := e 0
      simp only [Nat.add_zero] at e0
      rw [e0, e 1, e 2, e 3, e 4, e 5]
      simpa using this

set_option maxRecDepth 100000 in
set_option maxHeartbeats 1000000 in
theorem same_true (ba bb : Nat) (va vb : Value) (l : List Acc) (w : World) (ha : w.ownsRow ba 50 6 va l.length (logCells l)) (hb : w.ownsRow bb 50 6 vb l.length (logCells l)) (hn : l.length ≤ 2199023255552) :
    Calls Try.prog 17 #[va, vb] w fun e w' => e = .returned (.bool true) ∧ ∃ k, w' = w.drewN k := by
  obtain ⟨ga, ca, rfl⟩ : ∃ ga ca, va = .slice ga l.length ca := by
    rcases ha.2 with ⟨h, h0⟩ | ⟨g, c3, _, h, _⟩
    · exact ⟨none, 0, by rw [h, h0]⟩
    · exact ⟨_, _, h⟩
  obtain ⟨gb, cb, rfl⟩ : ∃ ga ca, vb = .slice ga l.length ca := by
    rcases hb.2 with ⟨h, h0⟩ | ⟨g, c3, _, h, _⟩
    · exact ⟨none, 0, by rw [h, h0]⟩
    · exact ⟨_, _, h⟩
  generalize hN : l.length = n at *
  have hnn : ((n : Int) != (n : Int)) = false := by simp
  have HN : Hid (l.length = n) := hN
  clear hN
  go_enter Try.func17, Try.ntmps17
  go_wp2
  go_loopw [5] (fun i wr => ∃ j q : Nat, i = .int .i64 j ∧ j ≤ n ∧ wr = w.drewN q) (fun i _ => n - (intOf i).toNat)
  case atStart => exact ⟨0, 0, rfl, Nat.zero_le _, rfl⟩
  case round =>
    obtain ⟨j, q, rfl, hj, rfl⟩ := hrel
    by_cases hlt : j < n
    · obtain ⟨g, hga⟩ : ∃ g, ga = some ⟨g, 0, none⟩ := by
        obtain ⟨g, c, he, _, _⟩ := ha.form (by omega)
        simp only [Value.slice.injEq] at he
        exact ⟨g, he.1⟩
      subst hga
      obtain ⟨g2, hgb⟩ : ∃ g, gb = some ⟨g, 0, none⟩ := by
        obtain ⟨g, c, he, _, _⟩ := hb.form (by omega)
        simp only [Value.slice.injEq] at he
        exact ⟨g, he.1⟩
      subst hgb
      have hjl : j < l.length := by rw [HN.out]; exact hlt
      obtain ⟨l0, l1, l2, l3, l4, l5⟩ := log_cells l j hjl
      generalize l[j] = ac at l0 l1 l2 l3 l4 l5
      have a0 := (ha.cellAt (j * 6) (by omega)).trans l0
      have a1 := (ha.cellAt (j * 6 + 1) (by omega)).trans l1
      have a2 := (ha.cellAt (j * 6 + 2) (by omega)).trans l2
      have a3 := (ha.cellAt (j * 6 + 3) (by omega)).trans l3
      have a4 := (ha.cellAt (j * 6 + 4) (by omega)).trans l4
      have a5 := (ha.cellAt (j * 6 + 5) (by omega)).trans l5
      have b0 := (hb.cellAt (j * 6) (by omega)).trans l0
      have b1 := (hb.cellAt (j * 6 + 1) (by omega)).trans l1
      have b2 := (hb.cellAt (j * 6 + 2) (by omega)).trans l2
      have b3 := (hb.cellAt (j * 6 + 3) (by omega)).trans l3
      have b4 := (hb.cellAt (j * 6 + 4) (by omega)).trans l4
      have b5 := (hb.cellAt (j * 6 + 5) (by omega)).trans l5
      obtain ⟨s0, s1, s2, s3, s4, s5⟩ := ac
      simp only at a0 a1 a2 a3 a4 a5 b0 b1 b2 b3 b4 b5
      clear l0 l1 l2 l3 l4 l5
      have h0 : (0 : Int) ≤ (j : Int) := Int.natCast_nonneg _
      have h1 : (j : Int) < (n : Int) := by omega
      go_wp2_with fail
      go_quiet (fail)
      go_wp2
      go_roundw
      case rel => exact ⟨j + 1, _, by go_num, by omega, rfl⟩
      case measure => simp [intOf]; omega
    · go_wp2
      go_ret
      exact ⟨rfl, q, rfl⟩

set_option maxRecDepth 100000 in
set_option maxHeartbeats 1000000 in
theorem meters_true {b b2 m x : Nat} {s : Mt} {v v2 : Value} (w : World) (h1 : MeterS 79 50 b w m s v) (h2 : MeterS 34 50 b2 w x s v2) :
    Calls Try.prog 15 #[.pointer (some ⟨m, 0, none⟩), .pointer (some ⟨x, 0, none⟩)] w fun e w' => e = .returned (.bool true) ∧ ∃ k, w' = w.drewN k := by
  have c0 : w.cell? ⟨x, 0, none⟩ = some (.int .i64 s.st) := cell_of_heap h2.heap
  have c2 : w.cell? ⟨x, 2, none⟩ = some (.int .i64 s.dn) := cell_of_heap h2.heap
  have c3 : w.cell? ⟨x, 3, none⟩ = some (.int .i64 s.mo) := cell_of_heap h2.heap
  have k1 : ∀ n, Calls Try.prog 31 #[.pointer (some ⟨m, 0, none⟩)] (w.drewN n) fun e w' => e = .returned (.int .i64 s.st) ∧ w' = w.drewN n := fun n => steps_any b m s.st s.th s.dn s.mo v s.l _ ⟨h1.heap, h1.own, h1.low, h1.high⟩
  have k2 : ∀ n, Calls Try.prog 32 #[.pointer (some ⟨m, 0, none⟩)] (w.drewN n) fun e w' => e = .returned (.int .i64 s.dn) ∧ w' = w.drewN n := fun n => done_any b m s.st s.th s.dn s.mo v s.l _ ⟨h1.heap, h1.own, h1.low, h1.high⟩
  have k3 : ∀ n, Calls Try.prog 25 #[.pointer (some ⟨m, 0, none⟩)] (w.drewN n) fun e w' => e = .returned (.int .i64 s.mo) ∧ w' = w.drewN n := fun n => most_any b m s.st s.th s.dn s.mo v s.l _ ⟨h1.heap, h1.own, h1.low, h1.high⟩
  clear h1 h2
  generalize s.st = st at *
  generalize s.dn = dn at *
  generalize s.mo = mo at *
  have e1 : (st == st) = true := by simp
  have e2 : (dn == dn) = true := by simp
  have e3 : (mo == mo) = true := by simp
  go_enter Try.func15, Try.ntmps15
  go_wp2_with fail
  go_quiet (first | (go_at_call 31; exact Calls.quiet_of_same (k1 _)) | (go_at_call 32; exact Calls.quiet_of_same (k2 _)) | (go_at_call 25; exact Calls.quiet_of_same (k3 _)))
  go_wp2
  go_ret
  exact ⟨rfl, _, rfl⟩

theorem ints_one (xs : List Int) : ∀ u ∈ xs.map (Value.int .i64), u.oneCell' = true := by
  intro u h
  obtain ⟨x, _, rfl⟩ := List.mem_map.1 h
  rfl

theorem len_any {b r c m : Nat} {kind : Int} {xs : List Int} (w : World) (hr : RowIn 81 b w r c m kind xs) : Calls Try.prog 18 #[.pointer (some ⟨r, 0, none⟩)] w fun e w' => e = .returned (.int .i64 xs.length) ∧ w' = w := by
  have c2 : w.cell? ⟨r, 2, none⟩ = some (.slice (some ⟨c, 0, none⟩) xs.length xs.length) := cell_of_heap hr.row
  clear hr
  go_enter Try.func18, Try.ntmps18
  go_wp2
  go_ret
  exact ⟨rfl, rfl⟩

set_option maxRecDepth 100000 in
set_option maxHeartbeats 1000000 in
theorem all_any {b r c m : Nat} {kind : Int} {xs : List Int} (w : World) (hr : RowIn 81 b w r c m kind xs) :
    Calls Try.prog 20 #[.pointer (some ⟨r, 0, none⟩)] w fun e w' => ∃ v', e = .returned v' ∧ w'.ownsRow w.heap.size 2 1 v' xs.length (xs.map (Value.int .i64)) ∧ Kept (fun _ => False) w w' := by
  obtain ⟨i0, hi0, hz0, hz1, hz2⟩ := info_parts Try.info2
  have hE : ∀ a n c w, (binOp .eql 37 (.slice a n c) (.slice none 0 0)).run Try.prog w = .ok (.bool a.isNone) w := fun a n c w => Lib.run_eql_slice_nil w 37 2 a n c 0 0 Try.underlying37
  have c2 : w.cell? ⟨r, 2, none⟩ = some (.slice (some ⟨c, 0, none⟩) xs.length xs.length) := cell_of_heap hr.row
  have hcl : ∀ w, w.heap[c]? = some (.cells (ints xs) 2 (0, 0)) → Calls Try.prog 40 #[.slice (some ⟨c, 0, none⟩) xs.length xs.length] w fun e w' => ∃ v', e = .returned v' ∧ w'.ownsRow w.heap.size 2 1 v' xs.length (xs.map (Value.int .i64)) ∧ Kept (fun _ => False) w w' := by
    intro w hc
    have hcells : ∀ j u, (xs.map (Value.int .i64))[j]? = some u → (w.alloc (.cells #[] 2)).cell? ((⟨c, 0, none⟩ : Addr).add j) = some u := by
      have h2 : (w.alloc (.cells #[] 2)).heap[c]? = some (.cells (ints xs) 2 (0, 0)) := (Below.heap_alloc w _ c (lt_of_heap hc)).trans hc
      intro j u hu
      exact World.news_of_block (cs := ints xs) h2 j u (by simpa [ints] using hu)
    have hsm := hr.small
    clear c2 hc hr
    go_enter Try.func40, Try.ntmps40
    go_wp2_with (at_builtin; refine wpList_append_own_at _ rfl (.tmp 5) (.tmp 6) 37 rfl w.heap.size 2 i0 _ 1 8 Try.underlying37 hi0 hz0 hz1 hz2 rfl (by omega) (.slice (some ⟨w.heap.size, 0, none⟩) 0 0) 0 [] rfl (World.ownsRow_made w #[] 0 (Nat.le_refl _) (Nat.zero_le _) rfl) ⟨c, 0, none⟩ xs.length xs.length (xs.map (Value.int .i64)) rfl (by simp) hcells (ints_one xs) (by unfold maxLen; omega) (by omega) (by simp) ?_; intro v' w1 hown' hgrow hnil hat)
    go_ret
    refine ⟨_, rfl, by simpa using hown', ((Kept.refl _ w).alloc _).grown hgrow (fun k e => ?_)⟩
    right
    simp [Value.ownBlock] at e
    omega
  have hC := hcl w hr.cells
  clear hcl hr
  go_enter Try.func20, Try.ntmps20
  go_wp2_with (go_at_call 40; refine hC.mono ?_; rintro e w' ⟨v', rfl, ho', hk⟩)
  go_ret
  exact ⟨_, rfl, ho', hk⟩
end Go.Proofs.Ytebhjfoggogmaaa
