/- SigTouches, step by step: it answers true. -/
import Derived.Test.YtbbllmhnhhbpiaaDoorFacts
import Derived.Test.YtbbllmhnhhbpiaaDoorUp
namespace Go.Proofs.YtbbllmhnhhbpiaaDoor
open Go.RowKit
set_option linter.unusedVariables false
set_option linter.unusedSimpArgs false

theorem Many.pair {w W : World} {n m : Nat} {a b : Sg} (A : Box W n a) (B : Box W m b) (K : Kept (fun _ => False) w W) : Many w [(n, a), (m, b)] W := by
  refine ⟨fun x hx => ?_, K⟩
  simp only [List.mem_cons, List.not_mem_nil, or_false] at hx
  rcases hx with rfl | rfl
  · exact A
  · exact B
theorem cellsOf_ints'' (l : List Nat) : cellsOf l = (l.map fun b : Nat => (b : Int)).map (Value.int .i64) := by simp [cellsOf, Function.comp_def]
theorem cell_far {w : World} {p a : Addr} {u : Value} (h : a.block ≠ p.block) : (w.setCell p u).cell? a = w.cell? a := World.cell?_of_block (heap_setCell_far h)
/-- s with word i replaced by x. -/
def Sg.setWord (s : Sg) (i x : Nat) : Sg := if i = 0 then ⟨x, s.hi⟩ else ⟨s.lo, x⟩
theorem less_zero (x y : Nat) (h : less y x = 0) : x ||| y = x := by
  refine Nat.eq_of_testBit_eq fun i => ?_
  have := congrArg (fun n => Nat.testBit n i) h
  simp only [testBit_less, Nat.zero_testBit] at this
  rw [Nat.testBit_or]
  cases hx : x.testBit i <;> cases hy : y.testBit i <;> simp_all
theorem less_some (x y : Nat) (h : less y x ≠ 0) : x ≠ x ||| y := fun e => h (by
  refine Nat.eq_of_testBit_eq fun i => ?_
  have := congrArg (fun n => Nat.testBit n i) e
  simp only [Nat.testBit_or] at this
  rw [testBit_less, Nat.zero_testBit]
  clear e h
  generalize x.testBit i = p at this
  generalize y.testBit i = q at this
  cases p <;> cases q <;> simp_all)

/-- How storing word after word goes: where each stands, what is there then. -/
structure Steps (a both : Sg) (L : List Nat) (cur : Nat → Sg) (la : Nat → Int) : Prop where
  start : cur 0 = a
  last0 : la 0 = -1
  step : ∀ j, j < L.length → L.getD j 0 < 2 ∧ la j < (L.getD j 0 : Nat) ∧ word (cur j) (L.getD j 0) ≠ word both (L.getD j 0) ∧ la (j + 1) = (L.getD j 0 : Nat) ∧ cur (j + 1) = (cur j).setWord (L.getD j 0) (word both (L.getD j 0))
  done : cur L.length = both

theorem steps_any (a b : Sg) : ∃ cur la, Steps a (a.join b) (b.minus a).words cur la := by
  obtain ⟨a0, a1⟩ := a
  obtain ⟨b0, b1⟩ := b
  have hw : (Sg.minus ⟨b0, b1⟩ ⟨a0, a1⟩).words = (if less b0 a0 ≠ 0 then [0] else []) ++ (if less b1 a1 ≠ 0 then [1] else []) := by
    unfold Sg.words wordsBelow
    simp only [List.range_succ, List.range_zero, List.nil_append, List.filter_append, List.filter_cons, List.filter_nil, word, Sg.minus]
    by_cases h0 : less b0 a0 = 0 <;> by_cases h1 : less b1 a1 = 0 <;> simp [h0, h1]
  rw [hw]
  unfold Sg.join
  by_cases h0 : less b0 a0 = 0 <;> by_cases h1 : less b1 a1 = 0
  · refine ⟨fun _ => ⟨a0, a1⟩, fun _ => -1, rfl, rfl, fun j hj => ?_, ?_⟩
    · simp [h0, h1] at hj
    · simp [less_zero a0 b0 h0, less_zero a1 b1 h1]
  · refine ⟨fun j => if j = 0 then ⟨a0, a1⟩ else ⟨a0, a1 ||| b1⟩, fun j => if j = 0 then -1 else 1, rfl, rfl, fun j hj => ?_, ?_⟩
    · have : j = 0 := by simp [h0, h1] at hj; omega
      subst this
      have := less_some a1 b1 h1
      simp [h0, h1, word, Sg.setWord, this]
    · simp [h0, h1, less_zero a0 b0 h0]
  · refine ⟨fun j => if j = 0 then ⟨a0, a1⟩ else ⟨a0 ||| b0, a1⟩, fun j => if j = 0 then -1 else 0, rfl, rfl, fun j hj => ?_, ?_⟩
    · have : j = 0 := by simp [h0, h1] at hj; omega
      subst this
      have := less_some a0 b0 h0
      simp [h0, h1, word, Sg.setWord, this]
    · simp [h0, h1, less_zero a1 b1 h1]
  · refine ⟨fun j => if j = 0 then ⟨a0, a1⟩ else if j = 1 then ⟨a0 ||| b0, a1⟩ else ⟨a0 ||| b0, a1 ||| b1⟩, fun j => if j = 0 then -1 else if j = 1 then 0 else 1, rfl, rfl, fun j hj => ?_, ?_⟩
    · have h2 : j = 0 ∨ j = 1 := by simp [h0, h1] at hj; omega
      have n0 := less_some a0 b0 h0
      have n1 := less_some a1 b1 h1
      rcases h2 with rfl | rfl
      · simp [h0, h1, word, Sg.setWord, n0]
      · simp [h0, h1, word, Sg.setWord, n1]
    · simp [h0, h1]

theorem Box.setWord {w : World} {n : Nat} {s : Sg} (h : Box w n s) {i : Nat} (hi : i < 2) (x : Nat) : Box (w.setCell ⟨n, i, none⟩ (.int .u64 x)) n (s.setWord i x) := by
  rcases (show i = 0 ∨ i = 1 by omega) with rfl | rfl
  · exact heap_setCell_at (o := 0) h (.int .u64 x)
  · exact heap_setCell_at (o := 1) h (.int .u64 x)

set_option maxRecDepth 100000 in
set_option maxHeartbeats 4000000 in
theorem sigTouches_walk (a b : Sg) (ha : a.ok) (hb : b.ok) (w : World) (hT : Tab w) :
    Calls Tryd.prog 8 #[a.val, b.val] w fun e w' => e = .returned (.bool true) ∧ Kept (fun _ => False) w w' := by
  have hA := fun W (h : Tab W) => awake_any W h
  have HT : Hid (∀ W, Kept (fun _ => False) w W → Tab W) := fun W k => hT.kept k id
  have f18 := fun l => Many.of_calls (w := w) (l := l) (join_any a b ha hb)
  have F29 : Hid (∀ W, Calls Tryd.prog 29 #[a.val, b.val] W fun e W' => ∃ v, e = .returned v ∧ W'.ownsRow W.heap.size 3 1 v (b.minus a).words.length (cellsOf (b.minus a).words) ∧ Kept (fun _ => False) W W') := fun W => touched_any a b ha hb W
  obtain ⟨cur, la, HST⟩ := steps_any a b
  have HLN : Hid ((b.minus a).words.length ≤ 2) := wordsBelow_le _ 2
  generalize a.join b = J at *
  generalize (b.minus a).words = L at *
  obtain ⟨N, HN⟩ : ∃ N, Hid (L.length = N) := ⟨_, rfl⟩
  rw [HN.out] at F29 HLN
  have HC0 : Hid (cur 0 = a) := HST.start
  have HL0 : Hid (la 0 = -1) := HST.last0
  have HS : Hid (∀ j, j < N → L.getD j 0 < 2 ∧ la j < (L.getD j 0 : Nat) ∧ word (cur j) (L.getD j 0) ≠ word J (L.getD j 0) ∧ la (j + 1) = (L.getD j 0 : Nat) ∧ cur (j + 1) = (cur j).setWord (L.getD j 0) (word J (L.getD j 0))) := fun j hj => HST.step j (by rw [HN.out]; exact hj)
  have HDN : Hid (cur N = J) := by
    have := HST.done
    rwa [HN.out] at this
  clear HST
  have HD : Hid (∀ W l n s, Many w l W → (n, s) ∈ l → W.cell? ⟨n, 0, none⟩ = some (.int .u64 (s.lo : Nat)) ∧ W.cell? ⟨n, 1, none⟩ = some (.int .u64 (s.hi : Nat))) := fun W l n s h hp => ⟨(h.box _ hp).c0, (h.box _ hp).c1⟩
  obtain ⟨a0, a1⟩ := a
  obtain ⟨b0, b1⟩ := b
  obtain ⟨j0, j1⟩ := J
  simp only [Sg.val] at f18 F29 ⊢
  have hE := eqS
  clear ha hb hT
  go_enter Tryd.func8, Tryd.ntmps8
  go_wp2_with fail
  generalize hW : (w.alloc (.cells #[.int .u64 a0, .int .u64 a1] 31)).alloc (.cells #[.int .u64 b0, .int .u64 b1] 31) = W
  obtain ⟨A, B, K⟩ := hasTwo w a0 a1 b0 b1 hW
  clear hW
  have HPS : Hid (w.heap.size ≤ w.heap.size) := Nat.le_refl _
  generalize hp : w.heap.size = p at *
  have HP : Hid (w.heap.size = p) := hp
  clear hp HPS
  have hD : Many w [(p, ⟨a0, a1⟩), (p + 1, ⟨b0, b1⟩)] W := Many.pair A B K
  refine (hA W (HT.out _ K)).mono ?_
  rintro e wa ⟨rfl, ka⟩
  replace hD := hD.kept ka
  clear A B K ka hA HT
  obtain ⟨xa0, xa1⟩ := HD.out _ _ p ⟨a0, a1⟩ hD (by simp)
  obtain ⟨xb0, xb1⟩ := HD.out _ _ (p + 1) ⟨b0, b1⟩ hD (by simp)
  simp only at xa0 xa1 xb0 xb1
  go_wp2_with fail
  clear xa0 xa1 xb0 xb1
  refine (f18 _ _ hD).mono ?_
  rintro e u1 ⟨rfl, hD⟩
  have HPQ : Hid (w.heap.size ≤ u1.heap.size) := hD.K.size
  replace hD := hD.add j0 j1
  obtain ⟨ya0, ya1⟩ := HD.out _ _ p ⟨a0, a1⟩ hD (by simp)
  simp only at ya0 ya1
  replace hD := hD.add a0 a1
  have es : (u1.alloc (.cells #[.int .u64 j0, .int .u64 j1] 31)).heap.size = u1.heap.size + 1 := by simp
  rw [es] at hD
  clear es
  obtain ⟨xa0, xa1⟩ := HD.out _ _ p ⟨a0, a1⟩ hD (by simp)
  obtain ⟨xb0, xb1⟩ := HD.out _ _ (p + 1) ⟨b0, b1⟩ hD (by simp)
  simp only at xa0 xa1 xb0 xb1
  go_wp2_with fail
  clear xa0 xa1 xb0 xb1 ya0 ya1 f18
  generalize (u1.alloc (.cells #[.int .u64 j0, .int .u64 j1] 31)).alloc (.cells #[.int .u64 a0, .int .u64 a1] 31) = v1 at *
  generalize u1.heap.size = q at *
  refine (F29.out _).mono ?_
  rintro e u2 ⟨vl, rfl, ol, kl⟩
  have hq1 : Hid (q + 1 < v1.heap.size) := (hD.box (q + 1, ⟨a0, a1⟩) (by simp)).lt
  replace hD := hD.kept kl
  have bS : Box u2 (q + 1) ⟨a0, a1⟩ := hD.box (q + 1, ⟨a0, a1⟩) (by simp)
  have bJ : Box u2 q ⟨j0, j1⟩ := hD.box (q, ⟨j0, j1⟩) (by simp)
  have bA : Hid (Box u2 p ⟨a0, a1⟩) := hD.box (p, ⟨a0, a1⟩) (by simp)
  have kK := hD.K
  obtain ⟨gl, cl, rfl, hgl⟩ := owned_shape ol
  rw [cellsOf_ints''] at ol
  have il := owned_ints ol
  have HG : Hid (∀ a, gl = some a → 0 < N → a.block ≠ q + 1) := fun a ha h0 => by
    obtain ⟨g, e, h1, h2⟩ := hgl h0
    rw [e] at ha
    cases ha
    have := hq1.out
    simp only
    omega
  clear hgl ol kl hD F29 hq1
  go_wp2_with fail
  have st : Box u2 (q + 1) (cur 0) := by rw [HC0.out]; exact bS
  clear bS
  go_loopw [9, 10] (fun lv i wr => ∃ j : Nat, i = .int .i64 j ∧ j ≤ N ∧ lv = .int .i64 (la j) ∧ Box wr (q + 1) (cur j) ∧ Box wr q ⟨j0, j1⟩ ∧ IntsIn wr gl N (L.map fun b : Nat => (b : Int)) ∧ Kept (fun _ => False) w wr) (fun _ i _ => N - (intOf i).toNat)
  case atStart => exact ⟨0, rfl, Nat.zero_le _, by rw [HL0.out], st, bJ, il, kK⟩
  case round =>
    obtain ⟨j, rfl, hj, rfl, hS, hJ, hI, hK⟩ := hrel
    clear st bJ il kK
    by_cases hlt : j < N
    · obtain ⟨g, o, rfl, hga⟩ := hI.2 (by omega)
      obtain ⟨hx2, hlast, hne, hla, hcur⟩ := HS.out j hlt
      have c1 : wr.cell? ⟨g, o + j, none⟩ = some (.int .i64 (L.getD j 0 : Nat)) := by
        rw [hga j hlt]
        have : j < L.length := by rw [HN.out]; exact hlt
        simp [List.getD, this]
      generalize L.getD j 0 = x at *
      have cs : wr.cell? ⟨q + 1, x, none⟩ = some (.int .u64 (word (cur j) x : Nat)) := hS.word hx2
      have cb : wr.cell? ⟨q, x, none⟩ = some (.int .u64 (word ⟨j0, j1⟩ x : Nat)) := hJ.word hx2
      have fs : wr.frozen? ⟨q + 1, x, none⟩ = false := frozen_of_heap hS
      have HCU : Hid (cur (j + 1) = (cur j).setWord x (word ⟨j0, j1⟩ x)) := hcur
      have HLA : Hid (la (j + 1) = (x : Nat)) := hla
      have hnn : (((word (cur j) x : Nat) : Int) == ((word ⟨j0, j1⟩ x : Nat) : Int)) = false := by
        simp
        omega
      generalize word (cur j) x = u at *
      generalize word ⟨j0, j1⟩ x = v at *
      generalize la j = lj at *
      have x0 : (0 : Int) ≤ (x : Int) := Int.natCast_nonneg _
      have x1 : (x : Int) < 2 := by omega
      have x2 : ¬ (2 : Int) ≤ (x : Int) := by omega
      have x3 : ¬ (x : Int) ≤ lj := by omega
      have h0 : (0 : Int) ≤ (j : Int) := Int.natCast_nonneg _
      have h1 : (j : Int) < (N : Int) := by omega
      have h2 : (N : Int) ≤ 2 := by have := HLN.out; omega
      clear hga hcur hla hne hlast
      go_wp2_with fail
      go_quiet (fail)
      go_wp2_with fail
      go_region
      go_wp2_with fail
      go_roundw
      case rel =>
        refine ⟨j + 1, by go_num, hlt, by rw [HLA.out], ?_, ?_, ?_, ?_⟩
        · rw [HCU.out]
          exact Box.setWord (w := wr.drewN _) hS hx2 v
        · exact Box.far (w := wr.drewN _) hJ (by simp)
        · refine ⟨hI.1, fun h0 => ?_⟩
          obtain ⟨g', o', e', hc⟩ := hI.2 h0
          have hb := HG.out _ e' h0
          refine ⟨g', o', e', fun i hi => ?_⟩
          rw [cell_far (w := wr.drewN _) (by simpa using hb)]
          exact hc i hi
        · exact (Kept.setCell (w := wr.drewN _) ⟨hK.os, hK.tape, hK.output, hK.size, hK.block⟩ _ (.inr (by
            have := HPQ.out
            simp only
            omega)))
      case measure => simp [intOf]; omega
    · have hjN : j = N := by omega
      subst hjN
      have h1 : ¬ (j : Int) < (j : Int) := by omega
      have hS2 : Box wr (q + 1) ⟨j0, j1⟩ := by rw [← HDN.out]; exact hS
      have x0 := hS2.c0; have x1 := hS2.c1; have x2 := hJ.c0; have x3 := hJ.c1
      simp only at x0 x1 x2 x3
      have e1 : ((j0 : Int) == (j0 : Int)) = true := by simp
      have e2 : ((j1 : Int) == (j1 : Int)) = true := by simp
      go_wp2
      go_ret
      exact ⟨rfl, hK⟩
end Go.Proofs.YtbbllmhnhhbpiaaDoor
