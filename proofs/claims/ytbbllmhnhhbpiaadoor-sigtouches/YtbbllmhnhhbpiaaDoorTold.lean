/- Lists told of signatures: the reference Bits, and Touched of both. -/
import Derived.Test.YtbbllmhnhhbpiaaDoorRefAsks
import Derived.Test.YtbbllmhnhhbpiaaDoorLists
namespace Go.Proofs.YtbbllmhnhhbpiaaDoor
open Go.RowKit
set_option linter.unusedVariables false
set_option linter.unusedSimpArgs false

theorem ownsRow_weaken {w : World} {b b' n : Nat} {v : Value} {e : TypeId} {size : Nat} {xs : List Value} (h : w.ownsRow b e size v n xs) (hb : b' ≤ b) : w.ownsRow b' e size v n xs := by
  refine ⟨h.1, ?_⟩
  rcases h.2 with hc | ⟨g, cap, cur, h1, hg, r⟩
  · exact .inl hc
  · exact .inr ⟨g, cap, cur, h1, Nat.le_trans hb hg, r⟩
theorem Box.grown {w w' : World} {n : Nat} {s : Sg} {row : Option Nat} (h : Box w n s) (k : w.grownBy w' row) (hn : row ≠ some n) : Box w' n s := (k.block n h.lt (fun e => hn e.symm)).trans h
theorem ownsRow_ne {w : World} {b n : Nat} {v : Value} {e : TypeId} {size : Nat} {xs : List Value} (h : w.ownsRow b e size v n xs) {k : Nat} (hk : k < b) : v.ownBlock ≠ some k := fun x => by
  have := (h.lt k x).1
  omega

/-- The bits below j. -/
def below (s : Sg) (j : Nat) : List Nat := (List.range j).filter s.has
theorem below_succ (s : Sg) (j : Nat) : below s (j + 1) = below s j ++ (if s.has j then [j] else []) := by
  unfold below
  rw [List.range_succ, List.filter_append]
  cases h : s.has j <;> simp [h]
theorem below_le (s : Sg) (j : Nat) : (below s j).length ≤ j := by
  have := List.length_filter_le s.has (List.range j)
  simpa [below] using this

set_option maxRecDepth 100000 in
set_option maxHeartbeats 1000000 in
theorem refBits_any (s : Sg) (hs : s.ok) (w : World) : Calls Tryd.prog 30 #[s.val] w fun e w' => ∃ v, e = .returned v ∧ w'.ownsRow w.heap.size 3 1 v s.bits.length (cellsOf s.bits) ∧ Kept (fun _ => False) w w' := by
  obtain ⟨i0, hi0, hz0, hz1, hz2⟩ := info_parts Tryd.info3
  have HH : Hid (∀ j, j < 128 → ∀ w, Calls Tryd.prog 38 #[s.val, .int .i64 (j : Nat)] w fun e w' => e = .returned (.bool (s.has j)) ∧ Kept (fun _ => False) w w') := fun j hj w => has_any s j hs hj w
  have HS : Hid (∀ j, below s (j + 1) = below s j ++ (if s.has j then [j] else [])) := below_succ s
  have HLE : Hid (∀ j, (below s j).length ≤ j) := below_le s
  have HE : Hid (below s 128 = s.bits) := rfl
  have H0 : Hid (below s 0 = []) := rfl
  generalize s.bits = R at *
  generalize below s = L at *
  generalize hF : s.has = F at *
  obtain ⟨s0, s1⟩ := s
  simp only [Sg.val] at HH ⊢
  clear hs hF
  go_enter Tryd.func30, Tryd.ntmps30
  go_wp2_with fail
  generalize hW : w.alloc (.cells #[.int .u64 s0, .int .u64 s1] 31) = W
  obtain ⟨A, K⟩ := box_new1 w s0 s1 hW
  clear hW
  generalize hm : w.heap.size = m at *
  have HM : Hid (w.heap.size = m) := hm
  clear hm
  go_loopw [3, 4] (fun v i wr => ∃ j : Nat, i = .int .i64 j ∧ j ≤ 128 ∧ Box wr m ⟨s0, s1⟩ ∧ wr.ownsRow (m + 1) 3 1 v (L j).length (cellsOf (L j)) ∧ Kept (fun _ => False) w wr) (fun _ i _ => 128 - (intOf i).toNat)
  case atStart => exact ⟨0, rfl, Nat.zero_le _, A, by rw [H0.out]; exact World.ownsRow_nil _ _ _ _, K⟩
  case round =>
    obtain ⟨j, rfl, hj, hA, ho, hK⟩ := hrel
    clear A K
    by_cases hlt : j < 128
    · have c0 := hA.c0; have c1 := hA.c1
      simp only at c0 c1
      have h1 : (j : Int) < 128 := by omega
      have hH := HH.out j hlt
      have hS := HS.out j
      cases hf : F j with
      | false =>
        rw [hf] at hH hS
        have HS2 : Hid (L (j + 1) = L j) := by show _ = _; simpa using hS
        clear hS
        go_wp2_with fail
        refine (hH _).mono ?_
        rintro e w1 ⟨rfl, k1⟩
        go_wp2_with fail
        go_roundw
        case rel => exact ⟨j + 1, by go_num, hlt, hA.kept k1 id, by rw [HS2.out]; exact ownsRow_kept ho k1 (fun _ _ f => f), hK.trans k1 (fun _ _ f => f)⟩
        case measure => simp [intOf]; omega
      | true =>
        rw [hf] at hH hS
        have HS2 : Hid (L (j + 1) = L j ++ [j]) := by show _ = _; simpa using hS
        have hN : (L j).length ≤ 127 := by have := HLE.out j; omega
        clear hS
        go_wp2_with fail
        refine (hH _).mono ?_
        rintro e w1 ⟨rfl, k1⟩
        have hA1 := hA.kept k1 id
        have ho1 := ownsRow_kept ho k1 (fun _ _ f => f)
        have hK1 : Kept (fun _ => False) w w1 := hK.trans k1 (fun _ _ f => f)
        have hmw : Hid (m + 1 ≤ w1.heap.size) := hA1.lt
        clear k1 hA ho hK c0 c1 hH
        generalize hNN : (L j).length = NN at *
        have HNN : Hid ((L j).length = NN) := hNN
        generalize hLL : L j = LL at *
        clear hNN hLL
        go_wp2_with (at_builtin; refine wpList_append_lies _ rfl (.tmp 12) (.tmp 14) 27 rfl (m + 1) 3 i0 _ 1 8 Tryd.underlying27 hi0 hz0 hz1 hz2 rfl (by omega) _ NN (cellsOf LL) rfl (ho1.alloc _) ⟨w1.heap.size, 0, none⟩ 1 1 [.int .i64 (j : Int)] rfl (by simp) (World.news_of_block (cs := #[.int .i64 (j : Int)]) (t := 3) (fr := (0, 0)) (heap_alloc_new w1 _)) (by simp [Value.oneCell']) (by omega) (by unfold maxLen; omega) (by omega) (by simp; have := hmw.out; omega) (w1.heap.size + 1) (by simp) ?_; intro g cap w5 hown5 hgrow hat hlt5)
        go_roundw
        case rel =>
          refine ⟨j + 1, by go_num, hlt, (hA1.alloc _).grown hgrow (ownsRow_ne ho1 (Nat.lt_succ_self _)), ?_, (hK1.alloc _).grown hgrow (fun k e => .inr ?_)⟩
          · rw [HS2.out, cellsOf_append, List.length_append, HNN.out]
            exact hown5
          · have := (ho1.lt k e).1
            rw [HM.out]
            omega
        case measure => simp [intOf]; omega
    · have hj8 : j = 128 := by omega
      subst hj8
      go_wp2
      go_ret
      exact ⟨_, rfl, by rw [HM.out, ← HE.out]; exact ownsRow_weaken ho (Nat.le_succ _), hK⟩

/-- The words of a signature that hold bits, those below j. -/
def word (d : Sg) (i : Nat) : Nat := if i = 0 then d.lo else d.hi
def wordsBelow (d : Sg) (j : Nat) : List Nat := (List.range j).filter (fun i => word d i != 0)
def Sg.words (d : Sg) : List Nat := wordsBelow d 2
theorem wordsBelow_succ (d : Sg) (j : Nat) : wordsBelow d (j + 1) = wordsBelow d j ++ (if word d j != 0 then [j] else []) := by
  unfold wordsBelow
  rw [List.range_succ, List.filter_append]
  cases h : word d j != 0 <;> simp [h]
theorem wordsBelow_le (d : Sg) (j : Nat) : (wordsBelow d j).length ≤ j := by
  have := List.length_filter_le (fun i => word d i != 0) (List.range j)
  simpa [wordsBelow] using this
theorem word_idx (d : Sg) (j : Nat) (hj : j < 2) : ∀ w, (Instr.index 31 (.agg #[.int .u64 d.lo, .int .u64 d.hi]) (.int .i64 j)).run Tryd.prog w = .ok (.int .u64 (word d j : Nat)) w := by
  rcases (show j = 0 ∨ j = 1 by omega) with rfl | rfl
  · exact fun w => idx0 _ _ w
  · exact fun w => idx1 _ _ w
theorem Box.word {w : World} {n : Nat} {d : Sg} (h : Box w n d) {j : Nat} (hj : j < 2) : w.cell? ⟨n, j, none⟩ = some (.int .u64 (word d j : Nat)) := by
  rcases (show j = 0 ∨ j = 1 by omega) with rfl | rfl
  · exact h.c0
  · exact h.c1

set_option maxRecDepth 100000 in
set_option maxHeartbeats 1000000 in
theorem touched_any (a b : Sg) (ha : a.ok) (hb : b.ok) (w : World) : Calls Tryd.prog 29 #[a.val, b.val] w fun e w' => ∃ v, e = .returned v ∧ w'.ownsRow w.heap.size 3 1 v (b.minus a).words.length (cellsOf (b.minus a).words) ∧ Kept (fun _ => False) w w' := by
  obtain ⟨i0, hi0, hz0, hz1, hz2⟩ := info_parts Tryd.info3
  have hM := minus_any b a hb ha
  generalize b.minus a = d at *
  have HS : Hid (∀ j, wordsBelow d (j + 1) = wordsBelow d j ++ (if word d j != 0 then [j] else [])) := wordsBelow_succ d
  have HLE : Hid (∀ j, (wordsBelow d j).length ≤ j) := wordsBelow_le d
  have HE : Hid (wordsBelow d 2 = d.words) := rfl
  have H0 : Hid (wordsBelow d 0 = []) := rfl
  have HI := word_idx d
  generalize d.words = R at *
  generalize wordsBelow d = L at *
  generalize word d = X at *
  obtain ⟨a0, a1⟩ := a
  obtain ⟨b0, b1⟩ := b
  obtain ⟨d0, d1⟩ := d
  simp only [Sg.val] at hM HI ⊢
  have HI2 : Hid (∀ (j : Nat), j < 2 → ∀ w, (Instr.index 31 (.agg #[.int .u64 d0, .int .u64 d1]) (.int .i64 j)).run Tryd.prog w = .ok (.int .u64 (X j : Nat)) w) := HI
  clear ha hb HI
  go_enter Tryd.func29, Tryd.ntmps29
  go_wp2_with fail
  generalize hW : (w.alloc (.cells #[.int .u64 a0, .int .u64 a1] 31)).alloc (.cells #[.int .u64 b0, .int .u64 b1] 31) = W
  obtain ⟨A, B, K⟩ := hasTwo w a0 a1 b0 b1 hW
  clear hW A B
  refine (hM _).mono ?_
  rintro e w1 ⟨rfl, k1⟩
  have K1 : Kept (fun _ => False) w w1 := K.trans k1 (fun _ _ f => f)
  clear K k1 hM
  go_wp2_with fail
  generalize hm : w.heap.size = m at *
  have HM : Hid (w.heap.size = m) := hm
  clear hm
  go_loopw [5, 11] (fun v i wr => ∃ j : Nat, i = .int .i64 j ∧ j ≤ 2 ∧ wr.ownsRow m 3 1 v (L j).length (cellsOf (L j)) ∧ Kept (fun _ => False) w wr) (fun _ i _ => 2 - (intOf i).toNat)
  case atStart => exact ⟨0, rfl, Nat.zero_le _, by rw [H0.out]; exact World.ownsRow_nil _ _ _ _, K1⟩
  case round =>
    obtain ⟨j, rfl, hj, ho, hK⟩ := hrel
    clear K1
    by_cases hlt : j < 2
    · have h1 : (j : Int) < 2 := by omega
      have h0 : (0 : Int) ≤ (j : Int) := by omega
      have hS := HS.out j
      have hI := HI2.out j hlt
      cases hf : X j != 0 with
      | false =>
        rw [hf] at hS
        have HS2 : Hid (L (j + 1) = L j) := by show _ = _; simpa using hS
        have hx : (((X j : Nat) : Int) != 0) = false := by simpa using hf
        clear hS hf
        generalize X j = x at *
        go_wp2_with fail
        go_roundw
        case rel => exact ⟨j + 1, by go_num, hlt, by rw [HS2.out]; exact ho, hK⟩
        case measure => simp [intOf]; omega
      | true =>
        rw [hf] at hS
        have HS2 : Hid (L (j + 1) = L j ++ [j]) := by show _ = _; simpa using hS
        have hN : (L j).length ≤ 1 := by have := HLE.out j; omega
        have hx : (((X j : Nat) : Int) != 0) = true := by simpa using hf
        clear hS hf
        have hmw : Hid (m ≤ wr.heap.size) := by
          have := hK.size
          rw [HM.out] at this
          exact this
        generalize X j = x at *
        generalize hNN : (L j).length = NN at *
        have HNN : Hid ((L j).length = NN) := hNN
        generalize hLL : L j = LL at *
        clear hNN hLL
        go_wp2_with (at_builtin; refine wpList_append_lies _ rfl (.tmp 17) (.tmp 19) 27 rfl m 3 i0 _ 1 8 Tryd.underlying27 hi0 hz0 hz1 hz2 rfl (by omega) _ NN (cellsOf LL) rfl (ho.alloc _) ⟨wr.heap.size, 0, none⟩ 1 1 [.int .i64 (j : Int)] rfl (by simp) (World.news_of_block (cs := #[.int .i64 (j : Int)]) (t := 3) (fr := (0, 0)) (heap_alloc_new wr _)) (by simp [Value.oneCell']) (by omega) (by unfold maxLen; omega) (by omega) (by simp; have := hmw.out; omega) (wr.heap.size + 1) (by simp) ?_; intro g cap w5 hown5 hgrow hat hlt5)
        go_roundw
        case rel =>
          refine ⟨j + 1, by go_num, hlt, ?_, (hK.alloc _).grown hgrow (fun k e => .inr ?_)⟩
          · rw [HS2.out, cellsOf_append, List.length_append, HNN.out]
            exact hown5
          · have := (ho.lt k e).1
            rw [HM.out]
            exact this
        case measure => simp [intOf]; omega
    · have hj8 : j = 2 := by omega
      subst hj8
      go_wp2
      go_ret
      exact ⟨_, rfl, by rw [HM.out, ← HE.out]; exact ho, hK⟩

set_option maxRecDepth 100000 in
set_option maxHeartbeats 1000000 in
theorem refTouched_any (a b : Sg) (ha : a.ok) (hb : b.ok) (w : World) : Calls Tryd.prog 31 #[a.val, b.val] w fun e w' => ∃ v, e = .returned v ∧ w'.ownsRow w.heap.size 3 1 v (b.minus a).words.length (cellsOf (b.minus a).words) ∧ Kept (fun _ => False) w w' := by
  obtain ⟨i0, hi0, hz0, hz1, hz2⟩ := info_parts Tryd.info3
  have hM := refMinus_any b a hb ha
  generalize b.minus a = d at *
  have HS : Hid (∀ j, wordsBelow d (j + 1) = wordsBelow d j ++ (if word d j != 0 then [j] else [])) := wordsBelow_succ d
  have HLE : Hid (∀ j, (wordsBelow d j).length ≤ j) := wordsBelow_le d
  have HE : Hid (wordsBelow d 2 = d.words) := rfl
  have H0 : Hid (wordsBelow d 0 = []) := rfl
  have HI2 : Hid (∀ (w : World) (n : Nat), Box w n d → ∀ j : Nat, j < 2 → w.cell? ⟨n, j, none⟩ = some (.int .u64 (word d j : Nat))) := fun w n h j hj => h.word hj
  generalize d.words = R at *
  generalize wordsBelow d = L at *
  generalize word d = X at *
  obtain ⟨a0, a1⟩ := a
  obtain ⟨b0, b1⟩ := b
  obtain ⟨d0, d1⟩ := d
  simp only [Sg.val] at hM ⊢
  clear ha hb
  go_enter Tryd.func31, Tryd.ntmps31
  go_wp2_with fail
  generalize hW : (w.alloc (.cells #[.int .u64 a0, .int .u64 a1] 31)).alloc (.cells #[.int .u64 b0, .int .u64 b1] 31) = W
  obtain ⟨A, B, K⟩ := hasTwo w a0 a1 b0 b1 hW
  clear hW A B
  refine (hM _).mono ?_
  rintro e w1 ⟨rfl, k1⟩
  have K1 : Kept (fun _ => False) w w1 := K.trans k1 (fun _ _ f => f)
  clear K k1 hM
  go_wp2_with fail
  have D := Box.new w1 d0 d1
  have K2 := K1.alloc (.cells #[.int .u64 d0, .int .u64 d1] 31)
  have HQ : Hid (w.heap.size ≤ w1.heap.size) := K1.size
  generalize w1.alloc (.cells #[.int .u64 d0, .int .u64 d1] 31) = w2 at *
  generalize w1.heap.size = q at *
  generalize hm : w.heap.size = m at *
  have HM : Hid (w.heap.size = m) := hm
  clear hm K1
  go_loopw [5, 7] (fun v i wr => ∃ j : Nat, i = .int .i64 j ∧ j ≤ 2 ∧ Box wr q ⟨d0, d1⟩ ∧ wr.ownsRow (q + 1) 3 1 v (L j).length (cellsOf (L j)) ∧ Kept (fun _ => False) w wr) (fun _ i _ => 2 - (intOf i).toNat)
  case atStart => exact ⟨0, rfl, Nat.zero_le _, D, by rw [H0.out]; exact World.ownsRow_nil _ _ _ _, K2⟩
  case round =>
    obtain ⟨j, rfl, hj, hD, ho, hK⟩ := hrel
    clear D K2
    by_cases hlt : j < 2
    · have h1 : (j : Int) < 2 := by omega
      have h0 : (0 : Int) ≤ (j : Int) := by omega
      have hS := HS.out j
      have hI := HI2.out wr q hD j hlt
      cases hf : X j != 0 with
      | false =>
        rw [hf] at hS
        have HS2 : Hid (L (j + 1) = L j) := by show _ = _; simpa using hS
        have hx : (((X j : Nat) : Int) != 0) = false := by simpa using hf
        clear hS hf
        generalize X j = x at *
        go_wp2_with fail
        go_roundw
        case rel => exact ⟨j + 1, by go_num, hlt, hD, by rw [HS2.out]; exact ho, hK⟩
        case measure => simp [intOf]; omega
      | true =>
        rw [hf] at hS
        have HS2 : Hid (L (j + 1) = L j ++ [j]) := by show _ = _; simpa using hS
        have hN : (L j).length ≤ 1 := by have := HLE.out j; omega
        have hx : (((X j : Nat) : Int) != 0) = true := by simpa using hf
        clear hS hf
        have hmw : Hid (q + 1 ≤ wr.heap.size) := hD.lt
        generalize X j = x at *
        generalize hNN : (L j).length = NN at *
        have HNN : Hid ((L j).length = NN) := hNN
        generalize hLL : L j = LL at *
        clear hNN hLL
        go_wp2_with (at_builtin; refine wpList_append_lies _ rfl (.tmp 19) (.tmp 21) 27 rfl (q + 1) 3 i0 _ 1 8 Tryd.underlying27 hi0 hz0 hz1 hz2 rfl (by omega) _ NN (cellsOf LL) rfl (ho.alloc _) ⟨wr.heap.size, 0, none⟩ 1 1 [.int .i64 (j : Int)] rfl (by simp) (World.news_of_block (cs := #[.int .i64 (j : Int)]) (t := 3) (fr := (0, 0)) (heap_alloc_new wr _)) (by simp [Value.oneCell']) (by omega) (by unfold maxLen; omega) (by omega) (by simp; have := hmw.out; omega) (wr.heap.size + 1) (by simp) ?_; intro g cap w5 hown5 hgrow hat hlt5)
        go_roundw
        case rel =>
          refine ⟨j + 1, by go_num, hlt, (hD.alloc _).grown hgrow (ownsRow_ne ho (Nat.lt_succ_self _)), ?_, (hK.alloc _).grown hgrow (fun k e => .inr ?_)⟩
          · rw [HS2.out, cellsOf_append, List.length_append, HNN.out]
            exact hown5
          · have := (ho.lt k e).1
            have h2 := HQ.out
            rw [HM.out]
            omega
        case measure => simp [intOf]; omega
    · have hj8 : j = 2 := by omega
      subst hj8
      go_wp2
      go_ret
      exact ⟨_, rfl, by rw [HM.out, ← HE.out]; exact ownsRow_weaken ho (Nat.le_succ_of_le HQ.out), hK⟩
end Go.Proofs.YtbbllmhnhhbpiaaDoor
