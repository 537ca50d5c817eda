/- How many bits there are, and which: Count, Bits. -/
import Derived.Test.YtbbllmhnhhbpiaaDoorFrom
import Derived.Laws.MakeOwn
namespace Go.Proofs.YtbbllmhnhhbpiaaDoor
open Go.RowKit
set_option linter.unusedVariables false
set_option linter.unusedSimpArgs false

theorem Tryd.info3 : (Tryd.prog.info? 3).map (fun i => (i.zero, i.size, i.bytes)) = some (some (.int .i64 0), 1, 8) := by kernel_rfl

theorem box_new1 (w : World) (lo hi : Nat) {W : World} (hW : w.alloc (.cells #[.int .u64 lo, .int .u64 hi] 31) = W) : Box W w.heap.size ⟨lo, hi⟩ ∧ Kept (fun _ => False) w W := by
  subst hW
  exact ⟨Box.new w lo hi, (Kept.refl _ w).alloc _⟩

theorem ones_le (x : Nat) : (ones x).length ≤ 64 := by
  have := List.length_filter_le x.testBit (List.range 64)
  simpa [ones] using this

set_option maxRecDepth 100000 in
set_option maxHeartbeats 1000000 in
theorem count_any (s : Sg) (hs : s.ok) (w : World) : Calls Tryd.prog 33 #[s.val] w fun e w' => e = .returned (.int .i64 (((ones s.lo).length + (ones s.hi).length : Nat) : Int)) ∧ Kept (fun _ => False) w w' := by
  obtain ⟨lo, hi⟩ := s
  have o0 := oc_any lo hs.1
  have o1 := oc_any hi hs.2
  have l0 := ones_le lo
  have l1 := ones_le hi
  unfold Sg.val
  simp only
  generalize (ones lo).length = c0 at *
  generalize (ones hi).length = c1 at *
  have a0 : (0 : Int) ≤ (c0 : Int) := by omega
  have a1 : (c0 : Int) ≤ 64 := by omega
  have b0 : (0 : Int) ≤ (c1 : Int) := by omega
  have b1 : (c1 : Int) ≤ 64 := by omega
  clear hs l0 l1
  go_enter Tryd.func33, Tryd.ntmps33
  go_wp2_with fail
  generalize hW : w.alloc (.cells #[.int .u64 lo, .int .u64 hi] 31) = W
  obtain ⟨A, K⟩ := box_new1 w lo hi hW
  clear hW A
  have hi0 := idx0 (lo : Int) (hi : Int)
  have hi1 := idx1 (lo : Int) (hi : Int)
  go_loopw [3, 7] (fun c i wr => wr = W ∧ ((i = .int .i64 0 ∧ c = .int .i64 0) ∨ (i = .int .i64 1 ∧ c = .int .i64 c0) ∨ (i = .int .i64 2 ∧ c = .int .i64 ((c0 : Int) + c1)))) (fun _ i _ => 2 - (intOf i).toNat)
  case atStart => exact ⟨rfl, .inl ⟨rfl, rfl⟩⟩
  case round =>
    obtain ⟨rfl, hrel⟩ := hrel
    rcases hrel with ⟨rfl, rfl⟩ | ⟨rfl, rfl⟩ | ⟨rfl, rfl⟩
    · go_wp2_with fail
      refine (o0 _).mono ?_
      rintro e w1 ⟨rfl, hw1⟩
      subst hw1
      go_wp2_with fail
      go_roundw
      case rel => exact ⟨by first | rfl | trivial, .inr (.inl ⟨rfl, by simp⟩)⟩
      case measure => simp [intOf]
    · go_wp2_with fail
      refine (o1 _).mono ?_
      rintro e w1 ⟨rfl, hw1⟩
      subst hw1
      go_wp2_with fail
      go_roundw
      case rel => exact ⟨by first | rfl | trivial, .inr (.inr ⟨rfl, rfl⟩)⟩
      case measure => simp [intOf]
    · go_wp2
      go_ret
      exact ⟨by simp, K⟩

/-- Numbers as cells of a list of int. -/
def cellsOf (l : List Nat) : List Value := l.map fun b : Nat => .int .i64 (b : Int)
theorem cellsOf_append (l k : List Nat) : cellsOf (l ++ k) = cellsOf l ++ cellsOf k := by simp [cellsOf]
theorem cellsOf_length (l : List Nat) : (cellsOf l).length = l.length := by simp [cellsOf]

theorem make_empty (b c : Nat) (hc : c ≤ 128) (w : World) (hb : b ≤ w.heap.size) : ∃ w2, (Instr.makeSlice 27 (.int .i64 0) (.int .i64 c)).run Tryd.prog w = .ok (.slice (some ⟨w.heap.size, 0, none⟩) 0 c) w2 ∧ w2.ownsRow b 3 1 (.slice (some ⟨w.heap.size, 0, none⟩) 0 c) 0 [] ∧ Kept (fun _ => False) w w2 := by
  obtain ⟨i0, hi0, hz0, hz1, hz2⟩ := info_parts Tryd.info3
  have := run_make (P := Tryd.prog) w 27 3 i0 _ Tryd.underlying27 hi0 hz0 .i64 .i64 0 c (by omega) (by omega) (by rw [hz2]; omega) (by omega)
  have e : madeCells (Value.int .i64 0).cells c = Array.replicate c (.int .i64 0) := by
    apply Array.ext'
    exact (toList_madeCells_one (.int .i64 0) c).trans (by simp)
  rw [hz1, Int.toNat_natCast, Nat.mul_one, e] at this
  exact ⟨_, this, World.ownsRow_made w _ c hb (by unfold maxLen; omega) (by simp), (Kept.refl _ w).alloc _⟩

/-- The bits of the first words. -/
def partOf (lo hi : Nat) : Nat → List Nat
  | 0 => []
  | 1 => ones lo
  | _ => ones lo ++ (ones hi).map (64 + ·)
theorem partOf_at (lo hi j : Nat) (hj : j < 2) (h0 : lo < 18446744073709551616) (h1 : hi < 18446744073709551616) : ∃ x : Nat, x < 18446744073709551616 ∧ (∀ w, (Instr.index 31 (.agg #[.int .u64 lo, .int .u64 hi]) (.int .i64 j)).run Tryd.prog w = .ok (.int .u64 x) w) ∧ partOf lo hi (j + 1) = partOf lo hi j ++ (ones x).map (64 * j + ·) ∧ (partOf lo hi j).length + (ones x).length ≤ 128 := by
  have l0 := ones_le lo
  have l1 := ones_le hi
  rcases (show j = 0 ∨ j = 1 by omega) with rfl | rfl
  · exact ⟨lo, h0, fun w => idx0 _ _ w, by simp [partOf], by simp [partOf]; omega⟩
  · exact ⟨hi, h1, fun w => idx1 _ _ w, by simp [partOf], by simp [partOf]; omega⟩

set_option maxRecDepth 100000 in
set_option maxHeartbeats 1000000 in
theorem bits_any (s : Sg) (hs : s.ok) (w : World) (hT : Tab w) : Calls Tryd.prog 28 #[s.val] w fun e w' => ∃ v, e = .returned v ∧ w'.ownsRow w.heap.size 3 1 v s.bits.length (cellsOf s.bits) ∧ Kept (fun _ => False) w w' := by
  obtain ⟨i0, hi0, hz0, hz1, hz2⟩ := info_parts Tryd.info3
  have hC := count_any s hs
  rw [Sg.bits_words]
  obtain ⟨lo, hi⟩ := s
  have l0 := ones_le lo
  have l1 := ones_le hi
  unfold Sg.val at *
  simp only at *
  have hl0 := hs.1
  have hl1 := hs.2
  simp only at hl0 hl1
  generalize hc : (ones lo).length + (ones hi).length = c at *
  have hc2 : c ≤ 128 := by omega
  clear hc hs
  go_enter Tryd.func28, Tryd.ntmps28
  go_wp2_with fail
  generalize hW : w.alloc (.cells #[.int .u64 lo, .int .u64 hi] 31) = W
  obtain ⟨A, K⟩ := box_new1 w lo hi hW
  clear hW
  refine (hC _).mono ?_
  rintro e w1 ⟨rfl, hk1⟩
  have A1 := A.kept hk1 id
  have K1 : Kept (fun _ => False) w w1 := K.trans hk1 (fun _ _ f => f)
  clear A K hk1
  obtain ⟨w2, hmk, ho2, hk2⟩ := make_empty w.heap.size c hc2 w1 K1.size
  have A2 := A1.kept hk2 id
  have K2 : Kept (fun _ => False) w w2 := K1.trans hk2 (fun _ _ f => f)
  have HS : Hid (w.heap.size ≤ w1.heap.size) := K1.size
  have x0 := A2.c0; have x1 := A2.c1
  simp only at x0 x1
  clear A1 K1 hk2
  go_wp2_with fail
  have HT : Hid (Tab w) := hT
  have hs1 : w.heap.size ≤ w2.heap.size := K2.size
  generalize hm : w.heap.size = m at *
  have HM : Hid (w.heap.size = m) := hm
  clear hm hT hmk x0 x1 A2 HS hC hs1
  go_loopw [3, 10] (fun v i wr => ∃ j : Nat, i = .int .i64 j ∧ j ≤ 2 ∧ wr.ownsRow m 3 1 v (partOf lo hi j).length (cellsOf (partOf lo hi j)) ∧ Kept (fun _ => False) w wr) (fun _ i _ => 2 - (intOf i).toNat)
  case atStart => exact ⟨0, rfl, by omega, ho2, K2⟩
  case round =>
    obtain ⟨j, rfl, hj, ho, hk⟩ := hrel
    clear ho2 K2
    by_cases hlt : j < 2
    · obtain ⟨x0, hx0, hidx, HP, HB⟩ := partOf_at lo hi j hlt hl0 hl1
      have HP' : Hid (partOf lo hi (j + 1) = partOf lo hi j ++ (ones x0).map (64 * j + ·)) := HP
      have HB' : Hid ((partOf lo hi j).length + (ones x0).length ≤ 128) := HB
      clear HP HB
      have h0 : (0 : Int) ≤ (j : Int) := Int.natCast_nonneg _
      have h2 : (j : Int) < 2 := by omega
      go_wp2_with fail
      go_loopw [3, 5] (fun v xv wr => ∃ (x : Nat) (done : List Nat), xv = .int .u64 x ∧ x < 18446744073709551616 ∧ wr.ownsRow m 3 1 v ((partOf lo hi j).length + done.length) (cellsOf (partOf lo hi j ++ done)) ∧ Hid (partOf lo hi (j + 1) = partOf lo hi j ++ done ++ (ones x).map (64 * j + ·)) ∧ Kept (fun _ => False) w wr) (fun _ xv _ => (intOf xv).toNat)
      case atStart => exact ⟨x0, [], rfl, hx0, by simpa using ho, by simpa using HP', hk⟩
      case round =>
        obtain ⟨x, done, rfl, hx, ho3, hP, hk3⟩ := hrel
        clear ho hk
        by_cases hx0' : x = 0
        · subst hx0'
          go_wp2_with fail
          go_roundw
          case rel =>
            refine ⟨j + 1, by go_num, by omega, ?_, hk3⟩
            have := hP.out
            rw [ones_zero, List.map_nil, List.append_nil] at this
            rw [this, List.length_append]
            exact ho3
          case measure => simp [intOf]; omega
        · have HO := ones_step x hx0' hx
          have HP2 : Hid (partOf lo hi (j + 1) = partOf lo hi j ++ (done ++ [64 * j + Lib.ctz 64 x]) ++ (ones (x &&& (x - 1))).map (64 * j + ·)) := by
            have := hP.out
            rw [HO] at this
            rw [Hid, this]
            simp
          have hlen : (partOf lo hi j).length + done.length < 128 := by
            have h1 := congrArg List.length HP'.out
            have h2 := congrArg List.length hP.out
            rw [HO] at h2
            simp at h1 h2
            have := HB'.out
            omega
          have hk64 : Lib.ctz 64 x < 64 := (Lib.lowest_bit 64 x hx0' hx).2
          have tz := tz_any x hx hx0'
          have hand : bits .and .u64 (x : Int) ((x : Int) - 1) = ((x &&& (x - 1) : Nat) : Int) := by
            have e : ((x : Int) - 1) = ((x - 1 : Nat) : Int) := by omega
            rw [e]
            exact bits_and_u64_nat _ _ hx (by omega)
          have hlt2 : Hid (x &&& (x - 1) < x) := step_lt hx0'
          have hsz2 : Hid (x &&& (x - 1) < 18446744073709551616) := and_lt hx
          have tw : ∀ w', Kept (fun _ => False) w w' → Tab w' := fun w' k => HT.out.kept k id
          generalize hN : (partOf lo hi j).length + done.length = N at *
          have HN : Hid ((partOf lo hi j).length + done.length = N) := hN
          generalize Lib.ctz 64 x = k at *
          generalize x &&& (x - 1) = y at *
          generalize hD : partOf lo hi j ++ done = D at *
          have HDq : Hid (partOf lo hi j ++ done = D) := hD
          have xn : ((x : Int) != 0) = true := by simp; omega
          have x1 : (1 : Int) ≤ (x : Int) := by omega
          have x2 : (x : Int) < 18446744073709551616 := by omega
          have k0 : (0 : Int) ≤ (k : Int) := by omega
          have k1 : (k : Int) < 64 := by omega
          have hmw : Hid (m ≤ wr.heap.size) := by
            have := hk3.size
            rw [HM.out] at this
            exact this
          clear HO hN hD hP HP' HB' hx0'
          go_wp2_with fail
          refine (tz _ (tw _ hk3)).mono ?_
          rintro e w4 ⟨rfl, hw4⟩
          subst hw4
          clear tz tw
          go_wp2_with (at_builtin; refine wpList_append_lies _ rfl (.tmp 20) (.tmp 26) 27 rfl m 3 i0 _ 1 8 Tryd.underlying27 hi0 hz0 hz1 hz2 rfl (by omega) _ N (cellsOf D) rfl (ho3.alloc _) ⟨w4.heap.size, 0, none⟩ 1 1 [.int .i64 ((j : Int) * 64 + (k : Int))] rfl (by simp) (World.news_of_block (cs := #[.int .i64 ((j : Int) * 64 + (k : Int))]) (t := 3) (fr := (0, 0)) (heap_alloc_new w4 _)) (by simp [Value.oneCell']) (by omega) (by unfold maxLen; omega) (by omega) (by simp; have := hmw.out; omega) (w4.heap.size + 1) (by simp) ?_; intro g cap w5 hown5 hgrow hat hlt5)
          go_roundw
          case rel =>
            refine ⟨y, done ++ [64 * j + k], by first | rfl | rw [hand], hsz2.out, ?_, HP2, (hk3.alloc _).grown hgrow (fun k e => .inr ?_)⟩
            · have e1 : (partOf lo hi j).length + (done ++ [64 * j + k]).length = N + 1 := by
                have := HN.out
                simp only [List.length_append, List.length_cons, List.length_nil]
                omega
              have e2 : cellsOf (partOf lo hi j ++ (done ++ [64 * j + k])) = cellsOf D ++ [.int .i64 ((j : Int) * 64 + (k : Int))] := by
                rw [← List.append_assoc, HDq.out, cellsOf_append]
                have : ((64 * j + k : Nat) : Int) = (j : Int) * 64 + (k : Int) := by omega
                simp only [cellsOf, List.map_cons, List.map_nil, this]
              rw [e1, e2]
              exact hown5
            · have := (ho3.lt k e).1
              rw [HM.out]
              exact this
          case measure => simp [intOf]; exact hlt2.out
    · go_wp2
      go_ret
      have hj2 : j = 2 := by omega
      subst hj2
      exact ⟨_, rfl, by rw [HM.out]; exact ho, hk⟩
end Go.Proofs.YtbbllmhnhhbpiaaDoor
