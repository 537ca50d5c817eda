/- Programs in memory; the small calls; instructions that ask the transaction for nothing. What follows from an operation of the transaction. -/
import Derived.Test.YthbcbjkgjgmegaaGreatChecked
import Derived.Test.YthbcbjkgjgmegaaGreatSk
import Derived.Laws.Pointers
import Derived.WalkLawsBesides
import Derived.Test.YthbcbjkgjgmegaaGreatPgR
import Derived.Test.YthbcbjkgjgmegaaGreatTxS
import Derived.Test.YthbcbjkgjgmegaaGreatTxQ
import Derived.Test.YthbcbjkgjgmegaaGreatTxR
import Derived.Deep.RegionHeld3
import Derived.Deep.RegionLaw
namespace Go.Proofs.YthbcbjkgjgmegaaGreat
open Go.RowKit
set_option linter.unusedVariables false
set_option linter.unusedSimpArgs false
attribute [local go_sem ↓] Go.wp_at_zero Go.wp_at_succ

theorem top_drop (l : List Int) (h : 2 ≤ l.length) : topN (dropN l 1) 0 = topN l 1 := by
  unfold topN dropN
  rw [List.length_take, Nat.min_eq_left (by omega)]
  have e : l.length - 1 - 1 - 0 = l.length - 1 - 1 := by omega
  rw [e, List.getD_eq_getElem?_getD, List.getD_eq_getElem?_getD, List.getElem?_take, if_pos (by omega)]
theorem drop_drop1 (l : List Int) : dropN (dropN l 1) 1 = dropN l 2 := by
  unfold dropN
  rw [List.length_take, List.take_take]
  congr 1
  omega
theorem dropN_length (l : List Int) (k : Nat) : (dropN l k).length = l.length - k := by
  unfold dropN
  rw [List.length_take]
  omega
section
variable {o w : World} {R : List It} {X S : Nat} {cs : Array Value} {v : Value} {st : List Int} {pl : Int}
set_option maxRecDepth 100000 in
theorem pNext (h : St o (boxI X cs 105 :: R) w) (h0 : cs[0]? = some (.int .i64 pl)) (b0 : 0 ≤ pl) (b1 : pl ≤ 1000) :
    Calls Tryz.prog 187 #[.pointer (some ⟨X, 0, none⟩)] w fun e w' => e = .returned (.int .i64 1) ∧ St o (boxI X (cs.setIfInBounds 0 (.int .i64 (pl + 1))) 105 :: R) w' := by
  have c0 : w.cell? ⟨X, 0, none⟩ = some (.int .i64 pl) := (h.cell 0 rfl 0).trans h0
  have f0 : w.frozen? ⟨X, 0, none⟩ = false := h.frozen 0 rfl 0
  have H := hidS (h.write 0 rfl 0 (.int .i64 (pl + 1)))
  clear h h0
  go_enter Tryz.func187, Tryz.ntmps187
  go_wp2
  go_ret
  exact ⟨rfl, H.out⟩
set_option maxRecDepth 100000 in
theorem pLay (h : St o (boxI X cs 105 :: stkI S v st :: R) w) (h0 : cs[0]? = some (.int .i64 pl)) (h1 : cs[1]? = some (.pointer (some ⟨S, 0, none⟩))) (b0 : 0 ≤ pl) (b1 : pl ≤ 1000) (hl : st.length < 32) (x : Int) :
    Calls Tryz.prog 186 #[.pointer (some ⟨X, 0, none⟩), .int .i64 x] w fun e w' => e = .returned (.int .i64 1) ∧ ∃ v', St o (boxI X (cs.setIfInBounds 0 (.int .i64 (pl + 1))) 105 :: stkI S v' (st ++ [x]) :: R) w' := by
  have c1 : w.cell? ⟨X, 1, none⟩ = some (.pointer (some ⟨S, 0, none⟩)) := (h.cell 0 rfl 1).trans h1
  have hq := kPush h 1 rfl hl x
  clear h
  go_enter Tryz.func186, Tryz.ntmps186
  go_wp2_with fail
  refine hq.mono ?_
  rintro e w1 ⟨rfl, v1, s1⟩
  clear hq
  have hq := pNext s1 h0 b0 b1
  clear s1 h0
  go_wp2_with fail
  refine hq.mono ?_
  rintro e w2 ⟨rfl, s2⟩
  clear hq
  have H := hidS s2
  clear s2
  go_wp2
  go_ret
  exact ⟨rfl, v1, H.out⟩
set_option maxRecDepth 100000 in
theorem pTake (h : St o (boxI X cs 105 :: stkI S v st :: R) w) (h1 : cs[1]? = some (.pointer (some ⟨S, 0, none⟩))) (hl : 0 < st.length) :
    Calls Tryz.prog 183 #[.pointer (some ⟨X, 0, none⟩)] w fun e w' => e = .returned (.int .i64 (topN st 0)) ∧ ∃ v', St o (boxI X cs 105 :: stkI S v' (dropN st 1) :: R) w' := by
  have c1 : w.cell? ⟨X, 1, none⟩ = some (.pointer (some ⟨S, 0, none⟩)) := (h.cell 0 rfl 1).trans h1
  have hq := kPop h 1 rfl hl
  clear h h1
  generalize topN st 0 = t at *
  go_enter Tryz.func183, Tryz.ntmps183
  go_wp2_with fail
  refine hq.mono ?_
  rintro e w1 ⟨rfl, v1, s1⟩
  have H := hidS s1
  clear hq s1
  go_wp2
  go_ret
  exact ⟨rfl, v1, H.out⟩
set_option maxRecDepth 100000 in
theorem pTwo (h : St o (boxI X cs 105 :: stkI S v st :: R) w) (h1 : cs[1]? = some (.pointer (some ⟨S, 0, none⟩))) (hl : 2 ≤ st.length) :
    Calls Tryz.prog 185 #[.pointer (some ⟨X, 0, none⟩)] w fun e w' => e = .returned (.tuple #[.int .i64 (topN st 1), .int .i64 (topN st 0)]) ∧ ∃ v', St o (boxI X cs 105 :: stkI S v' (dropN st 2) :: R) w' := by
  have hq := pTake h h1 (by omega)
  have hd := dropN_length st 1
  have e1 := top_drop st hl
  have e2 := drop_drop1 st
  clear h
  generalize topN st 0 = t0 at *
  generalize topN st 1 = t1 at *
  go_enter Tryz.func185, Tryz.ntmps185
  go_wp2_with fail
  refine hq.mono ?_
  rintro e w1 ⟨rfl, v1, s1⟩
  clear hq
  have hq := pTake s1 h1 (by omega)
  rw [e1, e2] at hq
  clear s1 e1 e2 hd hl
  go_wp2_with fail
  refine hq.mono ?_
  rintro e w2 ⟨rfl, v2, s2⟩
  have H := hidS s2
  clear hq s2
  go_wp2
  go_ret2
  exact ⟨rfl, v2, H.out⟩
set_option maxRecDepth 100000 in
theorem pBelow (h : St o (boxI X cs 105 :: stkI S v st :: R) w) (h1 : cs[1]? = some (.pointer (some ⟨S, 0, none⟩))) (k : Nat) (hk : k < st.length) :
    Calls Tryz.prog 188 #[.pointer (some ⟨X, 0, none⟩), .int .i64 k] w fun e w' => e = .returned (.int .i64 (topN st k)) ∧ St o (boxI X cs 105 :: stkI S v st :: R) w' := by
  have c1 : w.cell? ⟨X, 1, none⟩ = some (.pointer (some ⟨S, 0, none⟩)) := (h.cell 0 rfl 1).trans h1
  have hq := kPeek h 1 rfl k hk
  clear h h1
  generalize topN st k = t at *
  go_enter Tryz.func188, Tryz.ntmps188
  go_wp2_with fail
  refine hq.mono ?_
  rintro e w1 ⟨rfl, s1⟩
  have H := hidS s1
  clear hq s1
  go_wp2
  go_ret
  exact ⟨rfl, H.out⟩
theorem pTruth (b : Bool) (w : World) : Calls Tryz.prog 191 #[.bool b] w fun e w' => e = .returned (.int .i64 (ifM b)) ∧ w' = w := by
  cases b
  · go_enter Tryz.func191, Tryz.ntmps191
    go_wp2
    go_ret
    exact ⟨rfl, rfl⟩
  · go_enter Tryz.func191, Tryz.ntmps191
    go_wp2
    go_ret
    exact ⟨rfl, rfl⟩
set_option maxRecDepth 100000 in
theorem i_push (h : St o (boxI X cs 105 :: stkI S v st :: R) w) (h0 : cs[0]? = some (.int .i64 pl)) (h1 : cs[1]? = some (.pointer (some ⟨S, 0, none⟩))) (b0 : 0 ≤ pl) (b1 : pl ≤ 1000) (hl : st.length < 32) (a : Int) :
    Calls Tryz.prog 141 #[.pointer (some ⟨X, 0, none⟩), .int .i64 a] w fun e w' => e = .returned (.int .i64 1) ∧ ∃ v', St o (boxI X (cs.setIfInBounds 0 (.int .i64 (pl + 1))) 105 :: stkI S v' (st ++ [a]) :: R) w' := by
  have hq := pLay h h0 h1 b0 b1 hl a
  clear h
  go_enter Tryz.func141, Tryz.ntmps141
  go_wp2_with fail
  refine hq.mono ?_
  rintro e w9 ⟨rfl, v9, s9⟩
  have H := hidS s9
  clear hq s9
  go_wp2
  go_ret
  exact ⟨rfl, v9, H.out⟩
set_option maxRecDepth 100000 in
theorem i_pop (h : St o (boxI X cs 105 :: stkI S v st :: R) w) (h0 : cs[0]? = some (.int .i64 pl)) (h1 : cs[1]? = some (.pointer (some ⟨S, 0, none⟩))) (b0 : 0 ≤ pl) (b1 : pl ≤ 1000) (hl : 0 < st.length) (a : Int) :
    Calls Tryz.prog 142 #[.pointer (some ⟨X, 0, none⟩), .int .i64 a] w fun e w' => e = .returned (.int .i64 1) ∧ ∃ v', St o (boxI X (cs.setIfInBounds 0 (.int .i64 (pl + 1))) 105 :: stkI S v' (dropN st 1) :: R) w' := by
  have hq := pTake h h1 hl
  clear h
  go_enter Tryz.func142, Tryz.ntmps142
  go_wp2_with fail
  refine hq.mono ?_
  rintro e w1 ⟨rfl, v1, s1⟩
  clear hq
  have hq := pNext s1 h0 b0 b1
  clear s1 h0
  go_wp2_with fail
  refine hq.mono ?_
  rintro e w9 ⟨rfl, s9⟩
  have H := hidS s9
  clear hq s9
  go_wp2
  go_ret
  exact ⟨rfl, v1, H.out⟩
set_option maxRecDepth 100000 in
theorem i_dup (h : St o (boxI X cs 105 :: stkI S v st :: R) w) (h0 : cs[0]? = some (.int .i64 pl)) (h1 : cs[1]? = some (.pointer (some ⟨S, 0, none⟩))) (b0 : 0 ≤ pl) (b1 : pl ≤ 1000) (hl : 0 < st.length) (hm : st.length < 32) (a : Int) :
    Calls Tryz.prog 143 #[.pointer (some ⟨X, 0, none⟩), .int .i64 a] w fun e w' => e = .returned (.int .i64 1) ∧ ∃ v', St o (boxI X (cs.setIfInBounds 0 (.int .i64 (pl + 1))) 105 :: stkI S v' (st ++ [topN st 0]) :: R) w' := by
  have hq := pBelow h h1 0 hl
  clear h
  go_enter Tryz.func143, Tryz.ntmps143
  go_wp2_with fail
  refine hq.mono ?_
  rintro e w1 ⟨rfl, s1⟩
  clear hq
  have hq := pLay s1 h0 h1 b0 b1 hm (topN st 0)
  clear s1 h0 h1
  go_wp2_with fail
  refine hq.mono ?_
  rintro e w9 ⟨rfl, v9, s9⟩
  have H := hidS s9
  clear hq s9
  go_wp2
  go_ret
  exact ⟨rfl, v9, H.out⟩
set_option maxRecDepth 100000 in
theorem i_swap (h : St o (boxI X cs 105 :: stkI S v st :: R) w) (h0 : cs[0]? = some (.int .i64 pl)) (h1 : cs[1]? = some (.pointer (some ⟨S, 0, none⟩))) (b0 : 0 ≤ pl) (b1 : pl ≤ 1000) (hl : 2 ≤ st.length) (a : Int) :
    Calls Tryz.prog 144 #[.pointer (some ⟨X, 0, none⟩), .int .i64 a] w fun e w' => e = .returned (.int .i64 1) ∧ ∃ v', St o (boxI X (cs.setIfInBounds 0 (.int .i64 (pl + 1))) 105 :: stkI S v' (dropN st 2 ++ [topN st 0, topN st 1]) :: R) w' := by
  have c1 : w.cell? ⟨X, 1, none⟩ = some (.pointer (some ⟨S, 0, none⟩)) := (h.cell 0 rfl 1).trans h1
  have hq := kSwap h 1 rfl hl
  clear h
  go_enter Tryz.func144, Tryz.ntmps144
  go_wp2_with fail
  refine hq.mono ?_
  rintro e w1 ⟨rfl, v1, s1⟩
  clear hq c1
  have hq := pNext s1 h0 b0 b1
  clear s1 h0
  go_wp2_with fail
  refine hq.mono ?_
  rintro e w9 ⟨rfl, s9⟩
  have H := hidS s9
  clear hq s9
  go_wp2
  go_ret
  exact ⟨rfl, v1, H.out⟩
set_option maxRecDepth 100000 in
theorem i_add (h : St o (boxI X cs 105 :: stkI S v st :: R) w) (h0 : cs[0]? = some (.int .i64 pl)) (h1 : cs[1]? = some (.pointer (some ⟨S, 0, none⟩))) (b0 : 0 ≤ pl) (b1 : pl ≤ 1000) (hl : 2 ≤ st.length) (hm : st.length ≤ 32) (a : Int) :
    Calls Tryz.prog 147 #[.pointer (some ⟨X, 0, none⟩), .int .i64 a] w fun e w' => e = .returned (.int .i64 1) ∧ ∃ v', St o (boxI X (cs.setIfInBounds 0 (.int .i64 (pl + 1))) 105 :: stkI S v' (dropN st 2 ++ [wrp (topN st 1 + topN st 0)]) :: R) w' := by
  unfold wrp
  have hq := pTwo h h1 hl
  have hd := dropN_length st 2
  clear h
  generalize topN st 0 = t0 at *
  generalize topN st 1 = t1 at *
  go_enter Tryz.func147, Tryz.ntmps147
  go_wp2_with fail
  refine hq.mono ?_
  rintro e w1 ⟨rfl, v1, s1⟩
  clear hq
  have hq := pLay s1 h0 h1 b0 b1 (by omega) (wrp (t1 + t0))
  unfold wrp at hq
  clear s1 h0 h1 hd hl hm
  go_wp2_with fail
  refine hq.mono ?_
  rintro e w9 ⟨rfl, v9, s9⟩
  have H := hidS s9
  clear hq s9
  go_wp2
  go_ret
  exact ⟨rfl, v9, H.out⟩
set_option maxRecDepth 100000 in
theorem i_sub (h : St o (boxI X cs 105 :: stkI S v st :: R) w) (h0 : cs[0]? = some (.int .i64 pl)) (h1 : cs[1]? = some (.pointer (some ⟨S, 0, none⟩))) (b0 : 0 ≤ pl) (b1 : pl ≤ 1000) (hl : 2 ≤ st.length) (hm : st.length ≤ 32) (a : Int) :
    Calls Tryz.prog 148 #[.pointer (some ⟨X, 0, none⟩), .int .i64 a] w fun e w' => e = .returned (.int .i64 1) ∧ ∃ v', St o (boxI X (cs.setIfInBounds 0 (.int .i64 (pl + 1))) 105 :: stkI S v' (dropN st 2 ++ [wrp (topN st 1 - topN st 0)]) :: R) w' := by
  unfold wrp
  have hq := pTwo h h1 hl
  have hd := dropN_length st 2
  clear h
  generalize topN st 0 = t0 at *
  generalize topN st 1 = t1 at *
  go_enter Tryz.func148, Tryz.ntmps148
  go_wp2_with fail
  refine hq.mono ?_
  rintro e w1 ⟨rfl, v1, s1⟩
  clear hq
  have hq := pLay s1 h0 h1 b0 b1 (by omega) (wrp (t1 - t0))
  unfold wrp at hq
  clear s1 h0 h1 hd hl hm
  go_wp2_with fail
  refine hq.mono ?_
  rintro e w9 ⟨rfl, v9, s9⟩
  have H := hidS s9
  clear hq s9
  go_wp2
  go_ret
  exact ⟨rfl, v9, H.out⟩
set_option maxRecDepth 100000 in
theorem i_mul (h : St o (boxI X cs 105 :: stkI S v st :: R) w) (h0 : cs[0]? = some (.int .i64 pl)) (h1 : cs[1]? = some (.pointer (some ⟨S, 0, none⟩))) (b0 : 0 ≤ pl) (b1 : pl ≤ 1000) (hl : 2 ≤ st.length) (hm : st.length ≤ 32) (a : Int) :
    Calls Tryz.prog 149 #[.pointer (some ⟨X, 0, none⟩), .int .i64 a] w fun e w' => e = .returned (.int .i64 1) ∧ ∃ v', St o (boxI X (cs.setIfInBounds 0 (.int .i64 (pl + 1))) 105 :: stkI S v' (dropN st 2 ++ [wrp (topN st 1 * topN st 0)]) :: R) w' := by
  unfold wrp
  have hq := pTwo h h1 hl
  have hd := dropN_length st 2
  clear h
  generalize topN st 0 = t0 at *
  generalize topN st 1 = t1 at *
  go_enter Tryz.func149, Tryz.ntmps149
  go_wp2_with fail
  refine hq.mono ?_
  rintro e w1 ⟨rfl, v1, s1⟩
  clear hq
  have hq := pLay s1 h0 h1 b0 b1 (by omega) (wrp (t1 * t0))
  unfold wrp at hq
  clear s1 h0 h1 hd hl hm
  go_wp2_with fail
  refine hq.mono ?_
  rintro e w9 ⟨rfl, v9, s9⟩
  have H := hidS s9
  clear hq s9
  go_wp2
  go_ret
  exact ⟨rfl, v9, H.out⟩
set_option maxRecDepth 100000 in
theorem pModulo (a b : Int) (w : World) : Calls Tryz.prog 190 #[.int .i64 a, .int .i64 b] w fun e w' => e = .returned (.int .i64 (modM a b)) ∧ w' = w := by
  unfold modM wrp
  by_cases h1 : b < 1
  · rw [if_pos h1]
    go_enter Tryz.func190, Tryz.ntmps190
    go_wp2
    go_ret
    exact ⟨rfl, rfl⟩
  · rw [if_neg h1]
    have hb : ¬ b = 0 := by omega
    by_cases h2 : a.tmod b < 0
    · rw [if_pos h2]
      go_enter Tryz.func190, Tryz.ntmps190
      go_wp2
      go_ret
      exact ⟨rfl, rfl⟩
    · rw [if_neg h2]
      go_enter Tryz.func190, Tryz.ntmps190
      go_wp2
      go_ret
      exact ⟨rfl, rfl⟩
set_option maxRecDepth 100000 in
theorem i_mod (h : St o (boxI X cs 105 :: stkI S v st :: R) w) (h0 : cs[0]? = some (.int .i64 pl)) (h1 : cs[1]? = some (.pointer (some ⟨S, 0, none⟩))) (b0 : 0 ≤ pl) (b1 : pl ≤ 1000) (hl : 2 ≤ st.length) (hm : st.length ≤ 32) (a : Int) :
    Calls Tryz.prog 150 #[.pointer (some ⟨X, 0, none⟩), .int .i64 a] w fun e w' => e = .returned (.int .i64 1) ∧ ∃ v', St o (boxI X (cs.setIfInBounds 0 (.int .i64 (pl + 1))) 105 :: stkI S v' (dropN st 2 ++ [modM (topN st 1) (topN st 0)]) :: R) w' := by
  have hq := pTwo h h1 hl
  have hd := dropN_length st 2
  clear h
  generalize topN st 0 = t0 at *
  generalize topN st 1 = t1 at *
  go_enter Tryz.func150, Tryz.ntmps150
  go_wp2_with fail
  refine hq.mono ?_
  rintro e w1 ⟨rfl, v1, s1⟩
  clear hq
  have hM := pModulo t1 t0 w1
  have hq := pLay s1 h0 h1 b0 b1 (by omega) (modM t1 t0)
  clear s1 h0 h1 hd hl hm
  go_wp2_with fail
  refine hM.mono ?_
  rintro e w2 ⟨rfl, rfl⟩
  clear hM
  go_wp2_with fail
  refine hq.mono ?_
  rintro e w9 ⟨rfl, v9, s9⟩
  have H := hidS s9
  clear hq s9
  go_wp2
  go_ret
  exact ⟨rfl, v9, H.out⟩
set_option maxRecDepth 100000 in
theorem i_less (h : St o (boxI X cs 105 :: stkI S v st :: R) w) (h0 : cs[0]? = some (.int .i64 pl)) (h1 : cs[1]? = some (.pointer (some ⟨S, 0, none⟩))) (b0 : 0 ≤ pl) (b1 : pl ≤ 1000) (hl : 2 ≤ st.length) (hm : st.length ≤ 32) (a : Int) :
    Calls Tryz.prog 151 #[.pointer (some ⟨X, 0, none⟩), .int .i64 a] w fun e w' => e = .returned (.int .i64 1) ∧ ∃ v', St o (boxI X (cs.setIfInBounds 0 (.int .i64 (pl + 1))) 105 :: stkI S v' (dropN st 2 ++ [ifM (decide (topN st 1 < topN st 0))]) :: R) w' := by
  have hq := pTwo h h1 hl
  have hd := dropN_length st 2
  clear h
  generalize topN st 0 = t0 at *
  generalize topN st 1 = t1 at *
  go_enter Tryz.func151, Tryz.ntmps151
  go_wp2_with fail
  refine hq.mono ?_
  rintro e w1 ⟨rfl, v1, s1⟩
  clear hq
  have hM := pTruth (decide (t1 < t0)) w1
  have hq := pLay s1 h0 h1 b0 b1 (by omega) (ifM (decide (t1 < t0)))
  clear s1 h0 h1 hd hl hm
  go_wp2_with fail
  refine hM.mono ?_
  rintro e w2 ⟨rfl, rfl⟩
  clear hM
  go_wp2_with fail
  refine hq.mono ?_
  rintro e w9 ⟨rfl, v9, s9⟩
  have H := hidS s9
  clear hq s9
  go_wp2
  go_ret
  exact ⟨rfl, v9, H.out⟩
set_option maxRecDepth 100000 in
theorem i_same (h : St o (boxI X cs 105 :: stkI S v st :: R) w) (h0 : cs[0]? = some (.int .i64 pl)) (h1 : cs[1]? = some (.pointer (some ⟨S, 0, none⟩))) (b0 : 0 ≤ pl) (b1 : pl ≤ 1000) (hl : 2 ≤ st.length) (hm : st.length ≤ 32) (a : Int) :
    Calls Tryz.prog 152 #[.pointer (some ⟨X, 0, none⟩), .int .i64 a] w fun e w' => e = .returned (.int .i64 1) ∧ ∃ v', St o (boxI X (cs.setIfInBounds 0 (.int .i64 (pl + 1))) 105 :: stkI S v' (dropN st 2 ++ [ifM (topN st 1 == topN st 0)]) :: R) w' := by
  have hq := pTwo h h1 hl
  have hd := dropN_length st 2
  clear h
  generalize topN st 0 = t0 at *
  generalize topN st 1 = t1 at *
  go_enter Tryz.func152, Tryz.ntmps152
  go_wp2_with fail
  refine hq.mono ?_
  rintro e w1 ⟨rfl, v1, s1⟩
  clear hq
  have hM := pTruth (t1 == t0) w1
  have hq := pLay s1 h0 h1 b0 b1 (by omega) (ifM (t1 == t0))
  clear s1 h0 h1 hd hl hm
  go_wp2_with fail
  refine hM.mono ?_
  rintro e w2 ⟨rfl, rfl⟩
  clear hM
  go_wp2_with fail
  refine hq.mono ?_
  rintro e w9 ⟨rfl, v9, s9⟩
  have H := hidS s9
  clear hq s9
  go_wp2
  go_ret
  exact ⟨rfl, v9, H.out⟩
set_option maxRecDepth 100000 in
theorem i_not (h : St o (boxI X cs 105 :: stkI S v st :: R) w) (h0 : cs[0]? = some (.int .i64 pl)) (h1 : cs[1]? = some (.pointer (some ⟨S, 0, none⟩))) (b0 : 0 ≤ pl) (b1 : pl ≤ 1000) (hl : 0 < st.length) (hm : st.length ≤ 32) (a : Int) :
    Calls Tryz.prog 153 #[.pointer (some ⟨X, 0, none⟩), .int .i64 a] w fun e w' => e = .returned (.int .i64 1) ∧ ∃ v', St o (boxI X (cs.setIfInBounds 0 (.int .i64 (pl + 1))) 105 :: stkI S v' (dropN st 1 ++ [ifM (topN st 0 == 0)]) :: R) w' := by
  have hq := pTake h h1 hl
  have hd := dropN_length st 1
  clear h
  generalize topN st 0 = t0 at *
  go_enter Tryz.func153, Tryz.ntmps153
  go_wp2_with fail
  refine hq.mono ?_
  rintro e w1 ⟨rfl, v1, s1⟩
  clear hq
  have hM := pTruth (t0 == 0) w1
  have hq := pLay s1 h0 h1 b0 b1 (by omega) (ifM (t0 == 0))
  clear s1 h0 h1 hd hl hm
  go_wp2_with fail
  refine hM.mono ?_
  rintro e w2 ⟨rfl, rfl⟩
  clear hM
  go_wp2_with fail
  refine hq.mono ?_
  rintro e w9 ⟨rfl, v9, s9⟩
  have H := hidS s9
  clear hq s9
  go_wp2
  go_ret
  exact ⟨rfl, v9, H.out⟩
set_option maxRecDepth 100000 in
theorem i_jump (h : St o (boxI X cs 105 :: R) w) (h0 : cs[0]? = some (.int .i64 pl)) (a : Int) :
    Calls Tryz.prog 154 #[.pointer (some ⟨X, 0, none⟩), .int .i64 a] w fun e w' => e = .returned (.int .i64 1) ∧ St o (boxI X (cs.setIfInBounds 0 (.int .i64 a)) 105 :: R) w' := by
  have c0 : w.cell? ⟨X, 0, none⟩ = some (.int .i64 pl) := (h.cell 0 rfl 0).trans h0
  have f0 : w.frozen? ⟨X, 0, none⟩ = false := h.frozen 0 rfl 0
  have H := hidS (h.write 0 rfl 0 (.int .i64 a))
  clear h h0
  go_enter Tryz.func154, Tryz.ntmps154
  go_wp2
  go_ret
  exact ⟨rfl, H.out⟩
set_option maxRecDepth 100000 in
theorem i_zero (h : St o (boxI X cs 105 :: stkI S v st :: R) w) (h0 : cs[0]? = some (.int .i64 pl)) (h1 : cs[1]? = some (.pointer (some ⟨S, 0, none⟩))) (b0 : 0 ≤ pl) (b1 : pl ≤ 1000) (hl : 0 < st.length) (a : Int) :
    Calls Tryz.prog 155 #[.pointer (some ⟨X, 0, none⟩), .int .i64 a] w fun e w' => e = .returned (.int .i64 1) ∧ ∃ v', St o (boxI X (cs.setIfInBounds 0 (.int .i64 (if topN st 0 = 0 then a else pl + 1))) 105 :: stkI S v' (dropN st 1) :: R) w' := by
  have hq := pTake h h1 hl
  clear h
  by_cases ht : topN st 0 = 0
  · rw [if_pos ht]
    rw [ht] at hq
    go_enter Tryz.func155, Tryz.ntmps155
    go_wp2_with fail
    refine hq.mono ?_
    rintro e w1 ⟨rfl, v1, s1⟩
    clear hq
    have hq := i_jump s1 h0 a
    clear s1 h0
    go_wp2_with fail
    refine hq.mono ?_
    rintro e w9 ⟨rfl, s9⟩
    have H := hidS s9
    clear hq s9
    go_wp2
    go_ret
    exact ⟨rfl, v1, H.out⟩
  · rw [if_neg ht]
    have hb : (topN st 0 == 0) = false := by simpa using ht
    generalize topN st 0 = t0 at *
    go_enter Tryz.func155, Tryz.ntmps155
    go_wp2_with fail
    refine hq.mono ?_
    rintro e w1 ⟨rfl, v1, s1⟩
    clear hq
    have hq := pNext s1 h0 b0 b1
    clear s1 h0
    go_wp2_with fail
    refine hq.mono ?_
    rintro e w9 ⟨rfl, s9⟩
    have H := hidS s9
    clear hq s9
    go_wp2
    go_ret
    exact ⟨rfl, v1, H.out⟩
set_option maxRecDepth 100000 in
theorem i_get (h : St o (boxI X cs 105 :: stkI S v st :: R) w) (h0 : cs[0]? = some (.int .i64 pl)) (h1 : cs[1]? = some (.pointer (some ⟨S, 0, none⟩))) (b0 : 0 ≤ pl) (b1 : pl ≤ 1000) (hl : st.length < 32) (k : Nat) (hk : k < 8) {x : Int} (hx : cs[2 + k]? = some (.int .i64 x)) :
    Calls Tryz.prog 145 #[.pointer (some ⟨X, 0, none⟩), .int .i64 k] w fun e w' => e = .returned (.int .i64 1) ∧ ∃ v', St o (boxI X (cs.setIfInBounds 0 (.int .i64 (pl + 1))) 105 :: stkI S v' (st ++ [x]) :: R) w' := by
  have hq := pLay h h0 h1 b0 b1 hl x
  have c2 : w.cell? ⟨X, 2 + k, none⟩ = some (.int .i64 x) := (h.cell 0 rfl (2 + k)).trans hx
  have k0 : (0 : Int) ≤ k := by omega
  have k8 : (k : Int) < 8 := by omega
  clear h h0 h1 hx
  go_enter Tryz.func145, Tryz.ntmps145
  go_wp2_with fail
  refine hq.mono ?_
  rintro e w9 ⟨rfl, v9, s9⟩
  have H := hidS s9
  clear hq s9
  go_wp2
  go_ret
  exact ⟨rfl, v9, H.out⟩
set_option maxRecDepth 100000 in
theorem i_set (h : St o (boxI X cs 105 :: stkI S v st :: R) w) (h0 : cs[0]? = some (.int .i64 pl)) (h1 : cs[1]? = some (.pointer (some ⟨S, 0, none⟩))) (b0 : 0 ≤ pl) (b1 : pl ≤ 1000) (hl : 0 < st.length) (k : Nat) (hk : k < 8) {x : Int} (hx : cs[2 + k]? = some (.int .i64 x)) :
    Calls Tryz.prog 146 #[.pointer (some ⟨X, 0, none⟩), .int .i64 k] w fun e w' => e = .returned (.int .i64 1) ∧ ∃ v', St o (boxI X ((cs.setIfInBounds (2 + k) (.int .i64 (topN st 0))).setIfInBounds 0 (.int .i64 (pl + 1))) 105 :: stkI S v' (dropN st 1) :: R) w' := by
  have hq := pTake h.drew h1 hl
  have hS : ∀ W v', St o (boxI X cs 105 :: stkI S v' (dropN st 1) :: R) W → W.cell? ⟨X, 2 + k, none⟩ = some (.int .i64 x) ∧ W.frozen? ⟨X, 2 + k, none⟩ = false := fun W v' hW => ⟨(hW.cell 0 rfl (2 + k)).trans hx, hW.frozen 0 rfl (2 + k)⟩
  have HS := hidS hS
  have k0 : (0 : Int) ≤ k := by omega
  have k8 : (k : Int) < 8 := by omega
  have hz0 : (cs.setIfInBounds (2 + k) (.int .i64 (topN st 0)))[0]? = some (.int .i64 pl) := by rw [Array.getElem?_setIfInBounds_ne (by omega)]; exact h0
  clear h hS
  go_enter Tryz.func146, Tryz.ntmps146
  go_wp2_with fail
  go_region_with (go_at_call 183; refine hq.mono ?_; rintro e w1 ⟨rfl, v1, s1⟩; have c2 := (HS.out _ _ s1).1; have f2 := (HS.out _ _ s1).2; have s2 := hidS (s1.write 0 rfl (2 + k) (.int .i64 (topN st 0))); clear s1)
  all_goals
    have s3 := s2.out
    have hq2 := pNext s3 hz0 b0 b1
    clear s2 s3
    go_wp2_with fail
    refine hq2.mono ?_
    rintro e w9 ⟨rfl, s9⟩
    have H := hidS s9
    clear hq2 s9
    go_wp2
    go_ret
    exact ⟨rfl, v1, H.out⟩
end
end Go.Proofs.YthbcbjkgjgmegaaGreat

namespace Go.Proofs.YthbcbjkgjgmegaaGreat
open Go.RowKit
set_option linter.unusedVariables false
set_option linter.unusedSimpArgs false
attribute [local go_sem ↓] Go.wp_at_zero Go.wp_at_succ

/-- Where its parts lie. -/
structure PA where
  X : Nat
  S : Nat
  v : Value
  S2 : Nat
  v2 : Value
  lv : Value
  hv : Value
  tv : Value
  P : TA
def svV (k : Nat) (sm : Int) : Value := if sm = 0 then .pointer none else .pointer (some ⟨k, 0, none⟩)
def svI (k : Nat) (v : Value) (sm : Int) (f : Fm) : It := if sm = 0 then joinI [] else stkI k v f.st
def Fm.l (f : Fm) (j : Nat) : Value := .int .i64 (f.lo.getD j 0)
def pgW (A : Ad) (Q : PA) (x : Pg) : List Value :=
  [.int .i64 x.fm.pl, .pointer (some ⟨Q.S, 0, none⟩), x.fm.l 0, x.fm.l 1, x.fm.l 2, x.fm.l 3, x.fm.l 4, x.fm.l 5, x.fm.l 6, x.fm.l 7,
    .int .i64 x.sm, .int .i64 x.tr, .int .i64 x.sv.pl, svV Q.S2 x.sm, x.sv.l 0, x.sv.l 1, x.sv.l 2, x.sv.l 3, x.sv.l 4, x.sv.l 5, x.sv.l 6, x.sv.l 7, Q.hv,
    spp A, .pointer (some ⟨Q.P.T, 0, none⟩), Q.lv, Q.tv, .bool x.dn, .int .i64 x.er]
def pgV (A : Ad) (Q : PA) (x : Pg) : Array Value := (pgW A Q x).toArray
def pgC (A : Ad) (Q : PA) (x : Pg) : List It :=
  [boxI Q.X (pgV A Q x) 105, stkI Q.S Q.v x.fm.st, svI Q.S2 Q.v2 x.sm x.sv, ownI 79 2 Q.lv x.li.length (insCells x.li), ownI 2 1 Q.hv x.hd.length (clCells x.hd), ownI 2 1 Q.tv x.td.length (clCells x.td)]

def setL (L : List Value) : Nat → List Value → List Value
  | _, [] => L
  | k, v :: r => setL (L.set k v) (k + 1) r
theorem St.writeL {o w : World} {R : List It} {X : Nat} {t : TypeId} {L : List Value} (h : St o (boxI X L.toArray t :: R) w) (k : Nat) (v : Value) : St o (boxI X (L.set k v).toArray t :: R) (w.setCell ⟨X, k, none⟩ v) := by
  have := h.write 0 rfl k v
  rw [List.setIfInBounds_toArray] at this
  exact this
theorem St.writesL {o : World} {R : List It} {X : Nat} {t : TypeId} : ∀ (vs : List Value) (k : Nat) {L : List Value} {w : World}, St o (boxI X L.toArray t :: R) w → St o (boxI X (setL L k vs).toArray t :: R) (w.setCells X k vs)
  | [], _, _, _, h => h
  | v :: r, k, L, w, h => St.writesL r (k + 1) (h.writeL k v)
section
variable {o w : World} {its R : List It} {A : Ad} {c : Cfg} {z : SSt} {v u : Value} {Q : PA} {x : Pg}
/-- What lay there is no longer spoken of. -/
theorem St.forget (h : St o its w) (i : Nat) {B : It} (hi : its[i]? = some B) : St o (its.set i (joinI [])) w :=
  h.set i hi (Kept.refl _ w) (fun i hi => by simp at hi) (by simp [joinI]) (fun b hb => by simp [joinI] at hb)
theorem St.empty (h : St o its w) (i : Nat) {B : It} (hi : its[i]? = some B) (e : TypeId) (n : Nat) : St o (its.set i (ownI e n (.slice none 0 0) 0 [])) w :=
  h.set i hi (Kept.refl _ w) (World.ownsRow_nil w 0 e n) (own_nodup (.slice none 0 0)) (fun b hb => by simp [ownI, Value.ownBlock] at hb)
theorem perm_pg (a b R : List It) (s : It) : (a ++ s :: (b ++ R)).Perm (b ++ (a ++ s :: R)) := by
  have p := (List.perm_append_comm (l₁ := a ++ [s]) (l₂ := b)).append_right R
  simpa using p
theorem St.inn {a b : List It} {s : It} (h : St o (a ++ s :: (b ++ R)) w) : St o (b ++ (a ++ s :: R)) w := h.perm (perm_pg a b R s)
theorem St.outw {a b : List It} {s : It} (h : St o (b ++ (a ++ s :: R)) w) : St o (a ++ s :: (b ++ R)) w := h.perm (perm_pg a b R s).symm

set_option maxRecDepth 100000 in
theorem pPhase (h : St o (txL c A Q.P x.tx ++ spI A c z v u :: (pgC A Q x ++ R)) w) : Calls Tryz.prog 27 #[.pointer (some ⟨Q.X, 0, none⟩)] w fun e w' => e = .returned (.int .i64 x.ph) ∧ St o (txL c A Q.P x.tx ++ spI A c z v u :: (pgC A Q x ++ R)) w' := by
  have hq := tPhase h
  have c0 : w.cell? ⟨Q.X, 24, none⟩ = some (.pointer (some ⟨Q.P.T, 0, none⟩)) := h.cell 7 rfl 24
  clear h
  unfold Pg.ph
  generalize x.tx.dg.phase = ph at *
  go_enter Tryz.func27, Tryz.ntmps27
  go_wp2_with fail
  refine hq.mono ?_
  rintro e w1 ⟨rfl, s1⟩
  have H := hid s1
  clear hq s1
  go_wp2
  go_ret
  exact ⟨rfl, H.out⟩
set_option maxRecDepth 100000 in
theorem pInside (h : St o (txL c A Q.P x.tx ++ spI A c z v u :: (pgC A Q x ++ R)) w) : Calls Tryz.prog 44 #[.pointer (some ⟨Q.X, 0, none⟩)] w fun e w' => e = .returned (.bool x.inside) ∧ St o (txL c A Q.P x.tx ++ spI A c z v u :: (pgC A Q x ++ R)) w' := by
  have hq := pPhase h
  clear h
  unfold Pg.inside
  generalize x.ph = ph at *
  cases h0 : (ph != 0) <;> simp only [Bool.false_and, Bool.true_and]
  all_goals
    go_enter Tryz.func44, Tryz.ntmps44
    go_wp2_with fail
    refine hq.mono ?_
    rintro e w1 ⟨rfl, s1⟩
    have H := hid s1
    clear hq s1
    go_wp2
    go_ret
    exact ⟨rfl, H.out⟩
set_option maxRecDepth 100000 in
theorem pUnder (h : St o (txL c A Q.P x.tx ++ spI A c z v u :: (pgC A Q x ++ R)) w) : Calls Tryz.prog 66 #[.pointer (some ⟨Q.X, 0, none⟩)] w fun e w' => e = .returned (.bool x.under) ∧ St o (txL c A Q.P x.tx ++ spI A c z v u :: (pgC A Q x ++ R)) w' := by
  have hq := pPhase h
  clear h
  unfold Pg.under
  generalize x.ph = ph at *
  cases h0 : (ph != 0) <;> simp only [Bool.false_and, Bool.true_and]
  all_goals
    go_enter Tryz.func66, Tryz.ntmps66
    go_wp2_with fail
    refine hq.mono ?_
    rintro e w1 ⟨rfl, s1⟩
    have H := hid s1
    clear hq s1
    go_wp2
    go_ret
    exact ⟨rfl, H.out⟩

def zeroT : List Value := [.int .i64 0, .int .i64 0, .int .i64 0, .pointer none, .int .i64 0, .int .i64 0, .int .i64 0, .int .i64 0, .int .i64 0, .int .i64 0, .int .i64 0, .int .i64 0, .slice none 0 0]
set_option maxRecDepth 100000 in
set_option maxHeartbeats 1000000 in
theorem pEnd (h : St o (pgC A Q x ++ R) w) (e : Int) : Calls Tryz.prog 106 #[.pointer (some ⟨Q.X, 0, none⟩), .int .i64 e] w fun r w' => r = .returned (.tuple #[]) ∧ St o (pgC A { Q with hv := .slice none 0 0 } (x.ends e) ++ R) w' := by
  have hc : ∀ j, w.cell? ⟨Q.X, j, none⟩ = (pgV A Q x)[j]? := fun j => h.cell 0 rfl j
  have hf : ∀ j, w.frozen? ⟨Q.X, j, none⟩ = false := fun j => h.frozen 0 rfl j
  have h0 : St o (boxI Q.X (pgW A Q x).toArray 105 :: stkI Q.S Q.v x.fm.st :: svI Q.S2 Q.v2 x.sm x.sv :: ownI 79 2 Q.lv x.li.length (insCells x.li) :: ownI 2 1 Q.hv x.hd.length (clCells x.hd) :: ownI 2 1 Q.tv x.td.length (clCells x.td) :: R) w := h
  have s1 := ((St.writesL zeroT 10 h0).writeL 27 (.bool true)).writeL 28 (.int .i64 e)
  have e1 : ((setL (pgW A Q x) 10 zeroT).set 27 (.bool true)).set 28 (.int .i64 e) = pgW A { Q with hv := .slice none 0 0 } (x.ends e) := by kernel_rfl
  rw [e1] at s1
  have s3 := (s1.forget 2 rfl).empty 4 rfl 2 1
  have s4 : St o (pgC A { Q with hv := .slice none 0 0 } (x.ends e) ++ R) _ := s3
  simp only [zeroT, World.setCells, Nat.reduceAdd] at s4
  have H := hid s4
  clear h h0 s1 s3 s4 e1
  have c10 : w.cell? ⟨Q.X, 10, none⟩ = some (.int .i64 x.sm) := hc 10
  have c11 : w.cell? ⟨Q.X, 11, none⟩ = some (.int .i64 x.tr) := hc 11
  have c12 : w.cell? ⟨Q.X, 12, none⟩ = some (.int .i64 x.sv.pl) := hc 12
  have c13 : w.cell? ⟨Q.X, 13, none⟩ = some (svV Q.S2 x.sm) := hc 13
  have c14 : w.cell? ⟨Q.X, 14, none⟩ = some (x.sv.l 0) := hc 14
  have c15 : w.cell? ⟨Q.X, 15, none⟩ = some (x.sv.l 1) := hc 15
  have c16 : w.cell? ⟨Q.X, 16, none⟩ = some (x.sv.l 2) := hc 16
  have c17 : w.cell? ⟨Q.X, 17, none⟩ = some (x.sv.l 3) := hc 17
  have c18 : w.cell? ⟨Q.X, 18, none⟩ = some (x.sv.l 4) := hc 18
  have c19 : w.cell? ⟨Q.X, 19, none⟩ = some (x.sv.l 5) := hc 19
  have c20 : w.cell? ⟨Q.X, 20, none⟩ = some (x.sv.l 6) := hc 20
  have c21 : w.cell? ⟨Q.X, 21, none⟩ = some (x.sv.l 7) := hc 21
  have c22 : w.cell? ⟨Q.X, 22, none⟩ = some Q.hv := hc 22
  have c27 : w.cell? ⟨Q.X, 27, none⟩ = some (.bool x.dn) := hc 27
  have c28 : w.cell? ⟨Q.X, 28, none⟩ = some (.int .i64 x.er) := hc 28
  clear hc
  go_enter Tryz.func106, Tryz.ntmps106
  go_wp2
  go_end0
  exact ⟨rfl, H.out⟩

/-- What is saved, as one value. -/
def Fm.val (f : Fm) (k : Nat) : Value := .agg #[.int .i64 f.pl, .pointer (some ⟨k, 0, none⟩), f.l 0, f.l 1, f.l 2, f.l 3, f.l 4, f.l 5, f.l 6, f.l 7]
set_option maxRecDepth 100000 in
set_option maxHeartbeats 2000000 in
theorem pLeave (h : St o (pgC A Q x ++ R) w) (hs : x.sm ≠ 0) (a : Int) : Calls Tryz.prog 138 #[.pointer (some ⟨Q.X, 0, none⟩), .int .i64 a] w fun r w' => r = .returned (.tuple #[]) ∧ St o (pgC A { Q with S := Q.S2, v := Q.v2, hv := .slice none 0 0 } (x.leave a) ++ R) w' := by
  have hc : ∀ j, w.cell? ⟨Q.X, j, none⟩ = (pgV A Q x)[j]? := fun j => h.cell 0 rfl j
  have hf : ∀ j, w.frozen? ⟨Q.X, j, none⟩ = false := fun j => h.frozen 0 rfl j
  have e1 : svV Q.S2 x.sm = .pointer (some ⟨Q.S2, 0, none⟩) := if_neg hs
  have e2 : svI Q.S2 Q.v2 x.sm x.sv = stkI Q.S2 Q.v2 x.sv.st := if_neg hs
  have s0 : St o (boxI Q.X (pgW A Q x).toArray 105 :: stkI Q.S Q.v x.fm.st :: stkI Q.S2 Q.v2 x.sv.st :: ownI 79 2 Q.lv x.li.length (insCells x.li) :: ownI 2 1 Q.hv x.hd.length (clCells x.hd) :: ownI 2 1 Q.tv x.td.length (clCells x.td) :: R) w := by rw [← e2]; exact h
  have s2 := St.writesL zeroT 10 ((St.writesL [.int .i64 x.sv.pl, .pointer (some ⟨Q.S2, 0, none⟩), x.sv.l 0, x.sv.l 1, x.sv.l 2, x.sv.l 3, x.sv.l 4, x.sv.l 5, x.sv.l 6, x.sv.l 7] 0 s0).writeL 0 (.int .i64 a))
  have e3 : setL ((setL (pgW A Q x) 0 [.int .i64 x.sv.pl, .pointer (some ⟨Q.S2, 0, none⟩), x.sv.l 0, x.sv.l 1, x.sv.l 2, x.sv.l 3, x.sv.l 4, x.sv.l 5, x.sv.l 6, x.sv.l 7]).set 0 (.int .i64 a)) 10 zeroT = pgW A { Q with S := Q.S2, v := Q.v2, hv := .slice none 0 0 } (x.leave a) := by kernel_rfl
  rw [e3] at s2
  have s3 : St o (boxI Q.X (pgW A { Q with S := Q.S2, v := Q.v2, hv := .slice none 0 0 } (x.leave a)).toArray 105 :: stkI Q.S2 Q.v2 x.sv.st :: stkI Q.S Q.v x.fm.st :: ownI 79 2 Q.lv x.li.length (insCells x.li) :: ownI 2 1 Q.hv x.hd.length (clCells x.hd) :: ownI 2 1 Q.tv x.td.length (clCells x.td) :: R) _ := s2.perm (List.Perm.cons _ (List.Perm.swap ..))
  have s4 : St o (pgC A { Q with S := Q.S2, v := Q.v2, hv := .slice none 0 0 } (x.leave a) ++ R) _ := (s3.forget 2 rfl).empty 4 rfl 2 1
  simp only [zeroT, World.setCells, Nat.reduceAdd] at s4
  have H := hid s4
  clear h s0 s2 s3 s4 e2 e3
  have c0 : w.cell? ⟨Q.X, 0, none⟩ = some (.int .i64 x.fm.pl) := hc 0
  have c1 : w.cell? ⟨Q.X, 1, none⟩ = some (.pointer (some ⟨Q.S, 0, none⟩)) := hc 1
  have c2 : w.cell? ⟨Q.X, 2, none⟩ = some (x.fm.l 0) := hc 2
  have c3 : w.cell? ⟨Q.X, 3, none⟩ = some (x.fm.l 1) := hc 3
  have c4 : w.cell? ⟨Q.X, 4, none⟩ = some (x.fm.l 2) := hc 4
  have c5 : w.cell? ⟨Q.X, 5, none⟩ = some (x.fm.l 3) := hc 5
  have c6 : w.cell? ⟨Q.X, 6, none⟩ = some (x.fm.l 4) := hc 6
  have c7 : w.cell? ⟨Q.X, 7, none⟩ = some (x.fm.l 5) := hc 7
  have c8 : w.cell? ⟨Q.X, 8, none⟩ = some (x.fm.l 6) := hc 8
  have c9 : w.cell? ⟨Q.X, 9, none⟩ = some (x.fm.l 7) := hc 9
  have c10 : w.cell? ⟨Q.X, 10, none⟩ = some (.int .i64 x.sm) := hc 10
  have c11 : w.cell? ⟨Q.X, 11, none⟩ = some (.int .i64 x.tr) := hc 11
  have c12 : w.cell? ⟨Q.X, 12, none⟩ = some (.int .i64 x.sv.pl) := hc 12
  have c13 : w.cell? ⟨Q.X, 13, none⟩ = some (svV Q.S2 x.sm) := hc 13
  have c14 : w.cell? ⟨Q.X, 14, none⟩ = some (x.sv.l 0) := hc 14
  have c15 : w.cell? ⟨Q.X, 15, none⟩ = some (x.sv.l 1) := hc 15
  have c16 : w.cell? ⟨Q.X, 16, none⟩ = some (x.sv.l 2) := hc 16
  have c17 : w.cell? ⟨Q.X, 17, none⟩ = some (x.sv.l 3) := hc 17
  have c18 : w.cell? ⟨Q.X, 18, none⟩ = some (x.sv.l 4) := hc 18
  have c19 : w.cell? ⟨Q.X, 19, none⟩ = some (x.sv.l 5) := hc 19
  have c20 : w.cell? ⟨Q.X, 20, none⟩ = some (x.sv.l 6) := hc 20
  have c21 : w.cell? ⟨Q.X, 21, none⟩ = some (x.sv.l 7) := hc 21
  have c22 : w.cell? ⟨Q.X, 22, none⟩ = some (Q.hv) := hc 22
  rw [e1] at c13
  clear hc e1
  unfold Fm.l at *
  generalize x.sv.lo.getD 0 0 = b0 at *
  generalize x.sv.lo.getD 1 0 = b1 at *
  generalize x.sv.lo.getD 2 0 = b2 at *
  generalize x.sv.lo.getD 3 0 = b3 at *
  generalize x.sv.lo.getD 4 0 = b4 at *
  generalize x.sv.lo.getD 5 0 = b5 at *
  generalize x.sv.lo.getD 6 0 = b6 at *
  generalize x.sv.lo.getD 7 0 = b7 at *
  generalize x.fm.lo.getD 0 0 = a0 at *
  generalize x.fm.lo.getD 1 0 = a1 at *
  generalize x.fm.lo.getD 2 0 = a2 at *
  generalize x.fm.lo.getD 3 0 = a3 at *
  generalize x.fm.lo.getD 4 0 = a4 at *
  generalize x.fm.lo.getD 5 0 = a5 at *
  generalize x.fm.lo.getD 6 0 = a6 at *
  generalize x.fm.lo.getD 7 0 = a7 at *
  generalize x.sv.pl = bp at *
  generalize x.fm.pl = ap at *
  go_enter Tryz.func138, Tryz.ntmps138
  go_wp2
  go_end0
  exact ⟨rfl, H.out⟩
set_option maxRecDepth 100000 in
set_option maxHeartbeats 2000000 in
theorem pCopy (h : St o its w) (i : Nat) {S : Nat} {st : List Int} {v : Value} (hi : its[i]? = some (stkI S v st)) (f : Fm) : Calls Tryz.prog 182 #[f.val S] w fun e w' => ∃ S' v', e = .returned (f.val S') ∧ St o (stkI S' v' st :: its) w' := by
  have s0 := h.box #[.int .i64 f.pl, .pointer (some ⟨S, 0, none⟩), f.l 0, f.l 1, f.l 2, f.l 3, f.l 4, f.l 5, f.l 6, f.l 7] 100
  have s1 := s0.box #[.int .i64 0, .pointer none, .int .i64 0, .int .i64 0, .int .i64 0, .int .i64 0, .int .i64 0, .int .i64 0, .int .i64 0, .int .i64 0] 100
  rw [alloc_size] at s1
  unfold Fm.val Fm.l at *
  generalize f.lo.getD 0 0 = a0 at *
  generalize f.lo.getD 1 0 = a1 at *
  generalize f.lo.getD 2 0 = a2 at *
  generalize f.lo.getD 3 0 = a3 at *
  generalize f.lo.getD 4 0 = a4 at *
  generalize f.lo.getD 5 0 = a5 at *
  generalize f.lo.getD 6 0 = a6 at *
  generalize f.lo.getD 7 0 = a7 at *
  generalize f.pl = pl at *
  clear h s0
  go_enter Tryz.func182, Tryz.ntmps182
  go_upto_region 1 with fail
  generalize (w.alloc (.cells #[.int .i64 pl, .pointer (some ⟨S, 0, none⟩), .int .i64 a0, .int .i64 a1, .int .i64 a2, .int .i64 a3, .int .i64 a4, .int .i64 a5, .int .i64 a6, .int .i64 a7] 100)).alloc (.cells #[.int .i64 0, .pointer none, .int .i64 0, .int .i64 0, .int .i64 0, .int .i64 0, .int .i64 0, .int .i64 0, .int .i64 0, .int .i64 0] 100) = W0 at *
  generalize w.heap.size = B at *
  have c1 : W0.cell? ⟨B, 1, none⟩ = some (.pointer (some ⟨S, 0, none⟩)) := s1.cell 1 rfl 1
  have hq := kCopy s1 (i + 2) (show (_ :: _ :: its)[i + 2]? = _ from hi)
  clear s1 hi
  go_wp2_with fail
  refine hq.mono ?_
  rintro e w1 ⟨S', v', rfl, s2⟩
  clear hq c1
  have hd : ∀ j, w1.cell? ⟨B, j, none⟩ = (#[.int .i64 pl, .pointer (some ⟨S, 0, none⟩), .int .i64 a0, .int .i64 a1, .int .i64 a2, .int .i64 a3, .int .i64 a4, .int .i64 a5, .int .i64 a6, .int .i64 a7] : Array Value)[j]? := fun j => s2.cell 2 rfl j
  have d0 : w1.cell? ⟨B, 0, none⟩ = some (.int .i64 pl) := hd 0
  have d1 : w1.cell? ⟨B, 1, none⟩ = some (.pointer (some ⟨S, 0, none⟩)) := hd 1
  have d2 : w1.cell? ⟨B, 2, none⟩ = some (.int .i64 a0) := hd 2
  have d3 : w1.cell? ⟨B, 3, none⟩ = some (.int .i64 a1) := hd 3
  have d4 : w1.cell? ⟨B, 4, none⟩ = some (.int .i64 a2) := hd 4
  have d5 : w1.cell? ⟨B, 5, none⟩ = some (.int .i64 a3) := hd 5
  have d6 : w1.cell? ⟨B, 6, none⟩ = some (.int .i64 a4) := hd 6
  have d7 : w1.cell? ⟨B, 7, none⟩ = some (.int .i64 a5) := hd 7
  have d8 : w1.cell? ⟨B, 8, none⟩ = some (.int .i64 a6) := hd 8
  have d9 : w1.cell? ⟨B, 9, none⟩ = some (.int .i64 a7) := hd 9
  have g1 : w1.frozen? ⟨B, 1, none⟩ = false := s2.frozen 2 rfl 1
  have s3 := s2.write 2 rfl 1 (.pointer (some ⟨S', 0, none⟩))
  have he : ∀ j, w1.cell? ⟨B + 1, j, none⟩ = (#[.int .i64 0, .pointer none, .int .i64 0, .int .i64 0, .int .i64 0, .int .i64 0, .int .i64 0, .int .i64 0, .int .i64 0, .int .i64 0] : Array Value)[j]? := fun j => s2.cell 1 rfl j
  have e0 : w1.cell? ⟨B + 1, 0, none⟩ = some (.int .i64 0) := he 0
  have e1 : w1.cell? ⟨B + 1, 1, none⟩ = some (.pointer none) := he 1
  have e2 : w1.cell? ⟨B + 1, 2, none⟩ = some (.int .i64 0) := he 2
  have e3 : w1.cell? ⟨B + 1, 3, none⟩ = some (.int .i64 0) := he 3
  have e4 : w1.cell? ⟨B + 1, 4, none⟩ = some (.int .i64 0) := he 4
  have e5 : w1.cell? ⟨B + 1, 5, none⟩ = some (.int .i64 0) := he 5
  have e6 : w1.cell? ⟨B + 1, 6, none⟩ = some (.int .i64 0) := he 6
  have e7 : w1.cell? ⟨B + 1, 7, none⟩ = some (.int .i64 0) := he 7
  have e8 : w1.cell? ⟨B + 1, 8, none⟩ = some (.int .i64 0) := he 8
  have e9 : w1.cell? ⟨B + 1, 9, none⟩ = some (.int .i64 0) := he 9
  have ge : ∀ j, w1.frozen? ⟨B + 1, j, none⟩ = false := fun j => s2.frozen 1 rfl j
  have s4 : St o (boxI (B + 1) [.int .i64 0, .pointer none, .int .i64 0, .int .i64 0, .int .i64 0, .int .i64 0, .int .i64 0, .int .i64 0, .int .i64 0, .int .i64 0].toArray 100 :: stkI S' v' st :: boxI B _ 100 :: its) _ := s3.swap
  have s5 := St.writesL [.int .i64 pl, .pointer (some ⟨S', 0, none⟩), .int .i64 a0, .int .i64 a1, .int .i64 a2, .int .i64 a3, .int .i64 a4, .int .i64 a5, .int .i64 a6, .int .i64 a7] 0 s4
  simp only [World.setCells, Nat.reduceAdd] at s5
  have k0 := (s5.cell 0 rfl 0).trans (show _ = some (.int .i64 pl) from rfl)
  have k1 := (s5.cell 0 rfl 1).trans (show _ = some (.pointer (some ⟨S', 0, none⟩)) from rfl)
  have k2 := (s5.cell 0 rfl 2).trans (show _ = some (.int .i64 a0) from rfl)
  have k3 := (s5.cell 0 rfl 3).trans (show _ = some (.int .i64 a1) from rfl)
  have k4 := (s5.cell 0 rfl 4).trans (show _ = some (.int .i64 a2) from rfl)
  have k5 := (s5.cell 0 rfl 5).trans (show _ = some (.int .i64 a3) from rfl)
  have k6 := (s5.cell 0 rfl 6).trans (show _ = some (.int .i64 a4) from rfl)
  have k7 := (s5.cell 0 rfl 7).trans (show _ = some (.int .i64 a5) from rfl)
  have k8 := (s5.cell 0 rfl 8).trans (show _ = some (.int .i64 a6) from rfl)
  have k9 := (s5.cell 0 rfl 9).trans (show _ = some (.int .i64 a7) from rfl)
  have s6 := St.popAt (pre := [_]) s5.pop
  have H := hid s6
  clear s2 s3 s4 s5 s6 hd he
  go_wp2
  exact bodyPost_ret (v := .agg #[.int .i64 pl, .pointer (some ⟨S', 0, none⟩), .int .i64 a0, .int .i64 a1, .int .i64 a2, .int .i64 a3, .int .i64 a4, .int .i64 a5, .int .i64 a6, .int .i64 a7]) (by simp [results, Tryz.results182, go_sem, k0, k1, k2, k3, k4, k5, k6, k7, k8, k9]) rfl ⟨S', v', rfl, H.out⟩
theorem Fm.l_int (f : Fm) (j : Nat) : f.l j = .int .i64 (f.lo.getD j 0) := rfl
set_option maxRecDepth 100000 in
set_option maxHeartbeats 2000000 in
theorem pAgain (h : St o (pgC A Q x ++ R) w) (hs : x.sm ≠ 0) (t0 : 0 ≤ x.tr) (t1 : x.tr ≤ 1000000000) : Calls Tryz.prog 139 #[.pointer (some ⟨Q.X, 0, none⟩)] w fun r w' => r = .returned (.tuple #[]) ∧ ∃ S' v', St o (pgC A { Q with S := S', v := v', hv := .slice none 0 0 } x.again ++ R) w' := by
  have e1 : svV Q.S2 x.sm = .pointer (some ⟨Q.S2, 0, none⟩) := if_neg hs
  have e2 : svI Q.S2 Q.v2 x.sm x.sv = stkI Q.S2 Q.v2 x.sv.st := if_neg hs
  have hq := pCopy h 2 (show (pgC A Q x ++ R)[2]? = some (stkI Q.S2 Q.v2 x.sv.st) from congrArg some e2) x.sv
  have hc : ∀ j, w.cell? ⟨Q.X, j, none⟩ = (pgV A Q x)[j]? := fun j => h.cell 0 rfl j
  have c12 : w.cell? ⟨Q.X, 12, none⟩ = some (.int .i64 x.sv.pl) := hc 12
  have c13 : w.cell? ⟨Q.X, 13, none⟩ = some (svV Q.S2 x.sm) := hc 13
  have c14 : w.cell? ⟨Q.X, 14, none⟩ = some (.int .i64 (x.sv.lo.getD 0 0)) := hc 14
  have c15 : w.cell? ⟨Q.X, 15, none⟩ = some (.int .i64 (x.sv.lo.getD 1 0)) := hc 15
  have c16 : w.cell? ⟨Q.X, 16, none⟩ = some (.int .i64 (x.sv.lo.getD 2 0)) := hc 16
  have c17 : w.cell? ⟨Q.X, 17, none⟩ = some (.int .i64 (x.sv.lo.getD 3 0)) := hc 17
  have c18 : w.cell? ⟨Q.X, 18, none⟩ = some (.int .i64 (x.sv.lo.getD 4 0)) := hc 18
  have c19 : w.cell? ⟨Q.X, 19, none⟩ = some (.int .i64 (x.sv.lo.getD 5 0)) := hc 19
  have c20 : w.cell? ⟨Q.X, 20, none⟩ = some (.int .i64 (x.sv.lo.getD 6 0)) := hc 20
  have c21 : w.cell? ⟨Q.X, 21, none⟩ = some (.int .i64 (x.sv.lo.getD 7 0)) := hc 21
  rw [e1] at c13
  clear h hc
  unfold Fm.val at hq
  simp only [Fm.l_int] at hq
  generalize hb0 : x.sv.lo.getD 0 0 = b0 at *
  generalize hb1 : x.sv.lo.getD 1 0 = b1 at *
  generalize hb2 : x.sv.lo.getD 2 0 = b2 at *
  generalize hb3 : x.sv.lo.getD 3 0 = b3 at *
  generalize hb4 : x.sv.lo.getD 4 0 = b4 at *
  generalize hb5 : x.sv.lo.getD 5 0 = b5 at *
  generalize hb6 : x.sv.lo.getD 6 0 = b6 at *
  generalize hb7 : x.sv.lo.getD 7 0 = b7 at *
  have HB : Hid (x.sv.lo.getD 0 0 = b0 ∧ x.sv.lo.getD 1 0 = b1 ∧ x.sv.lo.getD 2 0 = b2 ∧ x.sv.lo.getD 3 0 = b3 ∧ x.sv.lo.getD 4 0 = b4 ∧ x.sv.lo.getD 5 0 = b5 ∧ x.sv.lo.getD 6 0 = b6 ∧ x.sv.lo.getD 7 0 = b7) := ⟨hb0, hb1, hb2, hb3, hb4, hb5, hb6, hb7⟩
  clear hb0 hb1 hb2 hb3 hb4 hb5 hb6 hb7
  go_enter Tryz.func139, Tryz.ntmps139
  go_wp2_with fail
  refine hq.mono ?_
  rintro e w1 ⟨S', v', rfl, s1⟩
  clear hq c12 c13 c14 c15 c16 c17 c18 c19 c20 c21
  have s2 : St o (boxI Q.X (pgW A Q x).toArray 105 :: stkI S' v' x.sv.st :: stkI Q.S Q.v x.fm.st :: svI Q.S2 Q.v2 x.sm x.sv :: ownI 79 2 Q.lv x.li.length (insCells x.li) :: ownI 2 1 Q.hv x.hd.length (clCells x.hd) :: ownI 2 1 Q.tv x.td.length (clCells x.td) :: R) w1 := s1.swap
  have hc : ∀ j, w1.cell? ⟨Q.X, j, none⟩ = (pgV A Q x)[j]? := fun j => s2.cell 0 rfl j
  have hf : ∀ j, w1.frozen? ⟨Q.X, j, none⟩ = false := fun j => s2.frozen 0 rfl j
  have s3 := St.writesL [.int .i64 x.sv.pl, .pointer (some ⟨S', 0, none⟩), .int .i64 b0, .int .i64 b1, .int .i64 b2, .int .i64 b3, .int .i64 b4, .int .i64 b5, .int .i64 b6, .int .i64 b7] 0 s2
  have s4 := (s3.writeL 22 (.slice none 0 0)).writeL 11 (.int .i64 (x.tr + 1))
  have e3 : ((setL (pgW A Q x) 0 [.int .i64 x.sv.pl, .pointer (some ⟨S', 0, none⟩), .int .i64 b0, .int .i64 b1, .int .i64 b2, .int .i64 b3, .int .i64 b4, .int .i64 b5, .int .i64 b6, .int .i64 b7]).set 22 (.slice none 0 0)).set 11 (.int .i64 (x.tr + 1)) = pgW A { Q with S := S', v := v', hv := .slice none 0 0 } x.again := by
    obtain ⟨h0, h1, h2, h3, h4, h5, h6, h7⟩ := HB.out
    rw [← h0, ← h1, ← h2, ← h3, ← h4, ← h5, ← h6, ← h7]
    kernel_rfl
  rw [e3] at s4
  have s5 : St o (pgC A { Q with S := S', v := v', hv := .slice none 0 0 } x.again ++ R) _ := (St.popAt (pre := [_, _]) s4).empty 4 rfl 2 1
  simp only [World.setCells, Nat.reduceAdd] at s5
  have H := hid s5
  clear s1 s2 s3 s4 s5 e2 e3
  have c0 : w1.cell? ⟨Q.X, 0, none⟩ = some (.int .i64 x.fm.pl) := hc 0
  have c1 : w1.cell? ⟨Q.X, 1, none⟩ = some (.pointer (some ⟨Q.S, 0, none⟩)) := hc 1
  have c2 : w1.cell? ⟨Q.X, 2, none⟩ = some (x.fm.l 0) := hc 2
  have c3 : w1.cell? ⟨Q.X, 3, none⟩ = some (x.fm.l 1) := hc 3
  have c4 : w1.cell? ⟨Q.X, 4, none⟩ = some (x.fm.l 2) := hc 4
  have c5 : w1.cell? ⟨Q.X, 5, none⟩ = some (x.fm.l 3) := hc 5
  have c6 : w1.cell? ⟨Q.X, 6, none⟩ = some (x.fm.l 4) := hc 6
  have c7 : w1.cell? ⟨Q.X, 7, none⟩ = some (x.fm.l 5) := hc 7
  have c8 : w1.cell? ⟨Q.X, 8, none⟩ = some (x.fm.l 6) := hc 8
  have c9 : w1.cell? ⟨Q.X, 9, none⟩ = some (x.fm.l 7) := hc 9
  have c11 : w1.cell? ⟨Q.X, 11, none⟩ = some (.int .i64 x.tr) := hc 11
  have c22 : w1.cell? ⟨Q.X, 22, none⟩ = some (Q.hv) := hc 22
  clear hc e1
  go_wp2
  go_end0
  exact ⟨rfl, S', v', H.out⟩
end
end Go.Proofs.YthbcbjkgjgmegaaGreat
