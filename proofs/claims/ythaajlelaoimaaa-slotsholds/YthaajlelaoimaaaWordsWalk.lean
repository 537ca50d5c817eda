/- SlotsWords's walk: words are what was put there last, whatever is done to heads. -/
import Derived.Test.YthaajlelaoimaaaFar
import Derived.BigQuiet
namespace Go.Proofs.Ythaajlelaoimaaa
open Go.RowKit
set_option linter.unusedVariables false
set_option linter.unusedSimpArgs false
attribute [local go_sem ↓] Go.wp_at_zero Go.wp_at_succ

section
variable {o w : World} {ex : List It} {t r c q f n : Nat} {hs : List Hd} {ws : List Int}
theorem word_in {n k : Nat} (hk : k < n) (b : Nat) (hb : b < 2) : wordAt n (k : Int) (b : Int) = some (k * 2 + b) := by
  unfold wordAt
  rw [if_pos ⟨by omega, by omega, by omega, by omega⟩]
  rfl
theorem word_get (h : TSt o ex t r c q f n hs ws w) {k : Nat} (hk : k < n) (b : Nat) (hb : b < 2) :
    Calls Try.prog 27 #[.pointer (some ⟨t, 0, none⟩), .int .i64 k, .int .i64 (b : Int)] w fun e w' => e = .returned (.tuple #[.int .u64 (ws.getD (k * 2 + b) 0), .int .i64 0]) ∧ TSt o ex t r c q f n hs ws w' := by
  have := h.word (k : Int) (b : Int)
  simp only [wordR, wordE, word_in hk b hb] at this
  exact this
theorem word_put (h : TSt o ex t r c q f n hs ws w) {k : Nat} (hk : k < n) (b : Nat) (hb : b < 2) (x : Int) :
    Calls Try.prog 25 #[.pointer (some ⟨t, 0, none⟩), .int .i64 k, .int .i64 (b : Int), .int .u64 x] w fun e w' => e = .returned (.int .i64 0) ∧ TSt o ex t r c q f n hs (ws.set (k * 2 + b) x) w' := by
  have := h.put (k : Int) (b : Int) x
  simp only [putW, wordE, word_in hk b hb] at this
  exact this
theorem box_word {X : Nat} {ty : TypeId} (h : (boxI X (wdCells ws).toArray ty).P w) {i : Nat} (hi : i < ws.length) : w.cell? ⟨X, i, none⟩ = some (.int .u64 (ws.getD i 0)) := by
  refine (cell_of_heap h).trans ?_
  have := wdCells_at ws i hi
  simpa [List.getD, hi] using this
end
theorem TSt.drewN {o w : World} {ex : List It} {t r c q f n : Nat} {hs : List Hd} {ws : List Int} (h : TSt o ex t r c q f n hs ws w) (k : Nat) : TSt o ex t r c q f n hs ws (w.drewN k) := h.calm ⟨rfl, rfl, rfl, Nat.le_refl _, fun _ _ _ => rfl⟩

set_option maxRecDepth 100000 in
set_option maxHeartbeats 4000000 in
theorem words_walk (a : Option Addr) (len cap : Nat) (ops : Nat → OpD) (w : World) (hs : ScriptAt w a len ops) (hlen : len * 48 ≤ 140737488351232) :
    Calls Try.prog 5 #[.slice a len cap] w fun e w' => e = .returned (.bool true) ∧ Kept (fun _ => False) w w' := by
  have HS : Hid (ScriptAt w a len ops) := hs
  clear hs
  go_enter Try.func5, Try.ntmps5
  go_wp2_with fail
  refine (awake_any _).mono ?_
  rintro e wa ⟨rfl, hka⟩
  have hA := (St.nil w).calm hka
  have hN := TSt.new hA 8 (by omega) (by omega)
  clear hka
  go_wp2_with fail
  refine hN.mono ?_
  rintro e w1 ⟨t, r, c, q, f, rfl, h1⟩
  clear hN hA
  have h2 : TSt w [boxI w1.heap.size (wdCells (List.replicate 16 0)).toArray 67] t r c q f 8 (List.replicate 8 Hd.zero) (List.replicate 16 0) (w1.alloc (.cells (wdCells (List.replicate 16 0)).toArray 67)) := h1.box _ 67
  have hz : (wdCells (List.replicate 16 0)).toArray = #[.int .u64 0, .int .u64 0, .int .u64 0, .int .u64 0, .int .u64 0, .int .u64 0, .int .u64 0, .int .u64 0, .int .u64 0, .int .u64 0, .int .u64 0, .int .u64 0, .int .u64 0, .int .u64 0, .int .u64 0, .int .u64 0] := rfl
  rw [hz] at h2
  go_wp2_with fail
  rw [← hz] at h2 ⊢
  clear hz h1
  generalize w1.alloc (.cells (wdCells (List.replicate 16 0)).toArray 67) = w2 at *
  generalize w1.heap.size = X at *
  go_loopw [7] (fun i wr => ∃ (j : Nat) (hs : List Hd) (ws : List Int), i = .int .i64 j ∧ j ≤ len ∧ HsOk hs j ∧ TSt w [boxI X (wdCells ws).toArray 67] t r c q f 8 hs ws wr) (fun i _ => len - (intOf i).toNat)
  case atStart => exact ⟨0, _, _, rfl, Nat.zero_le _, HsOk.rep 8 _, h2⟩
  case round =>
    clear h2
    obtain ⟨j, hs, ws, rfl, hj, hok, hT⟩ := hrel
    have hj0 : (0 : Int) ≤ (j : Int) := Int.natCast_nonneg _
    have HOK : Hid (HsOk hs j) := hok
    clear hok
    by_cases hlt : j < len
    · have HL : Hid (j < len) := hlt
      obtain ⟨b0, off, rfl, hops⟩ : ∃ b off, a = some ⟨b, off, none⟩ ∧ ∀ i, i < len → OpAt w b (off + i * 6) (ops i) := by
        rcases HS.out with h0 | h
        · omega
        · exact h
      have ho := (hops j hlt).kept hT.same
      clear hops
      generalize ops j = op at ho
      obtain ⟨oo, kind, os, og, on, ox⟩ := op
      obtain ⟨o0, o1, o2, o3, o4, o5⟩ := ho
      simp only at o0 o1 o2 o3 o4 o5
      have hjl : (j : Int) < (len : Int) := by omega
      have hjb : (j : Int) ≤ 2932031007402 := by omega
      obtain ⟨k, hk, hk8⟩ : ∃ k : Nat, bits .and .i64 os 7 = (k : Int) ∧ k < 8 := ⟨(os % 8).toNat, by rw [and7]; omega, by omega⟩
      obtain ⟨m, hm, hm0, hm7⟩ : ∃ m : Int, bits .and .i64 on 7 = m ∧ 0 ≤ m ∧ m ≤ 7 := ⟨on % 8, and7 on, by omega, by omega⟩
      obtain ⟨b, hb, hb2⟩ : ∃ b : Nat, bits .and .i64 on 1 = (b : Int) ∧ b < 2 := ⟨(on % 2).toNat, by rw [and1]; omega, by omega⟩
      have hk0 : (0 : Int) ≤ (k : Int) := Int.natCast_nonneg _
      have hk7 : (k : Int) < 8 := by omega
      have hb0 : (0 : Int) ≤ (b : Int) := Int.natCast_nonneg _
      have hb1 : (b : Int) < 2 := by omega
      have hB := hT.box #[.bool oo, .int .i64 kind, .int .i64 os, .int .i64 og, .int .i64 on, .int .u64 ox] 39
      clear hT
      by_cases k2 : kind = 2
      · subst k2
        go_wp2_with fail
        generalize wr.alloc (.cells #[.bool oo, .int .i64 2, .int .i64 os, .int .i64 og, .int .i64 on, .int .u64 ox] 39) = W0 at *
        generalize wr.heap.size = B at *
        refine (TSt.claim hB HOK.out (by omega) _ _).mono ?_
        rintro e u ⟨rfl, hU⟩
        have HOK1 : Hid (HsOk ((claimOp (1 + m)).H hs k) (j + 1)) := claim_keeps HOK.out _ _
        clear hB
        generalize (claimOp (1 + m)).H hs k = hs1 at *

        have hc0 : Hid (∀ W, TSt w [boxI B #[.bool oo, .int .i64 2, .int .i64 os, .int .i64 og, .int .i64 on, .int .u64 ox] 39, boxI X (wdCells ws).toArray 67] t r c q f 8 hs1 ws W → Calls Try.prog 27 #[.pointer (some ⟨t, 0, none⟩), .int .i64 k, .int .i64 0] W fun e w' => e = .returned (.tuple #[.int .u64 ((ws).getD (k * 2) 0), .int .i64 0]) ∧ TSt w [boxI B #[.bool oo, .int .i64 2, .int .i64 os, .int .i64 og, .int .i64 on, .int .u64 ox] 39, boxI X (wdCells ws).toArray 67] t r c q f 8 hs1 ws w') := fun W h => word_get h hk8 0 (by omega)
        have hc1 : Hid (∀ W, TSt w [boxI B #[.bool oo, .int .i64 2, .int .i64 os, .int .i64 og, .int .i64 on, .int .u64 ox] 39, boxI X (wdCells ws).toArray 67] t r c q f 8 hs1 ws W → Calls Try.prog 27 #[.pointer (some ⟨t, 0, none⟩), .int .i64 k, .int .i64 1] W fun e w' => e = .returned (.tuple #[.int .u64 ((ws).getD (k * 2 + 1) 0), .int .i64 0]) ∧ TSt w [boxI B #[.bool oo, .int .i64 2, .int .i64 os, .int .i64 og, .int .i64 on, .int .u64 ox] 39, boxI X (wdCells ws).toArray 67] t r c q f 8 hs1 ws w') := fun W h => word_get h hk8 1 (by omega)
        generalize hga : (ws).getD (k * 2) 0 = ga at hc0
        generalize hgb : (ws).getD (k * 2 + 1) 0 = gb at hc1
        have HGA : Hid _ := hga
        have HGB : Hid _ := hgb
        clear hga hgb
        go_wp2_with fail
        refine (hc0.out _ hU).mono ?_
        rintro e v1 ⟨rfl, hV1⟩
        clear hU
        go_wp2_with fail
        refine (hc1.out _ hV1).mono ?_
        rintro e v2 ⟨rfl, hV2⟩
        clear hV1 hc0 hc1
        have x0 := box_word (hV2.st.get 5 rfl) (i := k * 2) (by rw [hV2.wn]; omega)
        have x1 := box_word (hV2.st.get 5 rfl) (i := k * 2 + 1) (by rw [hV2.wn]; omega)
        rw [HGA.out] at x0
        rw [HGB.out] at x1
        have q0 : (ga != ga) = false := by simp
        have q1 : (gb != gb) = false := by simp
        have HU : Hid _ := hV2.pop
        clear hV2
        go_wp2
        go_roundw
        case rel => exact ⟨j + 1, _, _, by go_num, hlt, HOK1.out, HU.out⟩
        case measure => have := HL.out; simp [intOf]; omega
      have e2 : (kind == 2) = false := by simpa using k2
      clear k2
      by_cases k3 : kind = 3
      · subst k3
        go_wp2_with fail
        generalize wr.alloc (.cells #[.bool oo, .int .i64 3, .int .i64 os, .int .i64 og, .int .i64 on, .int .u64 ox] 39) = W0 at *
        generalize wr.heap.size = B at *
        refine (TSt.ready hB HOK.out _ _ _).mono ?_
        rintro e u ⟨rfl, hU⟩
        have HOK1 : Hid (HsOk ((readyOp og 1).H hs k) (j + 1)) := ready_keeps HOK.out _ _ _
        clear hB
        generalize (readyOp og 1).H hs k = hs1 at *

        have hc0 : Hid (∀ W, TSt w [boxI B #[.bool oo, .int .i64 3, .int .i64 os, .int .i64 og, .int .i64 on, .int .u64 ox] 39, boxI X (wdCells ws).toArray 67] t r c q f 8 hs1 ws W → Calls Try.prog 27 #[.pointer (some ⟨t, 0, none⟩), .int .i64 k, .int .i64 0] W fun e w' => e = .returned (.tuple #[.int .u64 ((ws).getD (k * 2) 0), .int .i64 0]) ∧ TSt w [boxI B #[.bool oo, .int .i64 3, .int .i64 os, .int .i64 og, .int .i64 on, .int .u64 ox] 39, boxI X (wdCells ws).toArray 67] t r c q f 8 hs1 ws w') := fun W h => word_get h hk8 0 (by omega)
        have hc1 : Hid (∀ W, TSt w [boxI B #[.bool oo, .int .i64 3, .int .i64 os, .int .i64 og, .int .i64 on, .int .u64 ox] 39, boxI X (wdCells ws).toArray 67] t r c q f 8 hs1 ws W → Calls Try.prog 27 #[.pointer (some ⟨t, 0, none⟩), .int .i64 k, .int .i64 1] W fun e w' => e = .returned (.tuple #[.int .u64 ((ws).getD (k * 2 + 1) 0), .int .i64 0]) ∧ TSt w [boxI B #[.bool oo, .int .i64 3, .int .i64 os, .int .i64 og, .int .i64 on, .int .u64 ox] 39, boxI X (wdCells ws).toArray 67] t r c q f 8 hs1 ws w') := fun W h => word_get h hk8 1 (by omega)
        generalize hga : (ws).getD (k * 2) 0 = ga at hc0
        generalize hgb : (ws).getD (k * 2 + 1) 0 = gb at hc1
        have HGA : Hid _ := hga
        have HGB : Hid _ := hgb
        clear hga hgb
        go_wp2_with fail
        refine (hc0.out _ hU).mono ?_
        rintro e v1 ⟨rfl, hV1⟩
        clear hU
        go_wp2_with fail
        refine (hc1.out _ hV1).mono ?_
        rintro e v2 ⟨rfl, hV2⟩
        clear hV1 hc0 hc1
        have x0 := box_word (hV2.st.get 5 rfl) (i := k * 2) (by rw [hV2.wn]; omega)
        have x1 := box_word (hV2.st.get 5 rfl) (i := k * 2 + 1) (by rw [hV2.wn]; omega)
        rw [HGA.out] at x0
        rw [HGB.out] at x1
        have q0 : (ga != ga) = false := by simp
        have q1 : (gb != gb) = false := by simp
        have HU : Hid _ := hV2.pop
        clear hV2
        go_wp2
        go_roundw
        case rel => exact ⟨j + 1, _, _, by go_num, hlt, HOK1.out, HU.out⟩
        case measure => have := HL.out; simp [intOf]; omega
      have e3 : (kind == 3) = false := by simpa using k3
      clear k3
      by_cases k5 : kind = 5
      · subst k5
        go_wp2_with fail
        generalize wr.alloc (.cells #[.bool oo, .int .i64 5, .int .i64 os, .int .i64 og, .int .i64 on, .int .u64 ox] 39) = W0 at *
        generalize wr.heap.size = B at *
        refine (TSt.doom hB HOK.out _ _ _).mono ?_
        rintro e u ⟨rfl, hU⟩
        have HOK1 : Hid (HsOk ((doomOp og 1).H hs k) (j + 1)) := doom_keeps HOK.out _ _ _
        clear hB
        generalize (doomOp og 1).H hs k = hs1 at *

        have hc0 : Hid (∀ W, TSt w [boxI B #[.bool oo, .int .i64 5, .int .i64 os, .int .i64 og, .int .i64 on, .int .u64 ox] 39, boxI X (wdCells ws).toArray 67] t r c q f 8 hs1 ws W → Calls Try.prog 27 #[.pointer (some ⟨t, 0, none⟩), .int .i64 k, .int .i64 0] W fun e w' => e = .returned (.tuple #[.int .u64 ((ws).getD (k * 2) 0), .int .i64 0]) ∧ TSt w [boxI B #[.bool oo, .int .i64 5, .int .i64 os, .int .i64 og, .int .i64 on, .int .u64 ox] 39, boxI X (wdCells ws).toArray 67] t r c q f 8 hs1 ws w') := fun W h => word_get h hk8 0 (by omega)
        have hc1 : Hid (∀ W, TSt w [boxI B #[.bool oo, .int .i64 5, .int .i64 os, .int .i64 og, .int .i64 on, .int .u64 ox] 39, boxI X (wdCells ws).toArray 67] t r c q f 8 hs1 ws W → Calls Try.prog 27 #[.pointer (some ⟨t, 0, none⟩), .int .i64 k, .int .i64 1] W fun e w' => e = .returned (.tuple #[.int .u64 ((ws).getD (k * 2 + 1) 0), .int .i64 0]) ∧ TSt w [boxI B #[.bool oo, .int .i64 5, .int .i64 os, .int .i64 og, .int .i64 on, .int .u64 ox] 39, boxI X (wdCells ws).toArray 67] t r c q f 8 hs1 ws w') := fun W h => word_get h hk8 1 (by omega)
        generalize hga : (ws).getD (k * 2) 0 = ga at hc0
        generalize hgb : (ws).getD (k * 2 + 1) 0 = gb at hc1
        have HGA : Hid _ := hga
        have HGB : Hid _ := hgb
        clear hga hgb
        go_wp2_with fail
        refine (hc0.out _ hU).mono ?_
        rintro e v1 ⟨rfl, hV1⟩
        clear hU
        go_wp2_with fail
        refine (hc1.out _ hV1).mono ?_
        rintro e v2 ⟨rfl, hV2⟩
        clear hV1 hc0 hc1
        have x0 := box_word (hV2.st.get 5 rfl) (i := k * 2) (by rw [hV2.wn]; omega)
        have x1 := box_word (hV2.st.get 5 rfl) (i := k * 2 + 1) (by rw [hV2.wn]; omega)
        rw [HGA.out] at x0
        rw [HGB.out] at x1
        have q0 : (ga != ga) = false := by simp
        have q1 : (gb != gb) = false := by simp
        have HU : Hid _ := hV2.pop
        clear hV2
        go_wp2
        go_roundw
        case rel => exact ⟨j + 1, _, _, by go_num, hlt, HOK1.out, HU.out⟩
        case measure => have := HL.out; simp [intOf]; omega
      have e5 : (kind == 5) = false := by simpa using k5
      clear k5
      by_cases k6 : kind = 6
      · subst k6
        go_wp2_with fail
        generalize wr.alloc (.cells #[.bool oo, .int .i64 6, .int .i64 os, .int .i64 og, .int .i64 on, .int .u64 ox] 39) = W0 at *
        generalize wr.heap.size = B at *
        refine (TSt.free hB HOK.out _ _).mono ?_
        rintro e u ⟨rfl, hU⟩
        have HOK1 : Hid (HsOk ((freeOp og).H hs k) (j + 1)) := free_keeps HOK.out _ _
        clear hB
        generalize (freeOp og).H hs k = hs1 at *

        have hc0 : Hid (∀ W, TSt w [boxI B #[.bool oo, .int .i64 6, .int .i64 os, .int .i64 og, .int .i64 on, .int .u64 ox] 39, boxI X (wdCells ws).toArray 67] t r c q f 8 hs1 ws W → Calls Try.prog 27 #[.pointer (some ⟨t, 0, none⟩), .int .i64 k, .int .i64 0] W fun e w' => e = .returned (.tuple #[.int .u64 ((ws).getD (k * 2) 0), .int .i64 0]) ∧ TSt w [boxI B #[.bool oo, .int .i64 6, .int .i64 os, .int .i64 og, .int .i64 on, .int .u64 ox] 39, boxI X (wdCells ws).toArray 67] t r c q f 8 hs1 ws w') := fun W h => word_get h hk8 0 (by omega)
        have hc1 : Hid (∀ W, TSt w [boxI B #[.bool oo, .int .i64 6, .int .i64 os, .int .i64 og, .int .i64 on, .int .u64 ox] 39, boxI X (wdCells ws).toArray 67] t r c q f 8 hs1 ws W → Calls Try.prog 27 #[.pointer (some ⟨t, 0, none⟩), .int .i64 k, .int .i64 1] W fun e w' => e = .returned (.tuple #[.int .u64 ((ws).getD (k * 2 + 1) 0), .int .i64 0]) ∧ TSt w [boxI B #[.bool oo, .int .i64 6, .int .i64 os, .int .i64 og, .int .i64 on, .int .u64 ox] 39, boxI X (wdCells ws).toArray 67] t r c q f 8 hs1 ws w') := fun W h => word_get h hk8 1 (by omega)
        generalize hga : (ws).getD (k * 2) 0 = ga at hc0
        generalize hgb : (ws).getD (k * 2 + 1) 0 = gb at hc1
        have HGA : Hid _ := hga
        have HGB : Hid _ := hgb
        clear hga hgb
        go_wp2_with fail
        refine (hc0.out _ hU).mono ?_
        rintro e v1 ⟨rfl, hV1⟩
        clear hU
        go_wp2_with fail
        refine (hc1.out _ hV1).mono ?_
        rintro e v2 ⟨rfl, hV2⟩
        clear hV1 hc0 hc1
        have x0 := box_word (hV2.st.get 5 rfl) (i := k * 2) (by rw [hV2.wn]; omega)
        have x1 := box_word (hV2.st.get 5 rfl) (i := k * 2 + 1) (by rw [hV2.wn]; omega)
        rw [HGA.out] at x0
        rw [HGB.out] at x1
        have q0 : (ga != ga) = false := by simp
        have q1 : (gb != gb) = false := by simp
        have HU : Hid _ := hV2.pop
        clear hV2
        go_wp2
        go_roundw
        case rel => exact ⟨j + 1, _, _, by go_num, hlt, HOK1.out, HU.out⟩
        case measure => have := HL.out; simp [intOf]; omega
      have e6 : (kind == 6) = false := by simpa using k6
      clear k6
      go_wp2_with fail
      generalize wr.alloc (.cells #[.bool oo, .int .i64 kind, .int .i64 os, .int .i64 og, .int .i64 on, .int .u64 ox] 39) = W0 at *
      generalize wr.heap.size = B at *
      refine (word_put hB hk8 b hb2 ox).mono ?_
      rintro e u ⟨rfl, hU0⟩
      have d4 : u.cell? ⟨B, 4, none⟩ = some (.int .i64 on) := hU0.cell 0 rfl 4
      have d5 : u.cell? ⟨B, 5, none⟩ = some (.int .u64 ox) := hU0.cell 0 rfl 5
      have y0 : u.frozen? ⟨X, k * 2 + b, none⟩ = false := hU0.frozen 1 rfl (k * 2 + b)
      have hp16 : k * 2 + b < ws.length := by have := hB.wn; omega
      have y1 : u.cell? ⟨X, k * 2 + b, none⟩ = some (.int .u64 (ws[k * 2 + b])) := (hU0.cell 1 rfl (k * 2 + b)).trans (by simpa using wdCells_at ws (k * 2 + b) hp16)
      generalize ws[k * 2 + b] = old at y1
      have HW : Hid (TSt w [boxI B #[.bool oo, .int .i64 kind, .int .i64 os, .int .i64 og, .int .i64 on, .int .u64 ox] 39, boxI X (wdCells (ws.set (k * 2 + b) ox)).toArray 67] t r c q f 8 hs (ws.set (k * 2 + b) ox) (u.setCell ⟨X, k * 2 + b, none⟩ (.int .u64 ox))) := by
        have := hU0.write 1 rfl (k * 2 + b) (.int .u64 ox)
        simp only [List.setIfInBounds_toArray, wdCells_set, List.set_cons_succ, List.set_cons_zero] at this
        exact this
      have HW' : Hid (TSt w [boxI B #[.bool oo, .int .i64 kind, .int .i64 os, .int .i64 og, .int .i64 on, .int .u64 ox] 39, boxI X (wdCells (ws.set (k * 2 + b) ox)).toArray 67] t r c q f 8 hs (ws.set (k * 2 + b) ox) (u.drew.setCell ⟨X, k * 2 + b, none⟩ (.int .u64 ox))) := by
        have := hU0.drew.write 1 rfl (k * 2 + b) (.int .u64 ox)
        simp only [List.setIfInBounds_toArray, wdCells_set, List.set_cons_succ, List.set_cons_zero] at this
        exact this
      clear hB hU0
      generalize ws.set (k * 2 + b) ox = ws1 at *
      go_wp2_with fail
      go_region
      all_goals
        clear d4 d5 y0 y1
        have hU := HW'.out
        clear HW HW'

        have hc0 : Hid (∀ W, TSt w [boxI B #[.bool oo, .int .i64 kind, .int .i64 os, .int .i64 og, .int .i64 on, .int .u64 ox] 39, boxI X (wdCells ws1).toArray 67] t r c q f 8 hs ws1 W → Calls Try.prog 27 #[.pointer (some ⟨t, 0, none⟩), .int .i64 k, .int .i64 0] W fun e w' => e = .returned (.tuple #[.int .u64 ((ws1).getD (k * 2) 0), .int .i64 0]) ∧ TSt w [boxI B #[.bool oo, .int .i64 kind, .int .i64 os, .int .i64 og, .int .i64 on, .int .u64 ox] 39, boxI X (wdCells ws1).toArray 67] t r c q f 8 hs ws1 w') := fun W h => word_get h hk8 0 (by omega)
        have hc1 : Hid (∀ W, TSt w [boxI B #[.bool oo, .int .i64 kind, .int .i64 os, .int .i64 og, .int .i64 on, .int .u64 ox] 39, boxI X (wdCells ws1).toArray 67] t r c q f 8 hs ws1 W → Calls Try.prog 27 #[.pointer (some ⟨t, 0, none⟩), .int .i64 k, .int .i64 1] W fun e w' => e = .returned (.tuple #[.int .u64 ((ws1).getD (k * 2 + 1) 0), .int .i64 0]) ∧ TSt w [boxI B #[.bool oo, .int .i64 kind, .int .i64 os, .int .i64 og, .int .i64 on, .int .u64 ox] 39, boxI X (wdCells ws1).toArray 67] t r c q f 8 hs ws1 w') := fun W h => word_get h hk8 1 (by omega)
        generalize hga : (ws1).getD (k * 2) 0 = ga at hc0
        generalize hgb : (ws1).getD (k * 2 + 1) 0 = gb at hc1
        have HGA : Hid _ := hga
        have HGB : Hid _ := hgb
        clear hga hgb
        go_wp2_with fail
        refine (hc0.out _ hU).mono ?_
        rintro e v1 ⟨rfl, hV1⟩
        clear hU
        go_wp2_with fail
        refine (hc1.out _ hV1).mono ?_
        rintro e v2 ⟨rfl, hV2⟩
        clear hV1 hc0 hc1
        have x0 := box_word (hV2.st.get 5 rfl) (i := k * 2) (by rw [hV2.wn]; omega)
        have x1 := box_word (hV2.st.get 5 rfl) (i := k * 2 + 1) (by rw [hV2.wn]; omega)
        rw [HGA.out] at x0
        rw [HGB.out] at x1
        have q0 : (ga != ga) = false := by simp
        have q1 : (gb != gb) = false := by simp
        have HU : Hid _ := hV2.pop
        clear hV2
        go_wp2
        go_roundw
        case rel => exact ⟨j + 1, _, _, by go_num, hlt, HOK.out.more (by omega), HU.out⟩
        case measure => have := HL.out; simp [intOf]; omega
    · have hjl : ¬ (j : Int) < (len : Int) := by omega
      obtain ⟨y, hy⟩ : ∃ y, y = wr := ⟨_, rfl⟩
      subst hy
      go_wp2_with fail
      refine hT.allof.mono ?_
      rintro e u5 ⟨va, rfl, hA0⟩
      clear hT
      obtain ⟨ga, cc, rfl, _, _⟩ := (hA0.own 0 rfl).form (by omega)
      have LM : Hid (hs.length = 8 ∧ ws.length = 8 * 2) := ⟨hA0.hn, hA0.wn⟩
      clear HOK hjl hlt hj hj0
      go_wp2_with fail
      go_loopw [16] (fun i wr => ∃ j : Nat, i = .int .i64 j ∧ j ≤ 8 ∧ TSt w [ownI 53 8 (.slice (some ⟨ga, 0, none⟩) 8 cc) 8 (slCells (slots hs ws)), boxI X (wdCells ws).toArray 67] t r c q f 8 hs ws wr) (fun i _ => 8 - (intOf i).toNat)
      case atStart => exact ⟨0, rfl, Nat.zero_le _, hA0⟩
      case round =>
        clear hA0
        obtain ⟨j, rfl, hj, hT⟩ := hrel
        have hj0 : (0 : Int) ≤ (j : Int) := Int.natCast_nonneg _
        by_cases hlt : j < 8
        · have hjn : (j : Int) < 8 := by omega
          have hsl := slots_at hs ws (by rw [LM.out.1, LM.out.2]) j (by rw [LM.out.1]; exact hlt)
          obtain ⟨p0, p1, p2, p3, p4, p5, p6, p7⟩ := told_cells (hT.own 0 rfl) hlt hsl
          simp only [mkSl] at p6 p7
          have x0 := box_word (hT.st.get 5 rfl) (i := j * 2) (by rw [hT.wn]; omega)
          have x1 := box_word (hT.st.get 5 rfl) (i := j * 2 + 1) (by rw [hT.wn]; omega)
          clear p0 p1 p2 p3 p4 p5 hsl
          generalize ws.getD (j * 2) 0 = wa at p6 x0
          generalize ws.getD (j * 2 + 1) 0 = wb at p7 x1
          have hE := eqSig wa wb
          have HT : Hid _ := hT
          clear hT
          go_wp2_with fail
          go_quiet (fail)
          go_wp2
          go_roundw
          case rel => exact ⟨j + 1, by go_num, hlt, HT.out.drewN _⟩
          case measure => simp [intOf]; omega
        · have hjn : ¬ (j : Int) < 8 := by omega
          have HK := hT.same
          clear hT
          go_wp2
          go_ret
          exact ⟨rfl, HK⟩
end Go.Proofs.Ythaajlelaoimaaa

