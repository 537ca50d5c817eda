/- SlotsApart's walk: whatever is done to one slot, the others are as they were. -/
import Derived.Test.YthaajlelaoimaaaFar
import Derived.BigQuiet
namespace Go.Proofs.Ythaajlelaoimaaa
open Go.RowKit
set_option linter.unusedVariables false
set_option linter.unusedSimpArgs false
attribute [local go_sem ↓] Go.wp_at_zero Go.wp_at_succ

theorem TSt.drewN {o w : World} {ex : List It} {t r c q f n : Nat} {hs : List Hd} {ws : List Int} (h : TSt o ex t r c q f n hs ws w) (k : Nat) : TSt o ex t r c q f n hs ws (w.drewN k) := h.calm ⟨rfl, rfl, rfl, Nat.le_refl _, fun _ _ _ => rfl⟩

set_option maxRecDepth 100000 in
set_option maxHeartbeats 4000000 in
theorem apart_walk (size at_ : Int) (a : Option Addr) (len cap : Nat) (ops : Nat → OpD) (w : World) (hs : ScriptAt w a len ops) (hlen : len * 48 ≤ 140737488351232) :
    Calls Try.prog 7 #[.int .i64 size, .int .i64 at_, .slice a len cap] w fun e w' => e = .returned (.bool true) ∧ Kept (fun _ => False) w w' := by
  have HS : Hid (ScriptAt w a len ops) := hs
  clear hs
  obtain ⟨n, hn, n1, n8⟩ : ∃ n : Nat, 1 + bits .and .i64 size 7 = (n : Int) ∧ 1 ≤ n ∧ n ≤ 8 := ⟨(1 + size % 8).toNat, by rw [and7]; omega, by omega, by omega⟩
  obtain ⟨s, hs7, s7⟩ : ∃ s : Nat, bits .and .i64 at_ 7 = (s : Int) ∧ s ≤ 7 := ⟨(at_ % 8).toNat, by rw [and7]; omega, by omega⟩
  have hn1 : (1 : Int) ≤ (n : Int) := by omega
  have hn8 : (n : Int) ≤ 8 := by omega
  have hs0 : (0 : Int) ≤ (s : Int) := by omega
  have hs8 : (s : Int) ≤ 7 := by omega
  go_enter Try.func7, Try.ntmps7
  go_wp2_with fail
  refine (awake_any _).mono ?_
  rintro e wa ⟨rfl, hka⟩
  have hA := (St.nil w).calm hka
  have hN := TSt.new hA n n1 n8
  clear hka
  go_wp2_with fail
  refine hN.mono ?_
  rintro e w1 ⟨t, r, c, q, f, rfl, h1⟩
  clear hN hA hn
  go_wp2_with fail
  go_loopw [11] (fun i wr => ∃ (j : Nat) (hs : List Hd) (ws : List Int), i = .int .i64 j ∧ j ≤ n ∧ HsOk hs (j * 2) ∧ TSt w [] t r c q f n hs ws wr) (fun i _ => n - (intOf i).toNat)
  case atStart => exact ⟨0, _, _, rfl, Nat.zero_le _, HsOk.rep n _, h1⟩
  case round =>
    clear h1
    obtain ⟨j, hs, ws, rfl, hj, hok, hT⟩ := hrel
    have hj0 : (0 : Int) ≤ (j : Int) := Int.natCast_nonneg _
    by_cases hlt : j < n
    · have hjn : (j : Int) < (n : Int) := by omega
      have HOK : Hid (HsOk hs (j * 2)) := hok
      clear hok
      go_wp2_with fail
      refine (TSt.claim hT HOK.out (by omega) _ _).mono ?_
      rintro e u1 ⟨rfl, hT1⟩
      have HOK1 : Hid (HsOk ((claimOp (1 + (j : Int))).H hs j) (j * 2 + 1)) := claim_keeps HOK.out _ _
      clear hT HOK
      generalize (claimOp (1 + (j : Int))).H hs j = hs1 at *
      go_wp2_with fail
      refine (TSt.put hT1 _ _ _).mono ?_
      rintro e u2 ⟨rfl, hT2⟩
      clear hT1
      generalize putW ws n _ _ _ = ws1 at *
      go_wp2_with fail
      refine (TSt.ready hT2 HOK1.out _ _ _).mono ?_
      rintro e u3 ⟨rfl, hT3⟩
      have HOK2 : Hid (HsOk ((readyOp 1 (5 + (j : Int))).H hs1 j) (j * 2 + 1 + 1)) := ready_keeps HOK1.out _ _ _
      have HT : Hid _ := hT3
      clear hT2 HOK1 hT3
      go_wp2
      go_roundw
      case rel => exact ⟨j + 1, _, _, by go_num, hlt, HOK2.out.more (by omega), HT.out⟩
      case measure => simp [intOf]; omega
    · have hjn : ¬ (j : Int) < (n : Int) := by omega
      have HOK0 : Hid (HsOk hs 16) := hok.more (by omega)
      clear hok hj hlt hj0
      obtain ⟨y, hy⟩ : ∃ y, y = wr := ⟨_, rfl⟩
      subst hy
      go_wp2_with fail
      refine hT.allof.mono ?_
      rintro e u0 ⟨vb, rfl, hB0⟩
      clear hT
      obtain ⟨gb, cb, rfl, _, _⟩ := (hB0.own 0 rfl).form (by omega)
      have LN : Hid (hs.length = n ∧ ws.length = n * 2) := ⟨hB0.hn, hB0.wn⟩
      obtain ⟨k, hk, hkn⟩ : ∃ k : Nat, Int.tmod (s : Int) (n : Int) = (k : Int) ∧ k < n := ⟨s % n, by rw [Int.ofNat_tmod], Nat.mod_lt _ (by omega)⟩
      have hne : ¬ (n : Int) = 0 := by omega
      have hk0 : (0 : Int) ≤ (k : Int) := Int.natCast_nonneg _
      have hkn' : (k : Int) < (n : Int) := by omega
      go_wp2_with fail
      clear hk hne hs7
      go_loopw [14] (fun i wr => ∃ (j : Nat) (hs' : List Hd) (ws' : List Int), i = .int .i64 j ∧ j ≤ len ∧ HsOk hs' (16 + j) ∧ Others n k hs' hs ws' ws ∧ TSt w [ownI 53 8 (.slice (some ⟨gb, 0, none⟩) n cb) n (slCells (slots hs ws))] t r c q f n hs' ws' wr) (fun i _ => len - (intOf i).toNat)
      case atStart => exact ⟨0, _, _, rfl, Nat.zero_le _, HOK0.out, Others.refl _ _ _ _, hB0⟩
      case round =>
        clear hB0
        obtain ⟨j, hs', ws', rfl, hj, hok, hot, hT⟩ := hrel
        have hj0 : (0 : Int) ≤ (j : Int) := Int.natCast_nonneg _
        have HOK : Hid (HsOk hs' (16 + j)) := hok
        have OT : Hid (Others n k hs' hs ws' ws) := hot
        clear hok hot
        by_cases hlt : j < len
        · have HL : Hid (j < len) := hlt
          obtain ⟨b0, off, rfl, hops⟩ : ∃ b off, a = some ⟨b, off, none⟩ ∧ ∀ i, i < len → OpAt w b (off + i * 6) (ops i) := by
            rcases HS.out with h0 | h
            · omega
            · exact h
          have ho := (hops j hlt).kept hT.same
          clear hops
          generalize ops j = op at ho
          obtain ⟨oo, kind, os, og, on, ox⟩ := op
          obtain ⟨o0, o1, o2, o3, o4, o5⟩ := ho
          simp only at o0 o1 o2 o3 o4 o5
          have hjl : (j : Int) < (len : Int) := by omega
          have hjb : (j : Int) ≤ 2932031007402 := by omega
          have hB := hT.box #[.bool oo, .int .i64 kind, .int .i64 os, .int .i64 og, .int .i64 on, .int .u64 ox] 39
          clear hT
          by_cases k2 : kind = 2
          · subst k2
            go_wp2_with fail
            generalize wr.alloc (.cells #[.bool oo, .int .i64 2, .int .i64 os, .int .i64 og, .int .i64 on, .int .u64 ox] 39) = W0 at *
            generalize wr.heap.size = B at *
            refine (TSt.claim hB HOK.out (by omega) _ _).mono ?_
            rintro e u ⟨rfl, hU⟩
            have HU : Hid _ := hU.pop
            clear hU hB
            go_wp2
            go_roundw
            case rel => exact ⟨j + 1, _, _, by go_num, hlt, by have := claim_keeps HOK.out on k; exact this, OT.out.head (claimOp on), HU.out⟩
            case measure => have := HL.out; simp [intOf]; omega
          have e2 : (kind == 2) = false := by simpa using k2
          clear k2
          by_cases k3 : kind = 3
          · subst k3
            go_wp2_with fail
            generalize wr.alloc (.cells #[.bool oo, .int .i64 3, .int .i64 os, .int .i64 og, .int .i64 on, .int .u64 ox] 39) = W0 at *
            generalize wr.heap.size = B at *
            refine (TSt.ready hB HOK.out _ _ _).mono ?_
            rintro e u ⟨rfl, hU⟩
            have HU : Hid _ := hU.pop
            clear hU hB
            go_wp2
            go_roundw
            case rel => exact ⟨j + 1, _, _, by go_num, hlt, by have := ready_keeps HOK.out og on k; exact this, OT.out.head (readyOp og on), HU.out⟩
            case measure => have := HL.out; simp [intOf]; omega
          have e3 : (kind == 3) = false := by simpa using k3
          clear k3
          by_cases k5 : kind = 5
          · subst k5
            go_wp2_with fail
            generalize wr.alloc (.cells #[.bool oo, .int .i64 5, .int .i64 os, .int .i64 og, .int .i64 on, .int .u64 ox] 39) = W0 at *
            generalize wr.heap.size = B at *
            refine (TSt.doom hB HOK.out _ _ _).mono ?_
            rintro e u ⟨rfl, hU⟩
            have HU : Hid _ := hU.pop
            clear hU hB
            go_wp2
            go_roundw
            case rel => exact ⟨j + 1, _, _, by go_num, hlt, by have := doom_keeps HOK.out og on k; exact this, OT.out.head (doomOp og on), HU.out⟩
            case measure => have := HL.out; simp [intOf]; omega
          have e5 : (kind == 5) = false := by simpa using k5
          clear k5
          by_cases k6 : kind = 6
          · subst k6
            go_wp2_with fail
            generalize wr.alloc (.cells #[.bool oo, .int .i64 6, .int .i64 os, .int .i64 og, .int .i64 on, .int .u64 ox] 39) = W0 at *
            generalize wr.heap.size = B at *
            refine (TSt.free hB HOK.out _ _).mono ?_
            rintro e u ⟨rfl, hU⟩
            have HU : Hid _ := hU.pop
            clear hU hB
            go_wp2
            go_roundw
            case rel => exact ⟨j + 1, _, _, by go_num, hlt, by have := free_keeps HOK.out og k; exact this, OT.out.head (freeOp og), HU.out⟩
            case measure => have := HL.out; simp [intOf]; omega
          have e6 : (kind == 6) = false := by simpa using k6
          clear k6
          by_cases k8 : kind = 8
          · subst k8
            go_wp2_with fail
            generalize wr.alloc (.cells #[.bool oo, .int .i64 8, .int .i64 os, .int .i64 og, .int .i64 on, .int .u64 ox] 39) = W0 at *
            generalize wr.heap.size = B at *
            refine (TSt.put hB _ _ _).mono ?_
            rintro e u ⟨rfl, hU⟩
            have HU : Hid _ := hU.pop
            clear hU hB
            go_wp2
            go_roundw
            case rel => exact ⟨j + 1, _, _, by go_num, hlt, HOK.out.more (by omega), OT.out.word n on ox, HU.out⟩
            case measure => have := HL.out; simp [intOf]; omega
          have e8 : (kind == 8) = false := by simpa using k8
          clear k8
          go_wp2_with fail
          have HU : Hid _ := hB.pop
          clear hB
          go_wp2
          go_roundw
          case rel => exact ⟨j + 1, _, _, by go_num, hlt, HOK.out.more (by omega), OT.out, HU.out⟩
          case measure => have := HL.out; simp [intOf]; omega
        · have hjl : ¬ (j : Int) < (len : Int) := by omega
          obtain ⟨y, hy⟩ : ∃ y, y = wr := ⟨_, rfl⟩
          subst hy
          go_wp2_with fail
          refine hT.allof.mono ?_
          rintro e u5 ⟨va, rfl, hA0⟩
          clear hT
          obtain ⟨ga, cc, rfl, _, _⟩ := (hA0.own 0 rfl).form (by omega)
          have LM : Hid (hs'.length = n ∧ ws'.length = n * 2) := ⟨hA0.hn, hA0.wn⟩
          clear HOK hjl hlt hj hj0
          go_wp2_with fail
          go_loopw [17] (fun i wr => ∃ j : Nat, i = .int .i64 j ∧ j ≤ n ∧ TSt w [ownI 53 8 (.slice (some ⟨ga, 0, none⟩) n cc) n (slCells (slots hs' ws')), ownI 53 8 (.slice (some ⟨gb, 0, none⟩) n cb) n (slCells (slots hs ws))] t r c q f n hs' ws' wr) (fun i _ => n - (intOf i).toNat)
          case atStart => exact ⟨0, rfl, Nat.zero_le _, hA0⟩
          case round =>
            clear hA0
            obtain ⟨j, rfl, hj, hT⟩ := hrel
            have hj0 : (0 : Int) ≤ (j : Int) := Int.natCast_nonneg _
            by_cases hlt : j < n
            · have hjn : (j : Int) < (n : Int) := by omega
              by_cases hjk : j = k
              · subst hjk
                have hd : ((j : Int) != (j : Int)) = false := by simp
                have HT : Hid _ := hT
                clear hT
                go_wp2_with fail
                go_quiet (fail)
                go_wp2
                go_roundw
                case rel => exact ⟨j + 1, by go_num, hlt, HT.out.drewN _⟩
                case measure => simp [intOf]; omega
              · have hd : ((j : Int) != (k : Int)) = true := by simp; omega
                obtain ⟨sl, hsl⟩ : ∃ sl, (slots hs ws)[j]? = some sl := ⟨_, slots_at hs ws (by rw [LN.out.1, LN.out.2]) j (by rw [LN.out.1]; exact hlt)⟩
                have hsl' : (slots hs' ws')[j]? = some sl := (OT.out.slot LM.out.1 LN.out.1 LM.out.2 LN.out.2 hlt hjk).trans hsl
                obtain ⟨p0, p1, p2, p3, p4, p5, p6, p7⟩ := told_cells (hT.own 0 rfl) hlt hsl'
                obtain ⟨q0, q1, q2, q3, q4, q5, q6, q7⟩ := told_cells (hT.own 1 rfl) hlt hsl
                obtain ⟨sgn, ssa, ssp, sth, sdm, swy, swa, swb⟩ := sl
                simp only at p0 p1 p2 p3 p4 p5 p6 p7 q0 q1 q2 q3 q4 q5 q6 q7
                have hE := eqSlot sgn ssa ssp sth sdm swy swa swb
                have HT : Hid _ := hT
                clear hT hsl hsl'
                go_wp2_with fail
                go_quiet (fail)
                go_wp2
                go_roundw
                case rel => exact ⟨j + 1, by go_num, hlt, HT.out.drewN _⟩
                case measure => simp [intOf]; omega
            · have hjn : ¬ (j : Int) < (n : Int) := by omega
              have HK := hT.same
              clear hT
              go_wp2
              go_ret
              exact ⟨rfl, HK⟩
end Go.Proofs.Ythaajlelaoimaaa

