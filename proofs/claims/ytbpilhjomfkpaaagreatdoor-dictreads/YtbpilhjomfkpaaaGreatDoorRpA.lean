/- The document's put. -/
import Derived.Test.YtbpilhjomfkpaaaGreatDoorDiL
namespace Go.Proofs.YtbpilhjomfkpaaaGreatDoor
open Go.RowKit
set_option linter.unusedVariables false
set_option linter.unusedSimpArgs false
attribute [local go_sem ↓] Go.wp_at_zero Go.wp_at_succ

def lessP (l : List Pr) (k : Int) : List Pr := l.filter fun p => decide (p.1 < k)
def moreP (l : List Pr) (k : Int) : List Pr := l.filter fun p => decide (k < p.1)
theorem filt_take {f : Pr → Bool} {l : List Pr} {j : Nat} (hj : j < l.length) : (l.take (j + 1)).filter f = (l.take j).filter f ++ (if f (l.getD j (0, 0)) = true then [l.getD j (0, 0)] else []) := by
  rw [List.take_succ_eq_append_getElem hj, List.filter_append, List.getD_eq_getElem?_getD, List.getElem?_eq_getElem hj]
  simp only [Option.getD_some]
  by_cases h : f l[j] = true
  · simp [h]
  · simp [h]
theorem ins_split {k x : Int} : ∀ {l : List Pr}, Rises l → (∀ p ∈ l, p.1 ≠ k) → insP (k, x) l = lessP l k ++ (k, x) :: moreP l k
  | [], _, _ => rfl
  | p :: l, hr, hn => by
    have hp := hn p (by simp)
    have hl := (List.pairwise_cons.1 hr).1
    unfold insP
    by_cases h : k < p.1
    · rw [if_pos h]
      have e1 : lessP (p :: l) k = [] := by
        unfold lessP
        rw [List.filter_eq_nil_iff]
        intro q hq
        rcases List.mem_cons.1 hq with rfl | hq
        · simp; omega
        · have := hl q hq; simp; omega
      have e2 : moreP (p :: l) k = p :: l := by
        unfold moreP
        rw [List.filter_eq_self]
        intro q hq
        rcases List.mem_cons.1 hq with rfl | hq
        · simpa using h
        · have := hl q hq; simp; omega
      rw [e1, e2]
      rfl
    · rw [if_neg h]
      have e1 : lessP (p :: l) k = p :: lessP l k := by unfold lessP; rw [List.filter_cons_of_pos (by simp; omega)]
      have e2 : moreP (p :: l) k = moreP l k := by unfold moreP; rw [List.filter_cons_of_neg (by simp; omega)]
      rw [e1, e2, ins_split hr.tail (fun q hq => hn q (by simp [hq]))]
      rfl
theorem pair_eta (p : Pr) : (p.1, p.2) = p := rfl
set_option maxRecDepth 100000 in
set_option maxHeartbeats 8000000 in
theorem rput_any (la : Option Addr) (m lc : Nat) (l : List Pr) (k x : Int) (w : World) (hX : EIn w la m l) (hm : m ≤ 100) :
    Calls Tryz.prog 39 #[.slice la m lc, .agg #[.int .i64 k, .int .i64 x]] w fun e w' => ∃ v, e = .returned v ∧ St w [lstE v (lessP l k ++ [(k, x)] ++ moreP l k)] w' := by
  have s0 := (St.nil w).box #[.int .i64 k, .int .i64 x] 41
  generalize hw1 : w.alloc (.cells #[.int .i64 k, .int .i64 x] 41) = w1 at *
  generalize hM : w.heap.size = M at *
  have HS0 := hid (e_nil s0)
  have HX := hid hX
  have hmi : (m : Int) ≤ 100 := by omega
  have HLn := hid hX.1
  have hbe := fun W x y => buildE1 W x y
  clear s0 hX
  go_enter Tryz.func39, Tryz.ntmps39
  go_wp2_with (first | simp only [hw1, hM])
  go_loopw [5, 6] (fun v i wr => ∃ j : Nat, i = .int .i64 j ∧ j ≤ m ∧ St w [lstE v (lessP (l.take j) k), boxI M #[.int .i64 k, .int .i64 x] 41] wr) (fun _ i _ => m - (intOf i).toNat)
  case atStart => exact ⟨0, rfl, Nat.zero_le _, HS0.out⟩
  case round =>
    obtain ⟨j, rfl, hj, hs⟩ := hrel
    by_cases hlt : j < m
    · have hjl : j < l.length := by rw [← HLn.out]; exact hlt
      obtain ⟨g, o, rfl⟩ := HX.out.addr (by omega)
      have hsd := hs.drew
      obtain ⟨e0, e1⟩ := (HX.out.kept hsd.same).cells (j := j) hlt
      have b0 : wr.drew.cell? ⟨M, 0, none⟩ = some (.int .i64 k) := hsd.cell 1 rfl 0
      have hft := filt_take (f := fun p => decide (p.1 < k)) hjl
      have hlen : (lessP (l.take j) k).length ≤ 100 := by
        have := List.length_filter_le (fun p : Pr => decide (p.1 < k)) (l.take j)
        rw [List.length_take] at this
        unfold lessP
        omega
      change lessP (l.take (j + 1)) k = lessP (l.take j) k ++ _ at hft
      generalize l.getD j (0, 0) = kv at *
      obtain ⟨ky, vl⟩ := kv
      simp only at e0 e1 hft
      have t1 : (j : Int) < (m : Int) := by omega
      have t2 : (0 : Int) ≤ (j : Int) := by omega
      have HJ := hid hlt
      have HF := hid hft
      have HSD := hid hsd
      have HLe := hid hlen
      clear hs hsd hft hjl hj hlen HS0
      generalize lessP (l.take j) k = acc at *
      by_cases hc : ky < k
      · have HF2 : Hid (lessP (l.take (j + 1)) k = acc ++ [(ky, vl)]) := hid (by rw [HF.out]; simp [hc])
        clear HF
        have e4 := hid (ein_box HSD.out ky vl)
        have s4 := hid (e_under HSD.out ky vl)
        go_upto_region 5 with fail
        go_region
        all_goals
          go_wp2_with (first | simp only [hbe] | (at_builtin; refine wpList_appE_st s4.out rfl _ _ rfl rfl _ _ _ rfl e4.out (by simp) (by have := HLe.out; simp; omega) ?_; intro v5 w5 s5; have HS5 := hid (e_drop1 s5); clear s5))
          go_roundw
        case rel => exact ⟨j + 1, by push_cast; rfl, HJ.out, by rw [HF2.out]; exact HS5.out⟩
        case measure => have := HJ.out; simp [intOf]; omega
      · have HF2 : Hid (lessP (l.take (j + 1)) k = acc) := hid (by rw [HF.out]; simp [hc])
        have tc : decide (ky < k) = false := by simpa using hc
        clear HF hc
        go_upto_region 5 with fail
        go_region
        all_goals
          go_wp2
          go_roundw
        case rel => exact ⟨j + 1, by push_cast; rfl, HJ.out, by rw [HF2.out]; exact HSD.out⟩
        case measure => have := HJ.out; simp [intOf]; omega
    · obtain rfl : j = m := by omega
      have hta : l.take j = l := List.take_of_length_le (by rw [← HLn.out]; exact Nat.le_refl _)
      rw [hta] at hs
      have t1 : ¬ (j : Int) < (j : Int) := by omega
      have hlen : (lessP l k).length ≤ 100 := by
        have := List.length_filter_le (fun p : Pr => decide (p.1 < k)) l
        rw [← HLn.out] at this
        unfold lessP
        omega
      generalize hL : lessP l k = L1 at *
      have HL := hid hL
      have b0 : wr.cell? ⟨M, 0, none⟩ = some (.int .i64 k) := hs.cell 1 rfl 0
      have b1 : wr.cell? ⟨M, 1, none⟩ = some (.int .i64 x) := hs.cell 1 rfl 1
      have e4 := hid (ein_box hs k x)
      have s4 := hid (e_under hs k x)
      have HLe := hid hlen
      clear hs hta hlen hL HS0
      go_wp2_with (first | simp only [hbe] | (at_builtin; refine wpList_appE_st s4.out rfl _ _ rfl rfl _ _ _ rfl e4.out (by simp) (by have := HLe.out; simp; omega) ?_; intro v5 w5 s5; have HS5 := hid (e_drop1 s5); clear s5))
      obtain ⟨W5, hW5⟩ : ∃ W5, W5 = w5 := ⟨_, rfl⟩
      subst hW5
      clear s4 e4 b0 b1
      go_loopw [5, 7] (fun v i wr => ∃ j2 : Nat, i = .int .i64 j2 ∧ j2 ≤ j ∧ St w [lstE v (L1 ++ [(k, x)] ++ moreP (l.take j2) k), boxI M #[.int .i64 k, .int .i64 x] 41] wr) (fun _ i _ => j - (intOf i).toNat)
      case atStart => exact ⟨0, rfl, Nat.zero_le _, by simpa [moreP] using HS5.out⟩
      case round =>
        obtain ⟨j2, rfl, hj2, hs⟩ := hrel
        by_cases hlt : j2 < j
        · have hjl : j2 < l.length := by rw [← HLn.out]; exact hlt
          obtain ⟨g, o, rfl⟩ := HX.out.addr (by omega)
          have hsd := hs.drew
          obtain ⟨e0, e1⟩ := (HX.out.kept hsd.same).cells (j := j2) hlt
          have b0 : wr.drew.cell? ⟨M, 0, none⟩ = some (.int .i64 k) := hsd.cell 1 rfl 0
          have hft := filt_take (f := fun p => decide (k < p.1)) hjl
          have hlen : (L1 ++ [(k, x)] ++ moreP (l.take j2) k).length ≤ 201 := by
            have := List.length_filter_le (fun p : Pr => decide (k < p.1)) (l.take j2)
            rw [List.length_take] at this
            have := HLe.out
            unfold moreP
            simp
            omega
          change moreP (l.take (j2 + 1)) k = moreP (l.take j2) k ++ _ at hft
          generalize l.getD j2 (0, 0) = kv at *
          obtain ⟨ky, vl⟩ := kv
          simp only at e0 e1 hft
          have t2 : (j2 : Int) < (j : Int) := by omega
          have t3 : (0 : Int) ≤ (j2 : Int) := by omega
          have HJ := hid hlt
          have HF : Hid (L1 ++ [(k, x)] ++ moreP (l.take (j2 + 1)) k = L1 ++ [(k, x)] ++ moreP (l.take j2) k ++ (if decide (k < ky) = true then [(ky, vl)] else [])) := hid (by rw [hft, List.append_assoc (L1 ++ [(k, x)])])
          have HSD := hid hsd
          have HLe2 := hid hlen
          clear hs hsd hft hjl hj2 hlen HS5
          generalize L1 ++ [(k, x)] ++ moreP (l.take j2) k = acc at *
          by_cases hc : k < ky
          · have HF2 : Hid (L1 ++ [(k, x)] ++ moreP (l.take (j2 + 1)) k = acc ++ [(ky, vl)]) := hid (by rw [HF.out]; simp [hc])
            clear HF
            have e4 := hid (ein_box HSD.out ky vl)
            have s4 := hid (e_under HSD.out ky vl)
            go_upto_region 11 with fail
            go_region
            all_goals
              go_wp2_with (first | simp only [hbe] | (at_builtin; refine wpList_appE_st s4.out rfl _ _ rfl rfl _ _ _ rfl e4.out (by simp) (by have := HLe2.out; simp; omega) ?_; intro v5 w5 s5; have HS5 := hid (e_drop1 s5); clear s5))
              go_roundw
            case rel => exact ⟨j2 + 1, by push_cast; rfl, HJ.out, by rw [HF2.out]; exact HS5.out⟩
            case measure => have := HJ.out; simp [intOf]; omega
          · have HF2 : Hid (L1 ++ [(k, x)] ++ moreP (l.take (j2 + 1)) k = acc) := hid (by rw [HF.out]; simp [hc])
            have tc : decide (k < ky) = false := by simpa using hc
            clear HF hc
            go_upto_region 11 with fail
            go_region
            all_goals
              go_wp2
              go_roundw
            case rel => exact ⟨j2 + 1, by push_cast; rfl, HJ.out, by rw [HF2.out]; exact HSD.out⟩
            case measure => have := HJ.out; simp [intOf]; omega
        · obtain rfl : j2 = j := by omega
          have hta : l.take j2 = l := List.take_of_length_le (by rw [← HLn.out]; exact Nat.le_refl _)
          rw [hta, ← HL.out] at hs
          have HQ := hid (St.cut (A := [_]) (B := [_]) hs)
          clear hs HS5
          go_wp2
          go_ret
          exact ⟨_, rfl, HQ.out⟩
end Go.Proofs.YtbpilhjomfkpaaaGreatDoor
