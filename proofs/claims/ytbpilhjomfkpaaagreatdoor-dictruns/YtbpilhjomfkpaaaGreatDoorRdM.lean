/- The document's put. The document's Do: plain facts. -/
import Derived.Test.YtbpilhjomfkpaaaGreatDoorDiL
import Derived.Lib.SliceRun
namespace Go.Proofs.YtbpilhjomfkpaaaGreatDoor
open Go.RowKit
set_option linter.unusedVariables false
set_option linter.unusedSimpArgs false
attribute [local go_sem ↓] Go.wp_at_zero Go.wp_at_succ

def lessP (l : List Pr) (k : Int) : List Pr := l.filter fun p => decide (p.1 < k)
def moreP (l : List Pr) (k : Int) : List Pr := l.filter fun p => decide (k < p.1)
theorem filt_take {f : Pr → Bool} {l : List Pr} {j : Nat} (hj : j < l.length) : (l.take (j + 1)).filter f = (l.take j).filter f ++ (if f (l.getD j (0, 0)) = true then [l.getD j (0, 0)] else []) := by
  rw [List.take_succ_eq_append_getElem hj, List.filter_append, List.getD_eq_getElem?_getD, List.getElem?_eq_getElem hj]
  simp only [Option.getD_some]
  by_cases h : f l[j] = true
  · simp [h]
  · simp [h]
theorem ins_split {k x : Int} : ∀ {l : List Pr}, Rises l → (∀ p ∈ l, p.1 ≠ k) → insP (k, x) l = lessP l k ++ (k, x) :: moreP l k
  | [], _, _ => rfl
  | p :: l, hr, hn => by
    have hp := hn p (by simp)
    have hl := (List.pairwise_cons.1 hr).1
    unfold insP
    by_cases h : k < p.1
    · rw [if_pos h]
      have e1 : lessP (p :: l) k = [] := by
        unfold lessP
        rw [List.filter_eq_nil_iff]
        intro q hq
        rcases List.mem_cons.1 hq with rfl | hq
        · simp; omega
        · have := hl q hq; simp; omega
      have e2 : moreP (p :: l) k = p :: l := by
        unfold moreP
        rw [List.filter_eq_self]
        intro q hq
        rcases List.mem_cons.1 hq with rfl | hq
        · simpa using h
        · have := hl q hq; simp; omega
      rw [e1, e2]
      rfl
    · rw [if_neg h]
      have e1 : lessP (p :: l) k = p :: lessP l k := by unfold lessP; rw [List.filter_cons_of_pos (by simp; omega)]
      have e2 : moreP (p :: l) k = moreP l k := by unfold moreP; rw [List.filter_cons_of_neg (by simp; omega)]
      rw [e1, e2, ins_split hr.tail (fun q hq => hn q (by simp [hq]))]
      rfl
theorem pair_eta (p : Pr) : (p.1, p.2) = p := rfl
set_option maxRecDepth 100000 in
set_option maxHeartbeats 8000000 in
theorem rput_any (la : Option Addr) (m lc : Nat) (l : List Pr) (k x : Int) (w : World) (hX : EIn w la m l) (hm : m ≤ 100) :
    Calls Tryz.prog 39 #[.slice la m lc, .agg #[.int .i64 k, .int .i64 x]] w fun e w' => ∃ v, e = .returned v ∧ St w [lstE v (lessP l k ++ [(k, x)] ++ moreP l k)] w' := by
  have s0 := (St.nil w).box #[.int .i64 k, .int .i64 x] 41
  generalize hw1 : w.alloc (.cells #[.int .i64 k, .int .i64 x] 41) = w1 at *
  generalize hM : w.heap.size = M at *
  have HS0 := hid (e_nil s0)
  have HX := hid hX
  have hmi : (m : Int) ≤ 100 := by omega
  have HLn := hid hX.1
  have hbe := fun W x y => buildE1 W x y
  clear s0 hX
  go_enter Tryz.func39, Tryz.ntmps39
  go_wp2_with (first | simp only [hw1, hM])
  go_loopw [5, 6] (fun v i wr => ∃ j : Nat, i = .int .i64 j ∧ j ≤ m ∧ St w [lstE v (lessP (l.take j) k), boxI M #[.int .i64 k, .int .i64 x] 41] wr) (fun _ i _ => m - (intOf i).toNat)
  case atStart => exact ⟨0, rfl, Nat.zero_le _, HS0.out⟩
  case round =>
    obtain ⟨j, rfl, hj, hs⟩ := hrel
    by_cases hlt : j < m
    · have hjl : j < l.length := by rw [← HLn.out]; exact hlt
      obtain ⟨g, o, rfl⟩ := HX.out.addr (by omega)
      have hsd := hs.drew
      obtain ⟨e0, e1⟩ := (HX.out.kept hsd.same).cells (j := j) hlt
      have b0 : wr.drew.cell? ⟨M, 0, none⟩ = some (.int .i64 k) := hsd.cell 1 rfl 0
      have hft := filt_take (f := fun p => decide (p.1 < k)) hjl
      have hlen : (lessP (l.take j) k).length ≤ 100 := by
        have := List.length_filter_le (fun p : Pr => decide (p.1 < k)) (l.take j)
        rw [List.length_take] at this
        unfold lessP
        omega
      change lessP (l.take (j + 1)) k = lessP (l.take j) k ++ _ at hft
      generalize l.getD j (0, 0) = kv at *
      obtain ⟨ky, vl⟩ := kv
      simp only at e0 e1 hft
      have t1 : (j : Int) < (m : Int) := by omega
      have t2 : (0 : Int) ≤ (j : Int) := by omega
      have HJ := hid hlt
      have HF := hid hft
      have HSD := hid hsd
      have HLe := hid hlen
      clear hs hsd hft hjl hj hlen HS0
      generalize lessP (l.take j) k = acc at *
      by_cases hc : ky < k
      · have HF2 : Hid (lessP (l.take (j + 1)) k = acc ++ [(ky, vl)]) := hid (by rw [HF.out]; simp [hc])
        clear HF
        have e4 := hid (ein_box HSD.out ky vl)
        have s4 := hid (e_under HSD.out ky vl)
        go_upto_region 5 with fail
        go_region
        all_goals
          go_wp2_with (first | simp only [hbe] | (at_builtin; refine wpList_appE_st s4.out rfl _ _ rfl rfl _ _ _ rfl e4.out (by simp) (by have := HLe.out; simp; omega) ?_; intro v5 w5 s5; have HS5 := hid (e_drop1 s5); clear s5))
          go_roundw
        case rel => exact ⟨j + 1, by push_cast; rfl, HJ.out, by rw [HF2.out]; exact HS5.out⟩
        case measure => have := HJ.out; simp [intOf]; omega
      · have HF2 : Hid (lessP (l.take (j + 1)) k = acc) := hid (by rw [HF.out]; simp [hc])
        have tc : decide (ky < k) = false := by simpa using hc
        clear HF hc
        go_upto_region 5 with fail
        go_region
        all_goals
          go_wp2
          go_roundw
        case rel => exact ⟨j + 1, by push_cast; rfl, HJ.out, by rw [HF2.out]; exact HSD.out⟩
        case measure => have := HJ.out; simp [intOf]; omega
    · obtain rfl : j = m := by omega
      have hta : l.take j = l := List.take_of_length_le (by rw [← HLn.out]; exact Nat.le_refl _)
      rw [hta] at hs
      have t1 : ¬ (j : Int) < (j : Int) := by omega
      have hlen : (lessP l k).length ≤ 100 := by
        have := List.length_filter_le (fun p : Pr => decide (p.1 < k)) l
        rw [← HLn.out] at this
        unfold lessP
        omega
      generalize hL : lessP l k = L1 at *
      have HL := hid hL
      have b0 : wr.cell? ⟨M, 0, none⟩ = some (.int .i64 k) := hs.cell 1 rfl 0
      have b1 : wr.cell? ⟨M, 1, none⟩ = some (.int .i64 x) := hs.cell 1 rfl 1
      have e4 := hid (ein_box hs k x)
      have s4 := hid (e_under hs k x)
      have HLe := hid hlen
      clear hs hta hlen hL HS0
      go_wp2_with (first | simp only [hbe] | (at_builtin; refine wpList_appE_st s4.out rfl _ _ rfl rfl _ _ _ rfl e4.out (by simp) (by have := HLe.out; simp; omega) ?_; intro v5 w5 s5; have HS5 := hid (e_drop1 s5); clear s5))
      obtain ⟨W5, hW5⟩ : ∃ W5, W5 = w5 := ⟨_, rfl⟩
      subst hW5
      clear s4 e4 b0 b1
      go_loopw [5, 7] (fun v i wr => ∃ j2 : Nat, i = .int .i64 j2 ∧ j2 ≤ j ∧ St w [lstE v (L1 ++ [(k, x)] ++ moreP (l.take j2) k), boxI M #[.int .i64 k, .int .i64 x] 41] wr) (fun _ i _ => j - (intOf i).toNat)
      case atStart => exact ⟨0, rfl, Nat.zero_le _, by simpa [moreP] using HS5.out⟩
      case round =>
        obtain ⟨j2, rfl, hj2, hs⟩ := hrel
        by_cases hlt : j2 < j
        · have hjl : j2 < l.length := by rw [← HLn.out]; exact hlt
          obtain ⟨g, o, rfl⟩ := HX.out.addr (by omega)
          have hsd := hs.drew
          obtain ⟨e0, e1⟩ := (HX.out.kept hsd.same).cells (j := j2) hlt
          have b0 : wr.drew.cell? ⟨M, 0, none⟩ = some (.int .i64 k) := hsd.cell 1 rfl 0
          have hft := filt_take (f := fun p => decide (k < p.1)) hjl
          have hlen : (L1 ++ [(k, x)] ++ moreP (l.take j2) k).length ≤ 201 := by
            have := List.length_filter_le (fun p : Pr => decide (k < p.1)) (l.take j2)
            rw [List.length_take] at this
            have := HLe.out
            unfold moreP
            simp
            omega
          change moreP (l.take (j2 + 1)) k = moreP (l.take j2) k ++ _ at hft
          generalize l.getD j2 (0, 0) = kv at *
          obtain ⟨ky, vl⟩ := kv
          simp only at e0 e1 hft
          have t2 : (j2 : Int) < (j : Int) := by omega
          have t3 : (0 : Int) ≤ (j2 : Int) := by omega
          have HJ := hid hlt
          have HF : Hid (L1 ++ [(k, x)] ++ moreP (l.take (j2 + 1)) k = L1 ++ [(k, x)] ++ moreP (l.take j2) k ++ (if decide (k < ky) = true then [(ky, vl)] else [])) := hid (by rw [hft, List.append_assoc (L1 ++ [(k, x)])])
          have HSD := hid hsd
          have HLe2 := hid hlen
          clear hs hsd hft hjl hj2 hlen HS5
          generalize L1 ++ [(k, x)] ++ moreP (l.take j2) k = acc at *
          by_cases hc : k < ky
          · have HF2 : Hid (L1 ++ [(k, x)] ++ moreP (l.take (j2 + 1)) k = acc ++ [(ky, vl)]) := hid (by rw [HF.out]; simp [hc])
            clear HF
            have e4 := hid (ein_box HSD.out ky vl)
            have s4 := hid (e_under HSD.out ky vl)
            go_upto_region 11 with fail
            go_region
            all_goals
              go_wp2_with (first | simp only [hbe] | (at_builtin; refine wpList_appE_st s4.out rfl _ _ rfl rfl _ _ _ rfl e4.out (by simp) (by have := HLe2.out; simp; omega) ?_; intro v5 w5 s5; have HS5 := hid (e_drop1 s5); clear s5))
              go_roundw
            case rel => exact ⟨j2 + 1, by push_cast; rfl, HJ.out, by rw [HF2.out]; exact HS5.out⟩
            case measure => have := HJ.out; simp [intOf]; omega
          · have HF2 : Hid (L1 ++ [(k, x)] ++ moreP (l.take (j2 + 1)) k = acc) := hid (by rw [HF.out]; simp [hc])
            have tc : decide (k < ky) = false := by simpa using hc
            clear HF hc
            go_upto_region 11 with fail
            go_region
            all_goals
              go_wp2
              go_roundw
            case rel => exact ⟨j2 + 1, by push_cast; rfl, HJ.out, by rw [HF2.out]; exact HSD.out⟩
            case measure => have := HJ.out; simp [intOf]; omega
        · obtain rfl : j2 = j := by omega
          have hta : l.take j2 = l := List.take_of_length_le (by rw [← HLn.out]; exact Nat.le_refl _)
          rw [hta, ← HL.out] at hs
          have HQ := hid (St.cut (A := [_]) (B := [_]) hs)
          clear hs HS5
          go_wp2
          go_ret
          exact ⟨_, rfl, HQ.out⟩
end Go.Proofs.YtbpilhjomfkpaaaGreatDoor

namespace Go.Proofs.YtbpilhjomfkpaaaGreatDoor
open Go.RowKit
set_option linter.unusedVariables false
set_option linter.unusedSimpArgs false

theorem key_idx {l : List Pr} (h : Rises l) {i k : Nat} (hi : i < l.length) (hk : k < l.length) (e : l[i].1 = l[k].1) : i = k := by
  rcases Nat.lt_trichotomy i k with hlt | heq | hgt
  · have := List.pairwise_iff_getElem.1 h i k hi hk hlt; omega
  · exact heq
  · have := List.pairwise_iff_getElem.1 h k i hk hi hgt; omega
theorem getD_lt {l : List Pr} {i : Nat} (hi : i < l.length) : l.getD i (0, 0) = l[i] := by simp [List.getD_eq_getElem?_getD, hi]
theorem turn_set {l : List Pr} (h : Rises l) {i : Nat} (hi : i < l.length) {x : Int} (e : (l.getD i (0, 0)).1 = x) (y : Int) : turnP l x y = l.set i (x, y) := by
  rw [getD_lt hi] at e
  apply List.ext_getElem (by simp [turnP])
  intro k h1 h2
  have hk : k < l.length := by simpa [turnP] using h1
  simp only [turnP, List.getElem_map, List.getElem_set]
  by_cases hik : i = k
  · subst hik
    rw [if_pos e, if_pos rfl]
  · rw [if_neg (fun e2 => hik (key_idx h hi hk (by rw [e, e2]))), if_neg hik]
theorem lack_idx {l : List Pr} (h : Rises l) {i : Nat} (hi : i < l.length) {x : Int} (e : (l.getD i (0, 0)).1 = x) : lackP l x = l.take i ++ l.drop (i + 1) := by
  rw [getD_lt hi] at e
  have hs : l = l.take i ++ l[i] :: l.drop (i + 1) := by rw [← List.drop_eq_getElem_cons hi, List.take_append_drop]
  have hp := h
  rw [hs] at hp
  obtain ⟨-, hp2, hp3⟩ := List.pairwise_append.1 hp
  conv => lhs; rw [hs]
  unfold lackP
  rw [List.filter_append, List.filter_cons_of_neg (by simp [e])]
  congr 1
  · rw [List.filter_eq_self]
    intro p hpm
    have := hp3 p hpm l[i] List.mem_cons_self
    simp only [bne_iff_ne, ne_eq]
    omega
  · rw [List.filter_eq_self]
    intro p hpm
    have := (List.pairwise_cons.1 hp2).1 p hpm
    simp only [bne_iff_ne, ne_eq]
    omega
theorem at_idx {l : List Pr} (h : Rises l) {i : Nat} (hi : i < l.length) {x : Int} (e : (l.getD i (0, 0)).1 = x) : atP l x = some (l.getD i (0, 0)).2 := by
  refine atP_of_mem h.apart ?_
  rw [← e]
  have := List.getElem_mem hi
  rw [getD_lt hi]
  exact this
theorem eC_set : ∀ (l : List Pr) (i : Nat) (hi : i < l.length) (y : Int), (eC l).set (i * 2 + 1) (.int .i64 y) = eC (l.set i ((l.getD i (0, 0)).1, y))
  | p :: l, 0, _, y => rfl
  | p :: l, i + 1, hi, y => by
    have ih := eC_set l i (by simpa using hi) y
    have e1 : (i + 1) * 2 + 1 = i * 2 + 1 + 1 + 1 := by omega
    rw [e1]
    simp only [eC, List.set_cons_succ, List.getD_cons_succ]
    rw [ih]
theorem rises_snoc {l : List Pr} {j : Nat} (hj : j < l.length) (h : Rises (l.take j)) (hs : j = 0 ∨ ∃ q, j = q + 1 ∧ (l.getD q (0, 0)).1 < (l.getD j (0, 0)).1) : Rises (l.take (j + 1)) := by
  rw [List.take_succ_eq_append_getElem hj]
  refine List.pairwise_append.2 ⟨h, by simp, fun a ha b hb => ?_⟩
  rw [List.mem_singleton.1 hb]
  rcases hs with rfl | ⟨q, rfl, hq⟩
  · simp at ha
  · rw [getD_lt (by omega : q < l.length), getD_lt hj] at hq
    obtain ⟨i, hi, rfl⟩ := List.getElem_of_mem ha
    rw [List.length_take] at hi
    rw [List.getElem_take]
    by_cases e : i = q
    · subst e; exact hq
    · have h1 : i < (l.take (q + 1)).length := by rw [List.length_take]; omega
      have h2 : q < (l.take (q + 1)).length := by rw [List.length_take]; omega
      have := List.pairwise_iff_getElem.1 h i q h1 h2 (by omega)
      rw [List.getElem_take, List.getElem_take] at this
      omega
theorem rises_not {l : List Pr} {q : Nat} (hj : q + 1 < l.length) (h : ¬ (l.getD q (0, 0)).1 < (l.getD (q + 1) (0, 0)).1) : risesP l = false := by
  cases e : risesP l with
  | false => rfl
  | true =>
    have := List.pairwise_iff_getElem.1 ((rises_iff l).1 e) q (q + 1) (by omega) hj (by omega)
    rw [getD_lt (by omega : q < l.length), getD_lt hj] at h
    exact absurd this h
/-- Where the key was met among the first j entries. -/
def AtI (l : List Pr) (j : Nat) (x op av : Int) : Prop :=
  (op = 5 ∧ av = -1) ∨ (op ≠ 5 ∧ ((av = -1 ∧ ∀ p ∈ l.take j, p.1 ≠ x) ∨ ∃ i : Nat, i < j ∧ av = (i : Int) ∧ (l.getD i (0, 0)).1 = x))
theorem atI_zero (l : List Pr) (x op : Int) : AtI l 0 x op (-1) := by
  by_cases h : op = 5
  · exact .inl ⟨h, rfl⟩
  · exact .inr ⟨h, .inl ⟨rfl, by simp⟩⟩
theorem atI_hit {l : List Pr} {j : Nat} {x op av : Int} (h : AtI l j x op av) (ho : op ≠ 5) (e : (l.getD j (0, 0)).1 = x) : AtI l (j + 1) x op (j : Int) := .inr ⟨ho, .inr ⟨j, by omega, rfl, e⟩⟩
theorem atI_miss {l : List Pr} {j : Nat} (hj : j < l.length) {x op av : Int} (h : AtI l j x op av) (e : op = 5 ∨ (l.getD j (0, 0)).1 ≠ x) : AtI l (j + 1) x op av := by
  rcases h with h | ⟨ho, ⟨hv, hn⟩ | ⟨i, hi, hv, he⟩⟩
  · exact .inl h
  · refine .inr ⟨ho, .inl ⟨hv, fun p hp => ?_⟩⟩
    rw [List.take_succ_eq_append_getElem hj] at hp
    rcases List.mem_append.1 hp with hp | hp
    · exact hn p hp
    · rw [List.mem_singleton.1 hp]
      rcases e with e | e
      · exact absurd e ho
      · rw [getD_lt hj] at e; exact e
  · exact .inr ⟨ho, .inr ⟨i, by omega, hv, he⟩⟩
theorem take_snocE {l : List Pr} {j : Nat} (hj : j < l.length) : l.take (j + 1) = l.take j ++ [l.getD j (0, 0)] := by
  rw [List.take_succ_eq_append_getElem hj, getD_lt hj]
theorem ein_head {W : World} {g o j i : Nat} {l : List Pr} (h : EIn W (some ⟨g, o, none⟩) j l) (hi : i ≤ j) : EIn W (some ⟨g, o, none⟩) i (l.take i) := by
  refine ⟨by rw [List.length_take, ← h.1]; omega, fun h0 => ⟨g, o, rfl, fun k u hu => ?_⟩⟩
  obtain ⟨g', o', e, hc⟩ := h.2 (by omega)
  simp only [Option.some.injEq, Addr.mk.injEq, and_true] at e
  obtain ⟨rfl, rfl⟩ := e
  refine hc k u ?_
  have hk := (List.getElem?_eq_some_iff.1 hu).1
  conv => lhs; rw [← List.take_append_drop i l]
  rw [eC_append, List.getElem?_append_left hk]
  exact hu
theorem ein_tail {W : World} {g o j i : Nat} {l : List Pr} (h : EIn W (some ⟨g, o, none⟩) j l) (hi : i ≤ j) : EIn W (some ⟨g, o + i * 2, none⟩) (j - i) (l.drop i) := by
  refine ⟨by rw [List.length_drop, ← h.1], fun h0 => ⟨g, o + i * 2, rfl, fun k u hu => ?_⟩⟩
  obtain ⟨g', o', e, hc⟩ := h.2 (by omega)
  simp only [Option.some.injEq, Addr.mk.injEq, and_true] at e
  obtain ⟨rfl, rfl⟩ := e
  rw [Nat.add_assoc]
  refine hc (i * 2 + k) u ?_
  have hl : (eC (l.take i)).length = i * 2 := by rw [eC_length, List.length_take, ← h.1, Nat.min_eq_left hi]
  conv => lhs; rw [← List.take_append_drop i l]
  rw [eC_append, List.getElem?_append_right (by omega), hl, Nat.add_sub_cancel_left]
  exact hu
theorem sliceHeadE (g o j lc i : Nat) (hi : i ≤ lc) (W : World) : (Instr.slice 32 (.slice (some ⟨g, o, none⟩) j lc) none (some (.int .i64 (i : Nat))) none).run Tryz.prog W = .ok (.slice (some ⟨g, o, none⟩) i lc) W := by
  have e3 : (0 : Int) ≤ (i : Int) := by omega
  have e4 : (i : Int) ≤ (lc : Int) := by omega
  have e5 : ¬ lc < i := by omega
  simp only [Instr.slice, run_underlying Tryz.underlying32, Instr.sliceBounds, Instr.sliceBound, asIntOf, go_sem]
  simp [go_sem, e3, e4, e5, hi, Tryz.sizeOf41, Addr.add]
theorem sliceTailE (g o j lc i : Nat) (hi : i ≤ j) (hj : j ≤ lc) : ∃ T : Option Addr, T ≠ none ∧ (∀ W, (Instr.slice 32 (.slice (some ⟨g, o, none⟩) j lc) (some (.int .i64 (i : Nat))) none none).run Tryz.prog W = .ok (.slice T (j - i) (lc - i)) W) ∧ ∀ (W : World) (l : List Pr), EIn W (some ⟨g, o, none⟩) j l → EIn W T (j - i) (l.drop i) := by
  refine ⟨if lc = i then some ⟨g, o, none⟩ else some ⟨g, o + i * 2, none⟩, by split <;> simp, fun W => ?_, fun W l h => ?_⟩
  · have e3 : (0 : Int) ≤ (i : Int) := by omega
    have e4 : (i : Int) ≤ (j : Int) := by omega
    have e5 : ¬ j < i := by omega
    simp only [Instr.slice, run_underlying Tryz.underlying32, Instr.sliceBounds, Instr.sliceBound, asIntOf, go_sem]
    by_cases e6 : lc = i
    · simp [go_sem, e3, e4, e5, hi, e6, Tryz.sizeOf41, Addr.add]
    · simp [go_sem, e3, e4, e5, hi, e6, Tryz.sizeOf41, Addr.add]
  · by_cases e : lc = i
    · rw [if_pos e]
      refine ⟨(ein_tail h hi).1, fun h0 => by omega⟩
    · rw [if_neg e]
      exact ein_tail h hi
end Go.Proofs.YtbpilhjomfkpaaaGreatDoor
