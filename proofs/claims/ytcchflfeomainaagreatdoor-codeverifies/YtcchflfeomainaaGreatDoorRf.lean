/- The document's words and operands, its check. -/
import Derived.Test.YtcchflfeomainaaGreatDoorUp
namespace Go.Proofs.YtcchflfeomainaaGreatDoor
open Go.RowKit
set_option linter.unusedVariables false
set_option linter.unusedSimpArgs false

def wordC : Array Value := #[.string ⟨#[]⟩, .string ⟨#[112, 117, 115, 104]⟩, .string ⟨#[112, 111, 112]⟩, .string ⟨#[100, 117, 112]⟩, .string ⟨#[115, 119, 97, 112]⟩, .string ⟨#[103, 101, 116]⟩, .string ⟨#[115, 101, 116]⟩, .string ⟨#[97, 100, 100]⟩, .string ⟨#[115, 117, 98]⟩, .string ⟨#[109, 117, 108]⟩, .string ⟨#[109, 111, 100]⟩, .string ⟨#[108, 101, 115, 115]⟩, .string ⟨#[115, 97, 109, 101]⟩, .string ⟨#[110, 111, 116]⟩, .string ⟨#[106, 117, 109, 112]⟩, .string ⟨#[122, 101, 114, 111]⟩, .string ⟨#[98, 101, 103, 105, 110]⟩, .string ⟨#[108, 111, 97, 100]⟩, .string ⟨#[115, 116, 111, 114, 101]⟩, .string ⟨#[99, 111, 109, 109, 105, 116]⟩, .string ⟨#[97, 98, 111, 114, 116]⟩, .string ⟨#[116, 101, 108, 108]⟩, .string ⟨#[104, 97, 108, 116]⟩]
theorem wordC_at : ∀ n : Nat, n < 23 → wordC[n]? = some (.string (rowOf (n : Nat)).word)
  | 0, _ => rfl
  | 1, _ => rfl
  | 2, _ => rfl
  | 3, _ => rfl
  | 4, _ => rfl
  | 5, _ => rfl
  | 6, _ => rfl
  | 7, _ => rfl
  | 8, _ => rfl
  | 9, _ => rfl
  | 10, _ => rfl
  | 11, _ => rfl
  | 12, _ => rfl
  | 13, _ => rfl
  | 14, _ => rfl
  | 15, _ => rfl
  | 16, _ => rfl
  | 17, _ => rfl
  | 18, _ => rfl
  | 19, _ => rfl
  | 20, _ => rfl
  | 21, _ => rfl
  | 22, _ => rfl
  | n + 23, h => absurd h (by omega)
theorem takes_else : ∀ n : Nat, n < 23 → n ≠ 1 → n ≠ 5 → n ≠ 6 → n ≠ 14 → n ≠ 15 → n ≠ 20 → (rowOf (n : Nat)).takes = 0
  | 0, _, _, _, _, _, _, _ => rfl
  | 1, _, _, _, _, _, _, _ => by contradiction
  | 2, _, _, _, _, _, _, _ => rfl
  | 3, _, _, _, _, _, _, _ => rfl
  | 4, _, _, _, _, _, _, _ => rfl
  | 5, _, _, _, _, _, _, _ => by contradiction
  | 6, _, _, _, _, _, _, _ => by contradiction
  | 7, _, _, _, _, _, _, _ => rfl
  | 8, _, _, _, _, _, _, _ => rfl
  | 9, _, _, _, _, _, _, _ => rfl
  | 10, _, _, _, _, _, _, _ => rfl
  | 11, _, _, _, _, _, _, _ => rfl
  | 12, _, _, _, _, _, _, _ => rfl
  | 13, _, _, _, _, _, _, _ => rfl
  | 14, _, _, _, _, _, _, _ => by contradiction
  | 15, _, _, _, _, _, _, _ => by contradiction
  | 16, _, _, _, _, _, _, _ => rfl
  | 17, _, _, _, _, _, _, _ => rfl
  | 18, _, _, _, _, _, _, _ => rfl
  | 19, _, _, _, _, _, _, _ => rfl
  | 20, _, _, _, _, _, _, _ => by contradiction
  | 21, _, _, _, _, _, _, _ => rfl
  | 22, _, _, _, _, _, _, _ => rfl
  | n + 23, h, _, _, _, _, _, _ => absurd h (by omega)
theorem takes_out (op : Int) (h1 : op ≠ 1) (h2 : op ≠ 5) (h3 : op ≠ 6) (h4 : op ≠ 14) (h5 : op ≠ 15) (h6 : op ≠ 20) : takesM op = 0 := by
  unfold takesM
  split
  · rename_i hk
    obtain ⟨n, rfl, _, hn⟩ := known_nat hk
    exact takes_else n hn (by omega) (by omega) (by omega) (by omega) (by omega) (by omega)
  · rfl
set_option maxRecDepth 100000 in
theorem rWord_any (op : Int) (w : World) : Calls Tryz.prog 15 #[.int .i64 op] w fun e w' => e = .returned (.string (nameM op)) ∧ Kept (fun _ => False) w w' := by
  have k0 := kept_alloc w (.cells wordC 9)
  have hb : (w.alloc (.cells wordC 9)).heap[w.heap.size]? = some (.cells wordC 9 (0, 0)) := heap_alloc_new _ _
  have K : Kept (fun _ => False) w (w.alloc (.cells #[.string ⟨#[]⟩, .string ⟨#[112, 117, 115, 104]⟩, .string ⟨#[112, 111, 112]⟩, .string ⟨#[100, 117, 112]⟩, .string ⟨#[115, 119, 97, 112]⟩, .string ⟨#[103, 101, 116]⟩, .string ⟨#[115, 101, 116]⟩, .string ⟨#[97, 100, 100]⟩, .string ⟨#[115, 117, 98]⟩, .string ⟨#[109, 117, 108]⟩, .string ⟨#[109, 111, 100]⟩, .string ⟨#[108, 101, 115, 115]⟩, .string ⟨#[115, 97, 109, 101]⟩, .string ⟨#[110, 111, 116]⟩, .string ⟨#[106, 117, 109, 112]⟩, .string ⟨#[122, 101, 114, 111]⟩, .string ⟨#[98, 101, 103, 105, 110]⟩, .string ⟨#[108, 111, 97, 100]⟩, .string ⟨#[115, 116, 111, 114, 101]⟩, .string ⟨#[99, 111, 109, 109, 105, 116]⟩, .string ⟨#[97, 98, 111, 114, 116]⟩, .string ⟨#[116, 101, 108, 108]⟩, .string ⟨#[104, 97, 108, 116]⟩] 9)) := k0
  unfold nameM
  by_cases h1 : op < 1
  · have hk : knownB op = false := by simp [knownB]; omega
    have t1 := decide_eq_true h1
    simp only [hk]
    clear hb
    go_enter Tryz.func15, Tryz.ntmps15
    go_wp2
    go_ret
    exact ⟨rfl, K⟩
  · have t1 := decide_eq_false h1
    by_cases h2 : 22 < op
    · have hk : knownB op = false := by simp [knownB]; omega
      have t2 := decide_eq_true h2
      simp only [hk]
      clear hb
      go_enter Tryz.func15, Tryz.ntmps15
      go_wp2
      go_ret
      exact ⟨rfl, K⟩
    · have hk : knownB op = true := by simp [knownB]; omega
      have t2 := decide_eq_false h2
      obtain ⟨n, rfl, hn0, hn⟩ := known_nat hk
      simp only [hk, if_true]
      have cw : (w.alloc (.cells #[.string ⟨#[]⟩, .string ⟨#[112, 117, 115, 104]⟩, .string ⟨#[112, 111, 112]⟩, .string ⟨#[100, 117, 112]⟩, .string ⟨#[115, 119, 97, 112]⟩, .string ⟨#[103, 101, 116]⟩, .string ⟨#[115, 101, 116]⟩, .string ⟨#[97, 100, 100]⟩, .string ⟨#[115, 117, 98]⟩, .string ⟨#[109, 117, 108]⟩, .string ⟨#[109, 111, 100]⟩, .string ⟨#[108, 101, 115, 115]⟩, .string ⟨#[115, 97, 109, 101]⟩, .string ⟨#[110, 111, 116]⟩, .string ⟨#[106, 117, 109, 112]⟩, .string ⟨#[122, 101, 114, 111]⟩, .string ⟨#[98, 101, 103, 105, 110]⟩, .string ⟨#[108, 111, 97, 100]⟩, .string ⟨#[115, 116, 111, 114, 101]⟩, .string ⟨#[99, 111, 109, 109, 105, 116]⟩, .string ⟨#[97, 98, 111, 114, 116]⟩, .string ⟨#[116, 101, 108, 108]⟩, .string ⟨#[104, 97, 108, 116]⟩] 9)).cell? ⟨w.heap.size, n, none⟩ = some (.string (rowOf (n : Nat)).word) := (cell_of_heap hb).trans (wordC_at n hn)
      have b1 : (0 : Int) ≤ (n : Int) := Int.natCast_nonneg _
      have b2 : (n : Int) < 23 := by omega
      generalize (rowOf (n : Int)).word = wd at *
      clear hb h1 h2 hk
      go_enter Tryz.func15, Tryz.ntmps15
      go_wp2
      go_ret
      exact ⟨rfl, K⟩
set_option maxRecDepth 100000 in
theorem rTakes_any (op : Int) (w : World) : Calls Tryz.prog 17 #[.int .i64 op] w fun e w' => e = .returned (.int .i64 (takesM op)) ∧ w' = w := by
  by_cases h1 : op = 1
  · subst h1
    go_enter Tryz.func17, Tryz.ntmps17
    go_wp2
    go_ret
    exact ⟨rfl, rfl⟩
  · by_cases h5 : op = 5
    · subst h5
      go_enter Tryz.func17, Tryz.ntmps17
      go_wp2
      go_ret
      exact ⟨rfl, rfl⟩
    · by_cases h6 : op = 6
      · subst h6
        go_enter Tryz.func17, Tryz.ntmps17
        go_wp2
        go_ret
        exact ⟨rfl, rfl⟩
      · by_cases h14 : op = 14
        · subst h14
          go_enter Tryz.func17, Tryz.ntmps17
          go_wp2
          go_ret
          exact ⟨rfl, rfl⟩
        · by_cases h15 : op = 15
          · subst h15
            go_enter Tryz.func17, Tryz.ntmps17
            go_wp2
            go_ret
            exact ⟨rfl, rfl⟩
          · by_cases h20 : op = 20
            · subst h20
              go_enter Tryz.func17, Tryz.ntmps17
              go_wp2
              go_ret
              exact ⟨rfl, rfl⟩
            · rw [takes_out op h1 h5 h6 h14 h15 h20]
              have t1 : (op == 1) = false := by simp [h1]
              have t5 : (op == 5) = false := by simp [h5]
              have t6 : (op == 6) = false := by simp [h6]
              have t14 : (op == 14) = false := by simp [h14]
              have t15 : (op == 15) = false := by simp [h15]
              have t20 : (op == 20) = false := by simp [h20]
              clear h1 h5 h6 h14 h15 h20
              go_enter Tryz.func17, Tryz.ntmps17
              go_wp2
              go_ret
              exact ⟨rfl, rfl⟩

theorem known_iff (op : Int) : knownB op = true ↔ ¬ (op < 1 ∨ 22 < op) := by simp [knownB]; omega
theorem takesM_known {op : Int} (h : knownB op = true) : takesM op = (rowOf op).takes := by unfold takesM; rw [h]; rfl
/-- Whether an operand may be, as the document has it. -/
theorem may_none {a e : Int} : mayB 0 a e = (a == 0) := by simp [mayB]
theorem takes_four (op : Int) : takesM op = 0 ∨ takesM op = 1 ∨ takesM op = 2 ∨ takesM op = 3 := by
  by_cases h1 : op = 1
  · subst h1; exact .inr (.inl rfl)
  by_cases h5 : op = 5
  · subst h5; exact .inr (.inr (.inl rfl))
  by_cases h6 : op = 6
  · subst h6; exact .inr (.inr (.inl rfl))
  by_cases h14 : op = 14
  · subst h14; exact .inr (.inr (.inr rfl))
  by_cases h15 : op = 15
  · subst h15; exact .inr (.inr (.inr rfl))
  by_cases h20 : op = 20
  · subst h20; exact .inr (.inr (.inr rfl))
  exact .inl (takes_out op h1 h5 h6 h14 h15 h20)
set_option maxRecDepth 100000 in
set_option maxHeartbeats 2000000 in
theorem rCheck_any (la : Option Addr) (n lc : Nat) (l : List Ins) (w : World) (hL : IIn w la n l) :
    Calls Tryz.prog 12 #[.slice la n lc] w fun e w' => e = .returned (.tuple #[.int .i64 (checkM l).1, .int .i64 (checkM l).2]) ∧ w' = w := by
  have HN : Hid (n = l.length) := hL.1
  by_cases h0 : n = 0
  · subst h0
    have e : checkM l = (150, 0) := by simp [checkM, ← HN.out]
    rw [e]
    clear hL
    go_enter Tryz.func12, Tryz.ntmps12
    go_wp2
    go_ret2
    exact ⟨rfl, rfl⟩
  · have t0 : decide ((n : Int) < 1) = false := by simp; omega
    by_cases h4 : 400 < n
    · have e : checkM l = (150, 0) := by simp [checkM, ← HN.out, h4]
      rw [e]
      have t4 : decide ((400 : Int) < (n : Int)) = true := by simp; omega
      clear hL
      go_enter Tryz.func12, Tryz.ntmps12
      go_wp2
      go_ret2
      exact ⟨rfl, rfl⟩
    · have e : checkM l = checkFrom n 0 (l.drop 0) := by simp [checkM, ← HN.out, h4, h0]
      have t4 : decide ((400 : Int) < (n : Int)) = false := by simp; omega
      obtain ⟨g, o, rfl⟩ := hL.addr (by omega)
      have HE := hid e
      have hn4 : n ≤ 400 := by omega
      clear e h4
      go_enter Tryz.func12, Tryz.ntmps12
      go_wp2
      go_loop [4] (fun i => ∃ j : Nat, i = .int .i64 j ∧ j ≤ n ∧ checkM l = checkFrom n j (l.drop j)) (fun i => n - (intOf i).toNat)
      case atStart => exact ⟨0, rfl, Nat.zero_le _, HE.out⟩
      case round =>
        clear HE
        obtain ⟨j, rfl, hj, he⟩ := hrel
        have HC : Hid (checkM l = checkFrom n j (l.drop j)) := he
        clear he
        by_cases hlt : j < n
        · have hz : j < l.length := by have := HN.out; omega
          obtain ⟨c0, c1⟩ := hL.cells hz
          have HW : Hid (checkM l = if wrongAt (l.getD j Ins.zero) n = 0 then checkFrom n (j + 1) (l.drop (j + 1)) else (wrongAt (l.getD j Ins.zero) n, (j : Int))) := HC.out.trans (checkFrom_drop hz)
          have h0 : (0 : Int) ≤ (j : Int) := Int.natCast_nonneg _
          have h1 : (j : Int) < (n : Int) := by omega
          generalize l.getD j Ins.zero = x at *
          obtain ⟨xo, xa⟩ := x
          simp only at c0 c1
          have hq := fun W => rTakes_any xo W
          clear HC
          by_cases hkn : knownB xo = true
          · have hr := (known_iff xo).1 hkn
            have t1 : decide (xo < 1) = false := by simp; omega
            have t2 : decide (22 < xo) = false := by simp; omega
            have HW2 : Hid (checkM l = if mayB (takesM xo) xa n = false then (152, (j : Int)) else checkFrom n (j + 1) (l.drop (j + 1))) := by
              have := HW.out
              unfold wrongAt at this
              simp only at this
              rw [hkn] at this
              show _ = _
              rw [this, takesM_known hkn]
              cases mayB (rowOf xo).takes xa n <;> rfl
            have h4 := takes_four xo
            generalize takesM xo = tk at *
            clear HW hkn hr
            rcases h4 with rfl | rfl | rfl | rfl
            · by_cases ha : xa = 0
              · have HX : Hid (checkM l = checkFrom n (j + 1) (l.drop (j + 1))) := by have := HW2.out; rwa [if_neg (by simp [mayB, ha])] at this
                have ta : (xa == 0) = true := by simp [ha]
                clear HW2 ha
                go_wp2_with (go_at_call 17; refine (hq _).mono ?_; rintro e w2 ⟨rfl, rfl⟩)
                go_round
                case rel => exact ⟨j + 1, by simp, by omega, HX.out⟩
                case measure => simp [intOf]; omega
              · have HX : Hid (checkM l = (152, (j : Int))) := by have := HW2.out; rwa [if_pos (by simp [mayB, ha])] at this
                have ta : (xa == 0) = false := by simp [ha]
                clear HW2 ha
                go_wp2_with (go_at_call 17; refine (hq _).mono ?_; rintro e w2 ⟨rfl, rfl⟩)
                go_ret2
                exact ⟨by rw [HX.out]; rfl, rfl⟩
            · have HX : Hid (checkM l = checkFrom n (j + 1) (l.drop (j + 1))) := by have := HW2.out; rwa [if_neg (by simp [mayB])] at this
              clear HW2
              go_wp2_with (go_at_call 17; refine (hq _).mono ?_; rintro e w2 ⟨rfl, rfl⟩)
              go_round
              case rel => exact ⟨j + 1, by simp, by omega, HX.out⟩
              case measure => simp [intOf]; omega
            · by_cases g1 : 0 ≤ xa
              · have u1 : decide (0 ≤ xa) = true := decide_eq_true g1
                by_cases g2 : xa < 8
                · have u2 : decide (xa < 8) = true := decide_eq_true g2
                  have HX : Hid (checkM l = checkFrom n (j + 1) (l.drop (j + 1))) := by have := HW2.out; rwa [if_neg (by simp [mayB]; omega)] at this
                  clear HW2
                  go_wp2_with (go_at_call 17; refine (hq _).mono ?_; rintro e w2 ⟨rfl, rfl⟩)
                  go_round
                  case rel => exact ⟨j + 1, by simp, by omega, HX.out⟩
                  case measure => simp [intOf]; omega
                · have u2 : decide (xa < 8) = false := decide_eq_false g2
                  have HX : Hid (checkM l = (152, (j : Int))) := by have := HW2.out; rwa [if_pos (by simp [mayB]; omega)] at this
                  clear HW2
                  go_wp2_with (go_at_call 17; refine (hq _).mono ?_; rintro e w2 ⟨rfl, rfl⟩)
                  go_ret2
                  exact ⟨by rw [HX.out]; rfl, rfl⟩
              · have u1 : decide (0 ≤ xa) = false := decide_eq_false g1
                have HX : Hid (checkM l = (152, (j : Int))) := by have := HW2.out; rwa [if_pos (by simp [mayB]; omega)] at this
                clear HW2
                go_wp2_with (go_at_call 17; refine (hq _).mono ?_; rintro e w2 ⟨rfl, rfl⟩)
                go_ret2
                exact ⟨by rw [HX.out]; rfl, rfl⟩
            · by_cases g1 : 0 ≤ xa
              · have u1 : decide (0 ≤ xa) = true := decide_eq_true g1
                by_cases g2 : xa ≤ (n : Int)
                · have u2 : decide (xa ≤ (n : Int)) = true := decide_eq_true g2
                  have HX : Hid (checkM l = checkFrom n (j + 1) (l.drop (j + 1))) := by have := HW2.out; rwa [if_neg (by simp [mayB]; omega)] at this
                  clear HW2
                  go_wp2_with (go_at_call 17; refine (hq _).mono ?_; rintro e w2 ⟨rfl, rfl⟩)
                  go_round
                  case rel => exact ⟨j + 1, by simp, by omega, HX.out⟩
                  case measure => simp [intOf]; omega
                · have u2 : decide (xa ≤ (n : Int)) = false := decide_eq_false g2
                  have HX : Hid (checkM l = (152, (j : Int))) := by have := HW2.out; rwa [if_pos (by simp [mayB]; omega)] at this
                  clear HW2
                  go_wp2_with (go_at_call 17; refine (hq _).mono ?_; rintro e w2 ⟨rfl, rfl⟩)
                  go_ret2
                  exact ⟨by rw [HX.out]; rfl, rfl⟩
              · have u1 : decide (0 ≤ xa) = false := decide_eq_false g1
                have HX : Hid (checkM l = (152, (j : Int))) := by have := HW2.out; rwa [if_pos (by simp [mayB]; omega)] at this
                clear HW2
                go_wp2_with (go_at_call 17; refine (hq _).mono ?_; rintro e w2 ⟨rfl, rfl⟩)
                go_ret2
                exact ⟨by rw [HX.out]; rfl, rfl⟩
          · have hkn := Bool.eq_false_iff.2 hkn
            have HW2 : Hid (checkM l = (151, (j : Int))) := by
              have := HW.out
              unfold wrongAt at this
              simp only at this
              rw [hkn] at this
              exact this
            have hr : xo < 1 ∨ 22 < xo := by
              by_cases hh : xo < 1 ∨ 22 < xo
              · exact hh
              · rw [(known_iff xo).2 hh] at hkn; cases hkn
            clear HW hkn
            by_cases hr1 : xo < 1
            · have t1 := decide_eq_true hr1
              clear hr
              go_wp2
              go_ret2
              exact ⟨by rw [HW2.out]; rfl, rfl⟩
            · have t1 := decide_eq_false hr1
              have t2 : decide (22 < xo) = true := by simp; omega
              clear hr
              go_wp2
              go_ret2
              exact ⟨by rw [HW2.out]; rfl, rfl⟩
        · have h1 : ¬ (j : Int) < (n : Int) := by omega
          have HF : Hid (checkM l = (0, 0)) := by
            have := HC.out
            rwa [show l.drop j = [] from List.drop_eq_nil_iff.2 (by have := HN.out; omega)] at this
          clear HC
          go_wp2
          go_ret2
          exact ⟨by rw [HF.out]; rfl, rfl⟩
end Go.Proofs.YtcchflfeomainaaGreatDoor
