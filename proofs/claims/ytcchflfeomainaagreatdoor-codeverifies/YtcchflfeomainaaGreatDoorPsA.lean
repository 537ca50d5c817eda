/- giveUp, said, isLetter, isName, the op of a word, a number. -/
import Derived.Test.YtcchflfeomainaaGreatDoorPsK
import Derived.Test.YtcchflfeomainaaGreatDoorTb
import Derived.WalkLawsBesides
import Derived.Lib.IfaceNeq
namespace Go.Proofs.YtcchflfeomainaaGreatDoor
open Go.RowKit
set_option linter.unusedVariables false
set_option linter.unusedSimpArgs false

theorem giveUp_any (l e : Int) (w : World) : Calls Tryz.prog 60 #[.int .i64 l, .int .i64 e] w fun x w' => x = .panicked [{ v := .iface 100 (.agg #[.int .i64 l, .int .i64 e]), recovered := false }] ∧ w' = w := by
  go_enter Tryz.func60, Tryz.ntmps60
  go_wp2
  exact ⟨rfl, rfl, rfl⟩

theorem cut_len (l : List UInt8) : (Lib.cut l [59]).1.length ≤ l.length := by
  unfold Lib.cut
  split
  · simp; omega
  · exact Nat.le_refl _
theorem trimLeft_len (l cs : List UInt8) : (Lib.trimLeftS l cs).length ≤ l.length := (List.dropWhile_sublist _).length_le
theorem trim_len (l cs : List UInt8) : (Lib.trimS l cs).length ≤ l.length := by
  refine Nat.le_trans (trimLeft_len _ _) ?_
  unfold Lib.trimRightS
  rw [List.length_reverse]
  exact Nat.le_trans (List.dropWhile_sublist _).length_le (by simp)
theorem said_len (l : List UInt8) : (saidM l).length ≤ l.length := Nat.le_trans (trim_len _ _) (cut_len l)
theorem said_any (l : List UInt8) (w : World) (hE : Env w) (hl : l.length ≤ 65536) : Calls Tryz.prog 63 #[.string (bs l)] w fun e w' => e = .returned (.string (bs (saidM l))) ∧ Kept (fun _ => False) w w' := by
  have hc := cut_any l hE hl
  have ht := fun W => trim_any (w := W) (Lib.cut l [59]).1 (Nat.le_trans (cut_len l) hl)
  unfold saidM
  generalize Lib.cut l [59] = c at *
  obtain ⟨c1, c2, c3⟩ := c
  simp only at *
  generalize Lib.trimS c1 [32, 9] = d at *
  go_enter Tryz.func63, Tryz.ntmps63
  go_wp2_with (go_at_call 71; refine hc.mono ?_; rintro e w1 ⟨rfl, k1⟩)
  go_wp2_with (go_at_call 72; refine (ht _).mono ?_; rintro e w2 ⟨rfl, k2⟩)
  go_ret
  exact ⟨rfl, k1.trans k2 (fun _ _ f => f)⟩

theorem isLetter_any (c : Int) (w : World) : Calls Tryz.prog 104 #[.int .u8 c] w fun e w' => e = .returned (.bool (lttI c)) ∧ w' = w := by
  unfold lttI
  by_cases h1 : 97 ≤ c
  · rw [decide_eq_true h1, Bool.true_and]
    go_enter Tryz.func104, Tryz.ntmps104
    go_wp2
    go_ret
    exact ⟨rfl, rfl⟩
  · have h1 := decide_eq_false h1
    rw [h1, Bool.false_and]
    go_enter Tryz.func104, Tryz.ntmps104
    go_wp2
    go_ret
    exact ⟨rfl, rfl⟩

theorem nameB_of {l : List UInt8} (h0 : 0 < l.length) (h1 : l.length ≤ 16) (h2 : letB (l.getD 0 0) = true) : nameB l = (l.drop 1).all restB := by
  cases l with
  | nil => simp at h0
  | cons c r =>
    have h3 : r.length < 16 := by simp at h1; omega
    simp only [List.getD_cons_zero] at h2
    simp [nameB, h2, h3]
theorem drop_all {l : List UInt8} {j : Nat} (hj : j < l.length) : (l.drop j).all restB = (restB (l.getD j 0) && (l.drop (j + 1)).all restB) := by
  rw [List.drop_eq_getElem_cons hj, List.all_cons]
  simp [List.getD_eq_getElem?_getD, hj]
set_option maxRecDepth 100000 in
set_option maxHeartbeats 1000000 in
theorem isName_any (s : ByteArray) (w : World) (hs : s.size ≤ 65536) : Calls Tryz.prog 81 #[.string s] w fun e w' => e = .returned (.bool (nameB s.data.toList)) ∧ w' = w := by
  have hsz : s.data.toList.length = s.size := by rw [Array.length_toList]; rfl
  by_cases h0 : s.size = 0
  · have e : s.data.toList = [] := List.length_eq_zero_iff.1 (by omega)
    have hn : nameB s.data.toList = false := by rw [e]; rfl
    rw [hn]
    have t0 : decide ((s.size : Int) < 1) = true := by simp; omega
    clear e hn hsz hs
    go_enter Tryz.func81, Tryz.ntmps81
    go_wp2
    go_ret
    exact ⟨rfl, rfl⟩
  · by_cases h16 : 16 < s.size
    · have hn : nameB s.data.toList = false := by
        revert hsz
        cases s.data.toList with
        | nil => intro h; rfl
        | cons c r =>
          intro h
          have : ¬ r.length < 16 := by simp at h; omega
          simp [nameB, this]
      rw [hn]
      have t0 : decide ((s.size : Int) < 1) = false := by simp; omega
      have t1 : (16 : Int) < (s.size : Int) := by omega
      clear hn hsz hs
      go_enter Tryz.func81, Tryz.ntmps81
      go_wp2
      go_ret
      exact ⟨rfl, rfl⟩
    · have hlt : 0 < s.size := by omega
      have t0 : decide ((s.size : Int) < 1) = false := by simp; omega
      have t1 : decide ((16 : Int) < (s.size : Int)) = false := by simp; omega
      have g0 : s.data.toList.getD 0 0 = s[0] := by
        rw [List.getD_eq_getElem?_getD, List.getElem?_eq_getElem (by omega)]
        simp
        rfl
      have hq := fun W => isLetter_any (s[0].toNat : Int) W
      have HL : Hid (lttI (s[0].toNat : Int) = letB (s.data.toList.getD 0 0)) := by rw [g0]; rfl
      clear g0
      cases hb : lttI (s[0].toNat : Int)
      · have hn : nameB s.data.toList = false := by
          have h2 : letB (s.data.toList.getD 0 0) = false := by rw [← HL.out, hb]
          revert hsz h2
          cases s.data.toList with
          | nil => intro h h2; rfl
          | cons c r =>
            intro h h2
            simp only [List.getD_cons_zero] at h2
            simp [nameB, h2]
        rw [hn]
        rw [hb] at hq
        clear HL hn hb hsz
        go_enter Tryz.func81, Tryz.ntmps81
        go_wp2_with (go_at_call 104; refine (hq _).mono ?_; rintro e w1 ⟨rfl, rfl⟩)
        go_ret
        exact ⟨rfl, rfl⟩
      · have HN : Hid (nameB s.data.toList = (s.data.toList.drop 1).all restB) := nameB_of (by omega) (by omega) (by rw [← HL.out, hb])
        rw [hb] at hq
        clear HL hb
        go_enter Tryz.func81, Tryz.ntmps81
        go_wp2_with (go_at_call 104; refine (hq _).mono ?_; rintro e w1 ⟨rfl, rfl⟩)
        go_loop [3] (fun i => ∃ j : Nat, i = .int .i64 j ∧ 1 ≤ j ∧ j ≤ s.size ∧ nameB s.data.toList = (s.data.toList.drop j).all restB) (fun i => s.size - (intOf i).toNat)
        case atStart => exact ⟨1, rfl, Nat.le_refl _, hlt, HN.out⟩
        case round =>
          obtain ⟨j, rfl, hj1, hj, hn⟩ := hrel
          have HD : Hid (nameB s.data.toList = (s.data.toList.drop j).all restB) := hn
          clear hn HN hq
          by_cases hlt : j < s.size
          · have g0 : s.data.toList.getD j 0 = s[j] := by
              rw [List.getD_eq_getElem?_getD, List.getElem?_eq_getElem (by omega)]
              simp
              rfl
            have HD2 : Hid (nameB s.data.toList = (restB s[j] && (s.data.toList.drop (j + 1)).all restB)) := by
              have := HD.out.trans (drop_all (by omega))
              rwa [g0] at this
            have hq := fun W => isLetter_any (s[j].toNat : Int) W
            have HR : Hid (restB s[j] = restI (s[j].toNat : Int)) := rfl
            have h0 : (0 : Int) ≤ (j : Int) := Int.natCast_nonneg _
            have h1 : (j : Int) < (s.size : Int) := by omega
            clear g0 HD
            have HB : ∀ c, Hid (restI c = (lttI c || (decide (48 ≤ c) && decide (c ≤ 57)) || c == 45)) := fun _ => rfl
            have HG : Hid (nameB s.data.toList = (restI (s[j].toNat : Int) && (s.data.toList.drop (j + 1)).all restB)) := by rw [← HR.out]; exact HD2.out
            clear HD2 HR
            by_cases hc : restI (s[j].toNat : Int) = true
            · have HG2 : Hid (nameB s.data.toList = (s.data.toList.drop (j + 1)).all restB) := by have := HG.out; rwa [hc, Bool.true_and] at this
              have hb := (HB _).out.symm.trans hc
              clear HG HB hc
              cases hl : lttI (s[j].toNat : Int)
              · rw [hl, Bool.false_or] at hb
                rw [hl] at hq
                by_cases h45 : ((s[j].toNat : Int) == 45) = true
                · have hne : ((s[j].toNat : Int) != 45) = false := by simp [bne, h45]
                  have h48 : decide ((s[j].toNat : Int) < 48) = true := by simp at h45; simp; omega
                  clear hb h45
                  go_wp2_with (go_at_call 104; refine (hq _).mono ?_; rintro e w1 ⟨rfl, rfl⟩)
                  go_round
                  case rel => exact ⟨j + 1, by simp, by omega, by omega, HG2.out⟩
                  case measure => simp [intOf]; omega
                · have h45 := Bool.eq_false_iff.2 h45
                  rw [h45, Bool.or_false, Bool.and_eq_true, decide_eq_true_eq, decide_eq_true_eq] at hb
                  have h48 : decide ((s[j].toNat : Int) < 48) = false := by simp; omega
                  have h57 : decide ((57 : Int) < (s[j].toNat : Int)) = false := by simp; omega
                  clear hb h45
                  go_wp2_with (go_at_call 104; refine (hq _).mono ?_; rintro e w1 ⟨rfl, rfl⟩)
                  go_round
                  case rel => exact ⟨j + 1, by simp, by omega, by omega, HG2.out⟩
                  case measure => simp [intOf]; omega
              · rw [hl] at hq
                clear hb
                go_wp2_with (go_at_call 104; refine (hq _).mono ?_; rintro e w1 ⟨rfl, rfl⟩)
                go_round
                case rel => exact ⟨j + 1, by simp, by omega, by omega, HG2.out⟩
                case measure => simp [intOf]; omega
            · have hc := Bool.eq_false_iff.2 hc
              have HG2 : Hid (nameB s.data.toList = false) := by have := HG.out; rwa [hc, Bool.false_and] at this
              have hb := (HB _).out.symm.trans hc
              clear HG HB hc
              rw [Bool.or_eq_false_iff, Bool.or_eq_false_iff] at hb
              obtain ⟨⟨hl, hb⟩, h45⟩ := hb
              rw [hl] at hq
              have hne : ((s[j].toNat : Int) != 45) = true := by simp [bne, h45]
              by_cases h48 : (s[j].toNat : Int) < 48
              · have h48 := decide_eq_true h48
                clear hb h45
                go_wp2_with (go_at_call 104; refine (hq _).mono ?_; rintro e w1 ⟨rfl, rfl⟩)
                go_ret
                exact ⟨by rw [HG2.out]; rfl, rfl⟩
              · have h57 : decide ((57 : Int) < (s[j].toNat : Int)) = true := by
                  rw [Bool.and_eq_false_iff, decide_eq_false_iff_not, decide_eq_false_iff_not] at hb
                  simp
                  omega
                have h48 := decide_eq_false h48
                clear hb h45
                go_wp2_with (go_at_call 104; refine (hq _).mono ?_; rintro e w1 ⟨rfl, rfl⟩)
                go_ret
                exact ⟨by rw [HG2.out]; rfl, rfl⟩
          · have h1 : ¬ (j : Int) < (s.size : Int) := by omega
            have HF : Hid (nameB s.data.toList = true) := by
              have := HD.out
              rwa [show s.data.toList.drop j = [] from List.drop_eq_nil_iff.2 (by omega)] at this
            clear HD
            go_wp2
            go_ret
            exact ⟨by rw [HF.out]; rfl, rfl⟩

/-- A reader's block. -/
def rdC (bt mb : Nat) (line : Int) (v : Value) : Array Value := #[.slice (some ⟨bt, 0, none⟩) 23 23, .int .i64 line, .map (some mb), v]
theorem opFrom_none {x : List UInt8} : ∀ k n, opFrom k n x = none → ∀ i, i < k → (rowOf ((n + i : Nat) : Int)).word ≠ bs x
  | 0, n, h, i, hi => by omega
  | k + 1, n, h, i, hi => by
    unfold opFrom at h
    split at h
    · cases h
    · cases i with
      | zero => assumption
      | succ i =>
        have := opFrom_none k (n + 1) h i (by omega)
        rwa [show n + 1 + i = n + (i + 1) by omega] at this
theorem opFrom_lt {x : List UInt8} : ∀ k n m, opFrom k n x = some m → n ≤ m ∧ m < n + k ∧ (rowOf (m : Int)).word = bs x
  | 0, n, m, h => by cases h
  | k + 1, n, m, h => by
    unfold opFrom at h
    split at h
    · cases h
      exact ⟨Nat.le_refl _, by omega, by assumption⟩
    · obtain ⟨a, b, c⟩ := opFrom_lt k (n + 1) m h
      exact ⟨by omega, by omega, c⟩
set_option maxRecDepth 100000 in
set_option maxHeartbeats 1000000 in
theorem op_any (r bt mb : Nat) (line : Int) (v : Value) (x : List UInt8) (w : World) (hr : w.heap[r]? = some (.cells (rdC bt mb line v) 117 (0, 0))) (hT : TabAt 57 bt w) :
    Calls Tryz.prog 84 #[.pointer (some ⟨r, 0, none⟩), .string (bs x)] w fun e w' => w' = w ∧ ((∃ n : Nat, opM x = some n ∧ e = .returned (.int .i64 n)) ∨ (opM x = none ∧ e = .panicked [{ v := .iface 100 (.agg #[.int .i64 line, .int .i64 153]), recovered := false }])) := by
  have c0 : w.cell? ⟨r, 0, none⟩ = some (.slice (some ⟨bt, 0, none⟩) 23 23) := cell_of_heap hr
  have c1 : w.cell? ⟨r, 1, none⟩ = some (.int .i64 line) := cell_of_heap hr
  clear hr
  go_enter Tryz.func84, Tryz.ntmps84
  go_wp2
  go_loop [11] (fun i => ∃ j : Nat, i = .int .i64 j ∧ j ≤ 23 ∧ opM x = opFrom (23 - j) j x) (fun i => 23 - (intOf i).toNat)
  case atStart => exact ⟨0, rfl, by omega, rfl⟩
  case round =>
    obtain ⟨j, rfl, hj, hn⟩ := hrel
    have HD : Hid (opM x = opFrom (23 - j) j x) := hn
    clear hn
    by_cases hlt : j < 23
    · have cw := hT.word hlt
      have h0 : (0 : Int) ≤ (j : Int) := Int.natCast_nonneg _
      have h1 : (j : Int) < (23 : Int) := by omega
      have HD2 : Hid (opM x = if (rowOf (j : Nat)).word = bs x then some j else opFrom (23 - (j + 1)) (j + 1) x) := by
        have := HD.out
        rwa [show 23 - j = (23 - (j + 1)) + 1 by omega] at this
      generalize (rowOf (j : Int)).word = wd at *
      clear HD hT
      by_cases he : wd = bs x
      · have HF : Hid (opM x = some j) := by have := HD2.out; rwa [if_pos he] at this
        have hx : (wd.toList == x) = true := by rw [he]; simp
        clear HD2 he
        go_wp2
        go_ret
        exact ⟨rfl, .inl ⟨j, HF.out, rfl⟩⟩
      · have HF : Hid (opM x = opFrom (23 - (j + 1)) (j + 1) x) := by have := HD2.out; rwa [if_neg he] at this
        have hx : (wd.toList == x) = false := by
          rw [beq_eq_false_iff_ne, ByteArray.toList_eq]
          intro e
          exact he (by rw [← e, bs_data])
        clear HD2 he
        go_wp2
        go_round
        case rel => exact ⟨j + 1, by simp, by omega, HF.out⟩
        case measure => simp [intOf]; omega
    · obtain rfl : j = 23 := by omega
      have HF : Hid (opM x = none) := HD.out
      clear HD hT
      go_wp2_with (go_at_call 60; refine (giveUp_any _ _ _).mono ?_; rintro e w1 ⟨rfl, rfl⟩)
      exact ⟨rfl, rfl, .inr ⟨HF.out, rfl⟩⟩

theorem atoi_fits {l : List UInt8} {v : Int} (h : Lib.atoiAll l = .ok v) : -9223372036854775808 ≤ v ∧ v ≤ 9223372036854775807 := by
  unfold Lib.atoiAll at h
  split at h
  · cases h
  · simp only at h
    split at h
    · cases h
    · cases h
    · split at h
      · cases h
      · split at h
        · cases h
        · simp only [Lib.NumEnd.ok.injEq] at h
          subst h
          split <;> omega
set_option maxRecDepth 100000 in
set_option maxHeartbeats 1000000 in
theorem number_any (r bt mb : Nat) (line : Int) (vv : Value) (x : List UInt8) (w : World) (hr : w.heap[r]? = some (.cells (rdC bt mb line vv) 117 (0, 0))) (hE : Env w) (hl : x.length ≤ 65536) :
    Calls Tryz.prog 85 #[.pointer (some ⟨r, 0, none⟩), .string (bs x)] w fun e w' => Kept (fun _ => False) w w' ∧ ((∃ n, numM x = some n ∧ e = .returned (.int .i64 n)) ∨ (numM x = none ∧ e = .panicked [{ v := .iface 100 (.agg #[.int .i64 line, .int .i64 153]), recovered := false }])) := by
  have hlt := lt_of_heap hr
  have HC : ∀ W, Kept (fun _ => False) w W → Hid (W.cell? ⟨r, 1, none⟩ = some (.int .i64 line)) := fun W k => cell_of_heap ((k.block r hlt (fun f => f)).trans hr)
  have ha := atoi_any x hl hE
  have HE : Hid (Env w) := hE
  clear hr hE
  go_enter Tryz.func85, Tryz.ntmps85
  go_wp2_with fail
  refine ha.mono ?_
  clear ha
  rintro e w1 ⟨k1, ⟨v, hv, rfl⟩ | ⟨hv, v, N, rfl⟩⟩
  · obtain ⟨v0, v1⟩ := atoi_fits hv
    have hi := itoa_any v v0 v1 (HE.out.kept k1)
    by_cases he : Lib.itoa v = x
    · have HN : Hid (numM x = some v) := by
        show numM x = some v
        simp only [numM, hv]
        rw [if_pos he]
      have hx : (Lib.itoa v == x) = true := by simpa using he
      generalize Lib.itoa v = iv at *
      clear he hv v0 v1 HC
      go_wp2_with (go_at_call 37; refine hi.mono ?_; rintro e w2 ⟨rfl, k2⟩)
      go_ret
      exact ⟨k1.trans k2 (fun _ _ f => f), .inl ⟨_, HN.out, rfl⟩⟩
    · have HN : Hid (numM x = none) := by
        show numM x = none
        simp only [numM, hv]
        rw [if_neg he]
      have hx : (Lib.itoa v == x) = false := by simpa using he
      generalize Lib.itoa v = iv at *
      clear he hv v0 v1
      go_wp2_with (first | (go_at_call 37; refine hi.mono ?_; rintro e w2 ⟨rfl, k2⟩; have c1 := (HC _ (k1.trans k2 (fun _ _ f => f))).out) | (go_at_call 60; refine (giveUp_any _ _ _).mono ?_; rintro e w3 ⟨rfl, rfl⟩))
      exact ⟨rfl, k1.trans k2 (fun _ _ f => f), .inr ⟨HN.out, rfl⟩⟩
  · have HN : Hid (numM x = none) := by
      unfold numM
      split
      · exact absurd (by assumption) (hv _)
      · rfl
    have c1 := (HC _ k1).out
    clear hv HC
    go_wp2_with (go_at_call 60; refine (giveUp_any _ _ _).mono ?_; rintro e w3 ⟨rfl, rfl⟩)
    exact ⟨rfl, k1, .inr ⟨HN.out, rfl⟩⟩
end Go.Proofs.YtcchflfeomainaaGreatDoor
