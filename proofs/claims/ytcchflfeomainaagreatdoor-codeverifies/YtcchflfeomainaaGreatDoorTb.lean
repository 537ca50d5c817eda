/- known, mayBe, check, Check, Name, Takes. -/
import Derived.Test.YtcchflfeomainaaGreatDoorTbl
import Derived.Test.YtcchflfeomainaaGreatDoorCdM
import Derived.Test.YtcchflfeomainaaGreatDoorChecked
import Derived.LoopTactic
import Derived.BigQuiet
import Derived.Deep.QuietTactic
import Derived.Deep.RegionLaw
namespace Go.Proofs.YtcchflfeomainaaGreatDoor
open Go.RowKit
set_option linter.unusedVariables false
set_option linter.unusedSimpArgs false

theorem known_any (op : Int) (b : Nat) (w : World) : Calls Tryz.prog 28 #[.slice (some ⟨b, 0, none⟩) 23 23, .int .i64 op] w fun e w' => e = .returned (.bool (knownB op)) ∧ w' = w := by
  unfold knownB
  by_cases h1 : 0 < op
  · by_cases h2 : op < 23
    · rw [decide_eq_true h1, decide_eq_true h2]
      go_enter Tryz.func28, Tryz.ntmps28
      go_wp2
      go_ret
      exact ⟨rfl, rfl⟩
    · rw [decide_eq_true h1, decide_eq_false h2]
      have t2 := decide_eq_false h2
      go_enter Tryz.func28, Tryz.ntmps28
      go_wp2
      go_ret
      exact ⟨rfl, rfl⟩
  · rw [decide_eq_false h1]
    have t1 := decide_eq_false h1
    go_enter Tryz.func28, Tryz.ntmps28
    go_wp2
    go_ret
    exact ⟨rfl, rfl⟩

set_option maxRecDepth 100000 in
set_option maxHeartbeats 1000000 in
theorem mayBe_any (t a e : Int) (w : World) : Calls Tryz.prog 47 #[.int .i64 t, .int .i64 a, .int .i64 e] w fun x w' => x = .returned (.bool (mayB t a e)) ∧ w' = w := by
  by_cases h1 : (t == 1) = true
  · simp only [mayB, h1, if_true]
    go_enter Tryz.func47, Tryz.ntmps47
    go_wp2
    go_ret
    exact ⟨rfl, rfl⟩
  · have h1 := Bool.eq_false_iff.2 h1
    by_cases h2 : (t == 2) = true
    · simp only [mayB, h1, h2, if_true]
      by_cases h3 : 0 ≤ a
      · simp only [decide_eq_true h3, Bool.true_and]
        go_enter Tryz.func47, Tryz.ntmps47
        go_wp2
        go_ret
        exact ⟨rfl, rfl⟩
      · have h3 := decide_eq_false h3
        simp only [h3, Bool.false_and]
        go_enter Tryz.func47, Tryz.ntmps47
        go_wp2
        go_ret
        exact ⟨rfl, rfl⟩
    · have h2 := Bool.eq_false_iff.2 h2
      by_cases h4 : (t == 3) = true
      · simp only [mayB, h1, h2, h4, if_true]
        by_cases h3 : 0 ≤ a
        · simp only [decide_eq_true h3, Bool.true_and]
          go_enter Tryz.func47, Tryz.ntmps47
          go_wp2
          go_ret
          exact ⟨rfl, rfl⟩
        · have h3 := decide_eq_false h3
          simp only [h3, Bool.false_and]
          go_enter Tryz.func47, Tryz.ntmps47
          go_wp2
          go_ret
          exact ⟨rfl, rfl⟩
      · have h4 := Bool.eq_false_iff.2 h4
        simp only [mayB, h1, h2, h4]
        go_enter Tryz.func47, Tryz.ntmps47
        go_wp2
        go_ret
        exact ⟨rfl, rfl⟩

set_option maxRecDepth 100000 in
set_option maxHeartbeats 2000000 in
theorem check_any (b : Nat) (la : Option Addr) (n lc : Nat) (l : List Ins) (w : World) (hT : TabAt 57 b w) (hL : IIn w la n l) :
    Calls Tryz.prog 26 #[.slice (some ⟨b, 0, none⟩) 23 23, .slice la n lc] w fun e w' => e = .returned (.tuple #[.int .i64 (checkM l).1, .int .i64 (checkM l).2]) ∧ Kept (fun _ => False) w w' := by
  have HN : Hid (n = l.length) := hL.1
  by_cases h0 : n = 0
  · subst h0
    have e : checkM l = (150, 0) := by simp [checkM, ← HN.out]
    rw [e]
    clear hL hT
    go_enter Tryz.func26, Tryz.ntmps26
    go_wp2
    go_ret2
    exact ⟨rfl, Kept.refl _ _⟩
  · have t0 : ((n : Int) == 0) = false := by simpa using h0
    by_cases h4 : 400 < n
    · have e : checkM l = (150, 0) := by simp [checkM, ← HN.out, h4]
      rw [e]
      have t4 : (400 : Int) < (n : Int) := by omega
      clear hL hT
      go_enter Tryz.func26, Tryz.ntmps26
      go_wp2
      go_ret2
      exact ⟨rfl, Kept.refl _ _⟩
    · have e : checkM l = checkFrom n 0 (l.drop 0) := by simp [checkM, ← HN.out, h4, h0]
      have t4 : ¬ (400 : Int) < (n : Int) := by omega
      obtain ⟨g, o, rfl⟩ := hL.addr (by omega)
      have HE : Hid (checkM l = checkFrom n 0 (l.drop 0)) := e
      clear e h4
      go_enter Tryz.func26, Tryz.ntmps26
      go_wp2
      go_loopw [18] (fun i wr => ∃ j : Nat, i = .int .i64 j ∧ j ≤ n ∧ checkM l = checkFrom n j (l.drop j) ∧ Kept (fun _ => False) w wr) (fun i _ => n - (intOf i).toNat)
      case atStart => exact ⟨0, rfl, Nat.zero_le _, HE.out, Kept.refl _ _⟩
      case round =>
        obtain ⟨j, rfl, hj, he, hk⟩ := hrel
        have HC : Hid (checkM l = checkFrom n j (l.drop j)) := he
        clear he
        by_cases hlt : j < n
        · have hz : j < l.length := by have := HN.out; omega
          obtain ⟨c0, c1⟩ := (hL.kept hk).cells hz
          have HW : Hid (checkM l = if wrongAt (l.getD j Ins.zero) n = 0 then checkFrom n (j + 1) (l.drop (j + 1)) else (wrongAt (l.getD j Ins.zero) n, (j : Int))) := HC.out.trans (checkFrom_drop hz)
          have h0 : (0 : Int) ≤ (j : Int) := Int.natCast_nonneg _
          have h1 : (j : Int) < (n : Int) := by omega
          have hT1 := hT.kept hk
          generalize l.getD j Ins.zero = x at *
          clear hL hT HC
          by_cases hkn : knownB x.op = true
          · obtain ⟨m, hm, hm0, hm1⟩ := known_nat hkn
            have ct := ((hT1.kept (kept_alloc wr (.cells #[.int .i64 x.op, .int .i64 x.a] 48))).takes hm1)
            rw [← hm] at ct
            have b0 : (0 : Int) ≤ x.op := by omega
            have b1 : x.op < (23 : Int) := by omega
            have bm : x.op.toNat = m := by omega
            have HW2 : Hid (checkM l = if mayB (rowOf x.op).takes x.a n = false then (152, (j : Int)) else checkFrom n (j + 1) (l.drop (j + 1))) := by
              have := HW.out
              unfold wrongAt at this
              rw [hkn] at this
              show _ = _
              rw [this]
              cases mayB (rowOf x.op).takes x.a n <;> rfl
            clear HW hT1
            have hq := fun W => mayBe_any (rowOf x.op).takes x.a n W
            generalize (rowOf x.op).takes = tk at *
            generalize mayB tk x.a n = bb at *
            generalize x.op = xo at *
            generalize x.a = xa at *
            subst hm
            clear bm
            cases bb
            · go_wp2_with (go_at_call 28; refine (known_any _ _ _).mono ?_; rintro e w2 ⟨rfl, rfl⟩; rw [hkn])
              go_quiet ((go_at_call 47; exact Calls.quiet_of_same (hq _)))
              go_wp2
              go_ret2
              exact ⟨by rw [HW2.out]; rfl, (hk.alloc _).drewN _⟩
            · go_wp2_with (go_at_call 28; refine (known_any _ _ _).mono ?_; rintro e w2 ⟨rfl, rfl⟩; rw [hkn])
              go_quiet ((go_at_call 47; exact Calls.quiet_of_same (hq _)))
              go_wp2
              go_roundw
              case rel => exact ⟨j + 1, by simp, by omega, HW2.out, (hk.alloc _).drewN _⟩
              case measure => simp [intOf]; omega
          · have hkn := Bool.eq_false_iff.2 hkn
            have HW2 : Hid (checkM l = (151, (j : Int))) := by
              have := HW.out
              unfold wrongAt at this
              rw [hkn] at this
              exact this
            clear HW hT1
            go_wp2_with (go_at_call 28; refine (known_any _ _ _).mono ?_; rintro e w2 ⟨rfl, rfl⟩; rw [hkn])
            go_ret2
            exact ⟨by rw [HW2.out]; rfl, hk.alloc _⟩
        · have h1 : ¬ (j : Int) < (n : Int) := by omega
          have HF : Hid (checkM l = (0, 0)) := by
            have := HC.out
            rwa [show l.drop j = [] from List.drop_eq_nil_iff.2 (by have := HN.out; omega)] at this
          clear hL hT HC
          go_wp2
          go_ret2
          exact ⟨by rw [HF.out]; rfl, hk⟩

theorem Check_any (la : Option Addr) (n lc : Nat) (l : List Ins) (w : World) (hL : IIn w la n l) :
    Calls Tryz.prog 11 #[.slice la n lc] w fun e w' => e = .returned (.tuple #[.int .i64 (checkM l).1, .int .i64 (checkM l).2]) ∧ Kept (fun _ => False) w w' := by
  have k0 := kept_alloc w (.cells tabC 57)
  have hT : TabAt 57 w.heap.size (w.alloc (.cells tabC 57)) := heap_alloc_new _ _
  have hq := check_any w.heap.size la n lc l _ hT (hL.kept k0)
  clear hL hT
  go_enter Tryz.func11, Tryz.ntmps11
  go_wp2_with (go_at_call 27; refine (table_any _).mono ?_; rintro e w1 ⟨rfl, rfl⟩)
  go_wp2_with (go_at_call 26; refine hq.mono ?_; rintro e w2 ⟨rfl, k1⟩)
  go_ret2
  exact ⟨rfl, k0.trans k1 (fun _ _ f => f)⟩
/-- What an instruction is called, and takes, by any number. -/
def nameM (op : Int) : ByteArray := if knownB op then (rowOf op).word else ⟨#[]⟩
def takesM (op : Int) : Int := if knownB op then (rowOf op).takes else 0
theorem Name_any (op : Int) (w : World) : Calls Tryz.prog 14 #[.int .i64 op] w fun e w' => e = .returned (.string (nameM op)) ∧ Kept (fun _ => False) w w' := by
  have k0 := kept_alloc w (.cells tabC 57)
  have hT : TabAt 57 w.heap.size (w.alloc (.cells tabC 57)) := heap_alloc_new _ _
  unfold nameM
  by_cases hk : knownB op = true
  · obtain ⟨m, rfl, hm0, hm1⟩ := known_nat hk
    have c0 := hT.word hm1
    simp only [hk, if_true]
    generalize (rowOf (m : Int)).word = wd at *
    have b0 : (0 : Int) ≤ (m : Int) := by omega
    have b1 : (m : Int) < (23 : Int) := by omega
    clear hT
    go_enter Tryz.func14, Tryz.ntmps14
    go_wp2_with (go_at_call 27; refine (table_any _).mono ?_; rintro e w1 ⟨rfl, rfl⟩)
    go_wp2_with (go_at_call 28; refine (known_any _ _ _).mono ?_; rintro e w2 ⟨rfl, rfl⟩; rw [hk])
    go_ret
    exact ⟨rfl, k0⟩
  · have hk := Bool.eq_false_iff.2 hk
    simp only [hk]
    clear hT
    go_enter Tryz.func14, Tryz.ntmps14
    go_wp2_with (go_at_call 27; refine (table_any _).mono ?_; rintro e w1 ⟨rfl, rfl⟩)
    go_wp2_with (go_at_call 28; refine (known_any _ _ _).mono ?_; rintro e w2 ⟨rfl, rfl⟩; rw [hk])
    go_ret
    exact ⟨rfl, k0⟩
theorem Takes_any (op : Int) (w : World) : Calls Tryz.prog 16 #[.int .i64 op] w fun e w' => e = .returned (.int .i64 (takesM op)) ∧ Kept (fun _ => False) w w' := by
  have k0 := kept_alloc w (.cells tabC 57)
  have hT : TabAt 57 w.heap.size (w.alloc (.cells tabC 57)) := heap_alloc_new _ _
  unfold takesM
  by_cases hk : knownB op = true
  · obtain ⟨m, rfl, hm0, hm1⟩ := known_nat hk
    have c0 := hT.takes hm1
    simp only [hk, if_true]
    generalize (rowOf (m : Int)).takes = wd at *
    have b0 : (0 : Int) ≤ (m : Int) := by omega
    have b1 : (m : Int) < (23 : Int) := by omega
    clear hT
    go_enter Tryz.func16, Tryz.ntmps16
    go_wp2_with (go_at_call 27; refine (table_any _).mono ?_; rintro e w1 ⟨rfl, rfl⟩)
    go_wp2_with (go_at_call 28; refine (known_any _ _ _).mono ?_; rintro e w2 ⟨rfl, rfl⟩; rw [hk])
    go_ret
    exact ⟨rfl, k0⟩
  · have hk := Bool.eq_false_iff.2 hk
    simp only [hk]
    clear hT
    go_enter Tryz.func16, Tryz.ntmps16
    go_wp2_with (go_at_call 27; refine (table_any _).mono ?_; rintro e w1 ⟨rfl, rfl⟩)
    go_wp2_with (go_at_call 28; refine (known_any _ _ _).mono ?_; rintro e w2 ⟨rfl, rfl⟩; rw [hk])
    go_ret
    exact ⟨rfl, k0⟩
end Go.Proofs.YtcchflfeomainaaGreatDoor
