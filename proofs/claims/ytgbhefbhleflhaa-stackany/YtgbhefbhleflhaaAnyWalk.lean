/- StackAny's walk: stacks of texts and of structs side by side. -/
import Derived.Test.YtgbhefbhleflhaaSide
import Derived.Deep.CutBlock
namespace Go.Proofs.Ytgbhefbhleflhaa
open Go.RowKit
set_option linter.unusedVariables false
set_option linter.unusedSimpArgs false
attribute [local go_sem ↓] Go.wp_at_zero Go.wp_at_succ

theorem Side.made {w0 w w1 w2 : World} {p q : Nat} {v u : Value} (ss : List ByteArray) (k0 : Kept (fun _ => False) w0 w) (a1 : StackAt 71 9 1 w.heap.size w1 p 256 v 0 []) (k1 : Kept (fun _ => False) w w1) (b1 : StackAt 74 56 3 w1.heap.size w2 q 256 u 0 []) (k2 : Kept (fun _ => False) w1 w2) : Side w0 w2 p q v u 0 ss := by
  have z1 := k0.trans k1 (fun _ _ f => f)
  exact ⟨(a1.calm k2).mono k0.size, b1.mono z1.size, Apart.later a1 b1, z1.trans k2 (fun _ _ f => f)⟩

set_option maxRecDepth 100000 in
set_option maxHeartbeats 1000000 in
theorem any_walk (la : Option Addr) (len cap : Nat) (ss : List ByteArray) (cut : Int) (w : World) (hS : StrsIn w la len ss) (hlen : len ≤ 17592186044416) :
    Calls Try.prog 5 #[.slice la len cap, .int .i64 cut] w fun e w' => e = .returned (.bool true) ∧ Kept (fun _ => False) w w' := by
  have HI : Hid (∀ w', Kept (fun _ => False) w w' → StrsIn w' la len ss) := fun w' k => hS.kept k
  clear hS
  have hmin := fun ats ty W => min_run (P := Try.prog) len 256 ats ty W
  simp only [Int.cast_ofNat_Int] at hmin
  have hN1 : min 256 len ≤ len := by omega
  have hN2 : min 256 len ≤ 256 := by omega
  generalize min 256 len = N at hmin hN1 hN2
  have hE : Hid (cutE N cut = if cut < 0 then 1 else if (N : Int) < cut then 12 else 0) := rfl
  have hF : Hid (cutL N cut = if cut < 0 then N else if (N : Int) < cut then N else N - cut.toNat) := rfl
  have hLN := cutL_le N cut
  go_enter Try.func5, Try.ntmps5
  go_wp2_with fail
  refine (awake_any _).mono ?_
  rintro e wa ⟨rfl, hka⟩
  go_wp2_with fail
  refine (newS_yes 256 _ (by omega) (by omega)).mono ?_
  rintro e w1 ⟨rfl, a1, k1⟩
  go_wp2_with fail
  refine (newT_yes 256 _ (by omega) (by omega)).mono ?_
  rintro e w2 ⟨rfl, b1, k2⟩
  have S0 := Side.made ss hka a1 k1 b1 k2
  clear hka a1 k1 b1 k2
  generalize wa.heap.size = p at S0 ⊢
  generalize w1.heap.size = q at S0 ⊢
  go_wp2_with (simp only [hmin])
  clear hmin
  go_loopw [11] (fun i wr => ∃ (k : Nat) (v u : Value), i = .int .i64 k ∧ k ≤ N ∧ Side w wr p q v u k ss) (fun i _ => N - (intOf i).toNat)
  case atStart => exact ⟨0, _, _, rfl, Nat.zero_le _, S0⟩
  case round =>
    clear S0
    obtain ⟨k, v, u, rfl, hk, S⟩ := hrel
    have hk0 : (0 : Int) ≤ (k : Int) := Int.natCast_nonneg _
    by_cases hlt : k < N
    · have hI := HI.out wr S.kept
      obtain ⟨g, o, rfl, hc⟩ := hI.2 (by omega)
      have c1 := hc k (by omega)
      have HC : Hid (∀ w', Kept (fun _ => False) w w' → w'.cell? ⟨g, o + k, none⟩ = some (.string (ss.getD k ByteArray.empty))) := fun w' kk => by
        obtain ⟨g', o', he, hc'⟩ := (HI.out w' kk).2 (by omega)
        cases he
        exact hc' k (by omega)
      clear hI hc
      have hk1 : (k : Int) < (N : Int) := by omega
      have hk2 : (k : Int) < (len : Int) := by omega
      have P1 := pushS_ok (ss.getD k ByteArray.empty) (by omega) S.s S.kept.size
      rw [← strs_succ] at P1
      have HP : Hid (∀ w', Turned 71 9 1 w.heap.size wr w' p 256 v (k + 1) (strs ss (k + 1)) → Kept (fun _ => False) w w' ∧ Calls Try.prog 21 #[.pointer (some ⟨q, 0, none⟩), (thOf ss k).val] w' fun e w2 => e = .returned (.int .i64 0) ∧ ∃ v' u', Side w w2 p q v' u' (k + 1) ss) := by
        intro w' t1
        obtain ⟨x1, x2⟩ := S.second t1
        refine ⟨x2, (pushT_ok (thOf ss k) (by omega) x1 x2.size).mono ?_⟩
        rintro e w2 ⟨rfl, t2⟩
        rw [← ths_succ] at t2
        exact ⟨rfl, S.both t1 t2⟩
      simp only [Th.val, thOf] at HP
      generalize ss.getD k ByteArray.empty = s at *
      clear S
      go_wp2_with fail
      refine P1.mono ?_
      rintro e w3 ⟨rfl, t1⟩
      obtain ⟨x2, P2⟩ := HP.out _ t1
      have c2 := HC.out _ x2
      clear P1 t1 HP c1
      go_wp2_with fail
      refine P2.mono ?_
      rintro e w4 ⟨rfl, v', u', S'⟩
      clear P2 c2
      go_wp2
      go_roundw
      case rel => exact ⟨k + 1, _, _, by go_num, by omega, S'⟩
      case measure => simp [intOf]; omega
    · obtain rfl : k = N := by omega
      clear hlt hk
      go_wp2_with fail
      have P1 := cutS_any cut S.s (by simp [strs])
      rw [Nat.mul_one, strs_take ss hLN] at P1
      refine P1.mono ?_
      rintro e w3 ⟨rfl, t1⟩
      obtain ⟨x1, x2⟩ := S.second t1
      clear P1
      go_wp2_with fail
      have P2 := cutT_any cut x1 (by rw [thCells_length]; simp [ths])
      rw [ths_take ss hLN] at P2
      refine P2.mono ?_
      rintro e w4 ⟨rfl, t2⟩
      obtain ⟨v', u', S'⟩ := S.both t1 t2
      clear P2 S t1 t2 x1 x2
      have HE : Hid (cutE k cut = if cut < 0 then 1 else if (k : Int) < cut then 12 else 0) := hE
      have HF : Hid (cutL k cut = if cut < 0 then k else if (k : Int) < cut then k else k - cut.toNat) := hF
      generalize cutE k cut = E at *
      generalize cutL k cut = L at *
      go_upto_block 2 with fail
      go_cut [16] from 87 to 102 (fun l wx => l = .int .i64 L ∧ wx = w4)
      case first =>
        by_cases h0 : cut < 0
        · have e1 : E = 1 := by have := HE.out; simpa [h0] using this
          have e2 : L = k := by have := HF.out; simpa [h0] using this
          subst e1 e2
          clear HE HF
          go_wp2
          go_meet
          exact ⟨rfl, rfl⟩
        · by_cases h1 : (k : Int) < cut
          · have e1 : E = 12 := by have := HE.out; simpa [h0, h1] using this
            have e2 : L = k := by have := HF.out; simpa [h0, h1] using this
            subst e1 e2
            clear HE HF
            go_wp2
            go_meet
            exact ⟨rfl, rfl⟩
          · have e1 : E = 0 := by have := HE.out; simpa [h0, h1] using this
            have e2 : (L : Int) = k - cut := by
              have := HF.out
              rw [if_neg h0, if_neg h1] at this
              omega
            have e3 : wrap64 ((k : Int) - cut) = L := by rw [← e2]; unfold wrap64; omega
            subst e1
            have HG : Hid ((k : Int) - cut = L) := e2.symm
            clear HE HF e2
            go_wp2
            go_meet
            have := HG.out
            exact ⟨by simp [this], rfl⟩
      case rest =>
        obtain ⟨rfl, rfl⟩ := hcut
        clear HE HF hE hF
        have hee : (E != E) = false := by simp
        have hll : ((L : Int) != (L : Int)) = false := by simp
        have hL0 : (0 : Int) ≤ L := Int.natCast_nonneg _
        have hL1 : (L : Int) ≤ 256 := by omega
        go_wp2_with fail
        refine (lenS_any S'.s).mono ?_
        rintro e w5 ⟨rfl, rfl⟩
        go_wp2_with fail
        refine (lenT_any S'.t).mono ?_
        rintro e w6 ⟨rfl, rfl⟩
        go_wp2_with fail
        go_loopw [17] (fun i wr => ∃ (j : Nat), i = .int .i64 j ∧ j ≤ L ∧ Side w wr p q v' u' L ss) (fun i _ => L - (intOf i).toNat)
        case atStart => exact ⟨0, rfl, Nat.zero_le _, S'⟩
        case round =>
          clear S'
          obtain ⟨j, rfl, hj, S⟩ := hrel
          have hj0 : (0 : Int) ≤ (j : Int) := Int.natCast_nonneg _
          by_cases hlt : j < L
          · have hj1 : (j : Int) < (L : Int) := by omega
            obtain ⟨kk, hkk⟩ : ∃ kk, j + kk + 1 = L := ⟨L - 1 - j, by omega⟩
            have hw : (L : Int) - 1 - j = kk := by omega
            have hI := HI.out wr S.kept
            obtain ⟨g, o, rfl, hc⟩ := hI.2 (by omega)
            have HC : Hid (∀ w', Kept (fun _ => False) w w' → w'.cell? ⟨g, o + j, none⟩ = some (.string (ss.getD j ByteArray.empty))) := fun w' k => by
              obtain ⟨g', o', he, hc'⟩ := (HI.out w' k).2 (by omega)
              cases he
              exact hc' j (by omega)
            have P1 := peekS_ok kk j hkk S.s
            rw [strs_at ss hlt] at P1
            have P2 : ∀ d, Calls Try.prog 27 #[.pointer (some ⟨q, 0, none⟩), .int .i64 kk] (wr.drewN d) fun e w' => e = .returned (.tuple #[(thOf ss j).val, .int .i64 0]) ∧ Kept (fun _ => False) (wr.drewN d) w' := fun d => peekT_ok (ths ss L) (thOf ss j) kk j hkk (by simp [ths]) (ths_at ss hlt) (S.calm ((Kept.refl _ wr).drewN d)).t
            simp only [Th.val, thOf] at P2
            have HS : Hid (Side w wr p q v' u' L ss) := S
            have HJ : Hid (j + 1 ≤ L) := hlt
            generalize ss.getD j ByteArray.empty = s at *
            clear S hI hc hkk hlt
            go_wp2_with fail
            refine P1.mono ?_
            rintro e w7 ⟨rfl, d, rfl⟩
            go_wp2_with fail
            refine (P2 d).mono ?_
            rintro e w8 ⟨rfl, k8⟩
            have S8 := HS.out.calm (((Kept.refl _ wr).drewN d).trans k8 (fun _ _ f => f))
            clear P1 P2 k8
            go_wp2_with fail
            have k9 := (Kept.refl (fun _ => False) w8).alloc (.cells #[.string s, .int .i64 j, .int .i64 7] 56)
            have hbx := heap_alloc_new w8 (.cells #[.string s, .int .i64 j, .int .i64 7] 56)
            generalize w8.alloc (.cells #[.string s, .int .i64 j, .int .i64 7] 56) = w9 at k9 hbx ⊢
            have S9 := S8.calm k9
            generalize w8.heap.size = bx at hbx ⊢
            have b0 : w9.cell? ⟨bx, 0, none⟩ = some (.string s) := cell_of_heap hbx
            have b1 : w9.cell? ⟨bx, 1, none⟩ = some (.int .i64 j) := cell_of_heap hbx
            have b2 : w9.cell? ⟨bx, 2, none⟩ = some (.int .i64 7) := cell_of_heap hbx
            have c2 := HC.out _ S9.kept
            have hss : (s.toList == s.toList) = true := by simp
            have hst : (s.toList != s.toList) = false := by simp
            have hjj : ((j : Int) == (j : Int)) = true := by simp
            have hj2 : (j : Int) < (len : Int) := by omega
            have hN := eqN
            clear S8 k9 hbx
            have HS9 : Hid (∀ d, Side w (w9.drewN d) p q v' u' L ss) := fun d => S9.calm ((Kept.refl _ w9).drewN d)
            clear S9
            go_quiet (fail)
            go_wp2
            go_roundw
            case rel => exact ⟨j + 1, by go_num, by have := HJ.out; omega, HS9.out _⟩
            case measure => have := HJ.out; simp [intOf]; omega
          · have P1 := peekT_no L (by omega) S.t
            have hk9 : ∀ w8, Kept (fun _ => False) wr w8 → Kept (fun _ => False) w w8 := fun w8 k => S.kept.trans k (fun _ _ f => f)
            have hN := eqN
            clear S
            simp only [Th.zero, Th.val] at P1
            go_wp2_with fail
            refine P1.mono ?_
            rintro e w8 ⟨rfl, k8⟩
            clear P1
            have K8 := hk9 _ k8
            clear hk9 k8
            go_wp2
            go_ret
            exact ⟨rfl, K8.alloc _⟩
end Go.Proofs.Ytgbhefbhleflhaa
