/- Meets and Within of the reference, bit by bit. -/
import Derived.Test.YtbbllmhnhhbpiaaDoorRefSets
namespace Go.Proofs.YtbbllmhnhhbpiaaDoor
open Go.RowKit
set_option linter.unusedVariables false
set_option linter.unusedSimpArgs false

theorem Sg.same_eq {s t : Sg} : s.same t = true ↔ s = t := by
  obtain ⟨s0, s1⟩ := s
  obtain ⟨t0, t1⟩ := t
  simp only [Sg.same, Bool.and_eq_true, beq_iff_eq, Sg.mk.injEq]
  omega
theorem Sg.same_self (s : Sg) : s.same s = true := Sg.same_eq.2 rfl
theorem Sg.same_no {s t : Sg} {k : Nat} (h : s.has k ≠ t.has k) : s.same t = false := by
  cases e : s.same t with
  | false => rfl
  | true => exact absurd (by rw [Sg.same_eq.1 e]) h
theorem meets_yes {a b : Sg} {j : Nat} (h : (a.has j && b.has j) = true) : (!((a.meet b).same Sg.zero)) = true := by
  rw [Sg.same_no (k := j) (by rw [Sg.has_meet, h, Sg.has_zero]; decide)]
  rfl
theorem meets_no {a b : Sg} (ha : a.ok) (h : ∀ k, k < 128 → (a.has k && b.has k) = false) : (!((a.meet b).same Sg.zero)) = false := by
  have : a.meet b = Sg.zero := Sg.ext' (Sg.ok_meet ha) Sg.ok_zero fun k hk => by rw [Sg.has_meet, h k hk, Sg.has_zero]
  rw [this, Sg.same_self]
  rfl
theorem within_no {a b : Sg} {j : Nat} (h : (a.has j && !b.has j) = true) : ((a.join b).same b) = false := by
  refine Sg.same_no (k := j) ?_
  rw [Sg.has_join]
  cases hb : b.has j <;> simp_all
theorem within_yes {a b : Sg} (ha : a.ok) (hb : b.ok) (h : ∀ k, k < 128 → (a.has k && !b.has k) = false) : ((a.join b).same b) = true := by
  refine Sg.same_eq.2 (Sg.ext' (Sg.ok_join ha hb) hb fun k hk => ?_)
  have := h k hk
  rw [Sg.has_join]
  cases hb : b.has k <;> simp_all

set_option maxRecDepth 100000 in
set_option maxHeartbeats 1000000 in
theorem refMeets_any (a b : Sg) (ha : a.ok) (hb : b.ok) (w : World) : Calls Tryd.prog 25 #[a.val, b.val] w fun e w' => e = .returned (.bool (!((a.meet b).same Sg.zero))) ∧ Kept (fun _ => False) w w' := by
  have HH : Hid (∀ j, j < 128 → ∀ w, Calls Tryd.prog 38 #[a.val, .int .i64 (j : Nat)] w fun e w' => e = .returned (.bool (a.has j)) ∧ Kept (fun _ => False) w w') := fun j hj w => has_any a j ha hj w
  have HH2 : Hid (∀ j, j < 128 → ∀ w, Calls Tryd.prog 38 #[b.val, .int .i64 (j : Nat)] w fun e w' => e = .returned (.bool (b.has j)) ∧ Kept (fun _ => False) w w') := fun j hj w => has_any b j hb hj w
  have HY : Hid (∀ j, (a.has j && b.has j) = true → (!((a.meet b).same Sg.zero)) = true) := fun j h => meets_yes h
  have HN : Hid ((∀ k, k < 128 → (a.has k && b.has k) = false) → (!((a.meet b).same Sg.zero)) = false) := fun h => meets_no ha h
  generalize (!((a.meet b).same Sg.zero)) = r at *
  obtain ⟨F, HFe⟩ : ∃ F, Hid (a.has = F) := ⟨_, rfl⟩
  obtain ⟨G, HGe⟩ : ∃ G, Hid (b.has = G) := ⟨_, rfl⟩
  rw [HFe.out] at HH HY HN
  rw [HGe.out] at HH2 HY HN
  obtain ⟨a0, a1⟩ := a
  obtain ⟨b0, b1⟩ := b
  simp only [Sg.val] at HH HH2 ⊢
  clear ha hb HFe HGe
  go_enter Tryd.func25, Tryd.ntmps25
  go_wp2_with fail
  generalize hW : (w.alloc (.cells #[.int .u64 a0, .int .u64 a1] 31)).alloc (.cells #[.int .u64 b0, .int .u64 b1] 31) = W
  obtain ⟨A, B, K⟩ := hasTwo w a0 a1 b0 b1 hW
  clear hW
  generalize hm : w.heap.size = m at *
  have HM : Hid (w.heap.size = m) := hm
  clear hm
  go_loopw [5] (fun i wr => ∃ j : Nat, i = .int .i64 j ∧ j ≤ 128 ∧ Box wr m ⟨a0, a1⟩ ∧ Box wr (m + 1) ⟨b0, b1⟩ ∧ Kept (fun _ => False) w wr ∧ Hid (∀ k, k < j → (F k && G k) = false)) (fun i _ => 128 - (intOf i).toNat)
  case atStart => exact ⟨0, rfl, Nat.zero_le _, A, B, K, fun k hk => by omega⟩
  case round =>
    obtain ⟨j, rfl, hj, hA, hB, hK, hU⟩ := hrel
    clear A B K
    by_cases hlt : j < 128
    · have c0 := hA.c0; have c1 := hA.c1
      simp only at c0 c1
      have h1 : (j : Int) < 128 := by omega
      have HU2 : Hid ((F j && G j) = false → ∀ k, k < j + 1 → (F k && G k) = false) := fun h k hk => by
        rcases Nat.lt_or_ge k j with h2 | h2
        · exact hU.out k h2
        · have : k = j := by omega
          subst this
          exact h
      cases hf : F j with
      | false =>
        have hH := HH.out j hlt
        rw [hf] at hH
        go_wp2_with fail
        refine (hH _).mono ?_
        rintro e w1 ⟨rfl, k1⟩
        go_wp2_with fail
        go_roundw
        case rel => exact ⟨j + 1, by go_num, hlt, hA.kept k1 id, hB.kept k1 id, hK.trans k1 (fun _ _ f => f), HU2.out (by simp [hf])⟩
        case measure => simp [intOf]; omega
      | true =>
        cases hg : G j with
        | false =>
          have hH := HH.out j hlt
          rw [hf] at hH
          have hH2 := HH2.out j hlt
          rw [hg] at hH2
          go_wp2_with fail
          refine (hH _).mono ?_
          rintro e w1 ⟨rfl, k1⟩
          have hA1 := hA.kept k1 id
          have hB1 := hB.kept k1 id
          have hK1 : Kept (fun _ => False) w w1 := hK.trans k1 (fun _ _ f => f)
          have d0 := hB1.c0; have d1 := hB1.c1
          simp only at d0 d1
          clear k1 hA hB hK c0 c1 hH
          go_wp2_with fail
          refine (hH2 _).mono ?_
          rintro e w2 ⟨rfl, k2⟩
          go_wp2_with fail
          go_roundw
          case rel => exact ⟨j + 1, by go_num, hlt, hA1.kept k2 id, hB1.kept k2 id, hK1.trans k2 (fun _ _ f => f), HU2.out (by simp [hg])⟩
          case measure => simp [intOf]; omega
        | true =>
          have hH := HH.out j hlt
          rw [hf] at hH
          have hH2 := HH2.out j hlt
          rw [hg] at hH2
          have hr : Hid (r = true) := HY.out j (by simp [hf, hg])
          go_wp2_with fail
          refine (hH _).mono ?_
          rintro e w1 ⟨rfl, k1⟩
          have hB1 := hB.kept k1 id
          have hK1 : Kept (fun _ => False) w w1 := hK.trans k1 (fun _ _ f => f)
          have d0 := hB1.c0; have d1 := hB1.c1
          simp only at d0 d1
          clear k1 hA hB hK c0 c1 hH
          go_wp2_with fail
          refine (hH2 _).mono ?_
          rintro e w2 ⟨rfl, k2⟩
          go_wp2
          go_ret
          exact ⟨by rw [hr.out]; rfl, hK1.trans k2 (fun _ _ f => f)⟩
    · have hj8 : j = 128 := by omega
      subst hj8
      have hr : Hid (r = false) := HN.out hU.out
      go_wp2
      go_ret
      exact ⟨by rw [hr.out]; rfl, hK⟩

set_option maxRecDepth 100000 in
set_option maxHeartbeats 1000000 in
theorem refWithin_any (a b : Sg) (ha : a.ok) (hb : b.ok) (w : World) : Calls Tryd.prog 27 #[a.val, b.val] w fun e w' => e = .returned (.bool ((a.join b).same b)) ∧ Kept (fun _ => False) w w' := by
  have HH : Hid (∀ j, j < 128 → ∀ w, Calls Tryd.prog 38 #[a.val, .int .i64 (j : Nat)] w fun e w' => e = .returned (.bool (a.has j)) ∧ Kept (fun _ => False) w w') := fun j hj w => has_any a j ha hj w
  have HH2 : Hid (∀ j, j < 128 → ∀ w, Calls Tryd.prog 38 #[b.val, .int .i64 (j : Nat)] w fun e w' => e = .returned (.bool (b.has j)) ∧ Kept (fun _ => False) w w') := fun j hj w => has_any b j hb hj w
  have HY : Hid (∀ j, (a.has j && !b.has j) = true → ((a.join b).same b) = false) := fun j h => within_no h
  have HN : Hid ((∀ k, k < 128 → (a.has k && !b.has k) = false) → ((a.join b).same b) = true) := fun h => within_yes ha hb h
  generalize ((a.join b).same b) = r at *
  obtain ⟨F, HFe⟩ : ∃ F, Hid (a.has = F) := ⟨_, rfl⟩
  obtain ⟨G, HGe⟩ : ∃ G, Hid (b.has = G) := ⟨_, rfl⟩
  rw [HFe.out] at HH HY HN
  rw [HGe.out] at HH2 HY HN
  obtain ⟨a0, a1⟩ := a
  obtain ⟨b0, b1⟩ := b
  simp only [Sg.val] at HH HH2 ⊢
  clear ha hb HFe HGe
  go_enter Tryd.func27, Tryd.ntmps27
  go_wp2_with fail
  generalize hW : (w.alloc (.cells #[.int .u64 a0, .int .u64 a1] 31)).alloc (.cells #[.int .u64 b0, .int .u64 b1] 31) = W
  obtain ⟨A, B, K⟩ := hasTwo w a0 a1 b0 b1 hW
  clear hW
  generalize hm : w.heap.size = m at *
  have HM : Hid (w.heap.size = m) := hm
  clear hm
  go_loopw [5] (fun i wr => ∃ j : Nat, i = .int .i64 j ∧ j ≤ 128 ∧ Box wr m ⟨a0, a1⟩ ∧ Box wr (m + 1) ⟨b0, b1⟩ ∧ Kept (fun _ => False) w wr ∧ Hid (∀ k, k < j → (F k && !G k) = false)) (fun i _ => 128 - (intOf i).toNat)
  case atStart => exact ⟨0, rfl, Nat.zero_le _, A, B, K, fun k hk => by omega⟩
  case round =>
    obtain ⟨j, rfl, hj, hA, hB, hK, hU⟩ := hrel
    clear A B K
    by_cases hlt : j < 128
    · have c0 := hA.c0; have c1 := hA.c1
      simp only at c0 c1
      have h1 : (j : Int) < 128 := by omega
      have HU2 : Hid ((F j && !G j) = false → ∀ k, k < j + 1 → (F k && !G k) = false) := fun h k hk => by
        rcases Nat.lt_or_ge k j with h2 | h2
        · exact hU.out k h2
        · have : k = j := by omega
          subst this
          exact h
      cases hf : F j with
      | false =>
        have hH := HH.out j hlt
        rw [hf] at hH
        go_wp2_with fail
        refine (hH _).mono ?_
        rintro e w1 ⟨rfl, k1⟩
        go_wp2_with fail
        go_roundw
        case rel => exact ⟨j + 1, by go_num, hlt, hA.kept k1 id, hB.kept k1 id, hK.trans k1 (fun _ _ f => f), HU2.out (by simp [hf])⟩
        case measure => simp [intOf]; omega
      | true =>
        cases hg : G j with
        | true =>
          have hH := HH.out j hlt
          rw [hf] at hH
          have hH2 := HH2.out j hlt
          rw [hg] at hH2
          go_wp2_with fail
          refine (hH _).mono ?_
          rintro e w1 ⟨rfl, k1⟩
          have hA1 := hA.kept k1 id
          have hB1 := hB.kept k1 id
          have hK1 : Kept (fun _ => False) w w1 := hK.trans k1 (fun _ _ f => f)
          have d0 := hB1.c0; have d1 := hB1.c1
          simp only at d0 d1
          clear k1 hA hB hK c0 c1 hH
          go_wp2_with fail
          refine (hH2 _).mono ?_
          rintro e w2 ⟨rfl, k2⟩
          go_wp2_with fail
          go_roundw
          case rel => exact ⟨j + 1, by go_num, hlt, hA1.kept k2 id, hB1.kept k2 id, hK1.trans k2 (fun _ _ f => f), HU2.out (by simp [hg])⟩
          case measure => simp [intOf]; omega
        | false =>
          have hH := HH.out j hlt
          rw [hf] at hH
          have hH2 := HH2.out j hlt
          rw [hg] at hH2
          have hr : Hid (r = false) := HY.out j (by simp [hf, hg])
          go_wp2_with fail
          refine (hH _).mono ?_
          rintro e w1 ⟨rfl, k1⟩
          have hB1 := hB.kept k1 id
          have hK1 : Kept (fun _ => False) w w1 := hK.trans k1 (fun _ _ f => f)
          have d0 := hB1.c0; have d1 := hB1.c1
          simp only at d0 d1
          clear k1 hA hB hK c0 c1 hH
          go_wp2_with fail
          refine (hH2 _).mono ?_
          rintro e w2 ⟨rfl, k2⟩
          go_wp2
          go_ret
          exact ⟨by rw [hr.out]; rfl, hK1.trans k2 (fun _ _ f => f)⟩
    · have hj8 : j = 128 := by omega
      subst hj8
      have hr : Hid (r = true) := HN.out hU.out
      go_wp2
      go_ret
      exact ⟨by rw [hr.out]; rfl, hK⟩

end Go.Proofs.YtbbllmhnhhbpiaaDoor
