/- Join, Meet, Minus of the reference, bit by bit. -/
import Derived.Test.YtbbllmhnhhbpiaaDoorBits
namespace Go.Proofs.YtbbllmhnhhbpiaaDoor
open Go.RowKit
set_option linter.unusedVariables false
set_option linter.unusedSimpArgs false

theorem four_new (w : World) (a0 a1 b0 b1 : Nat) {W : World} (hW : (((w.alloc (.cells #[.int .u64 a0, .int .u64 a1] 31)).alloc (.cells #[.int .u64 b0, .int .u64 b1] 31)).alloc (.cells #[.int .u64 0, .int .u64 0] 31)).alloc (.cells #[.int .u64 0, .int .u64 0] 31) = W) : Box W w.heap.size ⟨a0, a1⟩ ∧ Box W (w.heap.size + 1) ⟨b0, b1⟩ ∧ Box W (w.heap.size + 2) Sg.zero ∧ Box W (w.heap.size + 3) Sg.zero ∧ Kept (fun _ => False) w W := by
  obtain ⟨A, B, C, K⟩ := three_new w a0 a1 b0 b1 rfl
  subst hW
  refine ⟨A.alloc _, B.alloc _, C.alloc _, ?_, K.alloc _⟩
  have := Box.new (((w.alloc (.cells #[.int .u64 a0, .int .u64 a1] 31)).alloc (.cells #[.int .u64 b0, .int .u64 b1] 31)).alloc (.cells #[.int .u64 0, .int .u64 0] 31)) 0 0
  simpa [Sg.zero] using this

/-- s has the bits of f below j, and those of g. -/
def Upto (s : Sg) (j : Nat) (f g : Nat → Bool) : Prop := ∀ k, k < 128 → s.has k = (g k || (decide (k < j) && f k))
theorem Upto.put {s : Sg} {j : Nat} {f g : Nat → Bool} (h : Upto s j f g) (hj : j < 128) (hf : f j = true) : Upto (s.put j) (j + 1) f g := by
  intro k hk
  rw [Sg.has_put hj k hk, h k hk]
  by_cases e : k = j
  · subst e; simp [hf]
  · have : decide (k < j + 1) = decide (k < j) := by simp; omega
    simp [e, this]
theorem Upto.skip {s : Sg} {j : Nat} {f g : Nat → Bool} (h : Upto s j f g) (hf : f j = false) : Upto s (j + 1) f g := by
  intro k hk
  rw [h k hk]
  by_cases e : k = j
  · subst e; simp [hf]
  · have : decide (k < j + 1) = decide (k < j) := by simp; omega
    simp [this]
theorem Upto.eq {s t : Sg} {f g : Nat → Bool} (h : Upto s 128 f g) (hs : s.ok) (ht : t.ok) (hf : ∀ k, k < 128 → t.has k = (g k || f k)) : s = t := by
  refine Sg.ext' hs ht fun k hk => ?_
  rw [h k hk, hf k hk]
  simp [hk]

set_option maxRecDepth 100000 in
set_option maxHeartbeats 1000000 in
theorem refJoin_any (a b : Sg) (ha : a.ok) (hb : b.ok) (w : World) : Calls Tryd.prog 19 #[a.val, b.val] w fun e w' => e = .returned (a.join b).val ∧ Kept (fun _ => False) w w' := by
  have HH : Hid (∀ j, j < 128 → ∀ w, Calls Tryd.prog 38 #[b.val, .int .i64 (j : Nat)] w fun e w' => e = .returned (.bool (b.has j)) ∧ Kept (fun _ => False) w w') := fun j hj w => has_any b j hb hj w
  have HF : Hid (∀ s : Sg, s.ok → Upto s 128 b.has a.has → s = a.join b) := fun s hs h => h.eq hs (Sg.ok_join ha hb) (fun k _ => Sg.has_join a b k)
  have HA : Hid (Upto a 0 b.has a.has) := fun k hk => by simp
  have HAO : Hid a.ok := ha
  generalize a.join b = r at *
  obtain ⟨F, HFe⟩ : ∃ F, Hid (b.has = F) := ⟨_, rfl⟩
  obtain ⟨G, HGe⟩ : ∃ G, Hid (a.has = G) := ⟨_, rfl⟩
  rw [HFe.out] at HH HF HA
  rw [HGe.out] at HF HA
  obtain ⟨a0, a1⟩ := a
  obtain ⟨b0, b1⟩ := b
  simp only [Sg.val] at HH ⊢
  clear ha hb HFe HGe
  go_enter Tryd.func19, Tryd.ntmps19
  go_wp2_with fail
  generalize hW : ((w.alloc (.cells #[.int .u64 a0, .int .u64 a1] 31)).alloc (.cells #[.int .u64 b0, .int .u64 b1] 31)).alloc (.cells #[.int .u64 0, .int .u64 0] 31) = W
  obtain ⟨A, B, C, K⟩ := three_new w a0 a1 b0 b1 hW
  clear hW
  generalize hm : w.heap.size = m at *
  have HM : Hid (w.heap.size = m) := hm
  clear hm
  go_loopw [5] (fun i wr => ∃ (j : Nat) (s : Sg), i = .int .i64 j ∧ j ≤ 128 ∧ s.ok ∧ Box wr m s ∧ Box wr (m + 1) ⟨b0, b1⟩ ∧ Box wr (m + 2) Sg.zero ∧ Kept (fun _ => False) w wr ∧ Hid (Upto s j F G)) (fun i _ => 128 - (intOf i).toNat)
  case atStart => exact ⟨0, ⟨a0, a1⟩, rfl, Nat.zero_le _, HAO.out, A, B, C, K, HA⟩
  case round =>
    obtain ⟨j, s, rfl, hj, hs, hA, hB, hC, hK, hU⟩ := hrel
    clear A B C K
    by_cases hlt : j < 128
    · have c0 := hB.c0; have c1 := hB.c1
      simp only at c0 c1
      have h1 : (j : Int) < 128 := by omega
      cases hf : F j with
      | false =>
        have hH := HH.out j hlt
        rw [hf] at hH
        go_wp2_with fail
        refine (hH _).mono ?_
        rintro e w1 ⟨rfl, k1⟩
        go_wp2_with fail
        go_roundw
        case rel => exact ⟨j + 1, s, by go_num, hlt, hs, hA.kept k1 id, hB.kept k1 id, hC.kept k1 id, hK.trans k1 (fun _ _ f => f), hU.out.skip hf⟩
        case measure => simp [intOf]; omega
      | true =>
        have hH := HH.out j hlt
        rw [hf] at hH
        have hP := put_any s j hs hlt
        have okP := Sg.ok_put hs hlt
        have hU2 : Hid (Upto (s.put j) (j + 1) F G) := hU.out.put hlt hf
        generalize s.put j = s2 at *
        obtain ⟨s0, s1⟩ := s
        obtain ⟨r0, r1⟩ := s2
        simp only [Sg.val] at hP
        go_wp2_with fail
        refine (hH _).mono ?_
        rintro e w1 ⟨rfl, k1⟩
        have hA1 := hA.kept k1 id
        have hB1 := hB.kept k1 id
        have hC1 := hC.kept k1 id
        have hK1 : Kept (fun _ => False) w w1 := hK.trans k1 (fun _ _ f => f)
        have d0 := hA1.c0; have d1 := hA1.c1
        simp only at d0 d1
        clear k1 hA hB hC hK c0 c1 hH
        go_wp2_with fail
        refine (hP _).mono ?_
        rintro e w2 ⟨rfl, k2⟩
        have hA2 := hA1.kept k2 id
        have hB2 := hB1.kept k2 id
        have hC2 := hC1.kept k2 id
        have hK2 : Kept (fun _ => False) w w2 := hK1.trans k2 (fun _ _ f => f)
        have x0 := hA2.c0; have x1 := hA2.c1; have x2 := hA2.f0; have x3 := hA2.f1
        simp only at x0 x1
        clear k2 hA1 hB1 hC1 hK1 d0 d1 hP
        go_wp2_with fail
        go_roundw
        case rel => exact ⟨j + 1, ⟨r0, r1⟩, by go_num, hlt, okP, hA2.set ⟨r0, r1⟩, (hB2.far (by simp <;> omega)).far (by simp <;> omega), (hC2.far (by simp <;> omega)).far (by simp <;> omega), (hK2.setCell _ (.inr (by rw [HM.out]; simp <;> omega))).setCell _ (.inr (by rw [HM.out]; simp <;> omega)), hU2⟩
        case measure => simp [intOf]; omega
    · have hj8 : j = 128 := by omega
      subst hj8
      have hr : Hid (s = r) := HF.out s hs hU.out
      have z0 := hC.c0; have z1 := hC.c1; have z2 := hC.f0; have z3 := hC.f1
      have y0 := hA.c0; have y1 := hA.c1
      obtain ⟨s0, s1⟩ := s
      simp only [Sg.zero] at z0 z1 y0 y1
      go_wp2
      have hB2 := hC.set ⟨s0, s1⟩
      have hK2 := (hK.setCell (p := ⟨m + 2, 0, none⟩) (.int .u64 (s0 : Int)) (.inr (by rw [HM.out]; simp <;> omega))).setCell (p := ⟨m + 2, 1, none⟩) (.int .u64 (s1 : Int)) (.inr (by rw [HM.out]; simp <;> omega))
      have x0 := hB2.c0; have x1 := hB2.c1
      simp only at x0 x1 hB2 hK2
      exact bodyPost_ret (v := .agg #[.int .u64 s0, .int .u64 s1]) (by simp [results, Tryd.results19, go_sem, x0, x1]) rfl ⟨by rw [← hr.out], hK2⟩

set_option maxRecDepth 100000 in
set_option maxHeartbeats 1000000 in
theorem refMeet_any (a b : Sg) (ha : a.ok) (hb : b.ok) (w : World) : Calls Tryd.prog 21 #[a.val, b.val] w fun e w' => e = .returned (a.meet b).val ∧ Kept (fun _ => False) w w' := by
  have HH : Hid (∀ j, j < 128 → ∀ w, Calls Tryd.prog 38 #[a.val, .int .i64 (j : Nat)] w fun e w' => e = .returned (.bool (a.has j)) ∧ Kept (fun _ => False) w w') := fun j hj w => has_any a j ha hj w
  have HH2 : Hid (∀ j, j < 128 → ∀ w, Calls Tryd.prog 38 #[b.val, .int .i64 (j : Nat)] w fun e w' => e = .returned (.bool (b.has j)) ∧ Kept (fun _ => False) w w') := fun j hj w => has_any b j hb hj w
  have HF : Hid (∀ s : Sg, s.ok → Upto s 128 (fun k => a.has k && b.has k) (fun _ => false) → s = a.meet b) := fun s hs h => h.eq hs (Sg.ok_meet ha) (fun k _ => by simp [Sg.has_meet])
  have HA : Hid (Upto Sg.zero 0 (fun k => a.has k && b.has k) (fun _ => false)) := fun k hk => by simp [Sg.has_zero]
  generalize a.meet b = r at *
  obtain ⟨F, HFe⟩ : ∃ F, Hid (a.has = F) := ⟨_, rfl⟩
  obtain ⟨G, HGe⟩ : ∃ G, Hid (b.has = G) := ⟨_, rfl⟩
  rw [HFe.out] at HH HF HA
  rw [HGe.out] at HH2 HF HA
  obtain ⟨a0, a1⟩ := a
  obtain ⟨b0, b1⟩ := b
  simp only [Sg.val] at HH HH2 ⊢
  clear ha hb HFe HGe
  go_enter Tryd.func21, Tryd.ntmps21
  go_wp2_with fail
  generalize hW : (((w.alloc (.cells #[.int .u64 a0, .int .u64 a1] 31)).alloc (.cells #[.int .u64 b0, .int .u64 b1] 31)).alloc (.cells #[.int .u64 0, .int .u64 0] 31)).alloc (.cells #[.int .u64 0, .int .u64 0] 31) = W
  obtain ⟨A, B, C, D, K⟩ := four_new w a0 a1 b0 b1 hW
  clear hW
  generalize hm : w.heap.size = m at *
  have HM : Hid (w.heap.size = m) := hm
  clear hm
  go_loopw [6] (fun i wr => ∃ (j : Nat) (s : Sg), i = .int .i64 j ∧ j ≤ 128 ∧ s.ok ∧ Box wr m ⟨a0, a1⟩ ∧ Box wr (m + 1) ⟨b0, b1⟩ ∧ Box wr (m + 2) Sg.zero ∧ Box wr (m + 3) s ∧ Kept (fun _ => False) w wr ∧ Hid (Upto s j (fun k => F k && G k) (fun _ => false))) (fun i _ => 128 - (intOf i).toNat)
  case atStart => exact ⟨0, Sg.zero, rfl, Nat.zero_le _, Sg.ok_zero, A, B, C, D, K, HA⟩
  case round =>
    obtain ⟨j, s, rfl, hj, hs, hA, hB, hC, hD, hK, hU⟩ := hrel
    clear A B C D K
    by_cases hlt : j < 128
    · have c0 := hA.c0; have c1 := hA.c1
      simp only at c0 c1
      have h1 : (j : Int) < 128 := by omega
      cases hf : F j with
      | false =>
        have hH := HH.out j hlt
        rw [hf] at hH
        go_wp2_with fail
        refine (hH _).mono ?_
        rintro e w1 ⟨rfl, k1⟩
        go_wp2_with fail
        go_roundw
        case rel => exact ⟨j + 1, s, by go_num, hlt, hs, hA.kept k1 id, hB.kept k1 id, hC.kept k1 id, hD.kept k1 id, hK.trans k1 (fun _ _ f => f), hU.out.skip (by simp [hf])⟩
        case measure => simp [intOf]; omega
      | true =>
        cases hg : G j with
        | false =>
          have hH := HH.out j hlt
          rw [hf] at hH
          have hH2 := HH2.out j hlt
          rw [hg] at hH2
          go_wp2_with fail
          refine (hH _).mono ?_
          rintro e w1 ⟨rfl, k1⟩
          have hA1 := hA.kept k1 id
          have hB1 := hB.kept k1 id
          have hC1 := hC.kept k1 id
          have hD1 := hD.kept k1 id
          have hK1 : Kept (fun _ => False) w w1 := hK.trans k1 (fun _ _ f => f)
          have d0 := hB1.c0; have d1 := hB1.c1
          simp only at d0 d1
          clear k1 hA hB hC hD hK c0 c1 hH
          go_wp2_with fail
          refine (hH2 _).mono ?_
          rintro e w2 ⟨rfl, k2⟩
          go_wp2_with fail
          go_roundw
          case rel => exact ⟨j + 1, s, by go_num, hlt, hs, hA1.kept k2 id, hB1.kept k2 id, hC1.kept k2 id, hD1.kept k2 id, hK1.trans k2 (fun _ _ f => f), hU.out.skip (by simp [hg])⟩
          case measure => simp [intOf]; omega
        | true =>
          have hH := HH.out j hlt
          rw [hf] at hH
          have hH2 := HH2.out j hlt
          rw [hg] at hH2
          have hP := put_any s j hs hlt
          have okP := Sg.ok_put hs hlt
          have hU2 : Hid (Upto (s.put j) (j + 1) (fun k => F k && G k) (fun _ => false)) := hU.out.put hlt (by simp [hf, hg])
          generalize s.put j = s2 at *
          obtain ⟨s0, s1⟩ := s
          obtain ⟨r0, r1⟩ := s2
          simp only [Sg.val] at hP
          go_wp2_with fail
          refine (hH _).mono ?_
          rintro e w1 ⟨rfl, k1⟩
          have hA1 := hA.kept k1 id
          have hB1 := hB.kept k1 id
          have hC1 := hC.kept k1 id
          have hD1 := hD.kept k1 id
          have hK1 : Kept (fun _ => False) w w1 := hK.trans k1 (fun _ _ f => f)
          have d0 := hB1.c0; have d1 := hB1.c1
          simp only at d0 d1
          clear k1 hA hB hC hD hK c0 c1 hH
          go_wp2_with fail
          refine (hH2 _).mono ?_
          rintro e w2 ⟨rfl, k2⟩
          have hA2 := hA1.kept k2 id
          have hB2 := hB1.kept k2 id
          have hC2 := hC1.kept k2 id
          have hD2 := hD1.kept k2 id
          have hK2 : Kept (fun _ => False) w w2 := hK1.trans k2 (fun _ _ f => f)
          have e0 := hD2.c0; have e1 := hD2.c1
          simp only at e0 e1
          clear k2 hA1 hB1 hC1 hD1 hK1 d0 d1 hH2
          go_wp2_with fail
          refine (hP _).mono ?_
          rintro e w3 ⟨rfl, k3⟩
          have hA3 := hA2.kept k3 id
          have hB3 := hB2.kept k3 id
          have hC3 := hC2.kept k3 id
          have hD3 := hD2.kept k3 id
          have hK3 : Kept (fun _ => False) w w3 := hK2.trans k3 (fun _ _ f => f)
          have x0 := hD3.c0; have x1 := hD3.c1; have x2 := hD3.f0; have x3 := hD3.f1
          simp only at x0 x1
          clear k3 hA2 hB2 hC2 hD2 hK2 e0 e1 hP
          go_wp2_with fail
          go_roundw
          case rel => exact ⟨j + 1, ⟨r0, r1⟩, by go_num, hlt, okP, (hA3.far (by simp <;> omega)).far (by simp <;> omega), (hB3.far (by simp <;> omega)).far (by simp <;> omega), (hC3.far (by simp <;> omega)).far (by simp <;> omega), hD3.set ⟨r0, r1⟩, (hK3.setCell _ (.inr (by rw [HM.out]; simp <;> omega))).setCell _ (.inr (by rw [HM.out]; simp <;> omega)), hU2⟩
          case measure => simp [intOf]; omega
    · have hj8 : j = 128 := by omega
      subst hj8
      have hr : Hid (s = r) := HF.out s hs hU.out
      have z0 := hC.c0; have z1 := hC.c1; have z2 := hC.f0; have z3 := hC.f1
      have y0 := hD.c0; have y1 := hD.c1
      obtain ⟨s0, s1⟩ := s
      simp only [Sg.zero] at z0 z1 y0 y1
      go_wp2
      have hB2 := hC.set ⟨s0, s1⟩
      have hK2 := (hK.setCell (p := ⟨m + 2, 0, none⟩) (.int .u64 (s0 : Int)) (.inr (by rw [HM.out]; simp <;> omega))).setCell (p := ⟨m + 2, 1, none⟩) (.int .u64 (s1 : Int)) (.inr (by rw [HM.out]; simp <;> omega))
      have x0 := hB2.c0; have x1 := hB2.c1
      simp only at x0 x1 hB2 hK2
      exact bodyPost_ret (v := .agg #[.int .u64 s0, .int .u64 s1]) (by simp [results, Tryd.results21, go_sem, x0, x1]) rfl ⟨by rw [← hr.out], hK2⟩

set_option maxRecDepth 100000 in
set_option maxHeartbeats 1000000 in
theorem refMinus_any (a b : Sg) (ha : a.ok) (hb : b.ok) (w : World) : Calls Tryd.prog 23 #[a.val, b.val] w fun e w' => e = .returned (a.minus b).val ∧ Kept (fun _ => False) w w' := by
  have HH : Hid (∀ j, j < 128 → ∀ w, Calls Tryd.prog 38 #[a.val, .int .i64 (j : Nat)] w fun e w' => e = .returned (.bool (a.has j)) ∧ Kept (fun _ => False) w w') := fun j hj w => has_any a j ha hj w
  have HH2 : Hid (∀ j, j < 128 → ∀ w, Calls Tryd.prog 38 #[b.val, .int .i64 (j : Nat)] w fun e w' => e = .returned (.bool (b.has j)) ∧ Kept (fun _ => False) w w') := fun j hj w => has_any b j hb hj w
  have HF : Hid (∀ s : Sg, s.ok → Upto s 128 (fun k => a.has k && !b.has k) (fun _ => false) → s = a.minus b) := fun s hs h => h.eq hs (Sg.ok_minus ha) (fun k _ => by simp [Sg.has_minus])
  have HA : Hid (Upto Sg.zero 0 (fun k => a.has k && !b.has k) (fun _ => false)) := fun k hk => by simp [Sg.has_zero]
  generalize a.minus b = r at *
  obtain ⟨F, HFe⟩ : ∃ F, Hid (a.has = F) := ⟨_, rfl⟩
  obtain ⟨G, HGe⟩ : ∃ G, Hid (b.has = G) := ⟨_, rfl⟩
  rw [HFe.out] at HH HF HA
  rw [HGe.out] at HH2 HF HA
  obtain ⟨a0, a1⟩ := a
  obtain ⟨b0, b1⟩ := b
  simp only [Sg.val] at HH HH2 ⊢
  clear ha hb HFe HGe
  go_enter Tryd.func23, Tryd.ntmps23
  go_wp2_with fail
  generalize hW : (((w.alloc (.cells #[.int .u64 a0, .int .u64 a1] 31)).alloc (.cells #[.int .u64 b0, .int .u64 b1] 31)).alloc (.cells #[.int .u64 0, .int .u64 0] 31)).alloc (.cells #[.int .u64 0, .int .u64 0] 31) = W
  obtain ⟨A, B, C, D, K⟩ := four_new w a0 a1 b0 b1 hW
  clear hW
  generalize hm : w.heap.size = m at *
  have HM : Hid (w.heap.size = m) := hm
  clear hm
  go_loopw [6] (fun i wr => ∃ (j : Nat) (s : Sg), i = .int .i64 j ∧ j ≤ 128 ∧ s.ok ∧ Box wr m ⟨a0, a1⟩ ∧ Box wr (m + 1) ⟨b0, b1⟩ ∧ Box wr (m + 2) Sg.zero ∧ Box wr (m + 3) s ∧ Kept (fun _ => False) w wr ∧ Hid (Upto s j (fun k => F k && !G k) (fun _ => false))) (fun i _ => 128 - (intOf i).toNat)
  case atStart => exact ⟨0, Sg.zero, rfl, Nat.zero_le _, Sg.ok_zero, A, B, C, D, K, HA⟩
  case round =>
    obtain ⟨j, s, rfl, hj, hs, hA, hB, hC, hD, hK, hU⟩ := hrel
    clear A B C D K
    by_cases hlt : j < 128
    · have c0 := hA.c0; have c1 := hA.c1
      simp only at c0 c1
      have h1 : (j : Int) < 128 := by omega
      cases hf : F j with
      | false =>
        have hH := HH.out j hlt
        rw [hf] at hH
        go_wp2_with fail
        refine (hH _).mono ?_
        rintro e w1 ⟨rfl, k1⟩
        go_wp2_with fail
        go_roundw
        case rel => exact ⟨j + 1, s, by go_num, hlt, hs, hA.kept k1 id, hB.kept k1 id, hC.kept k1 id, hD.kept k1 id, hK.trans k1 (fun _ _ f => f), hU.out.skip (by simp [hf])⟩
        case measure => simp [intOf]; omega
      | true =>
        cases hg : G j with
        | true =>
          have hH := HH.out j hlt
          rw [hf] at hH
          have hH2 := HH2.out j hlt
          rw [hg] at hH2
          go_wp2_with fail
          refine (hH _).mono ?_
          rintro e w1 ⟨rfl, k1⟩
          have hA1 := hA.kept k1 id
          have hB1 := hB.kept k1 id
          have hC1 := hC.kept k1 id
          have hD1 := hD.kept k1 id
          have hK1 : Kept (fun _ => False) w w1 := hK.trans k1 (fun _ _ f => f)
          have d0 := hB1.c0; have d1 := hB1.c1
          simp only at d0 d1
          clear k1 hA hB hC hD hK c0 c1 hH
          go_wp2_with fail
          refine (hH2 _).mono ?_
          rintro e w2 ⟨rfl, k2⟩
          go_wp2_with fail
          go_roundw
          case rel => exact ⟨j + 1, s, by go_num, hlt, hs, hA1.kept k2 id, hB1.kept k2 id, hC1.kept k2 id, hD1.kept k2 id, hK1.trans k2 (fun _ _ f => f), hU.out.skip (by simp [hg])⟩
          case measure => simp [intOf]; omega
        | false =>
          have hH := HH.out j hlt
          rw [hf] at hH
          have hH2 := HH2.out j hlt
          rw [hg] at hH2
          have hP := put_any s j hs hlt
          have okP := Sg.ok_put hs hlt
          have hU2 : Hid (Upto (s.put j) (j + 1) (fun k => F k && !G k) (fun _ => false)) := hU.out.put hlt (by simp [hf, hg])
          generalize s.put j = s2 at *
          obtain ⟨s0, s1⟩ := s
          obtain ⟨r0, r1⟩ := s2
          simp only [Sg.val] at hP
          go_wp2_with fail
          refine (hH _).mono ?_
          rintro e w1 ⟨rfl, k1⟩
          have hA1 := hA.kept k1 id
          have hB1 := hB.kept k1 id
          have hC1 := hC.kept k1 id
          have hD1 := hD.kept k1 id
          have hK1 : Kept (fun _ => False) w w1 := hK.trans k1 (fun _ _ f => f)
          have d0 := hB1.c0; have d1 := hB1.c1
          simp only at d0 d1
          clear k1 hA hB hC hD hK c0 c1 hH
          go_wp2_with fail
          refine (hH2 _).mono ?_
          rintro e w2 ⟨rfl, k2⟩
          have hA2 := hA1.kept k2 id
          have hB2 := hB1.kept k2 id
          have hC2 := hC1.kept k2 id
          have hD2 := hD1.kept k2 id
          have hK2 : Kept (fun _ => False) w w2 := hK1.trans k2 (fun _ _ f => f)
          have e0 := hD2.c0; have e1 := hD2.c1
          simp only at e0 e1
          clear k2 hA1 hB1 hC1 hD1 hK1 d0 d1 hH2
          go_wp2_with fail
          refine (hP _).mono ?_
          rintro e w3 ⟨rfl, k3⟩
          have hA3 := hA2.kept k3 id
          have hB3 := hB2.kept k3 id
          have hC3 := hC2.kept k3 id
          have hD3 := hD2.kept k3 id
          have hK3 : Kept (fun _ => False) w w3 := hK2.trans k3 (fun _ _ f => f)
          have x0 := hD3.c0; have x1 := hD3.c1; have x2 := hD3.f0; have x3 := hD3.f1
          simp only at x0 x1
          clear k3 hA2 hB2 hC2 hD2 hK2 e0 e1 hP
          go_wp2_with fail
          go_roundw
          case rel => exact ⟨j + 1, ⟨r0, r1⟩, by go_num, hlt, okP, (hA3.far (by simp <;> omega)).far (by simp <;> omega), (hB3.far (by simp <;> omega)).far (by simp <;> omega), (hC3.far (by simp <;> omega)).far (by simp <;> omega), hD3.set ⟨r0, r1⟩, (hK3.setCell _ (.inr (by rw [HM.out]; simp <;> omega))).setCell _ (.inr (by rw [HM.out]; simp <;> omega)), hU2⟩
          case measure => simp [intOf]; omega
    · have hj8 : j = 128 := by omega
      subst hj8
      have hr : Hid (s = r) := HF.out s hs hU.out
      have z0 := hC.c0; have z1 := hC.c1; have z2 := hC.f0; have z3 := hC.f1
      have y0 := hD.c0; have y1 := hD.c1
      obtain ⟨s0, s1⟩ := s
      simp only [Sg.zero] at z0 z1 y0 y1
      go_wp2
      have hB2 := hC.set ⟨s0, s1⟩
      have hK2 := (hK.setCell (p := ⟨m + 2, 0, none⟩) (.int .u64 (s0 : Int)) (.inr (by rw [HM.out]; simp <;> omega))).setCell (p := ⟨m + 2, 1, none⟩) (.int .u64 (s1 : Int)) (.inr (by rw [HM.out]; simp <;> omega))
      have x0 := hB2.c0; have x1 := hB2.c1
      simp only at x0 x1 hB2 hK2
      exact bodyPost_ret (v := .agg #[.int .u64 s0, .int .u64 s1]) (by simp [results, Tryd.results23, go_sem, x0, x1]) rfl ⟨by rw [← hr.out], hK2⟩
end Go.Proofs.YtbbllmhnhhbpiaaDoor
