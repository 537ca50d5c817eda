/- The document's signatures: Of, Join, Minus, Touched. -/
import Derived.Test.YtajfjkhbimehbaaGreatSigB
namespace Go.Proofs.YtajfjkhbimehbaaGreat
open Go.RowKit
set_option linter.unusedVariables false
set_option linter.unusedSimpArgs false

set_option maxRecDepth 100000 in
set_option maxHeartbeats 1000000 in
theorem refOf_any (la : Option Addr) (n ca : Nat) (zs : List Int) (b : Int) (w : World) (hz : IntsIn w la n zs) (hn : n ≤ 35184372088832) :
    Calls Tryz.prog 107 #[.slice la n ca, .int .i64 b] w fun e w' => e = .returned (.tuple #[(ofR zs b).1.val, .int .i64 (ofR zs b).2]) ∧ Kept (fun _ => False) w w' := by
  unfold ofR
  by_cases hb : 1 ≤ b ∧ b ≤ 128
  · simp only [if_pos hb]
    have n2 : ¬ b < 1 := by omega
    have n3 : ¬ 128 < b := by omega
    have HL : Hid (n = zs.length) := hz.1
    have HZ : Hid (IntsIn w la n zs) := hz
    clear hz
    obtain ⟨R, HR⟩ : ∃ R, Hid (ofGo b zs Sg.zero = R) := ⟨_, rfl⟩
    rw [HR.out]
    go_enter Tryz.func107, Tryz.ntmps107
    go_wp2_with fail
    generalize hW : (w.alloc (.cells #[.int .u64 0, .int .u64 0] 48)).alloc (.cells #[.int .u64 0, .int .u64 0] 48) = W
    obtain ⟨A, B, K⟩ := pair_new w hW
    clear hW
    generalize hm : w.heap.size = m at *
    have HM : Hid (w.heap.size = m) := hm
    clear hm
    go_loopw [7] (fun i wr => ∃ (j : Nat) (s : Sg), i = .int .i64 j ∧ j ≤ n ∧ s.ok ∧ Box wr m Sg.zero ∧ Box wr (m + 1) s ∧ Kept (fun _ => False) w wr ∧ Hid (ofGo b (zs.drop j) s = R)) (fun i _ => n - (intOf i).toNat)
    case atStart => exact ⟨0, Sg.zero, rfl, Nat.zero_le _, Sg.ok_zero, A, B, K, HR⟩
    case round =>
      obtain ⟨j, s, rfl, hj, hs, hA, hB, hK, hR⟩ := hrel
      clear A B K
      by_cases hlt : j < n
      · obtain ⟨g, o, rfl, hga⟩ := HZ.out.2 (by omega)
        have c1 : wr.cell? ⟨g, o + j, none⟩ = some (.int .i64 (zs.getD j 0)) := hK.cell (hga j hlt) (fun f => f)
        have HD : Hid (ofGo b (zs.getD j 0 :: zs.drop (j + 1)) s = R) := by
          have := hR.out
          rwa [drop_at zs j (by have := HL.out; omega)] at this
        generalize zs.getD j 0 = z at c1 HD
        clear hga HZ
        have h0 : (0 : Int) ≤ (j : Int) := Int.natCast_nonneg _
        have h1 : (j : Int) < (n : Int) := by omega
        go_wp2_with fail
        refine (refHash_any z b _).mono ?_
        rintro e w1 ⟨rfl, hw1⟩
        subst hw1
        by_cases hE : hashE z b = 0
        · obtain ⟨x1, x2, e1, e2, l1, l2, t1, t2⟩ := hash_in hE
          rw [e1, e2, hE]
          unfold ofGo at HD
          have HD2 : Hid (ofGo b (zs.drop (j + 1)) ((s.put x1).put x2) = R) := by
            have := HD.out
            rwa [if_pos hE, t1, t2] at this
          have w1' := fun w => put_any s x1 hs l1 w
          have w2' := fun w => put_any (s.put x1) x2 (Sg.ok_put hs l1) l2 w
          have ok2 := Sg.ok_put (Sg.ok_put hs l1) l2
          generalize (s.put x1).put x2 = s2 at *
          generalize s.put x1 = s1 at *
          have y0 := hB.c0; have y1 := hB.c1
          obtain ⟨s0, s1'⟩ := s
          obtain ⟨p0, p1⟩ := s1
          obtain ⟨r0, r1⟩ := s2
          simp only [Sg.val] at w1' w2' y0 y1
          clear HD e1 e2 hE t1 t2
          go_wp2_with fail
          refine (w1' _).mono ?_
          rintro e w3 ⟨rfl, hk3⟩
          have hA3 := hA.kept hk3 id
          have hB3 := hB.kept hk3 id
          have hK3 : Kept (fun _ => False) w w3 := hK.trans hk3 (fun _ _ f => f)
          have z0 := hB3.c0; have z1 := hB3.c1; have z2 := hB3.f0; have z3 := hB3.f1
          simp only at z0 z1
          clear hk3 w1' y0 y1
          go_wp2_with fail
          have hB5 := hB3.set ⟨p0, p1⟩
          have hA5 : Box ((w3.setCell ⟨m + 1, 0, none⟩ (.int .u64 p0)).setCell ⟨m + 1, 1, none⟩ (.int .u64 p1)) m Sg.zero := (hA3.far (by simp)).far (by simp)
          have hK5 := (hK3.setCell (p := ⟨m + 1, 0, none⟩) (.int .u64 p0) (.inr (by rw [HM.out]; simp))).setCell (p := ⟨m + 1, 1, none⟩) (.int .u64 p1) (.inr (by rw [HM.out]; simp))
          simp only at hB5
          clear z0 z1 z2 z3 hA3 hB3 hK3
          generalize (w3.setCell ⟨m + 1, 0, none⟩ (.int .u64 p0)).setCell ⟨m + 1, 1, none⟩ (.int .u64 p1) = w5 at *
          refine (w2' _).mono ?_
          rintro e w4 ⟨rfl, hk4⟩
          have hA4 := hA5.kept hk4 id
          have hB4 := hB5.kept hk4 id
          have hK4 : Kept (fun _ => False) w w4 := hK5.trans hk4 (fun _ _ f => f)
          have z0 := hB4.c0; have z1 := hB4.c1; have z2 := hB4.f0; have z3 := hB4.f1
          simp only at z0 z1
          clear hk4 w2'
          go_wp2_with fail
          go_roundw
          case rel => exact ⟨j + 1, ⟨r0, r1⟩, by go_num, hlt, ok2, (hA4.far (by simp)).far (by simp), hB4.set ⟨r0, r1⟩, (hK4.setCell _ (.inr (by rw [HM.out]; simp))).setCell _ (.inr (by rw [HM.out]; simp)), HD2⟩
          case measure => simp [intOf]; omega
        · unfold ofGo at HD
          have HD2 : Hid ((Sg.zero, hashE z b) = R) := by
            have := HD.out
            rwa [if_neg hE] at this
          have hne : (hashE z b != 0) = true := by simpa using hE
          generalize hashE z b = ee at *
          generalize hash1 z b = x1 at *
          generalize hash2 z b = x2 at *
          have z0 := hA.c0; have z1 := hA.c1; have z2 := hA.f0; have z3 := hA.f1
          simp only [Sg.zero] at z0 z1
          clear HD hE
          go_wp2
          have hB2 : Box ((w1.setCell ⟨m, 0, none⟩ (.int .u64 0)).setCell ⟨m, 1, none⟩ (.int .u64 0)) m Sg.zero := hA.set Sg.zero
          have hK2 := (hK.setCell (p := ⟨m, 0, none⟩) (.int .u64 0) (.inr (by rw [HM.out]; simp))).setCell (p := ⟨m, 1, none⟩) (.int .u64 0) (.inr (by rw [HM.out]; simp))
          have y0 : ((w1.setCell ⟨m, 0, none⟩ (.int .u64 0)).setCell ⟨m, 1, none⟩ (.int .u64 0)).cell? ⟨m, 0, none⟩ = some (.int .u64 0) := hB2.c0
          have y1 : ((w1.setCell ⟨m, 0, none⟩ (.int .u64 0)).setCell ⟨m, 1, none⟩ (.int .u64 0)).cell? ⟨m, 1, none⟩ = some (.int .u64 0) := hB2.c1
          exact bodyPost_ret (v := .tuple #[.agg #[.int .u64 0, .int .u64 0], .int .i64 ee]) (by simp [results, Tryz.results107, go_sem, y0, y1]) rfl ⟨by rw [← HD2.out]; rfl, hK2⟩
      · have h1 : ¬ (j : Int) < (n : Int) := by omega
        have hR2 : Hid ((s, (0 : Int)) = R) := by
          have := hR.out
          rwa [List.drop_eq_nil_of_le (by have := HL.out; omega)] at this
        have z0 := hA.c0; have z1 := hA.c1; have z2 := hA.f0; have z3 := hA.f1
        have y0 := hB.c0; have y1 := hB.c1
        obtain ⟨s0, s1⟩ := s
        simp only [Sg.zero] at z0 z1 y0 y1
        go_wp2
        have hB2 := hA.set ⟨s0, s1⟩
        have hK2 := (hK.setCell (p := ⟨m, 0, none⟩) (.int .u64 (s0 : Int)) (.inr (by rw [HM.out]; simp))).setCell (p := ⟨m, 1, none⟩) (.int .u64 (s1 : Int)) (.inr (by rw [HM.out]; simp))
        have x0 := hB2.c0; have x1 := hB2.c1
        simp only at x0 x1 hB2 hK2
        exact bodyPost_ret (v := .tuple #[.agg #[.int .u64 s0, .int .u64 s1], .int .i64 0]) (by simp [results, Tryz.results107, go_sem, x0, x1]) rfl ⟨by rw [← hR2.out]; rfl, hK2⟩
  · simp only [if_neg hb]
    by_cases n2 : b < 1
    · clear hb hz
      go_enter Tryz.func107, Tryz.ntmps107
      go_wp2
      exact bodyPost_ret (v := .tuple #[.agg #[.int .u64 0, .int .u64 0], .int .i64 1]) (by simp [results, Tryz.results107, go_sem]) rfl ⟨rfl, (Kept.refl _ w).alloc _⟩
    · have n3 : 128 < b := by omega
      clear hb hz
      go_enter Tryz.func107, Tryz.ntmps107
      go_wp2
      exact bodyPost_ret (v := .tuple #[.agg #[.int .u64 0, .int .u64 0], .int .i64 1]) (by simp [results, Tryz.results107, go_sem]) rfl ⟨rfl, (Kept.refl _ w).alloc _⟩

theorem four_new (w : World) (a0 a1 b0 b1 : Nat) {W : World} (hW : (((w.alloc (.cells #[.int .u64 a0, .int .u64 a1] 48)).alloc (.cells #[.int .u64 b0, .int .u64 b1] 48)).alloc (.cells #[.int .u64 0, .int .u64 0] 48)).alloc (.cells #[.int .u64 0, .int .u64 0] 48) = W) : Box W w.heap.size ⟨a0, a1⟩ ∧ Box W (w.heap.size + 1) ⟨b0, b1⟩ ∧ Box W (w.heap.size + 2) Sg.zero ∧ Box W (w.heap.size + 3) Sg.zero ∧ Kept (fun _ => False) w W := by
  obtain ⟨A, B, C, K⟩ := three_new w a0 a1 b0 b1 rfl
  subst hW
  refine ⟨A.alloc _, B.alloc _, C.alloc _, ?_, K.alloc _⟩
  have := Box.new (((w.alloc (.cells #[.int .u64 a0, .int .u64 a1] 48)).alloc (.cells #[.int .u64 b0, .int .u64 b1] 48)).alloc (.cells #[.int .u64 0, .int .u64 0] 48)) 0 0
  simpa [Sg.zero] using this

/-- s has the bits of f below j, and those of g. -/
def Upto (s : Sg) (j : Nat) (f g : Nat → Bool) : Prop := ∀ k, k < 128 → s.has k = (g k || (decide (k < j) && f k))
theorem Upto.put {s : Sg} {j : Nat} {f g : Nat → Bool} (h : Upto s j f g) (hj : j < 128) (hf : f j = true) : Upto (s.put j) (j + 1) f g := by
  intro k hk
  rw [Sg.has_put hj k hk, h k hk]
  by_cases e : k = j
  · subst e; simp [hf]
  · have : decide (k < j + 1) = decide (k < j) := by simp; omega
    simp [e, this]
theorem Upto.skip {s : Sg} {j : Nat} {f g : Nat → Bool} (h : Upto s j f g) (hf : f j = false) : Upto s (j + 1) f g := by
  intro k hk
  rw [h k hk]
  by_cases e : k = j
  · subst e; simp [hf]
  · have : decide (k < j + 1) = decide (k < j) := by simp; omega
    simp [this]
theorem Upto.eq {s t : Sg} {f g : Nat → Bool} (h : Upto s 128 f g) (hs : s.ok) (ht : t.ok) (hf : ∀ k, k < 128 → t.has k = (g k || f k)) : s = t := by
  refine Sg.ext' hs ht fun k hk => ?_
  rw [h k hk, hf k hk]
  simp [hk]

set_option maxRecDepth 100000 in
set_option maxHeartbeats 1000000 in
theorem refJoin_any (a b : Sg) (ha : a.ok) (hb : b.ok) (w : World) : Calls Tryz.prog 77 #[a.val, b.val] w fun e w' => e = .returned (a.join b).val ∧ Kept (fun _ => False) w w' := by
  have HH : Hid (∀ j, j < 128 → ∀ w, Calls Tryz.prog 105 #[b.val, .int .i64 (j : Nat)] w fun e w' => e = .returned (.bool (b.has j)) ∧ Kept (fun _ => False) w w') := fun j hj w => has_any b j hb hj w
  have HF : Hid (∀ s : Sg, s.ok → Upto s 128 b.has a.has → s = a.join b) := fun s hs h => h.eq hs (Sg.ok_join ha hb) (fun k _ => Sg.has_join a b k)
  have HA : Hid (Upto a 0 b.has a.has) := fun k hk => by simp
  have HAO : Hid a.ok := ha
  generalize a.join b = r at *
  obtain ⟨F, HFe⟩ : ∃ F, Hid (b.has = F) := ⟨_, rfl⟩
  obtain ⟨G, HGe⟩ : ∃ G, Hid (a.has = G) := ⟨_, rfl⟩
  rw [HFe.out] at HH HF HA
  rw [HGe.out] at HF HA
  obtain ⟨a0, a1⟩ := a
  obtain ⟨b0, b1⟩ := b
  simp only [Sg.val] at HH ⊢
  clear ha hb HFe HGe
  go_enter Tryz.func77, Tryz.ntmps77
  go_wp2_with fail
  generalize hW : ((w.alloc (.cells #[.int .u64 a0, .int .u64 a1] 48)).alloc (.cells #[.int .u64 b0, .int .u64 b1] 48)).alloc (.cells #[.int .u64 0, .int .u64 0] 48) = W
  obtain ⟨A, B, C, K⟩ := three_new w a0 a1 b0 b1 hW
  clear hW
  generalize hm : w.heap.size = m at *
  have HM : Hid (w.heap.size = m) := hm
  clear hm
  go_loopw [5] (fun i wr => ∃ (j : Nat) (s : Sg), i = .int .i64 j ∧ j ≤ 128 ∧ s.ok ∧ Box wr m s ∧ Box wr (m + 1) ⟨b0, b1⟩ ∧ Box wr (m + 2) Sg.zero ∧ Kept (fun _ => False) w wr ∧ Hid (Upto s j F G)) (fun i _ => 128 - (intOf i).toNat)
  case atStart => exact ⟨0, ⟨a0, a1⟩, rfl, Nat.zero_le _, HAO.out, A, B, C, K, HA⟩
  case round =>
    obtain ⟨j, s, rfl, hj, hs, hA, hB, hC, hK, hU⟩ := hrel
    clear A B C K
    by_cases hlt : j < 128
    · have c0 := hB.c0; have c1 := hB.c1
      simp only at c0 c1
      have h1 : (j : Int) < 128 := by omega
      cases hf : F j with
      | false =>
        have hH := HH.out j hlt
        rw [hf] at hH
        go_wp2_with fail
        refine (hH _).mono ?_
        rintro e w1 ⟨rfl, k1⟩
        go_wp2_with fail
        go_roundw
        case rel => exact ⟨j + 1, s, by go_num, hlt, hs, hA.kept k1 id, hB.kept k1 id, hC.kept k1 id, hK.trans k1 (fun _ _ f => f), hU.out.skip hf⟩
        case measure => simp [intOf]; omega
      | true =>
        have hH := HH.out j hlt
        rw [hf] at hH
        have hP := put_any s j hs hlt
        have okP := Sg.ok_put hs hlt
        have hU2 : Hid (Upto (s.put j) (j + 1) F G) := hU.out.put hlt hf
        generalize s.put j = s2 at *
        obtain ⟨s0, s1⟩ := s
        obtain ⟨r0, r1⟩ := s2
        simp only [Sg.val] at hP
        go_wp2_with fail
        refine (hH _).mono ?_
        rintro e w1 ⟨rfl, k1⟩
        have hA1 := hA.kept k1 id
        have hB1 := hB.kept k1 id
        have hC1 := hC.kept k1 id
        have hK1 : Kept (fun _ => False) w w1 := hK.trans k1 (fun _ _ f => f)
        have d0 := hA1.c0; have d1 := hA1.c1
        simp only at d0 d1
        clear k1 hA hB hC hK c0 c1 hH
        go_wp2_with fail
        refine (hP _).mono ?_
        rintro e w2 ⟨rfl, k2⟩
        have hA2 := hA1.kept k2 id
        have hB2 := hB1.kept k2 id
        have hC2 := hC1.kept k2 id
        have hK2 : Kept (fun _ => False) w w2 := hK1.trans k2 (fun _ _ f => f)
        have x0 := hA2.c0; have x1 := hA2.c1; have x2 := hA2.f0; have x3 := hA2.f1
        simp only at x0 x1
        clear k2 hA1 hB1 hC1 hK1 d0 d1 hP
        go_wp2_with fail
        go_roundw
        case rel => exact ⟨j + 1, ⟨r0, r1⟩, by go_num, hlt, okP, hA2.set ⟨r0, r1⟩, (hB2.far (by simp <;> omega)).far (by simp <;> omega), (hC2.far (by simp <;> omega)).far (by simp <;> omega), (hK2.setCell _ (.inr (by rw [HM.out]; simp <;> omega))).setCell _ (.inr (by rw [HM.out]; simp <;> omega)), hU2⟩
        case measure => simp [intOf]; omega
    · have hj8 : j = 128 := by omega
      subst hj8
      have hr : Hid (s = r) := HF.out s hs hU.out
      have z0 := hC.c0; have z1 := hC.c1; have z2 := hC.f0; have z3 := hC.f1
      have y0 := hA.c0; have y1 := hA.c1
      obtain ⟨s0, s1⟩ := s
      simp only [Sg.zero] at z0 z1 y0 y1
      go_wp2
      have hB2 := hC.set ⟨s0, s1⟩
      have hK2 := (hK.setCell (p := ⟨m + 2, 0, none⟩) (.int .u64 (s0 : Int)) (.inr (by rw [HM.out]; simp <;> omega))).setCell (p := ⟨m + 2, 1, none⟩) (.int .u64 (s1 : Int)) (.inr (by rw [HM.out]; simp <;> omega))
      have x0 := hB2.c0; have x1 := hB2.c1
      simp only at x0 x1 hB2 hK2
      exact bodyPost_ret (v := .agg #[.int .u64 s0, .int .u64 s1]) (by simp [results, Tryz.results77, go_sem, x0, x1]) rfl ⟨by rw [← hr.out], hK2⟩

set_option maxRecDepth 100000 in
set_option maxHeartbeats 1000000 in
theorem refMinus_any (a b : Sg) (ha : a.ok) (hb : b.ok) (w : World) : Calls Tryz.prog 108 #[a.val, b.val] w fun e w' => e = .returned (a.minus b).val ∧ Kept (fun _ => False) w w' := by
  have HH : Hid (∀ j, j < 128 → ∀ w, Calls Tryz.prog 105 #[a.val, .int .i64 (j : Nat)] w fun e w' => e = .returned (.bool (a.has j)) ∧ Kept (fun _ => False) w w') := fun j hj w => has_any a j ha hj w
  have HH2 : Hid (∀ j, j < 128 → ∀ w, Calls Tryz.prog 105 #[b.val, .int .i64 (j : Nat)] w fun e w' => e = .returned (.bool (b.has j)) ∧ Kept (fun _ => False) w w') := fun j hj w => has_any b j hb hj w
  have HF : Hid (∀ s : Sg, s.ok → Upto s 128 (fun k => a.has k && !b.has k) (fun _ => false) → s = a.minus b) := fun s hs h => h.eq hs (Sg.ok_minus ha) (fun k _ => by simp [Sg.has_minus])
  have HA : Hid (Upto Sg.zero 0 (fun k => a.has k && !b.has k) (fun _ => false)) := fun k hk => by simp [Sg.has_zero]
  generalize a.minus b = r at *
  obtain ⟨F, HFe⟩ : ∃ F, Hid (a.has = F) := ⟨_, rfl⟩
  obtain ⟨G, HGe⟩ : ∃ G, Hid (b.has = G) := ⟨_, rfl⟩
  rw [HFe.out] at HH HF HA
  rw [HGe.out] at HH2 HF HA
  obtain ⟨a0, a1⟩ := a
  obtain ⟨b0, b1⟩ := b
  simp only [Sg.val] at HH HH2 ⊢
  clear ha hb HFe HGe
  go_enter Tryz.func108, Tryz.ntmps108
  go_wp2_with fail
  generalize hW : (((w.alloc (.cells #[.int .u64 a0, .int .u64 a1] 48)).alloc (.cells #[.int .u64 b0, .int .u64 b1] 48)).alloc (.cells #[.int .u64 0, .int .u64 0] 48)).alloc (.cells #[.int .u64 0, .int .u64 0] 48) = W
  obtain ⟨A, B, C, D, K⟩ := four_new w a0 a1 b0 b1 hW
  clear hW
  generalize hm : w.heap.size = m at *
  have HM : Hid (w.heap.size = m) := hm
  clear hm
  go_loopw [6] (fun i wr => ∃ (j : Nat) (s : Sg), i = .int .i64 j ∧ j ≤ 128 ∧ s.ok ∧ Box wr m ⟨a0, a1⟩ ∧ Box wr (m + 1) ⟨b0, b1⟩ ∧ Box wr (m + 2) Sg.zero ∧ Box wr (m + 3) s ∧ Kept (fun _ => False) w wr ∧ Hid (Upto s j (fun k => F k && !G k) (fun _ => false))) (fun i _ => 128 - (intOf i).toNat)
  case atStart => exact ⟨0, Sg.zero, rfl, Nat.zero_le _, Sg.ok_zero, A, B, C, D, K, HA⟩
  case round =>
    obtain ⟨j, s, rfl, hj, hs, hA, hB, hC, hD, hK, hU⟩ := hrel
    clear A B C D K
    by_cases hlt : j < 128
    · have c0 := hA.c0; have c1 := hA.c1
      simp only at c0 c1
      have h1 : (j : Int) < 128 := by omega
      cases hf : F j with
      | false =>
        have hH := HH.out j hlt
        rw [hf] at hH
        go_wp2_with fail
        refine (hH _).mono ?_
        rintro e w1 ⟨rfl, k1⟩
        go_wp2_with fail
        go_roundw
        case rel => exact ⟨j + 1, s, by go_num, hlt, hs, hA.kept k1 id, hB.kept k1 id, hC.kept k1 id, hD.kept k1 id, hK.trans k1 (fun _ _ f => f), hU.out.skip (by simp [hf])⟩
        case measure => simp [intOf]; omega
      | true =>
        cases hg : G j with
        | true =>
          have hH := HH.out j hlt
          rw [hf] at hH
          have hH2 := HH2.out j hlt
          rw [hg] at hH2
          go_wp2_with fail
          refine (hH _).mono ?_
          rintro e w1 ⟨rfl, k1⟩
          have hA1 := hA.kept k1 id
          have hB1 := hB.kept k1 id
          have hC1 := hC.kept k1 id
          have hD1 := hD.kept k1 id
          have hK1 : Kept (fun _ => False) w w1 := hK.trans k1 (fun _ _ f => f)
          have d0 := hB1.c0; have d1 := hB1.c1
          simp only at d0 d1
          clear k1 hA hB hC hD hK c0 c1 hH
          go_wp2_with fail
          refine (hH2 _).mono ?_
          rintro e w2 ⟨rfl, k2⟩
          go_wp2_with fail
          go_roundw
          case rel => exact ⟨j + 1, s, by go_num, hlt, hs, hA1.kept k2 id, hB1.kept k2 id, hC1.kept k2 id, hD1.kept k2 id, hK1.trans k2 (fun _ _ f => f), hU.out.skip (by simp [hg])⟩
          case measure => simp [intOf]; omega
        | false =>
          have hH := HH.out j hlt
          rw [hf] at hH
          have hH2 := HH2.out j hlt
          rw [hg] at hH2
          have hP := put_any s j hs hlt
          have okP := Sg.ok_put hs hlt
          have hU2 : Hid (Upto (s.put j) (j + 1) (fun k => F k && !G k) (fun _ => false)) := hU.out.put hlt (by simp [hf, hg])
          generalize s.put j = s2 at *
          obtain ⟨s0, s1⟩ := s
          obtain ⟨r0, r1⟩ := s2
          simp only [Sg.val] at hP
          go_wp2_with fail
          refine (hH _).mono ?_
          rintro e w1 ⟨rfl, k1⟩
          have hA1 := hA.kept k1 id
          have hB1 := hB.kept k1 id
          have hC1 := hC.kept k1 id
          have hD1 := hD.kept k1 id
          have hK1 : Kept (fun _ => False) w w1 := hK.trans k1 (fun _ _ f => f)
          have d0 := hB1.c0; have d1 := hB1.c1
          simp only at d0 d1
          clear k1 hA hB hC hD hK c0 c1 hH
          go_wp2_with fail
          refine (hH2 _).mono ?_
          rintro e w2 ⟨rfl, k2⟩
          have hA2 := hA1.kept k2 id
          have hB2 := hB1.kept k2 id
          have hC2 := hC1.kept k2 id
          have hD2 := hD1.kept k2 id
          have hK2 : Kept (fun _ => False) w w2 := hK1.trans k2 (fun _ _ f => f)
          have e0 := hD2.c0; have e1 := hD2.c1
          simp only at e0 e1
          clear k2 hA1 hB1 hC1 hD1 hK1 d0 d1 hH2
          go_wp2_with fail
          refine (hP _).mono ?_
          rintro e w3 ⟨rfl, k3⟩
          have hA3 := hA2.kept k3 id
          have hB3 := hB2.kept k3 id
          have hC3 := hC2.kept k3 id
          have hD3 := hD2.kept k3 id
          have hK3 : Kept (fun _ => False) w w3 := hK2.trans k3 (fun _ _ f => f)
          have x0 := hD3.c0; have x1 := hD3.c1; have x2 := hD3.f0; have x3 := hD3.f1
          simp only at x0 x1
          clear k3 hA2 hB2 hC2 hD2 hK2 e0 e1 hP
          go_wp2_with fail
          go_roundw
          case rel => exact ⟨j + 1, ⟨r0, r1⟩, by go_num, hlt, okP, (hA3.far (by simp <;> omega)).far (by simp <;> omega), (hB3.far (by simp <;> omega)).far (by simp <;> omega), (hC3.far (by simp <;> omega)).far (by simp <;> omega), hD3.set ⟨r0, r1⟩, (hK3.setCell _ (.inr (by rw [HM.out]; simp <;> omega))).setCell _ (.inr (by rw [HM.out]; simp <;> omega)), hU2⟩
          case measure => simp [intOf]; omega
    · have hj8 : j = 128 := by omega
      subst hj8
      have hr : Hid (s = r) := HF.out s hs hU.out
      have z0 := hC.c0; have z1 := hC.c1; have z2 := hC.f0; have z3 := hC.f1
      have y0 := hD.c0; have y1 := hD.c1
      obtain ⟨s0, s1⟩ := s
      simp only [Sg.zero] at z0 z1 y0 y1
      go_wp2
      have hB2 := hC.set ⟨s0, s1⟩
      have hK2 := (hK.setCell (p := ⟨m + 2, 0, none⟩) (.int .u64 (s0 : Int)) (.inr (by rw [HM.out]; simp <;> omega))).setCell (p := ⟨m + 2, 1, none⟩) (.int .u64 (s1 : Int)) (.inr (by rw [HM.out]; simp <;> omega))
      have x0 := hB2.c0; have x1 := hB2.c1
      simp only at x0 x1 hB2 hK2
      exact bodyPost_ret (v := .agg #[.int .u64 s0, .int .u64 s1]) (by simp [results, Tryz.results108, go_sem, x0, x1]) rfl ⟨by rw [← hr.out], hK2⟩

set_option maxRecDepth 100000 in
set_option maxHeartbeats 1000000 in
theorem refTouched_any (a b : Sg) (ha : a.ok) (hb : b.ok) (w : World) : Calls Tryz.prog 79 #[a.val, b.val] w fun e w' => ∃ v, e = .returned v ∧ w'.ownsRow w.heap.size 3 1 v (b.minus a).words.length (cellsOf (b.minus a).words) ∧ Kept (fun _ => False) w w' := by
  obtain ⟨i0, hi0, hz0, hz1, hz2⟩ := info_parts Tryz.infoInt
  have hM := refMinus_any b a hb ha
  generalize b.minus a = d at *
  have HS : Hid (∀ j, wordsBelow d (j + 1) = wordsBelow d j ++ (if word d j != 0 then [j] else [])) := wordsBelow_succ d
  have HLE : Hid (∀ j, (wordsBelow d j).length ≤ j) := wordsBelow_le d
  have HE : Hid (wordsBelow d 2 = d.words) := rfl
  have H0 : Hid (wordsBelow d 0 = []) := rfl
  have HI2 : Hid (∀ (w : World) (n : Nat), Box w n d → ∀ j : Nat, j < 2 → w.cell? ⟨n, j, none⟩ = some (.int .u64 (word d j : Nat))) := fun w n h j hj => h.word hj
  generalize d.words = R at *
  generalize wordsBelow d = L at *
  generalize word d = X at *
  obtain ⟨a0, a1⟩ := a
  obtain ⟨b0, b1⟩ := b
  obtain ⟨d0, d1⟩ := d
  simp only [Sg.val] at hM ⊢
  clear ha hb
  go_enter Tryz.func79, Tryz.ntmps79
  go_wp2_with fail
  generalize hW : (w.alloc (.cells #[.int .u64 a0, .int .u64 a1] 48)).alloc (.cells #[.int .u64 b0, .int .u64 b1] 48) = W
  obtain ⟨A, B, K⟩ := hasTwo w a0 a1 b0 b1 hW
  clear hW A B
  refine (hM _).mono ?_
  rintro e w1 ⟨rfl, k1⟩
  have K1 : Kept (fun _ => False) w w1 := K.trans k1 (fun _ _ f => f)
  clear K k1 hM
  go_wp2_with fail
  have D := Box.new w1 d0 d1
  have K2 := K1.alloc (.cells #[.int .u64 d0, .int .u64 d1] 48)
  have HQ : Hid (w.heap.size ≤ w1.heap.size) := K1.size
  generalize w1.alloc (.cells #[.int .u64 d0, .int .u64 d1] 48) = w2 at *
  generalize w1.heap.size = q at *
  generalize hm : w.heap.size = m at *
  have HM : Hid (w.heap.size = m) := hm
  clear hm K1
  go_loopw [5, 7] (fun v i wr => ∃ j : Nat, i = .int .i64 j ∧ j ≤ 2 ∧ Box wr q ⟨d0, d1⟩ ∧ wr.ownsRow (q + 1) 3 1 v (L j).length (cellsOf (L j)) ∧ Kept (fun _ => False) w wr) (fun _ i _ => 2 - (intOf i).toNat)
  case atStart => exact ⟨0, rfl, Nat.zero_le _, D, by rw [H0.out]; exact World.ownsRow_nil _ _ _ _, K2⟩
  case round =>
    obtain ⟨j, rfl, hj, hD, ho, hK⟩ := hrel
    clear D K2
    by_cases hlt : j < 2
    · have h1 : (j : Int) < 2 := by omega
      have h0 : (0 : Int) ≤ (j : Int) := by omega
      have hS := HS.out j
      have hI := HI2.out wr q hD j hlt
      cases hf : X j != 0 with
      | false =>
        rw [hf] at hS
        have HS2 : Hid (L (j + 1) = L j) := by show _ = _; simpa using hS
        have hx : (((X j : Nat) : Int) != 0) = false := by simpa using hf
        clear hS hf
        generalize X j = x at *
        go_wp2_with fail
        go_roundw
        case rel => exact ⟨j + 1, by go_num, hlt, hD, by rw [HS2.out]; exact ho, hK⟩
        case measure => simp [intOf]; omega
      | true =>
        rw [hf] at hS
        have HS2 : Hid (L (j + 1) = L j ++ [j]) := by show _ = _; simpa using hS
        have hN : (L j).length ≤ 1 := by have := HLE.out j; omega
        have hx : (((X j : Nat) : Int) != 0) = true := by simpa using hf
        clear hS hf
        have hmw : Hid (q + 1 ≤ wr.heap.size) := hD.lt
        generalize X j = x at *
        generalize hNN : (L j).length = NN at *
        have HNN : Hid ((L j).length = NN) := hNN
        generalize hLL : L j = LL at *
        clear hNN hLL
        go_wp2_with (at_builtin; refine wpList_append_lies _ rfl (.tmp 19) (.tmp 21) 97 rfl (q + 1) 3 i0 _ 1 8 Tryz.underlying97 hi0 hz0 hz1 hz2 rfl (by omega) _ NN (cellsOf LL) rfl (ho.alloc _) ⟨wr.heap.size, 0, none⟩ 1 1 [.int .i64 (j : Int)] rfl (by simp) (World.news_of_block (cs := #[.int .i64 (j : Int)]) (t := 3) (fr := (0, 0)) (heap_alloc_new wr _)) (by simp [Value.oneCell']) (by omega) (by unfold maxLen; omega) (by omega) (by simp; have := hmw.out; omega) (wr.heap.size + 1) (by simp) ?_; intro g cap w5 hown5 hgrow hat hlt5)
        go_roundw
        case rel =>
          refine ⟨j + 1, by go_num, hlt, (hD.alloc _).grown hgrow (ownsRow_ne ho (Nat.lt_succ_self _)), ?_, (hK.alloc _).grown hgrow (fun k e => .inr ?_)⟩
          · rw [HS2.out, cellsOf_append, List.length_append, HNN.out]
            exact hown5
          · have := (ho.lt k e).1
            have h2 := HQ.out
            rw [HM.out]
            omega
        case measure => simp [intOf]; omega
    · have hj8 : j = 2 := by omega
      subst hj8
      go_wp2
      go_ret
      exact ⟨_, rfl, by rw [HM.out, ← HE.out]; exact ownsRow_weaken ho (Nat.le_succ_of_le HQ.out), hK⟩
end Go.Proofs.YtajfjkhbimehbaaGreat
