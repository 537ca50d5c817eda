/- The signature of cells: Of. Lists of int in memory. -/
import Derived.Test.YtbbllmhnhhbpiaaDoorHash
namespace Go.Proofs.YtbbllmhnhhbpiaaDoor
open Go.RowKit
set_option linter.unusedVariables false
set_option linter.unusedSimpArgs false

/-- A list of int in memory, of n elements. -/
def IntsIn (w : World) (la : Option Addr) (n : Nat) (zs : List Int) : Prop :=
  n = zs.length ∧ (0 < n → ∃ g o, la = some ⟨g, o, none⟩ ∧ ∀ j, j < n → w.cell? ⟨g, o + j, none⟩ = some (.int .i64 (zs.getD j 0)))
theorem IntsIn.drew {w : World} {la : Option Addr} {n : Nat} {zs : List Int} (h : IntsIn w la n zs) : IntsIn w.drew la n zs := h
/-- It stays where its block isn't touched. -/
theorem IntsIn.kept {w w' : World} {la : Option Addr} {n : Nat} {zs : List Int} (h : IntsIn w la n zs) (k : Kept (fun _ => False) w w') : IntsIn w' la n zs := by
  refine ⟨h.1, fun hn => ?_⟩
  obtain ⟨g, o, hla, hc⟩ := h.2 hn
  exact ⟨g, o, hla, fun j hj => k.cell (hc j hj) (fun f => f)⟩

/-- The signature of cells, put together one by one. -/
def ofGo (n : Int) : List Int → Sg → Sg × Int
  | [], s => (s, 0)
  | c :: l, s => if hashE c n = 0 then ofGo n l ((s.put (hash1 c n).toNat).put (hash2 c n).toNat) else (Sg.zero, hashE c n)
def ofR (cells : List Int) (n : Int) : Sg × Int := if 1 ≤ n ∧ n ≤ 128 then ofGo n cells Sg.zero else (Sg.zero, 1)

theorem hash_in {c n : Int} (h : hashE c n = 0) : ∃ h1 h2 : Nat, hash1 c n = h1 ∧ hash2 c n = h2 ∧ h1 < 128 ∧ h2 < 128 ∧ (hash1 c n).toNat = h1 ∧ (hash2 c n).toNat = h2 := by
  unfold hashE at h
  by_cases hn : 1 ≤ n ∧ n ≤ 128
  · by_cases hc : 0 ≤ c ∧ c < 256
    · have e1 : hash1 c n = hv c 40503 n := by unfold hash1; rw [if_pos hn, if_pos hc]
      have e2 : hash2 c n = hv c 30011 n := by unfold hash2; rw [if_pos hn, if_pos hc]
      have r1 := hv_range c 40503 n hn.1
      have r2 := hv_range c 30011 n hn.1
      rw [e1, e2]
      exact ⟨_, _, (Int.toNat_of_nonneg r1.1).symm, (Int.toNat_of_nonneg r2.1).symm, by omega, by omega, rfl, rfl⟩
    · rw [if_pos hn, if_neg hc] at h; simp at h
  · rw [if_neg hn] at h; simp at h

theorem drop_at (zs : List Int) (j : Nat) (h : j < zs.length) : zs.drop j = zs.getD j 0 :: zs.drop (j + 1) := by
  rw [List.drop_eq_getElem_cons h]
  simp [List.getD, h]

theorem pair_new (w : World) {W : World} (hW : (w.alloc (.cells #[.int .u64 0, .int .u64 0] 31)).alloc (.cells #[.int .u64 0, .int .u64 0] 31) = W) : Box W w.heap.size Sg.zero ∧ Box W (w.heap.size + 1) Sg.zero ∧ Kept (fun _ => False) w W := by
  have h := two_new w 0 0 hW
  exact h

set_option maxRecDepth 100000 in
set_option maxHeartbeats 1000000 in
theorem of_any (la : Option Addr) (n ca : Nat) (zs : List Int) (b : Int) (w : World) (hz : IntsIn w la n zs) (hn : n ≤ 35184372088832) :
    Calls Tryd.prog 13 #[.slice la n ca, .int .i64 b] w fun e w' => e = .returned (.tuple #[(ofR zs b).1.val, .int .i64 (ofR zs b).2]) ∧ Kept (fun _ => False) w w' := by
  unfold ofR
  by_cases hb : 1 ≤ b ∧ b ≤ 128
  · simp only [if_pos hb]
    have wy := fun w => width_yes b w hb.1 hb.2
    have HL : Hid (n = zs.length) := hz.1
    have HZ : Hid (IntsIn w la n zs) := hz
    clear hz
    obtain ⟨R, HR⟩ : ∃ R, Hid (ofGo b zs Sg.zero = R) := ⟨_, rfl⟩
    rw [HR.out]
    go_enter Tryd.func13, Tryd.ntmps13
    go_wp2_with fail
    refine (wy _).mono ?_
    rintro e w1 ⟨rfl, hw1⟩
    subst hw1
    go_wp2_with fail
    generalize hW : (w.alloc (.cells #[.int .u64 0, .int .u64 0] 31)).alloc (.cells #[.int .u64 0, .int .u64 0] 31) = W
    obtain ⟨A, B, K⟩ := pair_new w hW
    clear hW
    generalize hm : w.heap.size = m at *
    have HM : Hid (w.heap.size = m) := hm
    clear hm wy
    go_loopw [18] (fun i wr => ∃ (j : Nat) (s : Sg), i = .int .i64 j ∧ j ≤ n ∧ s.ok ∧ Box wr m Sg.zero ∧ Box wr (m + 1) s ∧ Kept (fun _ => False) w wr ∧ Hid (ofGo b (zs.drop j) s = R)) (fun i _ => n - (intOf i).toNat)
    case atStart => exact ⟨0, Sg.zero, rfl, Nat.zero_le _, Sg.ok_zero, A, B, K, HR⟩
    case round =>
      obtain ⟨j, s, rfl, hj, hs, hA, hB, hK, hR⟩ := hrel
      clear A B K
      by_cases hlt : j < n
      · obtain ⟨g, o, rfl, hga⟩ := HZ.out.2 (by omega)
        have c1 : wr.cell? ⟨g, o + j, none⟩ = some (.int .i64 (zs.getD j 0)) := hK.cell (hga j hlt) (fun f => f)
        have HD : Hid (ofGo b (zs.getD j 0 :: zs.drop (j + 1)) s = R) := by
          have := hR.out
          rwa [drop_at zs j (by have := HL.out; omega)] at this
        generalize zs.getD j 0 = z at c1 HD
        clear hga HZ
        have h0 : (0 : Int) ≤ (j : Int) := Int.natCast_nonneg _
        have h1 : (j : Int) < (n : Int) := by omega
        go_wp2_with fail
        refine (hash_any z b _).mono ?_
        rintro e w1 ⟨rfl, hw1⟩
        subst hw1
        by_cases hE : hashE z b = 0
        · obtain ⟨x1, x2, e1, e2, l1, l2, t1, t2⟩ := hash_in hE
          rw [e1, e2, hE]
          unfold ofGo at HD
          have HD2 : Hid (ofGo b (zs.drop (j + 1)) ((s.put x1).put x2) = R) := by
            have := HD.out
            rwa [if_pos hE, t1, t2] at this
          have w1' := fun w => with_any s x1 hs l1 w
          have w2' := fun w => with_any (s.put x1) x2 (Sg.ok_put hs l1) l2 w
          have ok2 := Sg.ok_put (Sg.ok_put hs l1) l2
          generalize (s.put x1).put x2 = s2 at *
          generalize s.put x1 = s1 at *
          have y0 := hB.c0; have y1 := hB.c1
          obtain ⟨s0, s1'⟩ := s
          obtain ⟨r0, r1⟩ := s2
          simp only [Sg.val] at w1' w2' y0 y1
          clear HD e1 e2 hE t1 t2
          go_wp2_with fail
          refine (w1' _).mono ?_
          rintro e w3 ⟨rfl, hk3⟩
          go_wp2_with fail
          refine (w2' _).mono ?_
          rintro e w4 ⟨rfl, hk4⟩
          have hA4 := (hA.kept hk3 id).kept hk4 id
          have hB4 := (hB.kept hk3 id).kept hk4 id
          have hK4 : Kept (fun _ => False) w w4 := (hK.trans hk3 (fun _ _ f => f)).trans hk4 (fun _ _ f => f)
          have z0 := hB4.c0; have z1 := hB4.c1; have z2 := hB4.f0; have z3 := hB4.f1
          simp only at z0 z1
          clear hk3 hk4 w1' w2' y0 y1
          go_wp2_with fail
          go_roundw
          case rel => exact ⟨j + 1, ⟨r0, r1⟩, by go_num, hlt, ok2, (hA4.far (by simp)).far (by simp), hB4.set ⟨r0, r1⟩, (hK4.setCell _ (.inr (by rw [HM.out]; simp))).setCell _ (.inr (by rw [HM.out]; simp)), HD2⟩
          case measure => simp [intOf]; omega
        · unfold ofGo at HD
          have HD2 : Hid ((Sg.zero, hashE z b) = R) := by
            have := HD.out
            rwa [if_neg hE] at this
          have hne : (hashE z b != 0) = true := by simpa using hE
          generalize hashE z b = ee at *
          generalize hash1 z b = x1 at *
          generalize hash2 z b = x2 at *
          have z0 := hA.c0; have z1 := hA.c1; have z2 := hA.f0; have z3 := hA.f1
          simp only [Sg.zero] at z0 z1
          clear HD hE
          go_wp2
          have hB2 : Box ((w1.setCell ⟨m, 0, none⟩ (.int .u64 0)).setCell ⟨m, 1, none⟩ (.int .u64 0)) m Sg.zero := hA.set Sg.zero
          have hK2 := (hK.setCell (p := ⟨m, 0, none⟩) (.int .u64 0) (.inr (by rw [HM.out]; simp))).setCell (p := ⟨m, 1, none⟩) (.int .u64 0) (.inr (by rw [HM.out]; simp))
          have y0 : ((w1.setCell ⟨m, 0, none⟩ (.int .u64 0)).setCell ⟨m, 1, none⟩ (.int .u64 0)).cell? ⟨m, 0, none⟩ = some (.int .u64 0) := hB2.c0
          have y1 : ((w1.setCell ⟨m, 0, none⟩ (.int .u64 0)).setCell ⟨m, 1, none⟩ (.int .u64 0)).cell? ⟨m, 1, none⟩ = some (.int .u64 0) := hB2.c1
          exact bodyPost_ret (v := .tuple #[.agg #[.int .u64 0, .int .u64 0], .int .i64 ee]) (by simp [results, Tryd.results13, go_sem, y0, y1]) rfl ⟨by rw [← HD2.out]; rfl, hK2⟩
      · have h1 : ¬ (j : Int) < (n : Int) := by omega
        have hR2 : Hid ((s, (0 : Int)) = R) := by
          have := hR.out
          rwa [List.drop_eq_nil_of_le (by have := HL.out; omega)] at this
        have z0 := hA.c0; have z1 := hA.c1; have z2 := hA.f0; have z3 := hA.f1
        have y0 := hB.c0; have y1 := hB.c1
        obtain ⟨s0, s1⟩ := s
        simp only [Sg.zero] at z0 z1 y0 y1
        go_wp2
        have hB2 := hA.set ⟨s0, s1⟩
        have hK2 := (hK.setCell (p := ⟨m, 0, none⟩) (.int .u64 (s0 : Int)) (.inr (by rw [HM.out]; simp))).setCell (p := ⟨m, 1, none⟩) (.int .u64 (s1 : Int)) (.inr (by rw [HM.out]; simp))
        have x0 := hB2.c0; have x1 := hB2.c1
        simp only at x0 x1 hB2 hK2
        exact bodyPost_ret (v := .tuple #[.agg #[.int .u64 s0, .int .u64 s1], .int .i64 0]) (by simp [results, Tryd.results13, go_sem, x0, x1]) rfl ⟨by rw [← hR2.out]; rfl, hK2⟩
  · simp only [if_neg hb]
    have wn := fun w => width_no b w hb
    clear hb hz
    go_enter Tryd.func13, Tryd.ntmps13
    go_wp2_with fail
    refine (wn _).mono ?_
    rintro e w1 ⟨rfl, hw1⟩
    subst hw1
    go_wp2
    exact bodyPost_ret (v := .tuple #[.agg #[.int .u64 0, .int .u64 0], .int .i64 1]) (by simp [results, Tryd.results13, go_sem]) rfl ⟨rfl, (Kept.refl _ w).alloc _⟩
end Go.Proofs.YtbbllmhnhhbpiaaDoor
