/- The document's Lay: what it lays. -/
import Derived.Test.YtbpilhjomfkpaaaGreatDoorLyD
import Derived.Test.YtbpilhjomfkpaaaGreatDoorRnQ
namespace Go.Proofs.YtbpilhjomfkpaaaGreatDoor
open Go.RowKit
set_option linter.unusedVariables false
set_option linter.unusedSimpArgs false
attribute [local go_sem ↓] Go.wp_at_zero Go.wp_at_succ

theorem wy_at {n h a : Nat} (hh : h < n) (ha : a < n) : (h + wayM n h a) % n = a := by
  unfold wayM
  split
  · rw [show h + (a - h) = a by omega, Nat.mod_eq_of_lt ha]
  · rw [mod_two (by omega)]
    split <;> omega
theorem wy_zero {n h : Nat} : wayM n h h = 0 := by
  unfold wayM
  split <;> omega
theorem way_used {c : List Int} {n h a : Nat} (hh : h < n) (ha : a < n) (hw : ∀ r, r < wayM n h a → stC c 0 ((h + r) % n) = 1) (h1 : stA c a = 1) : ∀ r, r < wayM n h ((a + 1) % n) → stC c 0 ((h + r) % n) = 1 := fun r hr => by
  have := way_step hh ha
  by_cases e : r < wayM n h a
  · exact hw r e
  · rw [show r = wayM n h a by omega, wy_at hh ha, stC_zero]; exact h1
set_option maxRecDepth 100000 in
set_option maxHeartbeats 16000000 in
theorem LayR_any (la : Option Addr) (m lc : Nat) (ps : List Pr) (k : Nat) (seed : Int) (w : World) (hX : EIn w la m ps) (hr : ∀ p ∈ ps, Rg p.1) (hri : Rises ps) (hm : m ≤ k) (h1 : 1 ≤ k) (h2 : k ≤ 60) (hs : Rg seed) :
    Calls Tryz.prog 20 #[.slice la m lc, .int .i64 (k : Int), .int .i64 seed] w fun e w' =>
      ∃ g zs, e = .returned (.slice (some ⟨g, 0, none⟩) (1 + 3 * k) (1 + 3 * k)) ∧ LyP zs k ps ∧ zs.getD 0 0 = (m : Int) ∧ St w [rowI g (1 + 3 * k) (1 + 3 * k) zs] w' := by
  have hmk := makeX (1 + 3 * k) (1 + 3 * (k : Int)) (by push_cast; rfl) (by omega) w
  have s0 : St w (rowI w.heap.size (1 + 3 * k) (1 + 3 * k) (List.replicate (1 + 3 * k) 0) :: []) (w.alloc (.cells (xC (List.replicate (1 + 3 * k) 0)).toArray 2)) := by
    have := (St.nil w).new64 (List.replicate (1 + 3 * k) 0) (by rw [List.length_replicate]; unfold maxLen; omega)
    rw [List.length_replicate] at this
    exact this
  generalize hzz : xC (List.replicate (1 + 3 * k) 0) = zz at *
  clear hzz
  generalize hw1 : w.alloc (.cells zz.toArray 2) = w1 at *
  generalize hgg : w.heap.size = g at *
  have c0 := row_cell s0 (j := 0) (by omega)
  have f0 := row_frozen s0 0
  have s1 := row_set s0 (j := 0) (by omega) (m : Int)
  have hA1 : LyP ((List.replicate (1 + 3 * k) 0).set 0 (m : Int)) k [] := LyP.start k (m : Int)
  have hU1 : ((List.replicate (1 + 3 * k) 0).set 0 (m : Int)).getD 0 0 = (m : Int) := at_same (by rw [List.length_replicate]; omega) _
  generalize (List.replicate (1 + 3 * k) 0).set 0 (m : Int) = cc0 at *
  generalize (List.replicate (1 + 3 * k) (0 : Int)).getD 0 0 = z00 at *
  generalize hw2 : w1.setCell ⟨g, 0, none⟩ (.int .i64 (m : Int)) = w2 at *
  have HS1 := hid s1
  have HA1 := hid hA1
  have HU1 := hid hU1
  have HX := hid hX
  have HR := hid hr
  have HRI := hid hri
  have hk6 : (k : Int) ≤ 60 := by omega
  have hk1 : (1 : Int) ≤ (k : Int) := by omega
  have hmk6 : (m : Int) ≤ (k : Int) := by omega
  have q0 : (0 : Int) < ((1 + 3 * k : Nat) : Int) := by omega
  have b1 : seed.tmod 1000003 < 1000003 := Int.tmod_lt_of_pos seed (by omega)
  have b0 : -(1000003 : Int) < seed.tmod 1000003 := by
    have := Int.lt_tmod_of_pos seed (show (0 : Int) < 1000003 by omega)
    omega
  clear s0 s1 hA1 hU1 hX hr hs hri
  generalize hx : seed.tmod 1000003 = x at *
  obtain ⟨s, hs6, hcase⟩ : ∃ s : Nat, s ≤ 1000003 ∧ ((decide (x < 0) = true ∧ -(x + 1) = (s : Int)) ∨ (decide (x < 0) = false ∧ x = (s : Int))) := by
    by_cases h : x < 0
    · exact ⟨(-(x + 1)).toNat, by omega, .inl ⟨decide_eq_true h, by omega⟩⟩
    · exact ⟨x.toNat, by omega, .inr ⟨decide_eq_false h, by omega⟩⟩
  rcases hcase with ⟨tn, es⟩ | ⟨tn, es⟩
  all_goals
    go_enter Tryz.func20, Tryz.ntmps20
    go_wp2_with (first | simp only [hmk, hw1, hgg] | simp only [hx] | simp only [es] | simp only [hw2])
    clear hmk hw1 hgg hx es tn b0 b1 c0 f0 hw2
    go_loopw [8] (fun i wr => ∃ (t : Nat) (c : List Int), i = .int .i64 t ∧ t ≤ m ∧ LyP c k (layS ps s t) ∧ c.getD 0 0 = (m : Int) ∧ St w [rowI g (1 + 3 * k) (1 + 3 * k) c] wr) (fun i _ => m - (intOf i).toNat)
    case atStart => exact ⟨0, cc0, rfl, Nat.zero_le _, HA1.out, HU1.out, HS1.out⟩
    case round =>
      clear HS1 HA1 HU1
      obtain ⟨t, c, rfl, ht, hA, hU, hst⟩ := hrel
      by_cases hlt : t < m
      · have hml := HX.out.1
        obtain ⟨p, hp, hpf⟩ := hA.free (by rw [layS_len]; omega)
        obtain ⟨d, hd, ed⟩ : ∃ d : Nat, d < m ∧ ((t : Int) + (s : Int)).tmod (m : Int) = (d : Int) := by
          have h3 := Int.tmod_lt_of_pos ((t : Int) + (s : Int)) (show (0 : Int) < (m : Int) by omega)
          have h4 := Int.tmod_nonneg (m : Int) (show (0 : Int) ≤ (t : Int) + (s : Int) by omega)
          exact ⟨(((t : Int) + (s : Int)).tmod (m : Int)).toNat, by omega, by omega⟩
        obtain ⟨g2, o2, rfl⟩ := HX.out.addr (by omega)
        obtain ⟨e0, e1⟩ := (HX.out.kept hst.same).cells (j := d) hd
        have hdl : d < ps.length := by rw [← HX.out.1]; exact hd
        have hdd : (t + s) % ps.length = d := by
          have h3 : ((t : Int) + (s : Int)).tmod (m : Int) = ((t : Int) + (s : Int)) % (m : Int) := Int.tmod_eq_emod_of_nonneg (by omega)
          rw [ed] at h3
          rw [← hml]
          have h4 : (((t + s) % m : Nat) : Int) = ((t : Int) + (s : Int)) % (m : Int) := by push_cast; rfl
          omega
        have hnew := layS_new HRI.out (s := s) (t := t) (by omega)
        have hmem : ∀ q, q ∈ layS ps s (t + 1) ↔ q ∈ ps.getD ((t + s) % ps.length) (0, 0) :: layS ps s t := fun q => (layS_succ ps s t).mem_iff
        rw [hdd] at hnew hmem
        have hrg := HR.out (ps.getD d (0, 0)) (by rw [List.getD_eq_getElem?_getD, List.getElem?_eq_getElem hdl]; exact List.getElem_mem _)
        have s5 := hst.box #[.int .i64 (ps.getD d (0, 0)).1, .int .i64 (ps.getD d (0, 0)).2] 41
        have HNew := hid hnew
        have HMem := hid hmem
        clear hnew hmem hdd hml
        generalize ps.getD d (0, 0) = kv at *
        obtain ⟨ky, vl⟩ := kv
        simp only at e0 e1 hrg s5
        generalize hw5 : wr.alloc (.cells #[.int .i64 ky, .int .i64 vl] 41) = w5 at *
        generalize hN5 : wr.heap.size = N5 at *
        have HS5 := hid (s5.perm (List.Perm.swap _ _ _))
        have g0 : w5.cell? ⟨N5, 0, none⟩ = some (.int .i64 ky) := s5.cell 0 rfl 0
        have hH := rhome_any ky k (by omega) h2 hrg.1 hrg.2
        have hhl := home_lt ky (n := k) (by omega)
        obtain ⟨hm0, hhm⟩ : ∃ q, q = homeM ky k := ⟨_, rfl⟩
        rw [← hhm] at hH hhl
        have HHM := hid hhm
        clear hhm
        have HHL := hid hhl
        have HU := hid hU
        have HA := hid hA
        have HP := hid (And.intro hp hpf)
        have HLT := hid hlt
        have t2 : (t : Int) < (m : Int) := by omega
        have d0 : (0 : Int) ≤ (d : Int) := by omega
        have d1 : (d : Int) < (m : Int) := by omega
        have tm : ((m : Int) == 0) = false := by simp; omega
        have hs0 : (0 : Int) ≤ (s : Int) := by omega
        have hs1 : (s : Int) ≤ 1000003 := by omega
        have ht0 : (0 : Int) ≤ (t : Int) := by omega
        clear hst s5 hrg hU hA hp hpf hhl hdl hlt
        go_wp2_with (first | simp only [ed] | simp only [hw5, hN5] | (go_at_call 38; refine (hH _).mono ?_; rintro e w8 ⟨rfl, rfl⟩))
        go_loopw [10] (fun v wa => ∃ a : Nat, v = .int .i64 a ∧ a < k ∧ (∀ r, r < wayM k hm0 a → stC c 0 ((hm0 + r) % k) = 1) ∧ St w [rowI g (1 + 3 * k) (1 + 3 * k) c, boxI N5 #[.int .i64 ky, .int .i64 vl] 41] wa) (fun v _ => wayM k (intOf v).toNat p)
        case atStart => exact ⟨hm0, rfl, HHL.out, fun r hr => by rw [wy_zero] at hr; omega, HS5.out⟩
        case round =>
          clear HS5 hH g0 e0 e1
          obtain ⟨a, rfl, ha, hwy, hsa⟩ := hrel
          have HWy := hid hwy
          clear hwy
          have ha6 : (a : Int) < 60 := by omega
          have ha0 : (0 : Int) ≤ (a : Int) := by omega
          have n1 : (1 + 3 * (a : Int)).toNat = 1 + 3 * a := by omega
          have n2 : (2 + 3 * (a : Int)).toNat = 2 + 3 * a := by omega
          have n3 : (3 + 3 * (a : Int)).toNat = 3 + 3 * a := by omega
          have o1 : 1 + 3 * (a : Int) < ((1 + 3 * k : Nat) : Int) := by omega
          have o2' : 2 + 3 * (a : Int) < ((1 + 3 * k : Nat) : Int) := by omega
          have o3 : 3 + 3 * (a : Int) < ((1 + 3 * k : Nat) : Int) := by omega
          have c1 : wr.cell? ⟨g, 1 + 3 * a, none⟩ = some (.int .i64 (stA c a)) := row_cell hsa (by omega)
          have HAK := hid ha
          by_cases h1s : stA c a = 1
          · have hne : a ≠ p := fun e => HP.out.2 (e ▸ h1s)
            have hway := hid (way_next ha HP.out.1 hne)
            have hmn := mod_next a k (by omega)
            have hnx : (a + 1) % k < k := Nat.mod_lt _ (by omega)
            have hnx2 : (((a + 1) % k : Nat) : Int) ≤ 60 := by omega
            have t0 : ((k : Int) == 0) = false := by simp; omega
            have HNX := hid hnx
            have HSa := hid hsa
            have HW2 := hid (way_used HHL.out ha HWy.out h1s)
            rw [h1s] at c1
            clear hsa hnx h1s hne
            generalize hzz : (a + 1) % k = z at *
            clear hzz
            go_wp2_with (simp only [hmn])
            go_roundw
            case rel => exact ⟨z, rfl, HNX.out, HW2.out, HSa.out⟩
            case measure =>
              have := hway.out
              simp [intOf]
              omega
          · have ts : (stA c a == 1) = false := by simpa using h1s
            have f1 := row_frozen hsa (1 + 3 * a)
            have x1 := row_set hsa (j := 1 + 3 * a) (by omega) 1
            generalize hW1 : wr.setCell ⟨g, 1 + 3 * a, none⟩ (.int .i64 1) = W1 at *
            have c2 := row_cell x1 (j := 2 + 3 * a) (by omega)
            have f2 := row_frozen x1 (2 + 3 * a)
            have g1 : W1.cell? ⟨N5, 0, none⟩ = some (.int .i64 ky) := x1.cell 1 rfl 0
            have x2 := row_set x1 (j := 2 + 3 * a) (by omega) ky
            generalize hW2 : W1.setCell ⟨g, 2 + 3 * a, none⟩ (.int .i64 ky) = W2 at *
            have c3 := row_cell x2 (j := 3 + 3 * a) (by omega)
            have f3 := row_frozen x2 (3 + 3 * a)
            have g2' : W2.cell? ⟨N5, 1, none⟩ = some (.int .i64 vl) := x2.cell 1 rfl 1
            have x3 := row_set x2 (j := 3 + 3 * a) (by omega) vl
            generalize hW3 : W2.setCell ⟨g, 3 + 3 * a, none⟩ (.int .i64 vl) = W3 at *
            have hA3 := (HA.out.put (by omega) HNew.out ha (by rw [stC_zero]; exact h1s) (by rw [← HHM.out]; exact HWy.out) vl).perm HMem.out
            have hU3 := (HA.out.first ha (by rw [stC_zero]; exact h1s) 1 ky vl).trans HU.out
            have HX3 := hid (St.cut (A := [_]) (B := [_]) x3)
            have HA3 := hid hA3
            have HU3 := hid hU3
            clear hsa x1 x2 x3 hA3 hU3 h1s
            generalize stA c a = sa at *
            generalize (List.set c (1 + 3 * a) 1).getD (2 + 3 * a) 0 = sb at *
            generalize ((List.set c (1 + 3 * a) 1).set (2 + 3 * a) ky).getD (3 + 3 * a) 0 = sc at *
            generalize ((List.set c (1 + 3 * a) 1).set (2 + 3 * a) ky).set (3 + 3 * a) vl = c9 at *
            go_wp2_with (first | simp only [hW1] | simp only [hW2] | simp only [hW3])
            go_roundw
            case rel => exact ⟨t + 1, c9, by push_cast; rfl, HLT.out, HA3.out, HU3.out, HX3.out⟩
            case measure => have := HLT.out; simp [intOf]; omega
      · have t2 : ¬ (t : Int) < (m : Int) := by omega
        have HS2 := hid hst
        have HA2 : Hid (LyP c k ps ∧ c.getD 0 0 = (m : Int)) := hid ⟨hA.perm (fun q => by rw [show t = ps.length by have := HX.out.1; omega, layS_all]), hU⟩
        clear hst hA hU ht
        go_wp2
        go_loopw [11] (fun i wq => ∃ (j : Nat) (c2 : List Int), i = .int .i64 j ∧ j ≤ k ∧ (LyP c2 k ps ∧ c2.getD 0 0 = (m : Int)) ∧ St w [rowI g (1 + 3 * k) (1 + 3 * k) c2] wq) (fun i _ => k - (intOf i).toNat)
        case atStart => exact ⟨0, c, rfl, Nat.zero_le _, HA2.out, HS2.out⟩
        case round =>
          clear HS2 HA2
          obtain ⟨j, c2, rfl, hj, hA, hs2⟩ := hrel
          by_cases hjk : j < k
          · have hj6 : (j : Int) < 60 := by omega
            have hj0 : (0 : Int) ≤ (j : Int) := by omega
            have t3 : (j : Int) < (k : Int) := by omega
            have n1 : (1 + 3 * (j : Int)).toNat = 1 + 3 * j := by omega
            have n2 : (2 + 3 * (j : Int)).toNat = 2 + 3 * j := by omega
            have n3 : (3 + 3 * (j : Int)).toNat = 3 + 3 * j := by omega
            have o1 : 1 + 3 * (j : Int) < ((1 + 3 * k : Nat) : Int) := by omega
            have o2' : 2 + 3 * (j : Int) < ((1 + 3 * k : Nat) : Int) := by omega
            have o3 : 3 + 3 * (j : Int) < ((1 + 3 * k : Nat) : Int) := by omega
            have c1 : wr.cell? ⟨g, 1 + 3 * j, none⟩ = some (.int .i64 (stA c2 j)) := row_cell hs2 (by omega)
            have HJ := hid hjk
            have hs0 : (0 : Int) ≤ (s : Int) := by omega
            have hs1 : (s : Int) ≤ 1000003 := by omega
            by_cases h0s : stA c2 j = 0
            · rw [h0s] at c1
              obtain ⟨d9, h9, e9⟩ : ∃ d9 : Nat, d9 < 9 ∧ (s : Int).tmod 9 = (d9 : Int) := by
                have h3 := Int.tmod_lt_of_pos (s : Int) (show (0 : Int) < 9 by omega)
                have h4 := Int.tmod_nonneg 9 hs0
                exact ⟨((s : Int).tmod 9).toNat, by omega, by omega⟩
              have f1 := row_frozen hs2 (1 + 3 * j)
              have x1 := row_set hs2 (j := 1 + 3 * j) (by omega) 2
              generalize hW1 : wr.setCell ⟨g, 1 + 3 * j, none⟩ (.int .i64 2) = W1 at *
              have c2' := row_cell x1 (j := 2 + 3 * j) (by omega)
              have f2 := row_frozen x1 (2 + 3 * j)
              have x2 := row_set x1 (j := 2 + 3 * j) (by omega) (d9 : Int)
              generalize hW2 : W1.setCell ⟨g, 2 + 3 * j, none⟩ (.int .i64 (d9 : Int)) = W2 at *
              have c3 := row_cell x2 (j := 3 + 3 * j) (by omega)
              have f3 := row_frozen x2 (3 + 3 * j)
              have x3 := row_set x2 (j := 3 + 3 * j) (by omega) (j : Int)
              generalize hW3 : W2.setCell ⟨g, 3 + 3 * j, none⟩ (.int .i64 (j : Int)) = W3 at *
              have HA3 := hid (And.intro (hA.1.gone hjk (by rw [stC_zero]; exact h0s) (d9 : Int) (j : Int)) ((hA.1.first hjk (by rw [stC_zero, h0s]; omega) 2 (d9 : Int) (j : Int)).trans hA.2))
              have HX3 := hid x3
              have HS2 := hid hs2
              have HA2 := hid hA
              clear hs2 hA x1 x2 x3 h0s
              generalize (List.set c2 (1 + 3 * j) 2).getD (2 + 3 * j) 0 = sb at *
              generalize ((List.set c2 (1 + 3 * j) 2).set (2 + 3 * j) (d9 : Int)).getD (3 + 3 * j) 0 = sc at *
              generalize ((List.set c2 (1 + 3 * j) 2).set (2 + 3 * j) (d9 : Int)).set (3 + 3 * j) (j : Int) = c9 at *
              go_wp2_with (first | simp only [e9] | simp only [hW1] | simp only [hW2] | simp only [hW3])
              all_goals go_roundw
              all_goals first | exact ⟨j + 1, c9, by push_cast; rfl, HJ.out, HA3.out, HX3.out⟩ | exact ⟨j + 1, c2, by push_cast; rfl, HJ.out, HA2.out, HS2.out⟩ | (have := HJ.out; simp [intOf]; omega)
            · have ts : (stA c2 j == 0) = false := by simpa using h0s
              have HS2 := hid hs2
              have HA2 := hid hA
              clear hs2 hA h0s
              generalize stA c2 j = sj at *
              go_wp2
              go_roundw
              case rel => exact ⟨j + 1, c2, by push_cast; rfl, HJ.out, HA2.out, HS2.out⟩
              case measure => have := HJ.out; simp [intOf]; omega
          · have t3 : ¬ (j : Int) < (k : Int) := by omega
            have HS2 := hid hs2
            have HA2 := hid hA
            clear hs2 hA
            go_wp2
            go_ret
            exact ⟨_, rfl, _, HA2.out.1, HA2.out.2, HS2.out⟩
end Go.Proofs.YtbpilhjomfkpaaaGreatDoor
