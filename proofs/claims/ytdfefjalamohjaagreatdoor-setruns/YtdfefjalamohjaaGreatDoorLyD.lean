/- The document's Lay. -/
import Derived.Test.YtdfefjalamohjaaGreatDoorLyA
import Derived.Test.YtdfefjalamohjaaGreatDoorLyM
import Derived.Test.YtdfefjalamohjaaGreatDoorCpD
import Derived.Deep.CutBlock
namespace Go.Proofs.YtdfefjalamohjaaGreatDoor
open Go.RowKit
set_option linter.unusedVariables false
set_option linter.unusedSimpArgs false
attribute [local go_sem ↓] Go.wp_at_zero Go.wp_at_succ

theorem wr_small {c : Int} (h1 : 0 ≤ c) (h2 : c ≤ 4000000) : wrap64 c = c := by
  unfold wrap64
  omega
set_option maxRecDepth 100000 in
set_option maxHeartbeats 16000000 in
theorem Lay_any (la : Option Addr) (m lc : Nat) (l : List Int) (n : Nat) (seed : Int) (w : World) (hX : XIn w la m l) (hn : 0 < n) (hn2 : n ≤ 60) (hl : m ≤ n) (hs0 : -9223372036854775808 ≤ seed) (hs1 : seed ≤ 9223372036854775807) :
    Calls Tryz.prog 19 #[.slice la m lc, .int .i64 n, .int .i64 seed] w fun e w' => ∃ g zs, e = .returned (.slice (some ⟨g, 0, none⟩) (3 + 2 * n) (3 + 2 * n)) ∧ zs.length = 3 + 2 * n ∧ (risesB l = true → readM zs n = some l) ∧ St w [rowI g (3 + 2 * n) (3 + 2 * n) zs] w' := by
  have hml := hX.1
  have hmk := makeX (3 + 2 * n) (3 + 2 * (n : Int)) (by push_cast; rfl) (by omega) w
  have s0 : St w (rowI w.heap.size (3 + 2 * n) (3 + 2 * n) (List.replicate (3 + 2 * n) 0) :: []) (w.alloc (.cells (xC (List.replicate (3 + 2 * n) 0)).toArray 2)) := by
    have := (St.nil w).new64 (List.replicate (3 + 2 * n) 0) (by rw [List.length_replicate]; unfold maxLen; omega)
    rw [List.length_replicate] at this
    exact this
  generalize xC (List.replicate (3 + 2 * n) 0) = zz at *
  generalize hw1 : w.alloc (.cells zz.toArray 2) = w1 at *
  generalize hg : w.heap.size = g at *
  have hm2 := makeN n (by omega) w1
  have s1 : St w (rowN w1.heap.size n n (List.replicate n 0) :: rowI g (3 + 2 * n) (3 + 2 * n) (List.replicate (3 + 2 * n) 0) :: []) (w1.alloc (.cells (xC (List.replicate n 0)).toArray 3)) := by
    have := s0.newN (List.replicate n 0) (by rw [List.length_replicate]; unfold maxLen; omega)
    rw [List.length_replicate] at this
    exact this
  have hrl : (List.replicate n (0 : Int)).length = n := List.length_replicate
  generalize xC (List.replicate n 0) = zz2 at *
  generalize hw2 : w1.alloc (.cells zz2.toArray 3) = w2 at *
  generalize hg2 : w1.heap.size = q at *
  have HS1 := hid s1
  have HX := hid hX
  have HML := hid hml
  have HL := hid hl
  have HRL := hid hrl
  have hsd : ∃ s : Nat, s ≤ 1000003 ∧ ((seed.tmod 1000003 < 0 ∧ -(seed.tmod 1000003 + 1) = (s : Int)) ∨ (¬ seed.tmod 1000003 < 0 ∧ seed.tmod 1000003 = (s : Int))) := by
    have h1 := Int.tmod_lt_of_pos seed (show (0 : Int) < 1000003 by decide)
    have h2 := Int.lt_tmod_of_pos seed (show (0 : Int) < 1000003 by decide)
    by_cases h : seed.tmod 1000003 < 0
    · exact ⟨(-(seed.tmod 1000003 + 1)).toNat, by omega, .inl ⟨h, by omega⟩⟩
    · exact ⟨(seed.tmod 1000003).toNat, by omega, .inr ⟨h, by omega⟩⟩
  obtain ⟨s, hs9, hsd⟩ := hsd
  have hr1 := Int.tmod_lt_of_pos seed (show (0 : Int) < 1000003 by decide)
  have hr2 := Int.lt_tmod_of_pos seed (show (0 : Int) < 1000003 by decide)
  have hn0 : (0 : Int) < (n : Int) := by omega
  have hn9 : (n : Int) ≤ 60 := by omega
  have hs9i : (s : Int) ≤ 1000003 := by omega
  have hs0i : (0 : Int) ≤ (s : Int) := by omega
  clear s0 s1 hX hml hl hrl
  go_enter Tryz.func19, Tryz.ntmps19
  go_upto_region 3 with (simp only [hmk, hw1, hg])
  generalize hrr : seed.tmod 1000003 = rr at *
  clear hrr hr1 hr2 hs0 hs1 hmk hw1 hg
  have hsd2 : (rr = -(s : Int) - 1) ∨ rr = (s : Int) := by omega
  have HN := hid hn
  have HN2 := hid hn2
  have HS9 := hid hs9
  clear hsd hn hn2 hs9
  go_upto_if 20 with fail
  go_cut [2] from 21 (fun v W => v = .int .i64 (s : Int) ∧ W = w1)
  case first =>
    rcases hsd2 with rfl | rfl
    · have tn : decide (-(s : Int) - 1 < 0) = true := decide_eq_true (by omega)
      go_wp2
      go_meet
      exact ⟨by first | rfl | simp, rfl⟩
    · have tn : decide ((s : Int) < 0) = false := decide_eq_false (by omega)
      go_wp2
      go_meet
      exact ⟨rfl, rfl⟩
  case rest =>
    obtain ⟨rfl, rfl⟩ := hcut
    clear hsd2
    go_wp2_with (simp only [hm2, hw2, hg2])
    clear hm2 hw2 hg2
    go_loopw [9] (fun v wr => ∃ (j : Nat) (ord : List Int), v = .int .i64 j ∧ j ≤ n ∧ ord.length = n ∧ OrdIn ord j ∧ St w [rowN q n n ord, rowI g (3 + 2 * n) (3 + 2 * n) (List.replicate (3 + 2 * n) 0)] wr) (fun v _ => n - (intOf v).toNat)
    case atStart => exact ⟨0, _, rfl, Nat.zero_le _, HRL.out, OrdIn.zero _, HS1.out⟩
    case round =>
      clear HS1 HRL
      obtain ⟨j, ord, rfl, hj, hol, hoi, hst⟩ := hrel
      have b2 := HN2.out
      have b3 := HS9.out
      by_cases hlt : j < n
      · have f1 : wr.frozen? ⟨q, j, none⟩ = false := rowN_frozen hst _
        obtain ⟨u1, c1⟩ : ∃ u, wr.cell? ⟨q, j, none⟩ = some u := ⟨_, rowN_cell hst (j := j) hlt⟩
        have s2 := rowN_set hst (j := j) hlt ((j : Int) + 1)
        have z1 : (j : Int) < (n : Int) := by omega
        have z2 : (0 : Int) ≤ (j : Int) := by omega
        have z3 : (j : Int) + 1 ≤ 61 := by omega
        have ho1 := hoi.plain (by omega)
        have hl1 : (ord.set j ((j : Int) + 1)).length = n := by rw [List.length_set]; exact hol
        have hx1 : (ord.set j ((j : Int) + 1)).getD j 0 = (j : Int) + 1 := sAt_same (by omega) _
        generalize ord.set j ((j : Int) + 1) = o1 at *
        cases hsb : decide (0 < (s : Int)) with
        | false =>
          have hsb' : decide (0 < s) = false := by rw [decide_eq_false_iff_not] at hsb ⊢; omega
          have HF := hid (And.intro hl1 (And.intro ho1 s2))
          have HJ := hid hlt
          clear hst hj hol hoi s2 ho1 hl1 hx1 b2 b3 hlt
          go_wp2
          go_roundw
          case rel => exact ⟨j + 1, o1, by push_cast; rfl, by have := HJ.out; omega, HF.out⟩
          case measure =>
            have := HJ.out
            simp [intOf]
            omega
        | true =>
          have hsb' : decide (0 < s) = true := by rw [decide_eq_true_iff] at hsb ⊢; omega
          obtain ⟨jj, hjj0⟩ : ∃ jj : Nat, jj = j * j := ⟨_, rfl⟩
          have hjj : jj ≤ 3600 := by rw [hjj0]; exact Nat.mul_le_mul (show j ≤ 60 by omega) (show j ≤ 60 by omega)
          have hjI : (j : Int) * (j : Int) = (jj : Int) := by rw [hjj0]; push_cast; rfl
          clear hjj0
          obtain ⟨k, hk⟩ : ∃ k, k = (s + jj) % (j + 1) := ⟨_, rfl⟩
          have hkl : k < j + 1 := by rw [hk]; exact Nat.mod_lt _ (Nat.succ_pos j)
          have q1 : (0 : Int) ≤ (jj : Int) := Int.natCast_nonneg _
          have q2 : (jj : Int) ≤ 4000000 := by omega
          have q3 : (0 : Int) ≤ (s : Int) + (jj : Int) := by omega
          have q4 : (s : Int) + (jj : Int) ≤ 4000000 := by omega
          have e1 : ((s : Int) + (jj : Int)) % ((j : Int) + 1) = (k : Int) := by rw [hk]; push_cast; rfl
          have e2 : ((s : Int) + (jj : Int)).tmod ((j : Int) + 1) = (k : Int) := by rw [Int.tmod_eq_emod_of_nonneg (by omega)]; exact e1
          have e3 : ¬ ((j : Int) + 1 = 0) := by omega
          have e4 : (((j : Int) + 1) == 0) = false := by simp; omega
          have z4 : (0 : Int) ≤ (k : Int) := by omega
          have z5 : (k : Int) < (n : Int) := by omega
          have z6 : (jj : Int) ≤ 3600 := by omega
          have z7 : (0 : Int) ≤ (jj : Int) := by omega
          have x2 := rowN_cell s2 (j := k) (by omega)
          have f2 := rowN_frozen s2 j
          have c2 := rowN_cell s2 (j := j) hlt
          have s3 := rowN_set s2 (j := j) hlt (o1.getD k 0)
          have hl3 : (o1.set j (o1.getD k 0)).length = n := by rw [List.length_set]; exact hl1
          have f3 := rowN_frozen s3 k
          have c3 := rowN_cell s3 (j := k) (by omega)
          have s4 := rowN_set s3 (j := k) (by omega) ((j : Int) + 1)
          have ho4 := ho1.swap (i := j) (k := k) (by omega) (by omega) ((j : Int) + 1) hx1.symm
          have hl4 : ((o1.set j (o1.getD k 0)).set k ((j : Int) + 1)).length = n := by rw [List.length_set]; exact hl3
          generalize (o1.set j (o1.getD k 0)).set k ((j : Int) + 1) = o4 at *
          generalize (o1.set j (o1.getD k 0)).getD k 0 = y3 at *
          generalize o1.getD k 0 = y2 at *
          generalize o1.getD j 0 = y1 at *
          have HF := hid (And.intro hl4 (And.intro ho4 s4))
          have HJ := hid hlt
          have w1' : wrap64 ((j : Int) * (j : Int)) = (jj : Int) := by rw [hjI]; exact wr_small q1 q2
          have w2' : wrap64 ((s : Int) + (jj : Int)) = (s : Int) + (jj : Int) := wr_small q3 q4
          clear hst hj hol hoi s2 s3 s4 ho1 ho4 hl1 hl3 hl4 hx1 b2 b3 hlt hk hkl hjj hjI e1 q2 q4
          go_wp2
          go_roundw
          case rel => exact ⟨j + 1, o4, by push_cast; rfl, by have := HJ.out; omega, HF.out⟩
          case measure =>
            have := HJ.out
            simp [intOf]
            omega
      · obtain rfl : j = n := by omega
        have f2 : wr.frozen? ⟨g, 2, none⟩ = false := row2_frozen hst _
        obtain ⟨u2, c2⟩ : ∃ u, wr.cell? ⟨g, 2, none⟩ = some u := ⟨_, row2_cell hst (j := 2) (by omega) (by simp)⟩
        have s2 := row2_set hst (j := 2) (by omega) (m : Int)
        have hly := LyIn.start (n := j) ord l
        rw [← HML.out] at hly
        generalize (List.replicate (3 + 2 * j) (0 : Int)).set 2 (m : Int) = zs0 at *
        have HS2 := hid s2
        have HLy := hid hly
        have HOrd := hid (And.intro hol hoi)
        have hm2 : (2 : Int) < ((3 + 2 * j : Nat) : Int) := by omega
        have hjj : ¬ (j : Int) < (j : Int) := by omega
        clear hst hj hol hoi s2 hly hlt b2 b3
        go_upto_region 15 with fail
        generalize wr.setCell ⟨g, 2, none⟩ (.int .i64 (m : Int)) = w3 at *
        clear f2 c2 hm2 hjj
        go_wp2
        go_loopw [11] (fun v wr => ∃ (i : Nat) (zs : List Int), v = .int .i64 i ∧ i ≤ j ∧ LyIn zs ord l j i ∧ St w [rowN q j j ord, rowI g (3 + 2 * j) (3 + 2 * j) zs] wr) (fun v _ => j - (intOf v).toNat)
        case atStart => exact ⟨0, zs0, rfl, Nat.zero_le _, HLy.out, HS2.out⟩
        case round =>
          clear HS2 HLy
          obtain ⟨i, zs, rfl, hi, hly, hst⟩ := hrel
          obtain ⟨hol, hoi⟩ := HOrd.out
          have b1 := HN.out
          have b2 := HN2.out
          have b3 := HS9.out
          have b4 := HL.out
          have hzl : zs.length = 3 + 2 * j := hly.len
          by_cases hlt : i < j
          · obtain ⟨p, hp, hp1, hp2⟩ := ord_nat hoi hlt
            have z1 : (i : Int) < (j : Int) := by omega
            have z2 : (0 : Int) ≤ (i : Int) := by omega
            have z3 : (i : Int) + 1 ≤ 61 := by omega
            have z4 : (1 : Int) ≤ (p : Int) := by omega
            have z5 : (p : Int) ≤ 60 := by omega
            have n1 : ((1 : Int) + 2 * (p : Int)).toNat = 1 + 2 * p := by omega
            have n2 : ((2 : Int) + 2 * (p : Int)).toNat = 2 + 2 * p := by omega
            have n3 : ((i : Int) + 1).toNat = i + 1 := by omega
            have y1 : (0 : Int) ≤ 1 + 2 * (p : Int) := by omega
            have y2 : (0 : Int) ≤ 2 + 2 * (p : Int) := by omega
            have y3 : (1 : Int) + 2 * (p : Int) < ((3 + 2 * j : Nat) : Int) := by omega
            have y4 : (2 : Int) + 2 * (p : Int) < ((3 + 2 * j : Nat) : Int) := by omega
            have HJ := hid hlt
            by_cases hnx : i + 1 < j ∧ i + 1 ≠ m
            · have t1 : decide ((i : Int) + 1 < (j : Int)) = true := decide_eq_true (by omega)
              have t1' : decide (i + 1 < j) = true := decide_eq_true (by omega)
              have t2 : (((i : Int) + 1) != (m : Int)) = true := by simp; omega
              have t2' : ((i + 1) != m) = true := by simp; omega
              have o1 := rowN_cell hst (j := i + 1) hnx.1
              have y5 : (i : Int) + 1 < (j : Int) := by omega
              have HNX0 : nxO ord j l.length i = ord.getD (i + 1) 0 := by unfold nxO; rw [if_pos (by have := HML.out; omega)]
              obtain ⟨nx, hnxe⟩ : ∃ nx, nx = ord.getD (i + 1) 0 := ⟨_, rfl⟩
              rw [← hnxe] at HNX0 o1
              have HNX : Hid (nx = nxO ord j l.length i) := hid HNX0.symm
              clear hnx HNX0 hnxe
              by_cases him : i < m
              · have t3 : decide ((i : Int) < (m : Int)) = true := decide_eq_true (by omega)
                have t3' : decide (i < m) = true := decide_eq_true him
                obtain ⟨gl, ol, rfl⟩ := HX.out.addr (by omega)
                have z6 : (i : Int) < (m : Int) := by omega
                have d1 : wr.drew.cell? ⟨gl, ol + i, none⟩ = some (.int .i64 (l.getD i 0)) := (HX.out.kept hst.drew.same).cell him
                have o2 := rowN_cell hst.drew (j := i) hlt
                rw [hp] at o2
                have f2 := row2_frozen hst.drew (1 + 2 * p)
                have c2 := row2_cell hst.drew (j := 1 + 2 * p) (by omega) hzl
                have HA := hid (row2_set hst.drew (j := 1 + 2 * p) (by omega) (l.getD i 0))
                have HB := hid (row2_set hst (j := 1 + 2 * p) (by omega) (l.getD i 0)).drew
                obtain ⟨hly5, hk5⟩ := hly.keyed hoi hlt hp (l.getD i 0)
                have hz5 : (zs.set (1 + 2 * p) (l.getD i 0)).length = 3 + 2 * j := by rw [List.length_set]; exact hzl
                replace hk5 : i < l.length → keyM (zs.set (1 + 2 * p) (l.getD i 0)) (p : Int) = l.getD i 0 := fun _ => hk5
                obtain ⟨zs5, hzs5⟩ : ∃ zs5, zs5 = zs.set (1 + 2 * p) (l.getD i 0) := ⟨_, rfl⟩
                rw [← hzs5] at HA HB hly5 hz5 hk5
                have HLy5 := hid hly5
                have HK5 := hid hk5
                have HH := hid (And.intro hp (And.intro hol hoi))
                have HZ5 := hid hz5
                clear hly5 hk5 hst hly hzl hzs5 hz5
                obtain ⟨lv, hlv⟩ : ∃ lv, lv = l.getD i 0 := ⟨_, rfl⟩
                rw [← hlv] at d1 HA HB
                clear hlv
                generalize zs.getD (1 + 2 * p) 0 = yz at *
                go_upto_region 22 with fail
                have ww5 : IntKind.i64.wrap (2 * (p : Int)) = 2 * (p : Int) := by rw [IntKind.wrap_i64]; omega
                have ww6 : IntKind.i64.wrap (1 + 2 * (p : Int)) = 1 + 2 * (p : Int) := by rw [IntKind.wrap_i64]; omega
                go_region_with fail
                all_goals
                  obtain ⟨w5, hs5, hw5⟩ : ∃ w5, St w [rowN q j j ord, rowI g (3 + 2 * j) (3 + 2 * j) zs5] w5 ∧ (w5 = wr.drew.setCell ⟨g, 1 + 2 * p, none⟩ (.int .i64 lv)) := ⟨_, HA.out, rfl⟩
                  first
                    | rw [← hw5]
                    | (obtain ⟨w6, hs6, hw6⟩ : ∃ w5, St w [rowN q j j ord, rowI g (3 + 2 * j) (3 + 2 * j) zs5] w5 ∧ (w5 = (wr.setCell ⟨g, 1 + 2 * p, none⟩ (.int .i64 lv)).drew) := ⟨_, HB.out, rfl⟩
                       rw [← hw6]
                       clear hw5 hs5
                       obtain ⟨w5, hs5, hw5⟩ : ∃ w5, St w [rowN q j j ord, rowI g (3 + 2 * j) (3 + 2 * j) zs5] w5 ∧ w5 = w6 := ⟨_, hs6, rfl⟩
                       rw [← hw5]
                       clear hs6 hw6)
                  clear HA HB d1 o2 f2 c2 t3 t3' z6 hw5 ww5 ww6
                  have hly5 := HLy5.out
                  have hk5 := HK5.out
                  have hz5 := HZ5.out
                  have o5 := rowN_cell hs5 (j := i) HJ.out
                  rw [hp] at o5
                  have f5 := row2_frozen hs5 (2 + 2 * p)
                  have c5 := row2_cell hs5 (j := 2 + 2 * p) (by omega) hz5
                  have HT := hid (And.intro (hly5.link hoi HJ.out hp hk5 _ HNX.out) (row2_set hs5 (j := 2 + 2 * p) (by omega) nx))
                  obtain ⟨yy, hyy⟩ : ∃ yy, yy = zs5.getD (2 + 2 * p) 0 := ⟨_, rfl⟩
                  rw [← hyy] at c5
                  clear hyy
                  clear hs5 hly5 hz5 hk5 hoi hol hp hlt hi b1 b2 b3 b4
                  go_wp2
                  go_roundw
                  case rel => exact ⟨i + 1, _, by push_cast; rfl, by have := HJ.out; omega, HT.out⟩
                  case measure =>
                    have := HJ.out
                    simp [intOf]
                    omega
              · have t3 : decide ((i : Int) < (m : Int)) = false := decide_eq_false (by omega)
                have t3' : decide (i < m) = false := decide_eq_false him
                cases hsb : decide (0 < (s : Int)) with
                | true =>
                  have hsb' : decide (0 < s) = true := by rw [decide_eq_true_iff] at hsb ⊢; omega
                  have o2 := rowN_cell hst (j := i) hlt
                  rw [hp] at o2
                  have f2 := row2_frozen hst (1 + 2 * p)
                  have c2 := row2_cell hst (j := 1 + 2 * p) (by omega) hzl
                  have hs5 := row2_set hst (j := 1 + 2 * p) (by omega) ((s : Int) - (i : Int))
                  obtain ⟨hly5, -⟩ := hly.keyed hoi hlt hp ((s : Int) - (i : Int))
                  have hz5 : (zs.set (1 + 2 * p) ((s : Int) - (i : Int))).length = 3 + 2 * j := by rw [List.length_set]; exact hzl
                  have hk5 : i < l.length → keyM (zs.set (1 + 2 * p) ((s : Int) - (i : Int))) (p : Int) = l.getD i 0 := fun h => absurd h (by have := HML.out; omega)
                  generalize zs.set (1 + 2 * p) ((s : Int) - (i : Int)) = zs5 at *
                  generalize zs.getD (1 + 2 * p) 0 = yz at *
                  have HLy5 := hid hly5
                  have HK5 := hid hk5
                  have HZ5 := hid hz5
                  have HS5 := hid hs5
                  clear hly5 hk5 hst hly hzl hz5 hs5 him
                  go_upto_region 25 with fail
                  have hly5 := HLy5.out
                  have hk5 := HK5.out
                  have hz5 := HZ5.out
                  have hs5 := HS5.out
                  clear HS5 o2 f2 c2 t3 t3' hsb
                  generalize wr.setCell ⟨g, 1 + 2 * p, none⟩ (.int .i64 ((s : Int) - (i : Int))) = w5 at *
                  have o5 := rowN_cell hs5 (j := i) HJ.out
                  rw [hp] at o5
                  have f5 := row2_frozen hs5 (2 + 2 * p)
                  have c5 := row2_cell hs5 (j := 2 + 2 * p) (by omega) hz5
                  have HT := hid (And.intro (hly5.link hoi HJ.out hp hk5 _ HNX.out) (row2_set hs5 (j := 2 + 2 * p) (by omega) nx))
                  obtain ⟨yy, hyy⟩ : ∃ yy, yy = zs5.getD (2 + 2 * p) 0 := ⟨_, rfl⟩
                  rw [← hyy] at c5
                  clear hyy
                  clear hs5 hly5 hz5 hk5 hoi hol hp hlt hi b1 b2 b3 b4
                  go_wp2
                  go_roundw
                  case rel => exact ⟨i + 1, _, by push_cast; rfl, by have := HJ.out; omega, HT.out⟩
                  case measure =>
                    have := HJ.out
                    simp [intOf]
                    omega
                | false =>
                  have hsb' : decide (0 < s) = false := by rw [decide_eq_false_iff_not] at hsb ⊢; omega
                  have hk5 : i < l.length → keyM zs (p : Int) = l.getD i 0 := fun h => absurd h (by have := HML.out; omega)
                  have hz5 := hzl
                  have hs5 := hst
                  have hly5 := hly
                  clear hst hly hzl him
                  have o5 := rowN_cell hs5 (j := i) HJ.out
                  rw [hp] at o5
                  have f5 := row2_frozen hs5 (2 + 2 * p)
                  have c5 := row2_cell hs5 (j := 2 + 2 * p) (by omega) hz5
                  have HT := hid (And.intro (hly5.link hoi HJ.out hp hk5 _ HNX.out) (row2_set hs5 (j := 2 + 2 * p) (by omega) nx))
                  obtain ⟨yy, hyy⟩ : ∃ yy, yy = zs.getD (2 + 2 * p) 0 := ⟨_, rfl⟩
                  rw [← hyy] at c5
                  clear hyy
                  clear hs5 hly5 hz5 hk5 hoi hol hp hlt hi b1 b2 b3 b4
                  go_wp2
                  go_roundw
                  case rel => exact ⟨i + 1, _, by push_cast; rfl, by have := HJ.out; omega, HT.out⟩
                  case measure =>
                    have := HJ.out
                    simp [intOf]
                    omega
            · have hcase : (decide ((i : Int) + 1 < (j : Int)) = false) ∨ (decide ((i : Int) + 1 < (j : Int)) = true ∧ (((i : Int) + 1) != (m : Int)) = false) := by
                by_cases h : (i : Int) + 1 < (j : Int)
                · exact .inr ⟨decide_eq_true h, by simp; omega⟩
                · exact .inl (decide_eq_false h)
              obtain ⟨nx, hnxe⟩ : ∃ nx : Int, nx = 0 := ⟨_, rfl⟩
              have HNX : Hid (nx = nxO ord j l.length i) := hid (by unfold nxO; rw [if_neg (by have := HML.out; omega)]; exact hnxe)
              subst hnxe
              clear hnx
              rcases hcase with t1 | ⟨t1, t2⟩
              all_goals
                by_cases him : i < m
                · have t3 : decide ((i : Int) < (m : Int)) = true := decide_eq_true (by omega)
                  have t3' : decide (i < m) = true := decide_eq_true him
                  obtain ⟨gl, ol, rfl⟩ := HX.out.addr (by omega)
                  have z6 : (i : Int) < (m : Int) := by omega
                  have d1 : wr.drew.cell? ⟨gl, ol + i, none⟩ = some (.int .i64 (l.getD i 0)) := (HX.out.kept hst.drew.same).cell him
                  have o2 := rowN_cell hst.drew (j := i) hlt
                  rw [hp] at o2
                  have f2 := row2_frozen hst.drew (1 + 2 * p)
                  have c2 := row2_cell hst.drew (j := 1 + 2 * p) (by omega) hzl
                  have HA := hid (row2_set hst.drew (j := 1 + 2 * p) (by omega) (l.getD i 0))
                  have HB := hid (row2_set hst (j := 1 + 2 * p) (by omega) (l.getD i 0)).drew
                  obtain ⟨hly5, hk5⟩ := hly.keyed hoi hlt hp (l.getD i 0)
                  have hz5 : (zs.set (1 + 2 * p) (l.getD i 0)).length = 3 + 2 * j := by rw [List.length_set]; exact hzl
                  replace hk5 : i < l.length → keyM (zs.set (1 + 2 * p) (l.getD i 0)) (p : Int) = l.getD i 0 := fun _ => hk5
                  obtain ⟨zs5, hzs5⟩ : ∃ zs5, zs5 = zs.set (1 + 2 * p) (l.getD i 0) := ⟨_, rfl⟩
                  rw [← hzs5] at HA HB hly5 hz5 hk5
                  have HLy5 := hid hly5
                  have HK5 := hid hk5
                  have HH := hid (And.intro hp (And.intro hol hoi))
                  have HZ5 := hid hz5
                  clear hly5 hk5 hst hly hzl hzs5 hz5
                  obtain ⟨lv, hlv⟩ : ∃ lv, lv = l.getD i 0 := ⟨_, rfl⟩
                  rw [← hlv] at d1 HA HB
                  clear hlv
                  generalize zs.getD (1 + 2 * p) 0 = yz at *
                  go_upto_region 22 with fail
                  have ww5 : IntKind.i64.wrap (2 * (p : Int)) = 2 * (p : Int) := by rw [IntKind.wrap_i64]; omega
                  have ww6 : IntKind.i64.wrap (1 + 2 * (p : Int)) = 1 + 2 * (p : Int) := by rw [IntKind.wrap_i64]; omega
                  go_region_with fail
                  all_goals
                    obtain ⟨w5, hs5, hw5⟩ : ∃ w5, St w [rowN q j j ord, rowI g (3 + 2 * j) (3 + 2 * j) zs5] w5 ∧ (w5 = wr.drew.setCell ⟨g, 1 + 2 * p, none⟩ (.int .i64 lv)) := ⟨_, HA.out, rfl⟩
                    first
                      | rw [← hw5]
                      | (obtain ⟨w6, hs6, hw6⟩ : ∃ w5, St w [rowN q j j ord, rowI g (3 + 2 * j) (3 + 2 * j) zs5] w5 ∧ (w5 = (wr.setCell ⟨g, 1 + 2 * p, none⟩ (.int .i64 lv)).drew) := ⟨_, HB.out, rfl⟩
                         rw [← hw6]
                         clear hw5 hs5
                         obtain ⟨w5, hs5, hw5⟩ : ∃ w5, St w [rowN q j j ord, rowI g (3 + 2 * j) (3 + 2 * j) zs5] w5 ∧ w5 = w6 := ⟨_, hs6, rfl⟩
                         rw [← hw5]
                         clear hs6 hw6)
                    clear HA HB d1 o2 f2 c2 t3 t3' z6 hw5 ww5 ww6
                    have hly5 := HLy5.out
                    have hk5 := HK5.out
                    have hz5 := HZ5.out
                    have o5 := rowN_cell hs5 (j := i) HJ.out
                    rw [hp] at o5
                    have f5 := row2_frozen hs5 (2 + 2 * p)
                    have c5 := row2_cell hs5 (j := 2 + 2 * p) (by omega) hz5
                    have HT := hid (And.intro (hly5.link hoi HJ.out hp hk5 _ HNX.out) (row2_set hs5 (j := 2 + 2 * p) (by omega) 0))
                    obtain ⟨yy, hyy⟩ : ∃ yy, yy = zs5.getD (2 + 2 * p) 0 := ⟨_, rfl⟩
                    rw [← hyy] at c5
                    clear hyy
                    clear hs5 hly5 hz5 hk5 hoi hol hp hlt hi b1 b2 b3 b4
                    go_wp2
                    go_roundw
                    case rel => exact ⟨i + 1, _, by push_cast; rfl, by have := HJ.out; omega, HT.out⟩
                    case measure =>
                      have := HJ.out
                      simp [intOf]
                      omega
                · have t3 : decide ((i : Int) < (m : Int)) = false := decide_eq_false (by omega)
                  have t3' : decide (i < m) = false := decide_eq_false him
                  cases hsb : decide (0 < (s : Int)) with
                  | true =>
                    have hsb' : decide (0 < s) = true := by rw [decide_eq_true_iff] at hsb ⊢; omega
                    have o2 := rowN_cell hst (j := i) hlt
                    rw [hp] at o2
                    have f2 := row2_frozen hst (1 + 2 * p)
                    have c2 := row2_cell hst (j := 1 + 2 * p) (by omega) hzl
                    have hs5 := row2_set hst (j := 1 + 2 * p) (by omega) ((s : Int) - (i : Int))
                    obtain ⟨hly5, -⟩ := hly.keyed hoi hlt hp ((s : Int) - (i : Int))
                    have hz5 : (zs.set (1 + 2 * p) ((s : Int) - (i : Int))).length = 3 + 2 * j := by rw [List.length_set]; exact hzl
                    have hk5 : i < l.length → keyM (zs.set (1 + 2 * p) ((s : Int) - (i : Int))) (p : Int) = l.getD i 0 := fun h => absurd h (by have := HML.out; omega)
                    generalize zs.set (1 + 2 * p) ((s : Int) - (i : Int)) = zs5 at *
                    generalize zs.getD (1 + 2 * p) 0 = yz at *
                    have HLy5 := hid hly5
                    have HK5 := hid hk5
                    have HZ5 := hid hz5
                    have HS5 := hid hs5
                    clear hly5 hk5 hst hly hzl hz5 hs5 him
                    go_upto_region 25 with fail
                    have hly5 := HLy5.out
                    have hk5 := HK5.out
                    have hz5 := HZ5.out
                    have hs5 := HS5.out
                    clear HS5 o2 f2 c2 t3 t3' hsb
                    generalize wr.setCell ⟨g, 1 + 2 * p, none⟩ (.int .i64 ((s : Int) - (i : Int))) = w5 at *
                    have o5 := rowN_cell hs5 (j := i) HJ.out
                    rw [hp] at o5
                    have f5 := row2_frozen hs5 (2 + 2 * p)
                    have c5 := row2_cell hs5 (j := 2 + 2 * p) (by omega) hz5
                    have HT := hid (And.intro (hly5.link hoi HJ.out hp hk5 _ HNX.out) (row2_set hs5 (j := 2 + 2 * p) (by omega) 0))
                    obtain ⟨yy, hyy⟩ : ∃ yy, yy = zs5.getD (2 + 2 * p) 0 := ⟨_, rfl⟩
                    rw [← hyy] at c5
                    clear hyy
                    clear hs5 hly5 hz5 hk5 hoi hol hp hlt hi b1 b2 b3 b4
                    go_wp2
                    go_roundw
                    case rel => exact ⟨i + 1, _, by push_cast; rfl, by have := HJ.out; omega, HT.out⟩
                    case measure =>
                      have := HJ.out
                      simp [intOf]
                      omega
                  | false =>
                    have hsb' : decide (0 < s) = false := by rw [decide_eq_false_iff_not] at hsb ⊢; omega
                    have hk5 : i < l.length → keyM zs (p : Int) = l.getD i 0 := fun h => absurd h (by have := HML.out; omega)
                    have hz5 := hzl
                    have hs5 := hst
                    have hly5 := hly
                    clear hst hly hzl him
                    have o5 := rowN_cell hs5 (j := i) HJ.out
                    rw [hp] at o5
                    have f5 := row2_frozen hs5 (2 + 2 * p)
                    have c5 := row2_cell hs5 (j := 2 + 2 * p) (by omega) hz5
                    have HT := hid (And.intro (hly5.link hoi HJ.out hp hk5 _ HNX.out) (row2_set hs5 (j := 2 + 2 * p) (by omega) 0))
                    obtain ⟨yy, hyy⟩ : ∃ yy, yy = zs.getD (2 + 2 * p) 0 := ⟨_, rfl⟩
                    rw [← hyy] at c5
                    clear hyy
                    clear hs5 hly5 hz5 hk5 hoi hol hp hlt hi b1 b2 b3 b4
                    go_wp2
                    go_roundw
                    case rel => exact ⟨i + 1, _, by push_cast; rfl, by have := HJ.out; omega, HT.out⟩
                    case measure =>
                      have := HJ.out
                      simp [intOf]
                      omega
          · obtain rfl : i = j := by omega
            have hfin := hly.fin hoi
            have HRd : Hid (∀ z3 : List Int, LyEnd z3 ord l i → risesB l = true → readM z3 i = some l) := hid (fun z3 he hr => he.read hoi (by have := HML.out; omega) hr)
            have hjj : ¬ (i : Int) < (i : Int) := by omega
            have z8 : (0 : Int) < ((3 + 2 * i : Nat) : Int) := by omega
            have z9 : (1 : Int) < ((3 + 2 * i : Nat) : Int) := by omega
            by_cases h0 : 0 < m
            · have t0 : (0 : Int) < (m : Int) := by omega
              have o0 := rowN_cell hst (j := 0) (by omega)
              have f0 := row2_frozen hst 0
              have c0 := row2_cell hst (j := 0) (by omega) hzl
              have s2 := row2_set hst (j := 0) (by omega) (ord.getD 0 0)
              have hz2 : (zs.set 0 (ord.getD 0 0)).length = 3 + 2 * i := by rw [List.length_set]; exact hzl
              by_cases h1 : m < i
              · have t1 : (m : Int) < (i : Int) := by omega
                have t2 : (0 : Int) ≤ (m : Int) := by omega
                have o1 := rowN_cell s2 (j := m) h1
                have f1 := row2_frozen s2 1
                have c1 := row2_cell s2 (j := 1) (by omega) hz2
                have s3 := row2_set s2 (j := 1) (by omega) (ord.getD m 0)
                have he := hfin (zs.set 0 (ord.getD 0 0)) (by rw [if_pos (by have := HML.out; omega)]) ((zs.set 0 (ord.getD 0 0)).set 1 (ord.getD m 0)) (by rw [← HML.out, if_pos h1])
                have HF := hid (And.intro (HRd.out _ he) (St.cut (A := [_]) (B := [_]) (s3.perm (List.Perm.swap _ _ _))))
                have HLn := hid he.len
                generalize (zs.set 0 (ord.getD 0 0)).getD 1 0 = yb at *
                generalize zs.getD 0 0 = ya at *
                generalize ord.getD 0 0 = u0 at *
                generalize ord.getD m 0 = u1 at *
                clear hfin hly hst s2 s3 hz2 he hzl hoi hol HRd hlt hi b1 b2 b3 b4
                go_wp2
                go_ret
                exact ⟨g, rfl, _, HLn.out, HF.out⟩
              · have t1 : ¬ (m : Int) < (i : Int) := by omega
                have he := hfin (zs.set 0 (ord.getD 0 0)) (by rw [if_pos (by have := HML.out; omega)]) (zs.set 0 (ord.getD 0 0)) (by rw [← HML.out, if_neg h1])
                have HF := hid (And.intro (HRd.out _ he) (St.cut (A := [_]) (B := [_]) (s2.perm (List.Perm.swap _ _ _))))
                have HLn := hid he.len
                generalize zs.getD 0 0 = ya at *
                generalize ord.getD 0 0 = u0 at *
                clear hfin hly hst s2 hz2 he hzl hoi hol HRd hlt hi b1 b2 b3 b4
                go_wp2
                go_ret
                exact ⟨g, rfl, _, HLn.out, HF.out⟩
            · have t0 : ¬ (0 : Int) < (m : Int) := by omega
              have h1 : m < i := by omega
              have t1 : (m : Int) < (i : Int) := by omega
              have t2 : (0 : Int) ≤ (m : Int) := by omega
              have o1 := rowN_cell hst (j := m) h1
              have f1 := row2_frozen hst 1
              have c1 := row2_cell hst (j := 1) (by omega) hzl
              have s3 := row2_set hst (j := 1) (by omega) (ord.getD m 0)
              have he := hfin zs (by rw [if_neg (by have := HML.out; omega)]) (zs.set 1 (ord.getD m 0)) (by rw [← HML.out, if_pos h1])
              have HF := hid (And.intro (HRd.out _ he) (St.cut (A := [_]) (B := [_]) (s3.perm (List.Perm.swap _ _ _))))
              have HLn := hid he.len
              generalize zs.getD 1 0 = yb at *
              generalize ord.getD m 0 = u1 at *
              clear hfin hly hst s3 he hzl hoi hol HRd hlt hi b1 b2 b3 b4
              go_wp2
              go_ret
              exact ⟨g, rfl, _, HLn.out, HF.out⟩
end Go.Proofs.YtdfefjalamohjaaGreatDoor
