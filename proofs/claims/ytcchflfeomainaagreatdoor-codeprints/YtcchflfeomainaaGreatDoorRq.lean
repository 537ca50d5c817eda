/- The document's Print. -/
import Derived.Test.YtcchflfeomainaaGreatDoorRp
namespace Go.Proofs.YtcchflfeomainaaGreatDoor
open Go.RowKit
set_option linter.unusedVariables false
set_option linter.unusedSimpArgs false
attribute [local go_sem ↓] Go.wp_at_zero Go.wp_at_succ

theorem own_back {o w : World} {v : Value} {xs : List UInt8} (h : OutAt o w v xs) (h0 : 0 < xs.length) : ∃ g cap, v = .slice (some ⟨g, 0, none⟩) xs.length cap ∧ (convert 80 9 v).run Tryz.prog w = .ok (.string (bs xs)) w := by
  obtain ⟨g, cap, rfl⟩ : ∃ g cap, v = .slice (some ⟨g, 0, none⟩) xs.length cap := by
    rcases h.1.2 with ⟨_, hn⟩ | ⟨g, c, cur, hv, _⟩
    · omega
    · exact ⟨g, c, hv⟩
  refine ⟨g, cap, rfl, ?_⟩
  exact run_convert_bytes_back (P := Tryz.prog) w 80 9 5 ⟨g, 0, none⟩ cap xs Tryz.underlying80 Tryz.underlying5 Tryz.underlying9 (fun j hj => by
    rw [Addr.add_lit, Nat.zero_add, h.1.cellAt j (by omega)]
    simp [Lib.byteCells, hj])
theorem printL_pos {l : List Ins} (h : 0 < l.length) : 0 < (printL l).length := by
  cases l with
  | nil => simp at h
  | cons x r => simp [printL, lineP]; omega
set_option maxRecDepth 100000 in
set_option maxHeartbeats 2000000 in
theorem rPrint_any (la : Option Addr) (n lc : Nat) (l : List Ins) (w : World) (hL : IIn w la n l) (hA : ∀ x ∈ l, -9223372036854775808 ≤ x.a ∧ x.a ≤ 9223372036854775807) :
    Calls Tryz.prog 21 #[.slice la n lc] w fun e w' => e = .returned (.tuple #[.string (bs (printM l)), .int .i64 (checkM l).1]) ∧ Kept (fun _ => False) w w' := by
  have hck := rCheck_any la n lc l w hL
  by_cases hc : (checkM l).1 = 0
  · obtain ⟨hn1, hn2, hw⟩ := checkM_all hc
    unfold printM
    rw [if_pos hc, hc]
    rw [hc] at hck
    generalize (checkM l).2 = c2 at *
    have HN : Hid (n = l.length) := hL.1
    have HA := hid hA
    have HW : Hid (∀ x ∈ l, knownB x.op = true) := fun x hx => wrong_known (hw x hx)
    obtain ⟨g, o, rfl⟩ := hL.addr (by have := HN.out; omega)
    have HL := hid hL
    have HO0 : Hid (OutAt w w (.slice none 0 0) (printL (l.take 0))) := ⟨World.ownsRow_nil _ _ _ _, Kept.refl _ _⟩
    have hn4 : n ≤ 400 := by have := HN.out; omega
    have hn0 : 0 < n := by have := HN.out; omega
    clear hL hA hw hc
    go_enter Tryz.func21, Tryz.ntmps21
    go_wp2_with fail
    refine hck.mono ?_
    clear hck
    rintro e w2 ⟨rfl, rfl⟩
    go_wp2_with fail
    go_loopw [6, 7] (fun v i wr => ∃ j : Nat, i = .int .i64 j ∧ j ≤ n ∧ OutAt w2 wr v (printL (l.take j))) (fun _ i _ => n - (intOf i).toNat)
    case atStart => exact ⟨0, rfl, Nat.zero_le _, HO0.out⟩
    case round =>
      clear HO0
      obtain ⟨j, rfl, hj, hst⟩ := hrel
      by_cases hlt : j < n
      · have hz : j < l.length := by have := HN.out; omega
        obtain ⟨c0, c1⟩ := (HL.out.kept hst.2).cells hz
        have hmem : l.getD j Ins.zero ∈ l := by rw [List.getD_eq_getElem?_getD, List.getElem?_eq_getElem hz]; exact List.getElem_mem hz
        have hkn := HW.out _ hmem
        obtain ⟨hx0, hx1⟩ := HA.out _ hmem
        have HP : Hid (printL (l.take (j + 1)) = printL (l.take j) ++ lineP (l.getD j Ins.zero)) := printL_snoc l j hz
        have hlen : (printL (l.take j)).length ≤ 400 * 28 := by
          have := printL_len (l := l.take j) (fun x hx => HW.out x (List.mem_of_mem_take hx)) (fun x hx => HA.out x (List.mem_of_mem_take hx))
          have h2 : (l.take j).length ≤ 400 := by simp; omega
          omega
        have h0 : (0 : Int) ≤ (j : Int) := Int.natCast_nonneg _
        have h1 : (j : Int) < (n : Int) := by omega
        have HC : Hid (∀ W, Kept (fun _ => False) w2 W → W.cell? ⟨g, o + j * 2 + 1, none⟩ = some (.int .i64 (l.getD j Ins.zero).a)) := fun W k => by
          have := ((HL.out.kept k).cells hz).2
          exact this
        generalize l.getD j Ins.zero = x at *
        obtain ⟨xo, xa⟩ := x
        simp only at c0 c1 hkn hx0 hx1
        obtain ⟨m, rfl, hm0, hm1⟩ := known_nat hkn
        have hwd := rWord_any (m : Int) wr
        have htk := fun W => rTakes_any (m : Int) W
        have ewd := bs_data (rowOf (m : Int)).word
        have hwl := word_len m hm1
        have en : nameM (m : Int) = (rowOf (m : Int)).word := by unfold nameM; rw [hkn]; rfl
        have et : takesM (m : Int) = (rowOf (m : Int)).takes := by unfold takesM; rw [hkn]; rfl
        rw [en, ← ewd] at hwd
        rw [et] at htk
        have HPL : Hid (lineP ⟨m, xa⟩ = (rowOf (m : Int)).word.data.toList ++ (if (rowOf (m : Int)).takes = 0 then [] else 32 :: Lib.itoa xa) ++ [10]) := rfl
        have hdg := fun W => rDigits xa hx0 hx1 W
        have hil := itoa_len xa hx0 hx1
        generalize Lib.itoa xa = iv at *
        generalize (rowOf (m : Int)).word.data.toList = wd at *
        generalize (rowOf (m : Int)).takes = tk at *
        clear ewd en et hmem hkn
        have HF : Hid (∀ W v, OutAt w2 W v (printL (l.take j) ++ lineP ⟨m, xa⟩) → OutAt w2 W v (printL (l.take (j + 1)))) := fun W v h => by rw [HP.out]; exact h
        generalize printL (l.take j) = pl at *
        clear HP
        have HS := hid hst
        clear hst c1
        go_wp2_with fail
        refine hwd.mono ?_
        clear hwd c0
        rintro e w3 ⟨rfl, k3⟩
        have s3 := HS.out.calm k3
        clear k3 HS
        have hl3 : pl.length + wd.length ≤ 140737488355328 := by omega
        have o3 := s3.1
        have b3 := s3.le
        go_wp2_with (at_builtin; refine wpList_append_txt w3 rfl _ _ rfl w2.heap.size _ pl wd rfl o3 rfl hl3 b3 ?_; intro v4 w4 p4 g4)
        have s4 := s3.grow p4 g4
        clear s3 o3 b3 p4 g4
        refine (htk _).mono ?_
        rintro e w5 ⟨rfl, rfl⟩
        by_cases h3 : tk = 0
        · have t3 : (tk != 0) = false := by simp [h3]
          have s5 := s4.calm (kept_alloc w5 (.cells #[.int .u8 10] 5))
          have o5 := s5.1
          have b5 := s5.le
          have hl5 : (pl ++ wd).length + 1 ≤ 140737488355328 := by simp; omega
          have hc5 : (w5.alloc (.cells #[.int .u8 10] 5)).cell? ⟨w5.heap.size, 0, none⟩ = some (.int .u8 (10 : UInt8).toNat) := cell_of_heap (heap_alloc_new _ _)
          have hb5 := by10 w5
          have HG := hid (fun v W p q => HF.out W v (by have := s5.grow (v' := v) (w' := W) (ys := pl ++ wd ++ [10]) p q; rw [HPL.out, if_pos h3, List.append_nil, ← List.append_assoc]; exact this))
          clear HF HPL h3 s5 s4 HC htk hdg
          go_wp2_with (first | (at_builtin; refine wpList_append_byte _ rfl _ _ rfl w2.heap.size _ (pl ++ wd) 10 rfl o5 w5.heap.size rfl hc5 hl5 b5 ?_; intro v6 w6 p6 g6; replace p6 := hid (HG.out _ _ p6 g6); clear g6) | simp only [hb5])
          go_roundw
          case rel => exact ⟨j + 1, by simp, by omega, p6.out⟩
          case measure => simp [intOf]; omega
        · have t3 : (tk != 0) = true := by simp [h3]
          have s5 := s4.calm (kept_alloc w5 (.cells #[.int .u8 32] 5))
          have o5 := s5.1
          have b5 := s5.le
          have hl5 : (pl ++ wd).length + 1 ≤ 140737488355328 := by simp; omega
          have hc5 : (w5.alloc (.cells #[.int .u8 32] 5)).cell? ⟨w5.heap.size, 0, none⟩ = some (.int .u8 (32 : UInt8).toNat) := cell_of_heap (heap_alloc_new _ _)
          have hb5 := by32 w5
          have HG := hid (fun v W p q => (s5.grow (v' := v) (w' := W) (ys := pl ++ wd ++ [32]) p q))
          have HE : Hid (pl ++ lineP ⟨m, xa⟩ = pl ++ wd ++ [32] ++ iv ++ [10]) := by show _ = _; rw [HPL.out, if_neg h3]; simp
          rw [HE.out] at HF
          clear HPL h3 s5 s4 htk HE
          go_wp2_with (first | (at_builtin; refine wpList_append_byte _ rfl _ _ rfl w2.heap.size _ (pl ++ wd) 32 rfl o5 w5.heap.size rfl hc5 hl5 b5 ?_; intro v6 w6 p6 g6; have s6 := hid (HG.out _ _ p6 g6); clear p6 g6; have hcc := HC.out w6 s6.out.2) | simp only [hb5])
          refine (hdg _).mono ?_
          rintro e w7 ⟨rfl, rfl⟩
          have o7 := s6.out.1
          have b7 := s6.out.le
          have hl7 : (pl ++ wd ++ [32]).length + iv.length ≤ 140737488355328 := by simp; omega
          clear o5 b5 hl5 hc5 hb5 HG hcc
          go_upto_region 13 with (at_builtin; refine wpList_append_txt w7 rfl _ _ rfl w2.heap.size _ (pl ++ wd ++ [32]) iv rfl o7 rfl hl7 b7 ?_; intro v8 w8 p8 g8)
          have s8 := s6.out.grow p8 g8
          clear o7 b7 hl7 p8 g8 s6
          have s9 := s8.calm (kept_alloc w8 (.cells #[.int .u8 10] 5))
          have o9 := s9.1
          have b9 := s9.le
          have hl9 : (pl ++ wd ++ [32] ++ iv).length + 1 ≤ 140737488355328 := by simp; omega
          have hc9 : (w8.alloc (.cells #[.int .u8 10] 5)).cell? ⟨w8.heap.size, 0, none⟩ = some (.int .u8 (10 : UInt8).toNat) := cell_of_heap (heap_alloc_new _ _)
          have hb9 := by10 w8
          have HG := hid (fun v W p q => HF.out W v (s9.grow (v' := v) (w' := W) (ys := pl ++ wd ++ [32] ++ iv ++ [10]) p q))
          clear HF s8 s9 HC hdg
          go_wp2_with (first | (at_builtin; refine wpList_append_byte _ rfl _ _ rfl w2.heap.size _ (pl ++ wd ++ [32] ++ iv) 10 rfl o9 w8.heap.size rfl hc9 hl9 b9 ?_; intro v10 w10 p10 g10; replace p10 := hid (HG.out _ _ p10 g10); clear g10) | simp only [hb9])
          go_roundw
          case rel => exact ⟨j + 1, by simp, by omega, p10.out⟩
          case measure => simp [intOf]; omega
      · have h1 : ¬ (j : Int) < (n : Int) := by omega
        have hjn : l.take j = l := List.take_of_length_le (by have := HN.out; omega)
        rw [hjn] at hst
        obtain ⟨g2, cap2, rfl, hcv⟩ := own_back hst (printL_pos (by have := HN.out; omega))
        have HK := hid hst.2
        clear hst hjn
        go_wp2_with (simp only [hcv])
        go_ret2
        exact ⟨rfl, HK.out⟩
  · have tc : ((checkM l).1 != 0) = true := by simpa using hc
    unfold printM
    rw [if_neg hc]
    generalize (checkM l).1 = c1 at *
    generalize (checkM l).2 = c2 at *
    clear hc hL hA
    go_enter Tryz.func21, Tryz.ntmps21
    go_wp2_with fail
    refine hck.mono ?_
    rintro e w2 ⟨rfl, rfl⟩
    go_wp2
    go_ret2
    exact ⟨rfl, Kept.refl _ _⟩
end Go.Proofs.YtcchflfeomainaaGreatDoor
