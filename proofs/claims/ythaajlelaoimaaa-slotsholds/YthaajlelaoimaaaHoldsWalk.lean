/- SlotsHolds's walk: a slot belongs to one claim at a time; who is doomed stays so. -/
import Derived.Test.YthaajlelaoimaaaHeld
import Derived.Test.YthaajlelaoimaaaWordsWalk
import Derived.Deep.CutBlock
import Derived.BigQuiet
namespace Go.Proofs.Ythaajlelaoimaaa
open Go.RowKit
set_option linter.unusedVariables false
set_option linter.unusedSimpArgs false
attribute [local go_sem ↓] Go.wp_at_zero Go.wp_at_succ

theorem zeroV (g : Hd → Value) (z : Value) {n : Nat} (hn : n ≤ 8) (h : g Hd.zero = z) : arrV g z (List.replicate n Hd.zero) = List.replicate 8 z := by
  unfold arrV
  rw [List.map_replicate, h, List.length_replicate, List.replicate_append_replicate]
  congr 1
  omega
theorem gV_zero {n : Nat} (hn : n ≤ 8) : gV (List.replicate n Hd.zero) = List.replicate 8 (.int .i64 0) := zeroV (fun h => .int .i64 h.gn) (.int .i64 0) hn rfl
theorem pV_zero {n : Nat} (hn : n ≤ 8) : pV (List.replicate n Hd.zero) = List.replicate 8 (.bool false) := zeroV (fun h => .bool (!(h.sa == 0))) (.bool false) hn rfl
theorem dV_zero {n : Nat} (hn : n ≤ 8) : dV (List.replicate n Hd.zero) = List.replicate 8 (.bool false) := zeroV (fun h => .bool h.dm) (.bool false) hn rfl
theorem TSt.perm3 {o w : World} {A B C : It} {t r c q f n : Nat} {hs : List Hd} {ws : List Int} (h : TSt o [A, B, C] t r c q f n hs ws w) : TSt o [C, B, A] t r c q f n hs ws w := by
  refine ⟨h.st.perm ?_, h.hn, h.wn, h.n1, h.n8⟩
  have : [A, B, C].Perm [C, B, A] := (List.reverse_perm [C, B, A]).symm.symm
  exact (List.Perm.refl [tabI t r q, wdRowI q f none 4 ws, hdRowI r c none 3 hs, meterI 74 none Mt.zero (.slice none 0 0)]).append this

set_option maxRecDepth 100000 in
set_option maxHeartbeats 8000000 in
theorem holds_walk (size : Int) (a : Option Addr) (len cap : Nat) (ops : Nat → OpD) (w : World) (hs : ScriptAt w a len ops) (hlen : len * 48 ≤ 140737488351232) :
    Calls Try.prog 4 #[.int .i64 size, .slice a len cap] w fun e w' => e = .returned (.bool true) ∧ Kept (fun _ => False) w w' := by
  have HS : Hid (ScriptAt w a len ops) := hs
  clear hs
  obtain ⟨n, hn, n1, n8⟩ : ∃ n : Nat, 1 + bits .and .i64 size 7 = (n : Int) ∧ 1 ≤ n ∧ n ≤ 8 := ⟨(1 + size % 8).toNat, by rw [and7]; omega, by omega, by omega⟩
  have hn1 : (1 : Int) ≤ (n : Int) := by omega
  have hn8 : (n : Int) ≤ 8 := by omega
  go_enter Try.func4, Try.ntmps4
  go_wp2_with fail
  refine (awake_any _).mono ?_
  rintro e wa ⟨rfl, hka⟩
  have hA := (St.nil w).calm hka
  have hN := TSt.new hA n n1 n8
  clear hka
  go_wp2_with fail
  refine hN.mono ?_
  rintro e w1 ⟨t, r, c, q, f, rfl, h1⟩
  clear hN hA hn
  have z1 : (gV (List.replicate n Hd.zero)).toArray = #[.int .i64 0, .int .i64 0, .int .i64 0, .int .i64 0, .int .i64 0, .int .i64 0, .int .i64 0, .int .i64 0] := by rw [gV_zero n8]; rfl
  have z2 : (pV (List.replicate n Hd.zero)).toArray = #[.bool false, .bool false, .bool false, .bool false, .bool false, .bool false, .bool false, .bool false] := by rw [pV_zero n8]; rfl
  have z3 : (dV (List.replicate n Hd.zero)).toArray = #[.bool false, .bool false, .bool false, .bool false, .bool false, .bool false, .bool false, .bool false] := by rw [dV_zero n8]; rfl
  have h2 := ((h1.box #[.bool false, .bool false, .bool false, .bool false, .bool false, .bool false, .bool false, .bool false] 58).box #[.bool false, .bool false, .bool false, .bool false, .bool false, .bool false, .bool false, .bool false] 58).box #[.int .i64 0, .int .i64 0, .int .i64 0, .int .i64 0, .int .i64 0, .int .i64 0, .int .i64 0, .int .i64 0] 57
  have h3 := ((h1.box #[.int .i64 0, .int .i64 0, .int .i64 0, .int .i64 0, .int .i64 0, .int .i64 0, .int .i64 0, .int .i64 0] 57).box #[.bool false, .bool false, .bool false, .bool false, .bool false, .bool false, .bool false, .bool false] 58).box #[.bool false, .bool false, .bool false, .bool false, .bool false, .bool false, .bool false, .bool false] 58
  simp only [alloc_size] at h3
  clear h2 h1
  go_wp2_with fail
  generalize ((w1.alloc (.cells #[.int .i64 0, .int .i64 0, .int .i64 0, .int .i64 0, .int .i64 0, .int .i64 0, .int .i64 0, .int .i64 0] 57)).alloc (.cells #[.bool false, .bool false, .bool false, .bool false, .bool false, .bool false, .bool false, .bool false] 58)).alloc (.cells #[.bool false, .bool false, .bool false, .bool false, .bool false, .bool false, .bool false, .bool false] 58) = w2 at *
  generalize w1.heap.size + 1 + 1 = D at *
  generalize w1.heap.size + 1 = P at *
  generalize w1.heap.size = G at *
  have h4 : TSt w [boxI G (gV (List.replicate n Hd.zero)).toArray 57, boxI P (pV (List.replicate n Hd.zero)).toArray 58, boxI D (dV (List.replicate n Hd.zero)).toArray 58] t r c q f n (List.replicate n Hd.zero) (List.replicate (n * 2) 0) w2 := by
    rw [z1, z2, z3]
    exact h3.perm3
  clear z1 z2 z3 h3
  go_loopw [12] (fun i wr => ∃ (j : Nat) (hs : List Hd) (ws : List Int), i = .int .i64 j ∧ j ≤ len ∧ HsOk hs j ∧ TSt w [boxI G (gV hs).toArray 57, boxI P (pV hs).toArray 58, boxI D (dV hs).toArray 58] t r c q f n hs ws wr) (fun i _ => len - (intOf i).toNat)
  case atStart => exact ⟨0, _, _, rfl, Nat.zero_le _, HsOk.rep n _, h4⟩
  case round =>
    clear h4
    obtain ⟨j, hs, ws, rfl, hj, hok, hT⟩ := hrel
    have hj0 : (0 : Int) ≤ (j : Int) := Int.natCast_nonneg _
    by_cases hlt : j < len
    · have HL : Hid (j < len) := hlt
      obtain ⟨b0, off, rfl, hops⟩ : ∃ b off, a = some ⟨b, off, none⟩ ∧ ∀ i, i < len → OpAt w b (off + i * 6) (ops i) := by
        rcases HS.out with h0 | h
        · omega
        · exact h
      have ho := (hops j hlt).kept hT.same
      clear hops
      generalize ops j = op at ho
      obtain ⟨oo, kind, os, og, on, ox⟩ := op
      obtain ⟨o0, o1, o2, o3, o4, o5⟩ := ho
      simp only at o0 o1 o2 o3 o4 o5
      have hjl : (j : Int) < (len : Int) := by omega
      have hjb : (j : Int) ≤ 2932031007402 := by omega
      obtain ⟨s, hs7, s8⟩ : ∃ s : Nat, bits .and .i64 os 7 = (s : Int) ∧ s < 8 := ⟨(os % 8).toNat, by rw [and7]; omega, by omega⟩
      obtain ⟨m, hm, hm0, hm7⟩ : ∃ m : Int, bits .and .i64 on 7 = m ∧ 0 ≤ m ∧ m ≤ 7 := ⟨on % 8, and7 on, by omega, by omega⟩
      obtain ⟨a, ha, ha0, ha7⟩ : ∃ a : Int, bits .and .i64 on 1023 = a ∧ 0 ≤ a ∧ a ≤ 1023 := ⟨on % 1024, and1023 on, by omega, by omega⟩
      obtain ⟨b, hb, hb2⟩ : ∃ b : Nat, bits .and .i64 on 1 = (b : Int) ∧ b < 2 := ⟨(on % 2).toNat, by rw [and1]; omega, by omega⟩
      have hs0 : (0 : Int) ≤ (s : Int) := Int.natCast_nonneg _
      have hs8 : (s : Int) < 8 := by omega
      have hb0 : (0 : Int) ≤ (b : Int) := Int.natCast_nonneg _
      have hb1 : (b : Int) < 2 := by omega
      have htm : isTh (1 + m) = true := by simp only [isTh, Bool.and_eq_true, decide_eq_true_eq]; omega
      have hpc : (claimOp (1 + m)).pre = 0 := by simp [claimOp, htm]
      have hpr : (readyOp og (1 + a)).pre = 0 := by simp [readyOp]; omega
      have hpd : (doomOp og (1 + m)).pre = 0 := by simp [doomOp, htm]
      have hlh : hs.length = n := hT.hn
      have hB := hT.box #[.bool oo, .int .i64 kind, .int .i64 os, .int .i64 og, .int .i64 on, .int .u64 ox] 39
      have HOK : Hid (HsOk hs j) := hok
      clear hT hok
      go_upto_if 58 with fail
      generalize wr.alloc (.cells #[.bool oo, .int .i64 kind, .int .i64 os, .int .i64 og, .int .i64 on, .int .u64 ox] 39) = W0 at *
      generalize wr.heap.size = B at *
      clear o0 o1 o2 o3 o4 o5
      go_cut [14] from 43 to 263 (fun v wx => ∃ k : Nat, v = .int .i64 k ∧ k < n ∧ wx = W0)
      case first =>
        by_cases hsn : s < n
        · have hsn2 : ¬ (n : Int) ≤ (s : Int) := by omega
          go_wp2
          go_meet
          exact ⟨s, rfl, hsn, rfl⟩
        · have hsn2 : (n : Int) ≤ (s : Int) := by omega
          go_wp2
          go_meet
          exact ⟨0, rfl, by omega, rfl⟩
      case rest =>
        obtain ⟨k, rfl, hkn, hw0⟩ := hcut
        have hw1 := hw0.symm
        subst hw1
        clear hw0
        clear hs7 s8 hs0 hs8
        have hk0 : (0 : Int) ≤ (k : Int) := Int.natCast_nonneg _
        have hk8 : (k : Int) < 8 := by omega
        have hkl : k < hs.length := by rw [hlh]; exact hkn
        have hx := headAt_in hkl
        have HX0 := HOK.out _ (List.getElem_mem hkl)
        generalize hs[k] = x at hx HX0
        obtain ⟨xgn, xsa, xsp, xth, xdm, xwy⟩ := x
        have xg0 : 0 ≤ xgn := HX0.g0
        have xg1 : xgn ≤ (j : Int) := HX0.g1
        have HX : Hid (HOk ⟨xgn, xsa, xsp, xth, xdm, xwy⟩ j) := HX0
        clear HX0 hlh
        have ne1 : ¬ G = P := hB.st.ne 5 6 rfl rfl (by omega) (by simp [boxI]) (by simp [boxI])
        have ne2 : ¬ P = D := hB.st.ne 6 7 rfl rfl (by omega) (by simp [boxI]) (by simp [boxI])
        have ne3 : ¬ P = G := fun e => ne1 e.symm
        have ne4 : ¬ D = P := fun e => ne2 e.symm
        have b0' : W0.cell? ⟨B, 0, none⟩ = some (.bool oo) := hB.cell 0 rfl 0
        have b1' : W0.cell? ⟨B, 1, none⟩ = some (.int .i64 kind) := hB.cell 0 rfl 1
        have b3' : W0.cell? ⟨B, 3, none⟩ = some (.int .i64 og) := hB.cell 0 rfl 3
        have b4' : W0.cell? ⟨B, 4, none⟩ = some (.int .i64 on) := hB.cell 0 rfl 4
        have b5' : W0.cell? ⟨B, 5, none⟩ = some (.int .u64 ox) := hB.cell 0 rfl 5
        go_upto_block 2 with fail
        go_cut [14] from 43 to 263 (fun v wx => v = .int .i64 (k : Int) ∧ ∃ (hs' : List Hd) (ws' : List Int), HsOk hs' (j + 1) ∧ HRel w B G P D #[.bool oo, .int .i64 kind, .int .i64 os, .int .i64 og, .int .i64 on, .int .u64 ox] t r c q f n hs' ws' wx)
        case first =>
          replace hB : TSt w [boxI B #[.bool oo, .int .i64 kind, .int .i64 os, .int .i64 og, .int .i64 on, .int .u64 ox] 39, boxI G (gV hs).toArray 57, boxI P (pV hs).toArray 58, boxI D (dV hs).toArray 58] t r c q f n hs ws W0 := hB
          by_cases k2 : kind = 2
          · subst k2
            as_aux_lemma =>
              by_cases h0 : xsa = 0
              · subst h0
                have e1 : (claimOp (1 + m)).E hs (k : Int) = 0 := by rw [E_at hpc hx]; simp [claimOp]
                have e2 : (claimOp (1 + m)).H hs (k : Int) = hs.set k ⟨xgn + 1, 1, 0, 1 + m, false, 0⟩ := by rw [H_at hpc hx]; simp [claimOp]
                have e3 : claimR hs (k : Int) (1 + m) = xgn + 1 := by simp [claimR, hx, htm]
                have ok1 : Hid (HsOk (hs.set k ⟨xgn + 1, 1, 0, 1 + m, false, 0⟩) (j + 1)) := by have := claim_keeps HOK.out (1 + m) (k : Int); rw [e2] at this; exact this
                have hdm : xdm = false := by
                  rcases HX.out.st with hh | hh | hh
                  · exact hh.2.2.2.1
                  · exact hh.2.2.2.1
                  · exact absurd hh.1 (by simp)
                subst hdm
                go_wp2_with fail
                refine (TSt.claim hB HOK.out (by omega) _ _).mono ?_
                rintro e u ⟨he, hU⟩
                rw [e1, e3] at he
                rw [e2] at hU
                subst he
                obtain ⟨c1, c2, c3, z1, z2, z3⟩ := HRel.cells hU hkl hx
                simp only at c1 c2 c3
                have c2' : u.cell? ⟨P, k, none⟩ = some (.bool false) := c2
                have q0 : (xgn + 1 != xgn + 1) = false := by simp
                have HU : Hid _ := HRel.claimed hU hkl hx rfl rfl
                clear hB c2 e1 e2 e3 hx
                clear hU
                go_wp2
                go_meet
                exact ⟨rfl, _, _, ok1.out, HU.out⟩
              · have h0' : (xsa == 0) = false := by simpa using h0
                have e1 : (claimOp (1 + m)).E hs (k : Int) = 5 := by rw [E_at hpc hx]; simp [claimOp, h0]
                have e2 : (claimOp (1 + m)).H hs (k : Int) = hs := by rw [H_at hpc hx]; simp [claimOp, h0]
                have e3 : claimR hs (k : Int) (1 + m) = 0 := by simp [claimR, hx, htm, h0]
                go_wp2_with fail
                refine (TSt.claim hB HOK.out (by omega) _ _).mono ?_
                rintro e u ⟨he, hU⟩
                rw [e1, e3] at he
                rw [e2] at hU
                subst he
                obtain ⟨c1, c2, c3, z1, z2, z3⟩ := HRel.cells hU hkl hx
                simp only at c1 c2 c3
                have c2' : u.cell? ⟨P, k, none⟩ = some (.bool true) := by rw [h0'] at c2; exact c2
                have HU : Hid (HRel w B G P D _ t r c q f n hs ws u) := hU
                clear hB c2 e1 e2 e3 hx h0 h0'
                clear hU
                go_wp2
                go_meet
                exact ⟨rfl, _, _, HOK.out.more (by omega), HU.out⟩
          have e2 : (kind == 2) = false := by simpa using k2
          clear k2
          by_cases k3 : kind = 3
          · subst k3
            as_aux_lemma =>
              by_cases hno : xsa = 1 ∧ xgn = og
              · obtain ⟨rfl, rfl⟩ := hno
                have e1 : (readyOp xgn (1 + a)).E hs (k : Int) = 0 := by rw [E_at hpr hx]; simp [readyOp]
                have e2 : (readyOp xgn (1 + a)).H hs (k : Int) = hs.set k ⟨xgn, 2, 1 + a, xth, xdm, xwy⟩ := by rw [H_at hpr hx]; simp [readyOp]
                have ok1 : Hid (HsOk (hs.set k ⟨xgn, 2, 1 + a, xth, xdm, xwy⟩) (j + 1)) := by have := ready_keeps HOK.out xgn (1 + a) (k : Int); rw [e2] at this; exact this
                go_wp2_with fail
                refine (TSt.ready hB HOK.out _ _ _).mono ?_
                rintro e u ⟨he, hU⟩
                rw [e1] at he
                rw [e2] at hU
                subst he

                obtain ⟨c1, c2, c3, z1, z2, z3⟩ := HRel.cells hU hkl hx
                simp only at c1 c2 c3

                have c2' : u.cell? ⟨P, k, none⟩ = some (.bool true) := c2
                have q0 : (xgn != xgn) = false := by simp
                have HU : Hid _ := HRel.turn hU hkl hx rfl rfl rfl
                clear hB c2 e1 e2 hx

                clear hU
                go_wp2
                go_meet
                exact ⟨rfl, _, _, ok1.out, HU.out⟩
              · replace hno : xsa = 1 → ¬ xgn = og := fun h1 h2 => hno ⟨h1, h2⟩
                have hnk : (readyOp og (1 + a)).ok ⟨xgn, xsa, xsp, xth, xdm, xwy⟩ = false := by simp [readyOp]; exact hno
                have e1 : (readyOp og (1 + a)).E hs (k : Int) = 4 := by rw [E_at hpr hx, hnk]; rfl
                have e2 : (readyOp og (1 + a)).H hs (k : Int) = hs := by rw [H_at hpr hx, hnk]; rfl
                clear hnk
                go_wp2_with fail
                refine (TSt.ready hB HOK.out _ _ _).mono ?_
                rintro e u ⟨he, hU⟩
                rw [e1] at he
                rw [e2] at hU
                subst he

                obtain ⟨c1, c2, c3, z1, z2, z3⟩ := HRel.cells hU hkl hx
                simp only at c1 c2 c3

                have HU : Hid (HRel w B G P D _ t r c q f n hs ws u) := hU
                clear hB c2 e1 e2 hx hno

                clear hU
                go_wp2
                go_meet
                exact ⟨rfl, _, _, HOK.out.more (by omega), HU.out⟩
          have e3 : (kind == 3) = false := by simpa using k3
          clear k3
          by_cases k5 : kind = 5
          · subst k5
            as_aux_lemma =>
              by_cases hno : xsa = 2 ∧ xgn = og
              · obtain ⟨rfl, rfl⟩ := hno
                cases xdm
                · have e1 : (doomOp xgn (1 + m)).E hs (k : Int) = 0 := by rw [E_at hpd hx]; simp [doomOp]
                  have e2 : (doomOp xgn (1 + m)).H hs (k : Int) = hs.set k ⟨xgn, 2, xsp, xth, true, 1 + m⟩ := by rw [H_at hpd hx]; simp [doomOp]
                  have ok1 : Hid (HsOk (hs.set k ⟨xgn, 2, xsp, xth, true, 1 + m⟩) (j + 1)) := by have := doom_keeps HOK.out xgn (1 + m) (k : Int); rw [e2] at this; exact this
                  go_wp2_with fail
                  refine (TSt.doom hB HOK.out _ _ _).mono ?_
                  rintro e u ⟨he, hU⟩
                  rw [e1] at he
                  rw [e2] at hU
                  subst he

                  obtain ⟨c1, c2, c3, z1, z2, z3⟩ := HRel.cells hU hkl hx
                  simp only at c1 c2 c3

                  have c2' : u.cell? ⟨P, k, none⟩ = some (.bool true) := c2
                  have q0 : (xgn != xgn) = false := by simp
                  have HU : Hid (HRel w B G P D _ t r c q f n _ ws (u.setCell ⟨D, k, none⟩ (.bool true))) := HRel.doomed hU hkl hx rfl rfl
                  clear hB c2 e1 e2 hx

                  clear hU
                  go_wp2
                  go_meet
                  exact ⟨rfl, _, _, ok1.out, HU.out⟩
                · have e1 : (doomOp xgn (1 + m)).E hs (k : Int) = 0 := by rw [E_at hpd hx]; simp [doomOp]
                  have e2 : (doomOp xgn (1 + m)).H hs (k : Int) = hs.set k ⟨xgn, 2, xsp, xth, true, xwy⟩ := by rw [H_at hpd hx]; simp [doomOp]
                  have ok1 : Hid (HsOk (hs.set k ⟨xgn, 2, xsp, xth, true, xwy⟩) (j + 1)) := by have := doom_keeps HOK.out xgn (1 + m) (k : Int); rw [e2] at this; exact this
                  go_wp2_with fail
                  refine (TSt.doom hB HOK.out _ _ _).mono ?_
                  rintro e u ⟨he, hU⟩
                  rw [e1] at he
                  rw [e2] at hU
                  subst he

                  obtain ⟨c1, c2, c3, z1, z2, z3⟩ := HRel.cells hU hkl hx
                  simp only at c1 c2 c3

                  have c2' : u.cell? ⟨P, k, none⟩ = some (.bool true) := c2
                  have q0 : (xgn != xgn) = false := by simp
                  have HU : Hid (HRel w B G P D _ t r c q f n _ ws (u.setCell ⟨D, k, none⟩ (.bool true))) := HRel.doomed hU hkl hx rfl rfl
                  clear hB c2 e1 e2 hx

                  clear hU
                  go_wp2
                  go_meet
                  exact ⟨rfl, _, _, ok1.out, HU.out⟩

              · replace hno : xsa = 2 → ¬ xgn = og := fun h1 h2 => hno ⟨h1, h2⟩
                cases xdm
                · have hnk : (doomOp og (1 + m)).ok ⟨xgn, xsa, xsp, xth, false, xwy⟩ = false := by simp [doomOp]; exact hno
                  have e1 : (doomOp og (1 + m)).E hs (k : Int) = 4 := by rw [E_at hpd hx, hnk]; rfl
                  have e2 : (doomOp og (1 + m)).H hs (k : Int) = hs := by rw [H_at hpd hx, hnk]; rfl
                  clear hnk
                  go_wp2_with fail
                  refine (TSt.doom hB HOK.out _ _ _).mono ?_
                  rintro e u ⟨he, hU⟩
                  rw [e1] at he
                  rw [e2] at hU
                  subst he

                  obtain ⟨c1, c2, c3, z1, z2, z3⟩ := HRel.cells hU hkl hx
                  simp only at c1 c2 c3

                  have HU : Hid (HRel w B G P D _ t r c q f n hs ws (u.setCell ⟨D, k, none⟩ (.bool false))) := HRel.again hU hkl hx
                  clear hB c2 e1 e2 hx hno

                  clear hU
                  go_wp2
                  go_meet
                  exact ⟨rfl, _, _, HOK.out.more (by omega), HU.out⟩
                · have hnk : (doomOp og (1 + m)).ok ⟨xgn, xsa, xsp, xth, true, xwy⟩ = false := by simp [doomOp]; exact hno
                  have e1 : (doomOp og (1 + m)).E hs (k : Int) = 4 := by rw [E_at hpd hx, hnk]; rfl
                  have e2 : (doomOp og (1 + m)).H hs (k : Int) = hs := by rw [H_at hpd hx, hnk]; rfl
                  clear hnk
                  go_wp2_with fail
                  refine (TSt.doom hB HOK.out _ _ _).mono ?_
                  rintro e u ⟨he, hU⟩
                  rw [e1] at he
                  rw [e2] at hU
                  subst he

                  obtain ⟨c1, c2, c3, z1, z2, z3⟩ := HRel.cells hU hkl hx
                  simp only at c1 c2 c3

                  have HU : Hid (HRel w B G P D _ t r c q f n hs ws (u.setCell ⟨D, k, none⟩ (.bool true))) := HRel.again hU hkl hx
                  clear hB c2 e1 e2 hx hno

                  clear hU
                  go_wp2
                  go_meet
                  exact ⟨rfl, _, _, HOK.out.more (by omega), HU.out⟩
          have e5 : (kind == 5) = false := by simpa using k5
          clear k5
          by_cases k6 : kind = 6
          · subst k6
            as_aux_lemma =>
              by_cases h0 : xsa = 0
              · subst h0
                have hnk : (freeOp og).ok ⟨xgn, 0, xsp, xth, xdm, xwy⟩ = false := by simp [freeOp]
                have e1 : (freeOp og).E hs (k : Int) = 4 := by rw [E_at rfl hx, hnk]; rfl
                have e2 : (freeOp og).H hs (k : Int) = hs := by rw [H_at rfl hx, hnk]; rfl
                clear hnk
                go_wp2_with fail
                refine (TSt.free hB HOK.out _ _).mono ?_
                rintro e u ⟨he, hU⟩
                rw [e1] at he
                rw [e2] at hU
                subst he

                obtain ⟨c1, c2, c3, z1, z2, z3⟩ := HRel.cells hU hkl hx
                simp only at c1 c2 c3

                have c2' : u.cell? ⟨P, k, none⟩ = some (.bool false) := c2
                have HU : Hid (HRel w B G P D _ t r c q f n hs ws u) := hU
                clear hB c2 e1 e2 hx

                clear hU
                go_wp2
                go_meet
                exact ⟨rfl, _, _, HOK.out.more (by omega), HU.out⟩
              · by_cases hg : xgn = og
                · subst hg
                  have h0' : (xsa == 0) = false := by simpa using h0
                  have e1 : (freeOp xgn).E hs (k : Int) = 0 := by rw [E_at rfl hx]; simp [freeOp, h0]
                  have e2 : (freeOp xgn).H hs (k : Int) = hs.set k ⟨xgn, 0, 0, 0, false, 0⟩ := by rw [H_at rfl hx]; simp [freeOp, h0]
                  have ok1 : Hid (HsOk (hs.set k ⟨xgn, 0, 0, 0, false, 0⟩) (j + 1)) := by have := free_keeps HOK.out xgn (k : Int); rw [e2] at this; exact this
                  go_wp2_with fail
                  refine (TSt.free hB HOK.out _ _).mono ?_
                  rintro e u ⟨he, hU⟩
                  rw [e1] at he
                  rw [e2] at hU
                  subst he

                  obtain ⟨c1, c2, c3, z1, z2, z3⟩ := HRel.cells hU hkl hx
                  simp only at c1 c2 c3

                  have c2' : u.cell? ⟨P, k, none⟩ = some (.bool true) := by rw [h0'] at c2; exact c2
                  have q0 : (xgn == xgn) = true := by simp
                  have HU : Hid _ := HRel.freed hU hkl hx rfl rfl rfl
                  clear hB c2 e1 e2 hx h0 h0'

                  clear hU
                  go_wp2
                  go_meet
                  exact ⟨rfl, _, _, ok1.out, HU.out⟩
                · have h0' : (xsa == 0) = false := by simpa using h0
                  have hnk : (freeOp og).ok ⟨xgn, xsa, xsp, xth, xdm, xwy⟩ = false := by simp [freeOp, hg]
                  have e1 : (freeOp og).E hs (k : Int) = 4 := by rw [E_at rfl hx, hnk]; rfl
                  have e2 : (freeOp og).H hs (k : Int) = hs := by rw [H_at rfl hx, hnk]; rfl
                  clear hnk
                  go_wp2_with fail
                  refine (TSt.free hB HOK.out _ _).mono ?_
                  rintro e u ⟨he, hU⟩
                  rw [e1] at he
                  rw [e2] at hU
                  subst he

                  obtain ⟨c1, c2, c3, z1, z2, z3⟩ := HRel.cells hU hkl hx
                  simp only at c1 c2 c3

                  have c2' : u.cell? ⟨P, k, none⟩ = some (.bool true) := by rw [h0'] at c2; exact c2
                  have q0 : (og == xgn) = false := by simp; exact fun e => hg e.symm
                  have HU : Hid (HRel w B G P D _ t r c q f n hs ws u) := hU
                  clear hB c2 e1 e2 hx hg h0 h0'

                  clear hU
                  go_wp2
                  go_meet
                  exact ⟨rfl, _, _, HOK.out.more (by omega), HU.out⟩
          have e6 : (kind == 6) = false := by simpa using k6
          clear k6
          by_cases k8 : kind = 8
          · subst k8
            as_aux_lemma =>
              go_wp2_with fail
              refine (word_put hB hkn b hb2 ox).mono ?_
              rintro e u ⟨rfl, hU⟩
              have HU : Hid (HRel w B G P D _ t r c q f n hs _ u) := hU
              clear hB hx

              clear hU
              go_wp2
              go_meet
              exact ⟨rfl, _, _, HOK.out.more (by omega), HU.out⟩
          have e8 : (kind == 8) = false := by simpa using k8
          clear k8
          as_aux_lemma =>
            have hU := hB
            have HU : Hid (HRel w B G P D _ t r c q f n hs ws W0) := hB
            clear hB hx

            clear hU
            go_wp2
            go_meet
            exact ⟨rfl, _, _, HOK.out.more (by omega), HU.out⟩
        case rest =>
          obtain ⟨rfl, hs', ws', hok', hR⟩ := hcut
          have hkl' : k < hs'.length := by rw [show hs'.length = n from TSt.hn hR]; exact hkn
          have hx' := headAt_in hkl'
          have hox := hok' _ (List.getElem_mem hkl')
          generalize hs'[k] = y at hx' hox
          obtain ⟨ygn, ysa, ysp, yth, ydm, ywy⟩ := y
          have HOK' : Hid (HsOk hs' (j + 1)) := hok'
          clear hok'
          have hLk := TSt.look hR (k : Int)
          have l1 : nowAt hs' (k : Int) = ⟨ygn, ysa, ysp, yth, ydm, ywy⟩ := by simp [nowAt, hx']
          have l2 : lookE hs' (k : Int) = 0 := by simp [lookE, hx']
          rw [l1, l2] at hLk
          clear l1 l2
          simp only [Hd.val] at hLk
          go_wp2_with fail
          refine hLk.mono ?_
          rintro e v1 ⟨rfl, hV⟩
          clear hLk hR
          have hV2 := hV.box #[.int .i64 ygn, .int .i64 ysa, .int .i64 ysp, .int .i64 yth, .bool ydm, .int .i64 ywy] 49
          have g1 : (v1.alloc (.cells #[.int .i64 ygn, .int .i64 ysa, .int .i64 ysp, .int .i64 yth, .bool ydm, .int .i64 ywy] 49)).cell? ⟨G, k, none⟩ = some (.int .i64 ygn) := (hV2.cell 2 rfl k).trans (((hV.cell 1 rfl k).symm).trans (HRel.cells hV hkl' hx').1)
          have g2 : (v1.alloc (.cells #[.int .i64 ygn, .int .i64 ysa, .int .i64 ysp, .int .i64 yth, .bool ydm, .int .i64 ywy] 49)).cell? ⟨P, k, none⟩ = some (.bool (!(ysa == 0))) := (hV2.cell 3 rfl k).trans (((hV.cell 2 rfl k).symm).trans (HRel.cells hV hkl' hx').2.1)
          have g3 : (v1.alloc (.cells #[.int .i64 ygn, .int .i64 ysa, .int .i64 ysp, .int .i64 yth, .bool ydm, .int .i64 ywy] 49)).cell? ⟨D, k, none⟩ = some (.bool ydm) := (hV2.cell 4 rfl k).trans (((hV.cell 3 rfl k).symm).trans (HRel.cells hV hkl' hx').2.2.1)
          have w0 : (v1.alloc (.cells #[.int .i64 ygn, .int .i64 ysa, .int .i64 ysp, .int .i64 yth, .bool ydm, .int .i64 ywy] 49)).cell? ⟨v1.heap.size, 0, none⟩ = some (.int .i64 ygn) := hV2.cell 0 rfl 0
          have w1 : (v1.alloc (.cells #[.int .i64 ygn, .int .i64 ysa, .int .i64 ysp, .int .i64 yth, .bool ydm, .int .i64 ywy] 49)).cell? ⟨v1.heap.size, 1, none⟩ = some (.int .i64 ysa) := hV2.cell 0 rfl 1
          have w2 : (v1.alloc (.cells #[.int .i64 ygn, .int .i64 ysa, .int .i64 ysp, .int .i64 yth, .bool ydm, .int .i64 ywy] 49)).cell? ⟨v1.heap.size, 2, none⟩ = some (.int .i64 ysp) := hV2.cell 0 rfl 2
          have w3 : (v1.alloc (.cells #[.int .i64 ygn, .int .i64 ysa, .int .i64 ysp, .int .i64 yth, .bool ydm, .int .i64 ywy] 49)).cell? ⟨v1.heap.size, 3, none⟩ = some (.int .i64 yth) := hV2.cell 0 rfl 3
          have w4 : (v1.alloc (.cells #[.int .i64 ygn, .int .i64 ysa, .int .i64 ysp, .int .i64 yth, .bool ydm, .int .i64 ywy] 49)).cell? ⟨v1.heap.size, 4, none⟩ = some (.bool ydm) := hV2.cell 0 rfl 4
          have w5 : (v1.alloc (.cells #[.int .i64 ygn, .int .i64 ysa, .int .i64 ysp, .int .i64 yth, .bool ydm, .int .i64 ywy] 49)).cell? ⟨v1.heap.size, 5, none⟩ = some (.int .i64 ywy) := hV2.cell 0 rfl 5
          have q0 : (ygn != ygn) = false := by simp
          have HV : Hid _ := hV2.pop.pop
          have HZ := hox.st
          simp only at HZ
          clear hV hV2 hx' hox hkl'
          go_wp2_with fail
          generalize v1.alloc (.cells #[.int .i64 ygn, .int .i64 ysa, .int .i64 ysp, .int .i64 yth, .bool ydm, .int .i64 ywy] 49) = v2 at *
          generalize v1.heap.size = H at *
          have hcase : (ysa = 0 ∧ ysp = 0 ∧ yth = 0 ∧ ydm = false ∧ ywy = 0) ∨ (ysa = 1 ∧ ysp = 0 ∧ (yth == 0) = false ∧ ydm = false ∧ ywy = 0) ∨ (ysa = 2 ∧ (ysp != 0) = true ∧ (yth == 0) = false ∧ ydm = false ∧ ywy = 0) ∨ (ysa = 2 ∧ (ysp != 0) = true ∧ (yth == 0) = false ∧ ydm = true ∧ (ywy != 0) = true) := by
            rcases HZ with ⟨h1, h2, h3, h4, h5⟩ | ⟨h1, h2, h3, h4, h5⟩ | ⟨h1, h2, h3, ⟨h4, h5⟩ | ⟨h4, h5⟩⟩
            · exact .inl ⟨h1, h2, h3, h4, h5⟩
            · exact .inr (.inl ⟨h1, h2, by simp; omega, h4, h5⟩)
            · exact .inr (.inr (.inl ⟨h1, by simp; omega, by simp; omega, h4, h5⟩))
            · exact .inr (.inr (.inr ⟨h1, by simp; omega, by simp; omega, h4, by simp; omega⟩))
          clear HZ
          rcases hcase with ⟨rfl, rfl, rfl, rfl, rfl⟩ | ⟨rfl, rfl, hth, rfl, rfl⟩ | ⟨rfl, hsp, hth, rfl, rfl⟩ | ⟨rfl, hsp, hth, rfl, hwy⟩
          all_goals
            as_aux_lemma =>
              go_quiet (fail)
              go_wp2
              go_roundw
              case rel => exact ⟨j + 1, _, _, by go_num, hlt, HOK'.out, HV.out.drewN _⟩
              case measure => have := HL.out; simp [intOf]; omega
    · have hjl : ¬ (j : Int) < (len : Int) := by omega
      have HK := hT.same
      clear hT
      go_wp2
      go_ret
      exact ⟨rfl, HK⟩
end Go.Proofs.Ythaajlelaoimaaa

