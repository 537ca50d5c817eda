/- The head of all statements: examples of the document. The statements' own small functions; the document's Room, May. -/
import Derived.Test.YtbpilhjomfkpaaaGreatDoorDiG
import Derived.Test.YtbpilhjomfkpaaaGreatDoorCoB
import Derived.Laws.CopyOwn
namespace Go.Proofs.YtbpilhjomfkpaaaGreatDoor
open Go.RowKit
set_option linter.unusedVariables false
set_option linter.unusedSimpArgs false
attribute [local go_sem ↓] Go.wp_at_zero Go.wp_at_succ

theorem buildX10 (W : World) (a b c d e f g h i j : Int) : (Instr.buildSlice 24 10 #[(0, .int .i64 a), (1, .int .i64 b), (2, .int .i64 c), (3, .int .i64 d), (4, .int .i64 e), (5, .int .i64 f), (6, .int .i64 g), (7, .int .i64 h), (8, .int .i64 i), (9, .int .i64 j)]).run Tryz.prog W = .ok (.slice (some ⟨W.heap.size, 0, none⟩) 10 10) (W.alloc (.cells #[.int .i64 a, .int .i64 b, .int .i64 c, .int .i64 d, .int .i64 e, .int .i64 f, .int .i64 g, .int .i64 h, .int .i64 i, .int .i64 j] 2)) := by kernel_rfl
theorem buildE2 (W : World) (a b c d : Int) : (Instr.buildSlice 32 2 #[(0, .agg #[.int .i64 a, .int .i64 b]), (1, .agg #[.int .i64 c, .int .i64 d])]).run Tryz.prog W = .ok (.slice (some ⟨W.heap.size, 0, none⟩) 2 2) (W.alloc (.cells #[.int .i64 a, .int .i64 b, .int .i64 c, .int .i64 d] 41)) := by kernel_rfl
theorem xin_made {W : World} (zs : List Int) : XIn (W.alloc (.cells (xC zs).toArray 2)) (some ⟨W.heap.size, 0, none⟩) zs.length zs := by
  refine ⟨rfl, fun _ => ⟨_, 0, rfl, fun j hj => ?_⟩⟩
  rw [cell_of_heap (heap_alloc_new W _), Nat.zero_add, List.getElem?_toArray]
  exact xC_at zs j hj
theorem rg_dec {l : List Int} (h : (l.all fun x => decide (-9223372036854775808 ≤ x) && decide (x ≤ 9223372036854775807)) = true) : ∀ z ∈ l, Rg z := by
  intro z hz
  have := List.all_eq_true.1 h z hz
  simpa [Rg] using this
theorem rgP_dec {l : List Pr} (h : (l.all fun p => decide (-9223372036854775808 ≤ p.1) && decide (p.1 ≤ 9223372036854775807)) = true) : ∀ p ∈ l, Rg p.1 := by
  intro z hz
  have := List.all_eq_true.1 h z hz
  simpa [Rg] using this
theorem eqE (a b c d : Int) (w : World) : (binOp .eql 41 (.agg #[.int .i64 a, .int .i64 b]) (.agg #[.int .i64 c, .int .i64 d])).run Tryz.prog w = .ok (.bool (decide (a = c) && decide (b = d))) w := by
  rw [run_eql_struct, run_equalIn_struct w 9999 41 _ _ (by kernel_rfl) (by kernel_rfl)]
  have hi1 : ∀ (x y : Int) (w : World), (Op.equalIn 9999 2 (.int .i64 x) (.int .i64 y)).run Tryz.prog w = .ok (x == y) w := fun x y w => run_equalIn_int w 9998 2 .i64 .i64 x y Tryz.underlying2
  have p0 : ∀ (a b : Int) w, (part 2 #[.int .i64 a, .int .i64 b] 0).run Tryz.prog w = .ok (.int .i64 a) w := fun a b w => run_part_plain (P := Tryz.prog) w (by kernel_rfl) rfl
  have p1 : ∀ (a b : Int) w, (part 2 #[.int .i64 a, .int .i64 b] 1).run Tryz.prog w = .ok (.int .i64 b) w := fun a b w => run_part_plain (P := Tryz.prog) w (by kernel_rfl) rfl
  by_cases h1 : a = c
  · by_cases h2 : b = d <;> simp [Program.fieldsOf, Tryz.underlying41, Op.eqFields, Sem.run_bind, p0, p1, hi1, h1, h2]
  · simp [Program.fieldsOf, Tryz.underlying41, Op.eqFields, Sem.run_bind, p0, p1, hi1, h1]
theorem guardE (x y : Operand) (xs ys : Array Value) (w : World) : (eqGuard .eql 41 x y (.agg xs) (.agg ys)).run Tryz.prog w = .ok () w := by kernel_rfl
set_option maxRecDepth 100000 in
set_option maxHeartbeats 8000000 in
theorem awake_any (w : World) (hE : Env w) : Calls Tryz.prog 9 #[] w fun e w' => e = .returned (.bool true) ∧ Kept (fun _ => False) w w' := by
  have hb := fun W a b c d => buildE2 W a b c d
  have hb10 := fun W a b c d e f g h i j => buildX10 W a b c d e f g h i j
  have two : ∀ W, EIn W (some ⟨w.heap.size, 0, none⟩) 2 [(1, 8), (4, 7)] → True := fun _ _ => trivial
  clear two
  have s0 := e_new (St.nil w) [(1, 8), (4, 7)] (by unfold maxLen; simp)
  have HS0 : Hid (St w [lstE (.slice (some ⟨w.heap.size, 0, none⟩) 2 2) [(1, 8), (4, 7)]] (w.alloc (.cells #[.int .i64 1, .int .i64 8, .int .i64 4, .int .i64 7] 41))) := hid s0
  clear s0
  generalize hw0 : w.alloc (.cells #[.int .i64 1, .int .i64 8, .int .i64 4, .int .i64 7] 41) = w0 at *
  generalize hg0 : w.heap.size = g0 at *
  have HD1 : Hid (∀ W : World, Kept (fun _ => False) w0 W → Calls Tryz.prog 22 #[.slice (some ⟨g0, 0, none⟩) 2 2, .int .i64 3, .agg #[.int .i64 1, .int .i64 0, .int .i64 0, .int .i64 2, .int .i64 9]] W fun e w' => ∃ g c g2 c2, e = .returned (.tuple #[.slice (some ⟨g, 0, none⟩) 3 c, .slice (some ⟨g2, 0, none⟩) 1 c2, .int .i64 0]) ∧ St W [ownI 2 1 (.slice (some ⟨g2, 0, none⟩) 1 c2) 1 (xC [1]), ownI 41 2 (.slice (some ⟨g, 0, none⟩) 3 c) 3 (eC [(1, 8), (2, 9), (4, 7)])] w') := hid fun W k =>
    (Do_any (d := ⟨1, 0, 0, 2, 9⟩) (n := 3) (lc := 2) ((st_ein HS0.out 0 rfl rfl).kept k) (by decide) (rgP_dec (by decide)) ⟨by decide, by decide⟩).mono fun e w' h => by
      unfold DoE at h
      rw [if_pos (by kernel_rfl)] at h
      obtain ⟨v, t, rfl, s⟩ := h
      rw [show doS [(1, 8), (4, 7)] 3 ⟨1, 0, 0, 2, 9⟩ = ([(1, 8), (2, 9), (4, 7)], [1]) by kernel_rfl] at s
      have s' : St W [ownI 2 1 t 1 (xC [1]), ownI 41 2 v 3 (eC [(1, 8), (2, 9), (4, 7)])] w' := s
      obtain ⟨g, c, rfl⟩ := s'.form 1 rfl (by decide)
      obtain ⟨g2, c2, rfl⟩ := s'.form 0 rfl (by decide)
      exact ⟨g, c, g2, c2, rfl, s'⟩
  have HD2 : Hid (∀ W : World, Kept (fun _ => False) w0 W → Calls Tryz.prog 22 #[.slice (some ⟨g0, 0, none⟩) 2 2, .int .i64 3, .agg #[.int .i64 4, .int .i64 0, .int .i64 0, .int .i64 1, .int .i64 (-3)]] W fun e w' => ∃ v g2 c2, e = .returned (.tuple #[v, .slice (some ⟨g2, 0, none⟩) 2 c2, .int .i64 0]) ∧ St W [ownI 2 1 (.slice (some ⟨g2, 0, none⟩) 2 c2) 2 (xC [1, 5])] w') := hid fun W k =>
    (Do_any (d := ⟨4, 0, 0, 1, -3⟩) (n := 3) (lc := 2) ((st_ein HS0.out 0 rfl rfl).kept k) (by decide) (rgP_dec (by decide)) ⟨by decide, by decide⟩).mono fun e w' h => by
      unfold DoE at h
      rw [if_pos (by kernel_rfl)] at h
      obtain ⟨v, t, rfl, s⟩ := h
      rw [show doS [(1, 8), (4, 7)] 3 ⟨4, 0, 0, 1, -3⟩ = ([(1, 5), (4, 7)], [1, 5]) by kernel_rfl] at s
      have s' : St W [ownI 2 1 t 2 (xC [1, 5])] w' := St.cut (A := [_]) (B := [_]) s
      obtain ⟨g2, c2, rfl⟩ := s'.form 0 rfl (by decide)
      exact ⟨v, g2, c2, rfl, s'⟩
  have HD3 : Hid (∀ W : World, Calls Tryz.prog 17 #[.slice (some ⟨W.heap.size, 0, none⟩) 10 10, .int .i64 0, .int .i64 3] (W.alloc (.cells #[.int .i64 2, .int .i64 0, .int .i64 0, .int .i64 0, .int .i64 1, .int .i64 4, .int .i64 7, .int .i64 1, .int .i64 1, .int .i64 8] 2)) fun e w' => ∃ g c, e = .returned (.tuple #[.slice (some ⟨g, 0, none⟩) 2 c, .int .i64 0]) ∧ St W [ownI 41 2 (.slice (some ⟨g, 0, none⟩) 2 c) 2 (eC [(1, 8), (4, 7)])] w') := hid fun W =>
    (Read_any (some ⟨W.heap.size, 0, none⟩) 10 10 [2, 0, 0, 0, 1, 4, 7, 1, 1, 8] 0 3 _ (xin_made (W := W) [2, 0, 0, 0, 1, 4, 7, 1, 1, 8]) (by decide) (by decide) (rg_dec (by decide))).mono fun e w' h => by
      unfold ReadE at h
      rw [if_pos (by kernel_rfl), show readS (([2, 0, 0, 0, 1, 4, 7, 1, 1, 8] : List Int).drop (0 : Int).toNat |>.take (1 + 3 * (3 : Int).toNat)) (3 : Int).toNat = some [(1, 8), (4, 7)] by kernel_rfl] at h
      obtain ⟨v, rfl, s⟩ := h
      have s' : St W [ownI 41 2 v 2 (eC [(1, 8), (4, 7)])] w' := s.base (kept_alloc W _)
      obtain ⟨g, c, rfl⟩ := s'.form 0 rfl (by decide)
      exact ⟨g, c, rfl, s'⟩
  have HD4 : Hid (∀ W : World, Calls Tryz.prog 17 #[.slice (some ⟨W.heap.size, 0, none⟩) 10 10, .int .i64 0, .int .i64 3] (W.alloc (.cells #[.int .i64 1, .int .i64 0, .int .i64 0, .int .i64 0, .int .i64 0, .int .i64 9, .int .i64 9, .int .i64 1, .int .i64 1, .int .i64 8] 2)) fun e w' => e = .returned (.tuple #[.slice none 0 0, .int .i64 191]) ∧ Kept (fun _ => False) W w') := hid fun W =>
    (Read_any (some ⟨W.heap.size, 0, none⟩) 10 10 [1, 0, 0, 0, 0, 9, 9, 1, 1, 8] 0 3 _ (xin_made (W := W) [1, 0, 0, 0, 0, 9, 9, 1, 1, 8]) (by decide) (by decide) (rg_dec (by decide))).mono fun e w' h => by
      unfold ReadE at h
      rw [if_pos (by kernel_rfl), show readS (([1, 0, 0, 0, 0, 9, 9, 1, 1, 8] : List Int).drop (0 : Int).toNat |>.take (1 + 3 * (3 : Int).toNat)) (3 : Int).toNat = none by kernel_rfl] at h
      exact ⟨h.1, (kept_alloc W _).trans h.2 (fun _ _ f => f)⟩
  have HD5 : Hid (∀ W : World, Kept (fun _ => False) w W → Calls Tryz.prog 24 #[.int .i64 0, .int .i64 3, .agg #[.int .i64 5, .int .i64 0, .int .i64 0, .int .i64 0, .int .i64 0]] W fun e w' => ∃ la lc, e = .returned (.tuple #[.slice la 5 lc, .int .i64 0]) ∧ Kept (fun _ => False) W w') := hid fun W k =>
    (Code_any (base := 0) (n := 3) (d := ⟨5, 0, 0, 0, 0⟩) (hE.kept k) ⟨by decide, by decide⟩ ⟨by decide, by decide⟩).mono fun e w' h => by
      unfold CodeE at h
      rw [if_pos (by kernel_rfl)] at h
      obtain ⟨lv, rfl, s⟩ := h
      obtain ⟨la, lc, rfl, _⟩ := own_iin (show w'.ownsRow 0 91 2 lv (codeS (nvD 0 3 0 0) 5).length (insCells (codeS (nvD 0 3 0 0) 5)) from s.get 0 rfl)
      exact ⟨la, lc, rfl, s.same⟩
  have heq := eqE
  have hgd := guardE
  have d1 := HD1.out w0 (Kept.refl _ _)
  clear hE HD1
  go_enter Tryz.func9, Tryz.ntmps9
  go_upto_region 3 with (first | simp only [hb] | simp only [hw0, hg0] | (go_at_call 22; refine d1.mono ?_; rintro e w1 ⟨g, c, g2, c2, rfl, s1⟩))
  have d2 := HD2.out w1 s1.same
  have HS1 := hid s1
  clear d1 s1 HD2
  go_upto_region 4 with (first | (go_at_call 22; refine d2.mono ?_; rintro e w2 ⟨v2, g4, c4, rfl, s2⟩))
  have HS2 := hid s2
  have d3 := HD3.out w2
  clear d2 HD3 s2
  go_upto_region 5 with (first | simp only [hb10] | (go_at_call 17; refine d3.mono ?_; rintro e w3 ⟨g3, c3, rfl, s3⟩))
  have HS3 := hid s3
  have d4 := HD4.out w3
  clear d3 HD4 s3
  go_upto_region 6 with (first | simp only [hb10] | (go_at_call 17; refine d4.mono ?_; rintro e w4 ⟨rfl, k4⟩))
  have k24 := hid ((HS3.out.same).trans k4 (fun _ _ f => f))
  have k14 := hid ((HS2.out.same).trans k24.out (fun _ _ f => f))
  have k04 := hid ((HS1.out.same).trans k14.out (fun _ _ f => f))
  have kw4 := hid ((HS0.out.same).trans k04.out (fun _ _ f => f))
  have d5 := HD5.out w4 kw4.out
  clear d4 HD5
  go_upto_region 9 with (first | (go_at_call 24; refine d5.mono ?_; rintro e w5 ⟨la, lc, rfl, k5⟩))
  clear d5
  have s50 := (HS0.out.calm (k04.out.trans k5 (fun _ _ f => f)))
  have s51 := (HS1.out.calm (k14.out.trans k5 (fun _ _ f => f)))
  have s52 := (HS2.out.calm (k24.out.trans k5 (fun _ _ f => f)))
  have s53 := (HS3.out.calm (k4.trans k5 (fun _ _ f => f)))
  have x2 : w5.cell? ⟨g, 2, none⟩ = some (.int .i64 2) := s51.ownCell 1 rfl 2 (by decide)
  have x3 : w5.cell? ⟨g, 3, none⟩ = some (.int .i64 9) := s51.ownCell 1 rfl 3 (by decide)
  have y0 : w5.cell? ⟨g2, 0, none⟩ = some (.int .i64 1) := s51.ownCell 0 rfl 0 (by decide)
  have z0 : w5.cell? ⟨g4, 0, none⟩ = some (.int .i64 1) := s52.ownCell 0 rfl 0 (by decide)
  have z1 : w5.cell? ⟨g4, 1, none⟩ = some (.int .i64 5) := s52.ownCell 0 rfl 1 (by decide)
  have u2 : w5.cell? ⟨g3, 2, none⟩ = some (.int .i64 4) := s53.ownCell 0 rfl 2 (by decide)
  have u3 : w5.cell? ⟨g3, 3, none⟩ = some (.int .i64 7) := s53.ownCell 0 rfl 3 (by decide)
  have t2 : w5.cell? ⟨g0, 2, none⟩ = some (.int .i64 4) := s50.ownCell 0 rfl 2 (by decide)
  have t3 : w5.cell? ⟨g0, 3, none⟩ = some (.int .i64 7) := s50.ownCell 0 rfl 3 (by decide)
  have HK := hid s50.same
  clear s50 s51 s52 s53 HS0 HS1 HS2 HS3 k4 k5 k24 k14 k04 kw4
  go_quiet (fail)
  go_wp2
  go_ret
  exact ⟨rfl, HK.out.drewN _⟩
theorem names_walk (w : World) (hE : Env w) : Calls Tryz.prog 3 #[] w fun e w' => e = .returned (.bool true) ∧ Kept (fun _ => False) w w' := by
  have hA := awake_any w hE
  go_enter Tryz.func3, Tryz.ntmps3
  go_wp2_with (go_at_call 9; refine hA.mono ?_; rintro e w1 ⟨rfl, k1⟩)
  go_ret
  exact ⟨rfl, k1⟩
end Go.Proofs.YtbpilhjomfkpaaaGreatDoor

namespace Go.Proofs.YtbpilhjomfkpaaaGreatDoor
open Go.RowKit
set_option linter.unusedVariables false
set_option linter.unusedSimpArgs false
attribute [local go_sem ↓] Go.wp_at_zero Go.wp_at_succ

section
variable {w : World}
set_option maxRecDepth 100000 in
set_option maxHeartbeats 1000000 in
theorem sameInts_any (la lb : Option Addr) (na nb ca cb : Nat) (a b : List Int) (hA : XIn w la na a) (hB : XIn w lb nb b) (hn : na ≤ 8796093022208000) :
    Calls Tryz.prog 13 #[.slice la na ca, .slice lb nb cb] w fun e w' => e = .returned (.bool (decide (a = b))) ∧ Kept (fun _ => False) w w' := by
  have HA := hid hA
  have HB := hid hB
  by_cases hl : na = nb
  · subst hl
    have t0 : ((na : Int) != na) = false := by simp
    have HLe : Hid (a.length = na ∧ b.length = na) := ⟨hA.1.symm, hB.1.symm⟩
    clear hA hB
    go_enter Tryz.func13, Tryz.ntmps13
    go_wp2
    go_loopw [5] (fun i wr => ∃ j : Nat, i = .int .i64 j ∧ j ≤ na ∧ (∀ k, k < j → a.getD k 0 = b.getD k 0) ∧ Kept (fun _ => False) w wr) (fun i _ => na - (intOf i).toNat)
    case atStart => exact ⟨0, rfl, Nat.zero_le _, fun k h => by omega, Kept.refl _ _⟩
    case round =>
      obtain ⟨j, rfl, hj, hs, hk⟩ := hrel
      have HS := hid hs
      clear hs
      by_cases hlt : j < na
      · obtain ⟨ga, oa, rfl⟩ := HA.out.addr (by omega)
        obtain ⟨gb, ob, rfl⟩ := HB.out.addr (by omega)
        have x0 := (HA.out.kept hk.drew).cell hlt
        have y0 := (HB.out.kept hk.drew).cell hlt
        have h0 : (0 : Int) ≤ (j : Int) := Int.natCast_nonneg _
        have h1 : (j : Int) < (na : Int) := by omega
        have HN : Hid (a.getD j 0 ≠ b.getD j 0 → decide (a = b) = false) := fun h => by
          rw [decide_eq_false_iff_not]
          intro e
          exact h (by rw [e])
        have HY : Hid (a.getD j 0 = b.getD j 0 → ∀ k, k < j + 1 → a.getD k 0 = b.getD k 0) := fun h k hk => by
          by_cases e : k = j
          · rw [e]; exact h
          · exact HS.out k (by omega)
        generalize a.getD j 0 = x at *
        generalize b.getD j 0 = y at *
        by_cases hxy : x = y
        · have hv : (x != y) = false := by simp [hxy]
          have HY2 := hid (HY.out hxy)
          clear HS HN HY hxy
          go_upto_region 6 with fail
          go_region
          go_wp2
          go_roundw
          case rel => exact ⟨j + 1, by simp, by omega, HY2.out, hk.drew⟩
          case measure => simp [intOf]; omega
        · have hv : (x != y) = true := by simpa using hxy
          have HF := hid (HN.out hxy)
          clear HS HN HY hxy
          go_upto_region 6 with fail
          go_region
          go_wp2
          go_ret
          exact ⟨by rw [HF.out]; rfl, hk.drew⟩
      · have h1 : ¬ (j : Int) < (na : Int) := by omega
        have HF : Hid (decide (a = b) = true) := by
          show decide (a = b) = true
          rw [decide_eq_true_eq]
          apply List.ext_getElem (by rw [HLe.out.1, HLe.out.2])
          intro k k1 k2
          have := HS.out k (by have := HLe.out.1; omega)
          simpa [List.getD_eq_getElem?_getD, k1, k2] using this
        clear HS
        go_wp2
        go_ret
        exact ⟨by rw [HF.out]; rfl, hk⟩
  · have t0 : ((na : Int) != nb) = true := by simp; omega
    have hf : decide (a = b) = false := by
      rw [decide_eq_false_iff_not]
      intro e
      exact hl (by rw [hA.1, hB.1, e])
    rw [hf]
    clear hA hB HA HB hf
    go_enter Tryz.func13, Tryz.ntmps13
    go_wp2
    go_ret
    exact ⟨rfl, Kept.refl _ _⟩
theorem codeDict_any (b : Bool) (w : World) : Calls Tryz.prog 15 #[.bool b] w fun e w' => e = .returned (.int .i64 (if b = true then 0 else 190)) ∧ w' = w := by
  cases b with
  | true =>
    go_enter Tryz.func15, Tryz.ntmps15
    go_wp2
    go_ret
    exact ⟨rfl, rfl⟩
  | false =>
    go_enter Tryz.func15, Tryz.ntmps15
    go_wp2
    go_ret
    exact ⟨rfl, rfl⟩
theorem rRoom_any (n : Int) (w : World) : Calls Tryz.prog 12 #[.int .i64 n] w fun e w' => e = .returned (.int .i64 (roomS n)) ∧ w' = w := by
  unfold roomS
  by_cases h1 : 1 ≤ n
  · by_cases h2 : n ≤ 60
    · rw [if_pos ⟨h1, h2⟩]
      go_enter Tryz.func12, Tryz.ntmps12
      go_wp2
      go_ret
      exact ⟨rfl, rfl⟩
    · rw [if_neg (by omega)]
      have t2 : decide (n ≤ 60) = false := by simpa using h2
      go_enter Tryz.func12, Tryz.ntmps12
      go_wp2
      go_ret
      exact ⟨rfl, rfl⟩
  · rw [if_neg (by omega)]
    have t2 : decide (1 ≤ n) = false := by simpa using h1
    go_enter Tryz.func12, Tryz.ntmps12
    go_wp2
    go_ret
    exact ⟨rfl, rfl⟩
theorem neE (a b c d : Int) (w : World) : (binOp .neq 41 (.agg #[.int .i64 a, .int .i64 b]) (.agg #[.int .i64 c, .int .i64 d])).run Tryz.prog w = .ok (.bool (!(decide (a = c) && decide (b = d)))) w := by
  have := eqE a b c d w
  rw [run_eql_struct] at this
  rw [run_neq_struct]
  cases h : (Op.equalIn 10000 41 (.agg #[.int .i64 a, .int .i64 b]) (.agg #[.int .i64 c, .int .i64 d])).run Tryz.prog w with
  | ok v w' =>
    rw [h] at this
    simp only [Result.andThen, Result.ok.injEq, Value.bool.injEq] at this ⊢
    obtain ⟨rfl, rfl⟩ := this
    exact ⟨rfl, rfl⟩
  | _ => rw [h] at this; simp [Result.andThen] at this
set_option maxRecDepth 100000 in
set_option maxHeartbeats 4000000 in
theorem rMay_any (n : Int) (d : Dd) (w : World) : Calls Tryz.prog 25 #[.int .i64 n, d.val] w fun e w' => e = .returned (.bool (mayS d)) ∧ Kept (fun _ => False) w w' := by
  obtain ⟨op, a, b, x, y⟩ := d
  have s1 := (St.nil w).box #[.int .i64 op, .int .i64 a, .int .i64 b, .int .i64 x, .int .i64 y] 45
  show Calls _ _ #[_, .agg #[.int .i64 op, .int .i64 a, .int .i64 b, .int .i64 x, .int .i64 y]] _ _
  generalize e1 : w.alloc (.cells #[.int .i64 op, .int .i64 a, .int .i64 b, .int .i64 x, .int .i64 y] 45) = w1 at *
  generalize eM : w.heap.size = M at *
  have c0 : w1.cell? ⟨M, 0, none⟩ = some (.int .i64 op) := s1.cell 0 rfl 0
  have c1 : w1.cell? ⟨M, 1, none⟩ = some (.int .i64 a) := s1.cell 0 rfl 1
  have c2 : w1.cell? ⟨M, 2, none⟩ = some (.int .i64 b) := s1.cell 0 rfl 2
  have c3 : w1.cell? ⟨M, 3, none⟩ = some (.int .i64 x) := s1.cell 0 rfl 3
  have c4 : w1.cell? ⟨M, 4, none⟩ = some (.int .i64 y) := s1.cell 0 rfl 4
  have HK := hid s1.same
  rw [may_is]
  clear s1
  by_cases ha : a = 0
  · subst ha
    by_cases hb : b = 0
    · subst hb
      by_cases h1 : op = 1 ∨ op = 4
      · rw [if_pos h1]
        rcases h1 with rfl | rfl
        · go_enter Tryz.func25, Tryz.ntmps25
          go_wp2_with (simp only [e1, eM])
          go_ret
          exact ⟨by simp, HK.out⟩
        · go_enter Tryz.func25, Tryz.ntmps25
          go_wp2_with (simp only [e1, eM])
          go_ret
          exact ⟨by simp, HK.out⟩
      · rw [if_neg h1]
        have t1 : (op == 1) = false := by simp; omega
        have t4 : (op == 4) = false := by simp; omega
        by_cases h2 : op = 2 ∨ op = 3
        · rw [if_pos h2]
          clear h1
          rcases h2 with rfl | rfl
          · by_cases hy : y = 0
            · subst hy
              go_enter Tryz.func25, Tryz.ntmps25
              go_wp2_with (simp only [e1, eM])
              go_ret
              exact ⟨by simp, HK.out⟩
            · have ty : (y == 0) = false := by simpa using hy
              go_enter Tryz.func25, Tryz.ntmps25
              go_wp2_with (simp only [e1, eM])
              go_ret
              exact ⟨by simp [hy], HK.out⟩
          · by_cases hy : y = 0
            · subst hy
              go_enter Tryz.func25, Tryz.ntmps25
              go_wp2_with (simp only [e1, eM])
              go_ret
              exact ⟨by simp, HK.out⟩
            · have ty : (y == 0) = false := by simpa using hy
              go_enter Tryz.func25, Tryz.ntmps25
              go_wp2_with (simp only [e1, eM])
              go_ret
              exact ⟨by simp [hy], HK.out⟩
        · rw [if_neg h2]
          have t2 : (op == 2) = false := by simp; omega
          have t3 : (op == 3) = false := by simp; omega
          clear h1 h2
          by_cases h5 : op = 5
          · rw [if_pos h5]
            subst h5
            by_cases hx : x = 0
            · subst hx
              by_cases hy : y = 0
              · subst hy
                go_enter Tryz.func25, Tryz.ntmps25
                go_wp2_with (simp only [e1, eM])
                go_ret
                exact ⟨by simp, HK.out⟩
              · have ty : (y == 0) = false := by simpa using hy
                go_enter Tryz.func25, Tryz.ntmps25
                go_wp2_with (simp only [e1, eM])
                go_ret
                exact ⟨by simp [hy], HK.out⟩
            · have tx : (x == 0) = false := by simpa using hx
              go_enter Tryz.func25, Tryz.ntmps25
              go_wp2_with (simp only [e1, eM])
              go_ret
              exact ⟨by simp [hx], HK.out⟩
          · rw [if_neg h5]
            have t5 : (op == 5) = false := by simpa using h5
            clear h5
            go_enter Tryz.func25, Tryz.ntmps25
            go_wp2_with (simp only [e1, eM])
            go_ret
            exact ⟨rfl, HK.out⟩
    · have tb : (b != 0) = true := by simpa using hb
      have hf : (if op = 1 ∨ op = 4 then (decide ((0 : Int) = 0) && (decide (b = 0) && (decide (x = x) && decide (y = y)))) else if op = 2 ∨ op = 3 then (decide ((0 : Int) = 0) && (decide (b = 0) && (decide (x = x) && decide (y = 0)))) else if op = 5 then (decide ((0 : Int) = 0) && (decide (b = 0) && (decide (x = 0) && decide (y = 0)))) else false) = false := by simp [hb]
      rw [hf]
      clear hf hb
      go_enter Tryz.func25, Tryz.ntmps25
      go_wp2_with (simp only [e1, eM])
      go_ret
      exact ⟨rfl, HK.out⟩
  · have ta : (a != 0) = true := by simpa using ha
    have hf : (if op = 1 ∨ op = 4 then (decide (a = 0) && (decide (b = 0) && (decide (x = x) && decide (y = y)))) else if op = 2 ∨ op = 3 then (decide (a = 0) && (decide (b = 0) && (decide (x = x) && decide (y = 0)))) else if op = 5 then (decide (a = 0) && (decide (b = 0) && (decide (x = 0) && decide (y = 0)))) else false) = false := by simp [ha]
    rw [hf]
    clear hf ha
    go_enter Tryz.func25, Tryz.ntmps25
    go_wp2_with (simp only [e1, eM])
    go_ret
    exact ⟨rfl, HK.out⟩
theorem pr_ext {x y : Pr} (h1 : x.1 = y.1) (h2 : x.2 = y.2) : x = y := Prod.ext h1 h2
set_option maxRecDepth 100000 in
set_option maxHeartbeats 1000000 in
theorem sameE_any (la lb : Option Addr) (na nb ca cb : Nat) (a b : List Pr) (w : World) (hA : EIn w la na a) (hB : EIn w lb nb b) (hn : na ≤ 8796093022208) :
    Calls Tryz.prog 19 #[.slice la na ca, .slice lb nb cb] w fun e w' => e = .returned (.bool (decide (a = b))) ∧ Kept (fun _ => False) w w' := by
  have HA := hid hA
  have HB := hid hB
  by_cases hl : na = nb
  · subst hl
    have t0 : ((na : Int) != na) = false := by simp
    have HLe : Hid (a.length = na ∧ b.length = na) := ⟨hA.1.symm, hB.1.symm⟩
    clear hA hB
    go_enter Tryz.func19, Tryz.ntmps19
    go_wp2
    go_loopw [5] (fun i wr => ∃ j : Nat, i = .int .i64 j ∧ j ≤ na ∧ (∀ k, k < j → a.getD k (0, 0) = b.getD k (0, 0)) ∧ Kept (fun _ => False) w wr) (fun i _ => na - (intOf i).toNat)
    case atStart => exact ⟨0, rfl, Nat.zero_le _, fun k h => by omega, Kept.refl _ _⟩
    case round =>
      obtain ⟨j, rfl, hj, hs, hk⟩ := hrel
      have HS := hid hs
      clear hs
      by_cases hlt : j < na
      · obtain ⟨ga, oa, rfl⟩ := HA.out.addr (by omega)
        obtain ⟨gb, ob, rfl⟩ := HB.out.addr (by omega)
        obtain ⟨x0, x1⟩ := (HA.out.kept hk).cells (j := j) (by omega)
        obtain ⟨y0, y1⟩ := (HB.out.kept hk).cells (j := j) (by omega)
        have h0 : (0 : Int) ≤ (j : Int) := Int.natCast_nonneg _
        have h1 : (j : Int) < (na : Int) := by omega
        have HN : Hid (a.getD j (0, 0) ≠ b.getD j (0, 0) → decide (a = b) = false) := fun h => by
          rw [decide_eq_false_iff_not]
          intro e
          exact h (by rw [e])
        have HY : Hid (a.getD j (0, 0) = b.getD j (0, 0) → ∀ k, k < j + 1 → a.getD k (0, 0) = b.getD k (0, 0)) := fun h k hk => by
          by_cases e : k = j
          · rw [e]; exact h
          · exact HS.out k (by omega)
        generalize a.getD j (0, 0) = x at *
        generalize b.getD j (0, 0) = y at *
        have hne := neE x.1 x.2 y.1 y.2
        by_cases hxy : x = y
        · have hv : (!(decide (x.1 = y.1) && decide (x.2 = y.2))) = false := by simp [hxy]
          rw [hv] at hne
          have HY2 := hid (HY.out hxy)
          clear HS HN HY hxy hv
          generalize x.1 = xo at *
          generalize x.2 = xa at *
          generalize y.1 = yo at *
          generalize y.2 = ya at *
          go_upto_region 6 with fail
          go_region
          go_wp2
          go_roundw
          case rel => exact ⟨j + 1, by simp, by omega, HY2.out, hk.drew⟩
          case measure => simp [intOf]; omega
        · have hv : (!(decide (x.1 = y.1) && decide (x.2 = y.2))) = true := by
            simp only [Bool.not_eq_true', Bool.and_eq_false_iff, decide_eq_false_iff_not]
            by_cases e1 : x.1 = y.1
            · exact .inr (fun e2 => hxy (pr_ext e1 e2))
            · exact .inl e1
          rw [hv] at hne
          have HF := hid (HN.out hxy)
          clear HS HN HY hxy hv
          generalize x.1 = xo at *
          generalize x.2 = xa at *
          generalize y.1 = yo at *
          generalize y.2 = ya at *
          go_upto_region 6 with fail
          go_region
          go_wp2
          go_ret
          exact ⟨by rw [HF.out]; rfl, hk.drew⟩
      · have h1 : ¬ (j : Int) < (na : Int) := by omega
        have HF : Hid (decide (a = b) = true) := by
          show decide (a = b) = true
          rw [decide_eq_true_eq]
          apply List.ext_getElem (by rw [HLe.out.1, HLe.out.2])
          intro k k1 k2
          have := HS.out k (by have := HLe.out.1; omega)
          simpa [List.getD_eq_getElem?_getD, k1, k2] using this
        clear HS
        go_wp2
        go_ret
        exact ⟨by rw [HF.out]; rfl, hk⟩
  · have t0 : ((na : Int) != nb) = true := by simp; omega
    have hf : decide (a = b) = false := by
      rw [decide_eq_false_iff_not]
      intro e
      exact hl (by rw [hA.1, hB.1, e])
    rw [hf]
    clear hA hB HA HB hf
    go_enter Tryz.func19, Tryz.ntmps19
    go_wp2
    go_ret
    exact ⟨rfl, Kept.refl _ _⟩
end
end Go.Proofs.YtbpilhjomfkpaaaGreatDoor
