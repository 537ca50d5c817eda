/- The statements' own small functions; the document's Room, May. -/
import Derived.Test.YtbpilhjomfkpaaaGreatDoorDiU
import Derived.Laws.CopyOwn
namespace Go.Proofs.YtbpilhjomfkpaaaGreatDoor
open Go.RowKit
set_option linter.unusedVariables false
set_option linter.unusedSimpArgs false
attribute [local go_sem ↓] Go.wp_at_zero Go.wp_at_succ

section
variable {w : World}
set_option maxRecDepth 100000 in
set_option maxHeartbeats 1000000 in
theorem sameInts_any (la lb : Option Addr) (na nb ca cb : Nat) (a b : List Int) (hA : XIn w la na a) (hB : XIn w lb nb b) (hn : na ≤ 8796093022208000) :
    Calls Tryz.prog 13 #[.slice la na ca, .slice lb nb cb] w fun e w' => e = .returned (.bool (decide (a = b))) ∧ Kept (fun _ => False) w w' := by
  have HA := hid hA
  have HB := hid hB
  by_cases hl : na = nb
  · subst hl
    have t0 : ((na : Int) != na) = false := by simp
    have HLe : Hid (a.length = na ∧ b.length = na) := ⟨hA.1.symm, hB.1.symm⟩
    clear hA hB
    go_enter Tryz.func13, Tryz.ntmps13
    go_wp2
    go_loopw [5] (fun i wr => ∃ j : Nat, i = .int .i64 j ∧ j ≤ na ∧ (∀ k, k < j → a.getD k 0 = b.getD k 0) ∧ Kept (fun _ => False) w wr) (fun i _ => na - (intOf i).toNat)
    case atStart => exact ⟨0, rfl, Nat.zero_le _, fun k h => by omega, Kept.refl _ _⟩
    case round =>
      obtain ⟨j, rfl, hj, hs, hk⟩ := hrel
      have HS := hid hs
      clear hs
      by_cases hlt : j < na
      · obtain ⟨ga, oa, rfl⟩ := HA.out.addr (by omega)
        obtain ⟨gb, ob, rfl⟩ := HB.out.addr (by omega)
        have x0 := (HA.out.kept hk.drew).cell hlt
        have y0 := (HB.out.kept hk.drew).cell hlt
        have h0 : (0 : Int) ≤ (j : Int) := Int.natCast_nonneg _
        have h1 : (j : Int) < (na : Int) := by omega
        have HN : Hid (a.getD j 0 ≠ b.getD j 0 → decide (a = b) = false) := fun h => by
          rw [decide_eq_false_iff_not]
          intro e
          exact h (by rw [e])
        have HY : Hid (a.getD j 0 = b.getD j 0 → ∀ k, k < j + 1 → a.getD k 0 = b.getD k 0) := fun h k hk => by
          by_cases e : k = j
          · rw [e]; exact h
          · exact HS.out k (by omega)
        generalize a.getD j 0 = x at *
        generalize b.getD j 0 = y at *
        by_cases hxy : x = y
        · have hv : (x != y) = false := by simp [hxy]
          have HY2 := hid (HY.out hxy)
          clear HS HN HY hxy
          go_upto_region 6 with fail
          go_region
          go_wp2
          go_roundw
          case rel => exact ⟨j + 1, by simp, by omega, HY2.out, hk.drew⟩
          case measure => simp [intOf]; omega
        · have hv : (x != y) = true := by simpa using hxy
          have HF := hid (HN.out hxy)
          clear HS HN HY hxy
          go_upto_region 6 with fail
          go_region
          go_wp2
          go_ret
          exact ⟨by rw [HF.out]; rfl, hk.drew⟩
      · have h1 : ¬ (j : Int) < (na : Int) := by omega
        have HF : Hid (decide (a = b) = true) := by
          show decide (a = b) = true
          rw [decide_eq_true_eq]
          apply List.ext_getElem (by rw [HLe.out.1, HLe.out.2])
          intro k k1 k2
          have := HS.out k (by have := HLe.out.1; omega)
          simpa [List.getD_eq_getElem?_getD, k1, k2] using this
        clear HS
        go_wp2
        go_ret
        exact ⟨by rw [HF.out]; rfl, hk⟩
  · have t0 : ((na : Int) != nb) = true := by simp; omega
    have hf : decide (a = b) = false := by
      rw [decide_eq_false_iff_not]
      intro e
      exact hl (by rw [hA.1, hB.1, e])
    rw [hf]
    clear hA hB HA HB hf
    go_enter Tryz.func13, Tryz.ntmps13
    go_wp2
    go_ret
    exact ⟨rfl, Kept.refl _ _⟩
theorem codeDict_any (b : Bool) (w : World) : Calls Tryz.prog 15 #[.bool b] w fun e w' => e = .returned (.int .i64 (if b = true then 0 else 190)) ∧ w' = w := by
  cases b with
  | true =>
    go_enter Tryz.func15, Tryz.ntmps15
    go_wp2
    go_ret
    exact ⟨rfl, rfl⟩
  | false =>
    go_enter Tryz.func15, Tryz.ntmps15
    go_wp2
    go_ret
    exact ⟨rfl, rfl⟩
theorem rRoom_any (n : Int) (w : World) : Calls Tryz.prog 12 #[.int .i64 n] w fun e w' => e = .returned (.int .i64 (roomS n)) ∧ w' = w := by
  unfold roomS
  by_cases h1 : 1 ≤ n
  · by_cases h2 : n ≤ 60
    · rw [if_pos ⟨h1, h2⟩]
      go_enter Tryz.func12, Tryz.ntmps12
      go_wp2
      go_ret
      exact ⟨rfl, rfl⟩
    · rw [if_neg (by omega)]
      have t2 : decide (n ≤ 60) = false := by simpa using h2
      go_enter Tryz.func12, Tryz.ntmps12
      go_wp2
      go_ret
      exact ⟨rfl, rfl⟩
  · rw [if_neg (by omega)]
    have t2 : decide (1 ≤ n) = false := by simpa using h1
    go_enter Tryz.func12, Tryz.ntmps12
    go_wp2
    go_ret
    exact ⟨rfl, rfl⟩
theorem neE (a b c d : Int) (w : World) : (binOp .neq 41 (.agg #[.int .i64 a, .int .i64 b]) (.agg #[.int .i64 c, .int .i64 d])).run Tryz.prog w = .ok (.bool (!(decide (a = c) && decide (b = d)))) w := by
  have := eqE a b c d w
  rw [run_eql_struct] at this
  rw [run_neq_struct]
  cases h : (Op.equalIn 10000 41 (.agg #[.int .i64 a, .int .i64 b]) (.agg #[.int .i64 c, .int .i64 d])).run Tryz.prog w with
  | ok v w' =>
    rw [h] at this
    simp only [Result.andThen, Result.ok.injEq, Value.bool.injEq] at this ⊢
    obtain ⟨rfl, rfl⟩ := this
    exact ⟨rfl, rfl⟩
  | _ => rw [h] at this; simp [Result.andThen] at this
set_option maxRecDepth 100000 in
set_option maxHeartbeats 4000000 in
theorem rMay_any (n : Int) (d : Dd) (w : World) : Calls Tryz.prog 25 #[.int .i64 n, d.val] w fun e w' => e = .returned (.bool (mayS d)) ∧ Kept (fun _ => False) w w' := by
  obtain ⟨op, a, b, x, y⟩ := d
  have s1 := (St.nil w).box #[.int .i64 op, .int .i64 a, .int .i64 b, .int .i64 x, .int .i64 y] 45
  show Calls _ _ #[_, .agg #[.int .i64 op, .int .i64 a, .int .i64 b, .int .i64 x, .int .i64 y]] _ _
  generalize e1 : w.alloc (.cells #[.int .i64 op, .int .i64 a, .int .i64 b, .int .i64 x, .int .i64 y] 45) = w1 at *
  generalize eM : w.heap.size = M at *
  have c0 : w1.cell? ⟨M, 0, none⟩ = some (.int .i64 op) := s1.cell 0 rfl 0
  have c1 : w1.cell? ⟨M, 1, none⟩ = some (.int .i64 a) := s1.cell 0 rfl 1
  have c2 : w1.cell? ⟨M, 2, none⟩ = some (.int .i64 b) := s1.cell 0 rfl 2
  have c3 : w1.cell? ⟨M, 3, none⟩ = some (.int .i64 x) := s1.cell 0 rfl 3
  have c4 : w1.cell? ⟨M, 4, none⟩ = some (.int .i64 y) := s1.cell 0 rfl 4
  have HK := hid s1.same
  rw [may_is]
  clear s1
  by_cases ha : a = 0
  · subst ha
    by_cases hb : b = 0
    · subst hb
      by_cases h1 : op = 1 ∨ op = 4
      · rw [if_pos h1]
        rcases h1 with rfl | rfl
        · go_enter Tryz.func25, Tryz.ntmps25
          go_wp2_with (simp only [e1, eM])
          go_ret
          exact ⟨by simp, HK.out⟩
        · go_enter Tryz.func25, Tryz.ntmps25
          go_wp2_with (simp only [e1, eM])
          go_ret
          exact ⟨by simp, HK.out⟩
      · rw [if_neg h1]
        have t1 : (op == 1) = false := by simp; omega
        have t4 : (op == 4) = false := by simp; omega
        by_cases h2 : op = 2 ∨ op = 3
        · rw [if_pos h2]
          clear h1
          rcases h2 with rfl | rfl
          · by_cases hy : y = 0
            · subst hy
              go_enter Tryz.func25, Tryz.ntmps25
              go_wp2_with (simp only [e1, eM])
              go_ret
              exact ⟨by simp, HK.out⟩
            · have ty : (y == 0) = false := by simpa using hy
              go_enter Tryz.func25, Tryz.ntmps25
              go_wp2_with (simp only [e1, eM])
              go_ret
              exact ⟨by simp [hy], HK.out⟩
          · by_cases hy : y = 0
            · subst hy
              go_enter Tryz.func25, Tryz.ntmps25
              go_wp2_with (simp only [e1, eM])
              go_ret
              exact ⟨by simp, HK.out⟩
            · have ty : (y == 0) = false := by simpa using hy
              go_enter Tryz.func25, Tryz.ntmps25
              go_wp2_with (simp only [e1, eM])
              go_ret
              exact ⟨by simp [hy], HK.out⟩
        · rw [if_neg h2]
          have t2 : (op == 2) = false := by simp; omega
          have t3 : (op == 3) = false := by simp; omega
          clear h1 h2
          by_cases h5 : op = 5
          · rw [if_pos h5]
            subst h5
            by_cases hx : x = 0
            · subst hx
              by_cases hy : y = 0
              · subst hy
                go_enter Tryz.func25, Tryz.ntmps25
                go_wp2_with (simp only [e1, eM])
                go_ret
                exact ⟨by simp, HK.out⟩
              · have ty : (y == 0) = false := by simpa using hy
                go_enter Tryz.func25, Tryz.ntmps25
                go_wp2_with (simp only [e1, eM])
                go_ret
                exact ⟨by simp [hy], HK.out⟩
            · have tx : (x == 0) = false := by simpa using hx
              go_enter Tryz.func25, Tryz.ntmps25
              go_wp2_with (simp only [e1, eM])
              go_ret
              exact ⟨by simp [hx], HK.out⟩
          · rw [if_neg h5]
            have t5 : (op == 5) = false := by simpa using h5
            clear h5
            go_enter Tryz.func25, Tryz.ntmps25
            go_wp2_with (simp only [e1, eM])
            go_ret
            exact ⟨rfl, HK.out⟩
    · have tb : (b != 0) = true := by simpa using hb
      have hf : (if op = 1 ∨ op = 4 then (decide ((0 : Int) = 0) && (decide (b = 0) && (decide (x = x) && decide (y = y)))) else if op = 2 ∨ op = 3 then (decide ((0 : Int) = 0) && (decide (b = 0) && (decide (x = x) && decide (y = 0)))) else if op = 5 then (decide ((0 : Int) = 0) && (decide (b = 0) && (decide (x = 0) && decide (y = 0)))) else false) = false := by simp [hb]
      rw [hf]
      clear hf hb
      go_enter Tryz.func25, Tryz.ntmps25
      go_wp2_with (simp only [e1, eM])
      go_ret
      exact ⟨rfl, HK.out⟩
  · have ta : (a != 0) = true := by simpa using ha
    have hf : (if op = 1 ∨ op = 4 then (decide (a = 0) && (decide (b = 0) && (decide (x = x) && decide (y = y)))) else if op = 2 ∨ op = 3 then (decide (a = 0) && (decide (b = 0) && (decide (x = x) && decide (y = 0)))) else if op = 5 then (decide (a = 0) && (decide (b = 0) && (decide (x = 0) && decide (y = 0)))) else false) = false := by simp [ha]
    rw [hf]
    clear hf ha
    go_enter Tryz.func25, Tryz.ntmps25
    go_wp2_with (simp only [e1, eM])
    go_ret
    exact ⟨rfl, HK.out⟩
theorem pr_ext {x y : Pr} (h1 : x.1 = y.1) (h2 : x.2 = y.2) : x = y := Prod.ext h1 h2
set_option maxRecDepth 100000 in
set_option maxHeartbeats 1000000 in
theorem sameE_any (la lb : Option Addr) (na nb ca cb : Nat) (a b : List Pr) (w : World) (hA : EIn w la na a) (hB : EIn w lb nb b) (hn : na ≤ 8796093022208) :
    Calls Tryz.prog 19 #[.slice la na ca, .slice lb nb cb] w fun e w' => e = .returned (.bool (decide (a = b))) ∧ Kept (fun _ => False) w w' := by
  have HA := hid hA
  have HB := hid hB
  by_cases hl : na = nb
  · subst hl
    have t0 : ((na : Int) != na) = false := by simp
    have HLe : Hid (a.length = na ∧ b.length = na) := ⟨hA.1.symm, hB.1.symm⟩
    clear hA hB
    go_enter Tryz.func19, Tryz.ntmps19
    go_wp2
    go_loopw [5] (fun i wr => ∃ j : Nat, i = .int .i64 j ∧ j ≤ na ∧ (∀ k, k < j → a.getD k (0, 0) = b.getD k (0, 0)) ∧ Kept (fun _ => False) w wr) (fun i _ => na - (intOf i).toNat)
    case atStart => exact ⟨0, rfl, Nat.zero_le _, fun k h => by omega, Kept.refl _ _⟩
    case round =>
      obtain ⟨j, rfl, hj, hs, hk⟩ := hrel
      have HS := hid hs
      clear hs
      by_cases hlt : j < na
      · obtain ⟨ga, oa, rfl⟩ := HA.out.addr (by omega)
        obtain ⟨gb, ob, rfl⟩ := HB.out.addr (by omega)
        obtain ⟨x0, x1⟩ := (HA.out.kept hk).cells (j := j) (by omega)
        obtain ⟨y0, y1⟩ := (HB.out.kept hk).cells (j := j) (by omega)
        have h0 : (0 : Int) ≤ (j : Int) := Int.natCast_nonneg _
        have h1 : (j : Int) < (na : Int) := by omega
        have HN : Hid (a.getD j (0, 0) ≠ b.getD j (0, 0) → decide (a = b) = false) := fun h => by
          rw [decide_eq_false_iff_not]
          intro e
          exact h (by rw [e])
        have HY : Hid (a.getD j (0, 0) = b.getD j (0, 0) → ∀ k, k < j + 1 → a.getD k (0, 0) = b.getD k (0, 0)) := fun h k hk => by
          by_cases e : k = j
          · rw [e]; exact h
          · exact HS.out k (by omega)
        generalize a.getD j (0, 0) = x at *
        generalize b.getD j (0, 0) = y at *
        have hne := neE x.1 x.2 y.1 y.2
        by_cases hxy : x = y
        · have hv : (!(decide (x.1 = y.1) && decide (x.2 = y.2))) = false := by simp [hxy]
          rw [hv] at hne
          have HY2 := hid (HY.out hxy)
          clear HS HN HY hxy hv
          generalize x.1 = xo at *
          generalize x.2 = xa at *
          generalize y.1 = yo at *
          generalize y.2 = ya at *
          go_upto_region 6 with fail
          go_region
          go_wp2
          go_roundw
          case rel => exact ⟨j + 1, by simp, by omega, HY2.out, hk.drew⟩
          case measure => simp [intOf]; omega
        · have hv : (!(decide (x.1 = y.1) && decide (x.2 = y.2))) = true := by
            simp only [Bool.not_eq_true', Bool.and_eq_false_iff, decide_eq_false_iff_not]
            by_cases e1 : x.1 = y.1
            · exact .inr (fun e2 => hxy (pr_ext e1 e2))
            · exact .inl e1
          rw [hv] at hne
          have HF := hid (HN.out hxy)
          clear HS HN HY hxy hv
          generalize x.1 = xo at *
          generalize x.2 = xa at *
          generalize y.1 = yo at *
          generalize y.2 = ya at *
          go_upto_region 6 with fail
          go_region
          go_wp2
          go_ret
          exact ⟨by rw [HF.out]; rfl, hk.drew⟩
      · have h1 : ¬ (j : Int) < (na : Int) := by omega
        have HF : Hid (decide (a = b) = true) := by
          show decide (a = b) = true
          rw [decide_eq_true_eq]
          apply List.ext_getElem (by rw [HLe.out.1, HLe.out.2])
          intro k k1 k2
          have := HS.out k (by have := HLe.out.1; omega)
          simpa [List.getD_eq_getElem?_getD, k1, k2] using this
        clear HS
        go_wp2
        go_ret
        exact ⟨by rw [HF.out]; rfl, hk⟩
  · have t0 : ((na : Int) != nb) = true := by simp; omega
    have hf : decide (a = b) = false := by
      rw [decide_eq_false_iff_not]
      intro e
      exact hl (by rw [hA.1, hB.1, e])
    rw [hf]
    clear hA hB HA HB hf
    go_enter Tryz.func19, Tryz.ntmps19
    go_wp2
    go_ret
    exact ⟨rfl, Kept.refl _ _⟩
end
end Go.Proofs.YtbpilhjomfkpaaaGreatDoor
