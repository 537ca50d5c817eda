/- The document's Do. -/
import Derived.Test.YtbpilhjomfkpaaaGreatDoorRdM
import Derived.Deep.RegionLaw
namespace Go.Proofs.YtbpilhjomfkpaaaGreatDoor
open Go.RowKit
set_option linter.unusedVariables false
set_option linter.unusedSimpArgs false
attribute [local go_sem ↓] Go.wp_at_zero Go.wp_at_succ

/-- How the document's Do ends. -/
def rDoE (l : List Pr) (n : Int) (d : Dd) (w : World) (e : Ending) (w' : World) : Prop :=
  if okS l n d = true then ∃ v t, e = .returned (.tuple #[v, t, .bool true]) ∧ St w [ownI 2 1 t (doS l n d).2.length (xC (doS l n d).2), lstE v (doS l n d).1] w'
  else e = .returned (.tuple #[.slice none 0 0, .slice none 0 0, .bool false]) ∧ Kept (fun _ => False) w w'
theorem buildE0 (W : World) : (Instr.buildSlice 32 0 #[]).run Tryz.prog W = .ok (.slice (some ⟨W.heap.size, 0, none⟩) 0 0) (W.alloc (.cells #[] 41)) := by kernel_rfl
set_option maxRecDepth 100000 in
set_option maxHeartbeats 16000000 in
theorem rDo_any (la : Option Addr) (m lc : Nat) (l : List Pr) (n : Int) (d : Dd) (w : World) (hX : EIn w la m l) (hnil : la = none → m = 0 ∧ lc = 0) (hmc : m ≤ lc) : Calls Tryz.prog 23 #[.slice la m lc, .int .i64 n, d.val] w (rDoE l n d w) := by
  have hml := hX.1
  have hR := fun W => rRoom_any n W
  have hB := fun W => rMay_any n d W
  obtain ⟨op, a, b, x, y⟩ := d
  have s1 := (St.nil w).box #[.int .i64 op, .int .i64 a, .int .i64 b, .int .i64 x, .int .i64 y] 45
  have HN : Hid (okS l n ⟨op, a, b, x, y⟩ = false → ∀ w', Kept (fun _ => False) w w' → rDoE l n ⟨op, a, b, x, y⟩ w (.returned (.tuple #[.slice none 0 0, .slice none 0 0, .bool false])) w') := hid (fun h w' k => by
    unfold rDoE
    rw [if_neg (by rw [h]; decide)]
    exact ⟨rfl, k⟩)
  have HY : Hid (okS l n ⟨op, a, b, x, y⟩ = true → ∀ v t w' R r1 r2, doS l n ⟨op, a, b, x, y⟩ = (r1, r2) → St w (ownI 2 1 t r2.length (xC r2) :: lstE v r1 :: R) w' → rDoE l n ⟨op, a, b, x, y⟩ w (.returned (.tuple #[v, t, .bool true])) w') := hid (fun h v t w' R r1 r2 hr s => by
    unfold rDoE
    rw [if_pos h, hr]
    exact ⟨v, t, rfl, St.cut (A := [_, _]) (B := R) s⟩)
  unfold Dd.val at hB ⊢
  simp only at hB ⊢
  generalize hmay : mayS ⟨op, a, b, x, y⟩ = mm at *
  generalize e1 : w.alloc (.cells #[.int .i64 op, .int .i64 a, .int .i64 b, .int .i64 x, .int .i64 y] 45) = w1 at *
  generalize eM : w.heap.size = M at *
  have c0 : w1.cell? ⟨M, 0, none⟩ = some (.int .i64 op) := s1.cell 0 rfl 0
  have c1 : w1.cell? ⟨M, 1, none⟩ = some (.int .i64 a) := s1.cell 0 rfl 1
  have c2 : w1.cell? ⟨M, 2, none⟩ = some (.int .i64 b) := s1.cell 0 rfl 2
  have c3 : w1.cell? ⟨M, 3, none⟩ = some (.int .i64 x) := s1.cell 0 rfl 3
  have c4 : w1.cell? ⟨M, 4, none⟩ = some (.int .i64 y) := s1.cell 0 rfl 4
  have HS1 := hid s1
  have HX := hid hX
  have HML := hid hml
  have HNil := hid hnil
  have hr0 : 0 ≤ roomS n := (roomS_le n).2
  have HOK : Hid (okS l n ⟨op, a, b, x, y⟩ = (decide (0 < roomS n) && (decide ((l.length : Int) ≤ n) && (risesP l && mm)))) := hid (by unfold okS; rw [hmay])
  have HRP : Hid (0 < roomS n → n ≤ 60) := hid (fun h => (roomS_pos h).2.1)
  have HOp : Hid (mm = true → op = 1 ∨ op = 2 ∨ op = 3 ∨ op = 4 ∨ op = 5) := hid (fun h => may_op (d := ⟨op, a, b, x, y⟩) (by rw [hmay]; exact h))
  clear hX hml hnil s1 hmay
  generalize hQQ : rDoE l n ⟨op, a, b, x, y⟩ w = QQ at *
  clear hQQ
  generalize roomS n = r at *
  by_cases h0 : 0 < r
  case neg =>
    have hok : okS l n ⟨op, a, b, x, y⟩ = false := by rw [HOK.out]; simp [h0]
    have HQ := hid (HN.out hok)
    have t0 : (r == 0) = true := by simp; omega
    clear hok HOK HN HY h0 HRP
    go_enter Tryz.func23, Tryz.ntmps23
    go_wp2_with (first | simp only [e1, eM] | (go_at_call 25; refine (hB _).mono ?_; rintro e w2 ⟨rfl, k2⟩) | (go_at_call 12; refine (hR _).mono ?_; rintro e w' ⟨rfl, rfl⟩))
    go_ret3
    exact HQ.out _ (HS1.out.calm k2).same
  have t0 : (r == 0) = false := by simp; omega
  by_cases h1 : (m : Int) ≤ n
  case neg =>
    have hok : okS l n ⟨op, a, b, x, y⟩ = false := by rw [HOK.out]; have := HML.out; simp; omega
    have HQ := hid (HN.out hok)
    have t1 : decide (n < (m : Int)) = true := by simp; omega
    clear hok HOK HN HY h0 h1 HRP
    go_enter Tryz.func23, Tryz.ntmps23
    go_wp2_with (first | simp only [e1, eM] | (go_at_call 25; refine (hB _).mono ?_; rintro e w2 ⟨rfl, k2⟩) | (go_at_call 12; refine (hR _).mono ?_; rintro e w' ⟨rfl, rfl⟩))
    go_ret3
    exact HQ.out _ (HS1.out.calm k2).same
  have t1 : decide (n < (m : Int)) = false := by simp; omega
  cases mm with
  | false =>
    have hok : okS l n ⟨op, a, b, x, y⟩ = false := by rw [HOK.out]; simp
    have HQ := hid (HN.out hok)
    clear hok HOK HN HY h0 h1 HRP
    go_enter Tryz.func23, Tryz.ntmps23
    go_wp2_with (first | simp only [e1, eM] | (go_at_call 25; refine (hB _).mono ?_; rintro e w2 ⟨rfl, k2⟩) | (go_at_call 12; refine (hR _).mono ?_; rintro e w' ⟨rfl, rfl⟩))
    go_ret3
    exact HQ.out _ (HS1.out.calm k2).same
  | true =>
    have hn60 := HRP.out h0
    have hm6 : m ≤ 60 := by omega
    have hm6' : (m : Int) ≤ 60 := by omega
    have hop := HOp.out rfl
    have HNo : Hid (risesP l = false → ∀ w', Kept (fun _ => False) w w' → QQ (.returned (.tuple #[.slice none 0 0, .slice none 0 0, .bool false])) w') := hid (fun h w' k => HN.out (by rw [HOK.out, h]; simp) w' k)
    have HYes : Hid (Rises l → ∀ v t w' R r1 r2, doS l n ⟨op, a, b, x, y⟩ = (r1, r2) → St w (ownI 2 1 t r2.length (xC r2) :: lstE v r1 :: R) w' → QQ (.returned (.tuple #[v, t, .bool true])) w') := hid (fun h => HY.out (by rw [HOK.out, (rises_iff l).2 h]; have := HML.out; simp; omega))
    have HRes : Hid (∀ p, doS l n ⟨op, a, b, x, y⟩ = p → doS l n ⟨op, a, b, x, y⟩ = p) := hid (fun p h => h)
    clear HN HY HOK HRP HOp h0
    have hbe := fun W x y => buildE1 W x y
    have hb1 := fun W x => buildX1 W x
    have hb2 := fun W x y => buildX2 W x y
    go_enter Tryz.func23, Tryz.ntmps23
    go_wp2_with (first | simp only [e1, eM] | (go_at_call 25; refine (hB _).mono ?_; rintro e w2 ⟨rfl, k2⟩) | (go_at_call 12; refine (hR _).mono ?_; rintro e w2 ⟨rfl, rfl⟩))
    have HS2 := hid (e_nil (HS1.out.calm k2))
    clear HS1 c0 c1 c2 c3 c4 e1 k2 hR hB
    go_loopw [10, 11, 12] (fun v at0 i wr => ∃ (j : Nat) (av : Int), i = .int .i64 j ∧ j ≤ m ∧ at0 = .int .i64 av ∧ Rises (l.take j) ∧ AtI l j x op av ∧ St w [lstE v (l.take j), boxI M #[.int .i64 op, .int .i64 a, .int .i64 b, .int .i64 x, .int .i64 y] 45] wr) (fun _ _ i _ => m - (intOf i).toNat)
    case atStart => exact ⟨0, -1, rfl, Nat.zero_le _, rfl, by simp [Rises], atI_zero l x op, HS2.out⟩
    case round =>
      obtain ⟨j, av, rfl, hj, rfl, hri, hat, hs⟩ := hrel
      by_cases hlt : j < m
      · have hjl : j < l.length := by rw [← HML.out]; exact hlt
        obtain ⟨g, o, rfl⟩ := HX.out.addr (by omega)
        have s2 := hs.drew
        have s3 := s2.drew
        obtain ⟨f0, f1⟩ := (HX.out.kept s2.same).cells (j := j) hlt
        obtain ⟨g0, g1⟩ := (HX.out.kept s3.same).cells (j := j) hlt
        have d3 : wr.drew.drew.cell? ⟨M, 3, none⟩ = some (.int .i64 x) := s3.cell 1 rfl 3
        have d0 : wr.drew.drew.cell? ⟨M, 0, none⟩ = some (.int .i64 op) := s3.cell 1 rfl 0
        have htk := take_snocE hjl
        have hall : (l.take j).length ≤ 60 := by rw [List.length_take]; omega
        have HHit : Hid (op ≠ 5 → (l.getD j (0, 0)).1 = x → AtI l (j + 1) x op (j : Int)) := hid (fun ho e => atI_hit hat ho e)
        have HMiss : Hid ((op = 5 ∨ (l.getD j (0, 0)).1 ≠ x) → AtI l (j + 1) x op av) := hid (fun e => atI_miss hjl hat e)
        have HRis : Hid ((j = 0 ∨ ∃ q, j = q + 1 ∧ (l.getD q (0, 0)).1 < (l.getD j (0, 0)).1) → Rises (l.take (j + 1))) := hid (fun e => rises_snoc hjl hri e)
        have HFal : Hid (∀ q, j = q + 1 → ¬ (l.getD q (0, 0)).1 < (l.getD j (0, 0)).1 → risesP l = false) := hid (fun q hq h => by subst hq; exact rises_not hjl h)
        have HTk := hid htk
        have t2 : (j : Int) < (m : Int) := by omega
        have t3 : (0 : Int) ≤ (j : Int) := by omega
        have HJ := hid hlt
        have HS3 := hid s3
        have HS2' := hid s2
        have HAl := hid hall
        have HPrev : Hid (∀ q, j = q + 1 → wr.drew.cell? ⟨g, o + q * 2, none⟩ = some (.int .i64 (l.getD q (0, 0)).1)) := hid (fun q hq => ((HX.out.kept HS2'.out.same).cells (j := q) (by omega)).1)
        clear hs s2 s3 htk hall hat hri hj HS2
        generalize l.take j = acc at *
        generalize l.getD j (0, 0) = kv at *
        obtain ⟨ky, vl⟩ := kv
        simp only at f0 f1 g0 g1 HHit HMiss HRis HFal HTk
        have e4 := hid (ein_box HS3.out ky vl)
        have s4 := hid (e_under HS3.out ky vl)
        by_cases hz : j = 0
        · subst hz
          simp only [Nat.zero_mul, Nat.add_zero] at f0 f1 g0 g1
          have HR2 := hid (HRis.out (.inl rfl))
          clear HRis HFal HPrev
          by_cases hk : ky = x
          · by_cases ho : op = 5
            · have tk : (ky == x) = true := by simpa using hk
              have top : (op != 5) = false := by simpa using ho
              have HA2 := hid (HMiss.out (.inl ho))
              clear hk ho
              clear HHit HMiss
              go_upto_region 9 with fail
              go_region
              all_goals
                go_upto_region 11 with fail
                go_region
              all_goals
                go_wp2_with (first | simp only [hbe] | (at_builtin; refine wpList_appE_st s4.out rfl _ _ rfl rfl _ _ _ rfl e4.out (by simp) (by have := HAl.out; simp; omega) ?_; intro v5 w5 s5; have HS5 := hid (e_drop1 s5); clear s5))
                go_roundw
              case rel => exact ⟨0 + 1, av, by push_cast; rfl, HJ.out, rfl, HR2.out, HA2.out, by rw [HTk.out]; exact HS5.out⟩
              case measure => have := HJ.out; simp [intOf]; omega
            · have tk : (ky == x) = true := by simpa using hk
              have top : (op != 5) = true := by simpa using ho
              have HA2 := hid (HHit.out ho hk)
              clear hk ho
              clear HHit HMiss
              go_upto_region 9 with fail
              go_region
              all_goals
                go_upto_region 11 with fail
                go_region
              all_goals
                go_wp2_with (first | simp only [hbe] | (at_builtin; refine wpList_appE_st s4.out rfl _ _ rfl rfl _ _ _ rfl e4.out (by simp) (by have := HAl.out; simp; omega) ?_; intro v5 w5 s5; have HS5 := hid (e_drop1 s5); clear s5))
                go_roundw
              case rel => exact ⟨0 + 1, (0 : Nat), by push_cast; rfl, HJ.out, rfl, HR2.out, HA2.out, by rw [HTk.out]; exact HS5.out⟩
              case measure => have := HJ.out; simp [intOf]; omega
          · have tk : (ky == x) = false := by simpa using hk
            have HA2 := hid (HMiss.out (.inr hk))
            clear hk
            clear HHit HMiss
            go_upto_region 9 with fail
            go_region
            all_goals
              go_upto_region 11 with fail
              go_region
            all_goals
              go_wp2_with (first | simp only [hbe] | (at_builtin; refine wpList_appE_st s4.out rfl _ _ rfl rfl _ _ _ rfl e4.out (by simp) (by have := HAl.out; simp; omega) ?_; intro v5 w5 s5; have HS5 := hid (e_drop1 s5); clear s5))
              go_roundw
            case rel => exact ⟨0 + 1, av, by push_cast; rfl, HJ.out, rfl, HR2.out, HA2.out, by rw [HTk.out]; exact HS5.out⟩
            case measure => have := HJ.out; simp [intOf]; omega
        · obtain ⟨q, rfl⟩ : ∃ q, j = q + 1 := ⟨j - 1, by omega⟩
          have p0 := HPrev.out q rfl
          have t4 : (0 : Int) < ((q + 1 : Nat) : Int) := by omega
          have t5 : (q : Int) < (m : Int) := by omega
          have t6 : (0 : Int) ≤ (q : Int) := by omega
          have t7 : ((q + 1 : Nat) : Int) - 1 = (q : Int) := by omega
          have t8 : (q : Int) + 1 < (m : Int) := by omega
          by_cases hrs : (l.getD q (0, 0)).1 < ky
          · have HR2 := hid (HRis.out (.inr ⟨q, rfl, hrs⟩))
            have tr : decide (ky ≤ (l.getD q (0, 0)).1) = false := by rw [decide_eq_false_iff_not]; omega
            clear HRis HFal HPrev
            generalize (l.getD q (0, 0)).1 = pk at *
            clear hrs
            by_cases hk : ky = x
            · by_cases ho : op = 5
              · have tk : (ky == x) = true := by simpa using hk
                have top : (op != 5) = false := by simpa using ho
                have HA2 := hid (HMiss.out (.inl ho))
                clear hk ho
                clear HHit HMiss
                go_upto_region 9 with fail
                go_region
                all_goals
                  go_upto_region 11 with fail
                  go_region
                all_goals
                  go_wp2_with (first | simp only [hbe] | (at_builtin; refine wpList_appE_st s4.out rfl _ _ rfl rfl _ _ _ rfl e4.out (by simp) (by have := HAl.out; simp; omega) ?_; intro v5 w5 s5; have HS5 := hid (e_drop1 s5); clear s5))
                  go_roundw
                case rel => exact ⟨(q + 1) + 1, av, by push_cast; rfl, HJ.out, rfl, HR2.out, HA2.out, by rw [HTk.out]; exact HS5.out⟩
                case measure => have := HJ.out; simp [intOf]; omega
              · have tk : (ky == x) = true := by simpa using hk
                have top : (op != 5) = true := by simpa using ho
                have HA2 := hid (HHit.out ho hk)
                clear hk ho
                clear HHit HMiss
                go_upto_region 9 with fail
                go_region
                all_goals
                  go_upto_region 11 with fail
                  go_region
                all_goals
                  go_wp2_with (first | simp only [hbe] | (at_builtin; refine wpList_appE_st s4.out rfl _ _ rfl rfl _ _ _ rfl e4.out (by simp) (by have := HAl.out; simp; omega) ?_; intro v5 w5 s5; have HS5 := hid (e_drop1 s5); clear s5))
                  go_roundw
                case rel => exact ⟨(q + 1) + 1, ((q + 1) : Nat), by push_cast; rfl, HJ.out, rfl, HR2.out, HA2.out, by rw [HTk.out]; exact HS5.out⟩
                case measure => have := HJ.out; simp [intOf]; omega
            · have tk : (ky == x) = false := by simpa using hk
              have HA2 := hid (HMiss.out (.inr hk))
              clear hk
              clear HHit HMiss
              go_upto_region 9 with fail
              go_region
              all_goals
                go_upto_region 11 with fail
                go_region
              all_goals
                go_wp2_with (first | simp only [hbe] | (at_builtin; refine wpList_appE_st s4.out rfl _ _ rfl rfl _ _ _ rfl e4.out (by simp) (by have := HAl.out; simp; omega) ?_; intro v5 w5 s5; have HS5 := hid (e_drop1 s5); clear s5))
                go_roundw
              case rel => exact ⟨(q + 1) + 1, av, by push_cast; rfl, HJ.out, rfl, HR2.out, HA2.out, by rw [HTk.out]; exact HS5.out⟩
              case measure => have := HJ.out; simp [intOf]; omega
          · have tr : decide (ky ≤ (l.getD q (0, 0)).1) = true := by rw [decide_eq_true_eq]; omega
            have HQ := hid (HNo.out (HFal.out q rfl hrs) wr.drew HS2'.out.same)
            generalize (l.getD q (0, 0)).1 = pk at *
            clear hrs HRis HFal HPrev HHit HMiss HYes HNo
            go_upto_region 9 with fail
            go_region
            all_goals go_wp2
            all_goals go_ret3
            all_goals exact HQ.out
      · obtain rfl : j = m := by omega
        have hta : l.take j = l := List.take_of_length_le (by rw [← HML.out]; exact Nat.le_refl _)
        rw [hta] at hs hri
        have HRi := hid hri
        have HYs := hid (HYes.out hri)
        have HAt := hid hat
        have d0 : wr.cell? ⟨M, 0, none⟩ = some (.int .i64 op) := hs.cell 1 rfl 0
        have d3 : wr.cell? ⟨M, 3, none⟩ = some (.int .i64 x) := hs.cell 1 rfl 3
        have d4 : wr.cell? ⟨M, 4, none⟩ = some (.int .i64 y) := hs.cell 1 rfl 4
        have HSe := hid hs
        have t2 : ¬ (j : Int) < (j : Int) := by omega
        clear hs hri hat hta hj hlt HS2 HYes HNo
        have hAT : (av = -1 ∧ (op ≠ 5 → atP l x = none)) ∨ ∃ i : Nat, i < j ∧ av = (i : Int) ∧ (l.getD i (0, 0)).1 = x ∧ op ≠ 5 := by
          rcases HAt.out with ⟨h5, h⟩ | ⟨h5, ⟨h, hn⟩ | ⟨i, hi, hv, he⟩⟩
          · exact .inl ⟨h, fun e => absurd h5 e⟩
          · refine .inl ⟨h, fun _ => atP_of_none (fun p hp => hn p ?_)⟩
            rw [List.take_of_length_le (by rw [← HML.out]; exact Nat.le_refl _)]
            exact hp
          · exact .inr ⟨i, hi, hv, he, h5⟩
        have HOne : Hid (∀ z : Int, St w (ownI 2 1 (.slice (some ⟨wr.heap.size, 0, none⟩) 1 1) 1 (xC [z]) :: lstE u10 l :: [boxI M #[.int .i64 op, .int .i64 a, .int .i64 b, .int .i64 x, .int .i64 y] 45]) (wr.alloc (.cells #[.int .i64 z] 2))) := hid (fun z => one_own HSe.out z)
        rcases hAT with ⟨rfl, hno⟩ | ⟨i, hi, rfl, he, h5⟩
        · rcases hop with rfl | rfl | rfl | rfl | rfl
          · have hn0 := hno (by decide)
            by_cases hln : (j : Int) = n
            · have HQ := hid (HYs.out _ _ _ _ l [2] (by unfold doS; simp only [Int.reduceEq, if_false, hn0, if_true]; rw [if_pos (by rw [← HML.out]; exact hln)]) (HOne.out 2))
              have tn : ((j : Int) == n) = true := by simpa using hln
              clear hno hn0 hln HYs HAt HSe HOne
              go_wp2_with (first | simp only [hb1])
              go_ret3
              exact HQ.out
            · have tn : ((j : Int) == n) = false := by simpa using hln
              have hput := rput_any la j lc l x y wr (HX.out.kept HSe.out.same) (by omega)
              have HQ : Hid (∀ v6 w6, St wr [lstE v6 (lessP l x ++ [(x, y)] ++ moreP l x)] w6 → QQ (.returned (.tuple #[v6, .slice (some ⟨w6.heap.size, 0, none⟩) 1 1, .bool true])) (w6.alloc (.cells #[.int .i64 1] 2))) := hid (fun v6 w6 s6 => HYs.out _ _ _ [] (lessP l x ++ [(x, y)] ++ moreP l x) [1] (by unfold doS; simp only [Int.reduceEq, if_false, hn0, if_true]; rw [if_neg (by rw [← HML.out]; exact hln), ins_split HRi.out (atP_none hn0)]; simp) (one_own (s6.base HSe.out.same) 1))
              clear hno hn0 hln HYs HAt HSe HOne
              go_wp2_with (first | simp only [hb1] | (go_at_call 39; refine hput.mono ?_; rintro e w6 ⟨v6, rfl, s6⟩))
              go_ret3
              exact HQ.out _ _ s6
          · have hn0 := hno (by decide)
            have HQ := hid (HYs.out _ _ _ _ l [0] (by unfold doS; simp only [Int.reduceEq, if_false, hn0]) (HOne.out 0))
            clear hno hn0 HYs HAt HSe HOne
            go_wp2_with (first | simp only [hb1])
            go_ret3
            exact HQ.out
          · have hn0 := hno (by decide)
            have HQ := hid (HYs.out _ _ _ _ l [0] (by unfold doS; simp only [Int.reduceEq, if_false, hn0]) (HOne.out 0))
            clear hno hn0 HYs HAt HSe HOne
            go_wp2_with (first | simp only [hb1])
            go_ret3
            exact HQ.out
          · have hn0 := hno (by decide)
            have HQ := hid (HYs.out _ _ _ _ l [0] (by unfold doS; simp only [Int.reduceEq, if_false, hn0]) (HOne.out 0))
            clear hno hn0 HYs HAt HSe HOne
            go_wp2_with (first | simp only [hb1])
            go_ret3
            exact HQ.out
          · have HQ := hid (HYs.out _ _ _ _ l [(j : Int)] (by unfold doS; simp only [if_true]; rw [HML.out]) (HOne.out (j : Int)))
            clear hno HYs HAt HSe HOne
            go_wp2_with (first | simp only [hb1])
            go_ret3
            exact HQ.out
        · have hil : i < l.length := by rw [← HML.out]; exact hi
          have hx0 := at_idx HRi.out hil he
          have hts := turn_set HRi.out hil he
          have hlk := lack_idx HRi.out hil he
          have hes := fun y => eC_set l i hil y
          rw [he] at hes
          obtain ⟨g0, cap0, e0⟩ := HSe.out.form 0 rfl (by omega)
          subst e0
          have hlj : l.length = j := HML.out.symm
          have k1 : wr.cell? ⟨g0, i * 2 + 1, none⟩ = some (.int .i64 (l.getD i (0, 0)).2) := by rw [HSe.out.ownCell 0 rfl (i * 2 + 1) (by omega)]; exact (eC_at l i hil).2
          have k2 : wr.frozen? ⟨g0, i * 2 + 1, none⟩ = false := HSe.out.ownFrozen 0 rfl _
          have HSet : Hid (∀ z : Int, St w [lstE (.slice (some ⟨g0, 0, none⟩) l.length cap0) (l.set i (x, z)), boxI M #[.int .i64 op, .int .i64 a, .int .i64 b, .int .i64 x, .int .i64 y] 45] (wr.setCell ⟨g0, i * 2 + 1, none⟩ (.int .i64 z))) := hid (fun z => by
            have := HSe.out.ownSet 0 rfl (i * 2 + 1) (by omega) (.int .i64 z)
            rw [hes z] at this
            show St w (ownI 41 2 _ (l.set i (x, z)).length (eC (l.set i (x, z))) :: _) _
            rw [List.length_set]
            exact this)
          have q1 : (0 : Int) ≤ (i : Int) := by omega
          have q2 : (i : Int) < (l.length : Int) := by omega
          have q3 : ¬ (i : Int) < 0 := by omega
          generalize hvv : (l.getD i (0, 0)).2 = vv at *
          clear hvv
          have HLJ := hid hlj
          clear hlj
          rcases hop with rfl | rfl | rfl | rfl | rfl
          · have HQ : Hid (∀ W, St w [lstE (.slice (some ⟨g0, 0, none⟩) l.length cap0) (l.set i (x, y)), boxI M #[.int .i64 1, .int .i64 a, .int .i64 b, .int .i64 x, .int .i64 y] 45] W → QQ (.returned (.tuple #[.slice (some ⟨g0, 0, none⟩) l.length cap0, .slice (some ⟨W.heap.size, 0, none⟩) 1 1, .bool true])) (W.alloc (.cells #[.int .i64 0] 2))) := hid (fun W s => HYs.out _ _ _ _ (l.set i (x, y)) [0] (by unfold doS; simp only [Int.reduceEq, if_false, hx0, if_true, hts]) (one_own s 0))
            have HQ5 := HQ.out _ (HSet.out y)
            rw [size_setCell] at HQ5
            have HQ6 := hid HQ5
            clear HYs HAt HSe HOne HSet hx0 hts hlk hes he h5 HQ HQ5
            go_wp2_with (first | simp only [hb1])
            go_ret3
            exact HQ6.out
          · have sd := HSe.out.drew
            have kd1 : wr.drew.cell? ⟨g0, i * 2 + 1, none⟩ = some (.int .i64 vv) := k1
            have HQ : Hid (QQ (.returned (.tuple #[.slice (some ⟨g0, 0, none⟩) l.length cap0, .slice (some ⟨wr.drew.heap.size, 0, none⟩) 2 2, .bool true])) (wr.drew.alloc (.cells #[.int .i64 1, .int .i64 vv] 2))) := hid (HYs.out _ _ _ _ l [1, vv] (by unfold doS; simp only [Int.reduceEq, if_false, hx0]) (two_own sd 1 vv))
            have hbb := buildX2 wr.drew 1 vv
            clear HYs HAt HSe HOne HSet hx0 hts hlk hes he h5 sd
            go_upto_region 26 with fail
            go_region
            all_goals go_wp2
            all_goals go_ret3
            all_goals exact HQ.out
          · obtain ⟨gl, ol, rfl⟩ := HX.out.addr (by omega)
            have hs1 := sliceHeadE gl ol j lc i (by omega)
            obtain ⟨T2, hT2, hs2, hE2⟩ := sliceTailE gl ol j lc (i + 1) (by omega) hmc
            have hs3 : ∀ W, (Instr.slice 32 (.slice (some ⟨gl, ol, none⟩) j lc) (some (.int .i64 ((i : Int) + 1))) none none).run Tryz.prog W = .ok (.slice T2 (j - (i + 1)) (lc - (i + 1))) W := fun W => by have := hs2 W; push_cast at this; exact this
            clear hs2
            have HI1 : Hid (∀ W its, St w its W → EIn W (some ⟨gl, ol, none⟩) i (l.take i)) := hid (fun W its s => ein_head (HX.out.kept s.same) (by omega))
            have HI2 : Hid (∀ W its, St w its W → EIn W T2 (j - (i + 1)) (l.drop (i + 1))) := hid (fun W its s => hE2 W l (HX.out.kept s.same))
            have HT2 : Hid (T2 = none → j - (i + 1) = 0 ∧ lc - (i + 1) = 0) := hid (fun e => absurd e hT2)
            have hq1 : (i : Int) + 1 ≤ 9223372036854775807 := by omega
            have hwi : IntKind.i64.wrap ((i : Int) + 1) = (i : Int) + 1 := by rw [IntKind.wrap_i64]; omega
            have HLt : Hid ((l.take i).length ≤ 60 ∧ (l.drop (i + 1)).length ≤ 60) := hid (by have := HLJ.out; rw [List.length_take, List.length_drop]; omega)
            have hS0 := HSe.out
            have S1 := e_new hS0 [] (by unfold maxLen; simp)
            have S2 := (one_own S1 1).perm (List.Perm.swap _ _ _)
            have S3 := e_new (one_own hS0 1) [] (by unfold maxLen; simp)
            rw [alloc_size] at S2
            rw [alloc_size] at S3
            have HS1 := hid S1.drew
            have HS2 := hid S2.drew
            have HS3 := hid S3.drew
            have HQG : Hid (∀ v W R, St w (lstE v ([] ++ l.take i ++ l.drop (i + 1)) :: R) W → QQ (.returned (.tuple #[v, .slice (some ⟨W.heap.size, 0, none⟩) 1 1, .bool true])) (W.alloc (.cells #[.int .i64 1] 2))) := hid (fun v W R s => HYs.out _ _ _ R ([] ++ l.take i ++ l.drop (i + 1)) [1] (by unfold doS; simp [hx0, hlk]) (one_own s 1))
            have HQD : Hid (∀ v W R, St w (lstE v ([] ++ l.take i ++ l.drop (i + 1)) :: R) W → QQ (.returned (.tuple #[v, .slice (some ⟨W.heap.size, 0, none⟩) 1 1, .bool true])) (W.alloc (.cells #[.int .i64 1] 2)).drew) := hid (fun v W R s => HYs.out _ _ _ R ([] ++ l.take i ++ l.drop (i + 1)) [1] (by unfold doS; simp [hx0, hlk]) (one_own s 1).drew)
            have HQT : Hid (∀ v K W R, St w (lstE v ([] ++ l.take i ++ l.drop (i + 1)) :: ownI 2 1 (.slice (some ⟨K, 0, none⟩) 1 1) 1 (xC [1]) :: R) W → QQ (.returned (.tuple #[v, .slice (some ⟨K, 0, none⟩) 1 1, .bool true])) W) := hid (fun v K W R s => HYs.out _ _ _ R ([] ++ l.take i ++ l.drop (i + 1)) [1] (by unfold doS; simp [hx0, hlk]) (s.perm (List.Perm.swap _ _ _)))
            have hb0 := fun W => buildE0 W
            clear HYs HAt HSe HOne HSet hx0 hts hlk hes he h5 S1 S2 S3 hS0 hE2 hT2 k1 k2
            generalize l.take i = LA at *
            generalize l.drop (i + 1) = LB at *
            generalize j - (i + 1) = nb at *
            generalize lc - (i + 1) = cb at *
            go_upto_region 30 with fail
            go_region_law (first
              | (refine step_appE_st HS1.out (by rfl) (.tmp 157) (.tmp 160) (by rfl) (by rfl) (some ⟨gl, ol, none⟩) i lc (by rfl) (HI1.out _ _ HS1.out) (by simp) (by have := HLt.out; simp; omega) ?_; intro v4 w4 h4; have HA := hid h4; clear h4)
              | (refine step_appE_st HS2.out (by rfl) (.tmp 157) (.tmp 160) (by rfl) (by rfl) (some ⟨gl, ol, none⟩) i lc (by rfl) (HI1.out _ _ HS2.out) (by simp) (by have := HLt.out; simp; omega) ?_; intro v4 w4 h4; have HAB := hid h4; clear h4)
              | (refine step_appE_st HS3.out (by rfl) (.tmp 157) (.tmp 160) (by rfl) (by rfl) (some ⟨gl, ol, none⟩) i lc (by rfl) (HI1.out _ _ HS3.out) (by simp) (by have := HLt.out; simp; omega) ?_; intro v4 w4 h4; have HAB := hid h4; clear h4)
              | (refine step_appE_st HA.out (by rfl) (.tmp 161) (.tmp 165) (by rfl) (by rfl) T2 nb cb (by rfl) (HI2.out _ _ HA.out) HT2.out (by have := HLt.out; simp; omega) ?_; intro v6 w6 h6; have HG := hid h6; clear h6)
              | (refine step_appE_st HA.out.drew (by rfl) (.tmp 161) (.tmp 165) (by rfl) (by rfl) T2 nb cb (by rfl) (HI2.out _ _ HA.out.drew) HT2.out (by have := HLt.out; simp; omega) ?_; intro v6 w6 h6; have HG := hid h6; clear h6)
              | (refine step_appE_st ((one_own HA.out 1).perm (List.Perm.swap _ _ _)) (by rfl) (.tmp 161) (.tmp 165) (by rfl) (by rfl) T2 nb cb (by rfl) (HI2.out _ _ (one_own HA.out 1)) HT2.out (by have := HLt.out; simp; omega) ?_; intro v6 w6 h6; have HGT := hid h6; clear h6)
              | (refine step_appE_st ((one_own HA.out 1).perm (List.Perm.swap _ _ _)).drew (by rfl) (.tmp 161) (.tmp 165) (by rfl) (by rfl) T2 nb cb (by rfl) (HI2.out _ _ (one_own HA.out 1).drew) HT2.out (by have := HLt.out; simp; omega) ?_; intro v6 w6 h6; have HGT := hid h6; clear h6)
              | (refine step_appE_st HAB.out (by rfl) (.tmp 161) (.tmp 165) (by rfl) (by rfl) T2 nb cb (by rfl) (HI2.out _ _ HAB.out) HT2.out (by have := HLt.out; simp; omega) ?_; intro v6 w6 h6; have HGT := hid h6; clear h6)
              | (refine step_appE_st HAB.out.drew (by rfl) (.tmp 161) (.tmp 165) (by rfl) (by rfl) T2 nb cb (by rfl) (HI2.out _ _ HAB.out.drew) HT2.out (by have := HLt.out; simp; omega) ?_; intro v6 w6 h6; have HGT := hid h6; clear h6))
            all_goals
              go_wp2
              go_ret3
              first
              | exact HQT.out _ _ _ _ HGT.out
              | exact HQT.out _ _ _ _ HGT.out.drew
              | exact HQG.out _ _ _ HG.out
              | exact HQG.out _ _ _ HG.out.drew
              | exact HQD.out _ _ _ HG.out
          · have s5 := (HSet.out (wrap64 (vv + y))).drew
            have HQ : Hid (∀ W, St w [lstE (.slice (some ⟨g0, 0, none⟩) l.length cap0) (l.set i (x, wrap64 (vv + y))), boxI M #[.int .i64 4, .int .i64 a, .int .i64 b, .int .i64 x, .int .i64 y] 45] W → QQ (.returned (.tuple #[.slice (some ⟨g0, 0, none⟩) l.length cap0, .slice (some ⟨W.heap.size, 0, none⟩) 2 2, .bool true])) (W.alloc (.cells #[.int .i64 1, .int .i64 (wrap64 (vv + y))] 2))) := hid (fun W s => HYs.out _ _ _ _ (l.set i (x, wrap64 (vv + y))) [1, wrap64 (vv + y)] (by unfold doS; simp only [Int.reduceEq, if_false, hx0, if_true, hts]) (two_own s 1 _))
            have HCl : Hid (∀ W, St w [lstE (.slice (some ⟨g0, 0, none⟩) l.length cap0) (l.set i (x, wrap64 (vv + y))), boxI M #[.int .i64 4, .int .i64 a, .int .i64 b, .int .i64 x, .int .i64 y] 45] W → W.cell? ⟨g0, i * 2 + 1, none⟩ = some (.int .i64 (wrap64 (vv + y))) ∧ W.cell? ⟨M, 0, none⟩ = some (.int .i64 4)) := hid (fun W s => by
              have hl2 : i < (l.set i (x, wrap64 (vv + y))).length := by rw [List.length_set]; exact hil
              have s2 : St w [ownI 41 2 (.slice (some ⟨g0, 0, none⟩) l.length cap0) l.length (eC (l.set i (x, wrap64 (vv + y)))), boxI M #[.int .i64 4, .int .i64 a, .int .i64 b, .int .i64 x, .int .i64 y] 45] W := by
                have := s
                have e9 : (l.set i (x, wrap64 (vv + y))).length = l.length := List.length_set
                unfold lstE at this
                rw [e9] at this
                exact this
              refine ⟨?_, s.cell 1 rfl 0⟩
              rw [s2.ownCell 0 rfl (i * 2 + 1) (by omega), (eC_at _ i hl2).2]
              simp [List.getD_eq_getElem?_getD, hil])
            have HS5 := hid s5
            clear HYs HAt HSe HOne HSet hx0 hts hlk hes he h5 s5
            go_upto_region 28 with fail
            go_region
            all_goals
              generalize (wr.setCell ⟨g0, i * 2 + 1, none⟩ (.int .i64 (wrap64 (vv + y)))).drew = w5 at *
              obtain ⟨x1, x2⟩ := HCl.out w5.drew HS5.out.drew
              have HQ5 := hid (HQ.out w5.drew HS5.out.drew)
              have hbb := buildX2 w5.drew 1 (wrap64 (vv + y))
              clear k1 k2 HCl HQ HS5 d0 d3 d4
              generalize wrap64 (vv + y) = zz at *
              go_upto_region 29 with fail
              go_region
            all_goals go_wp2
            all_goals go_ret3
            all_goals exact HQ5.out
          · exact absurd rfl h5
end Go.Proofs.YtbpilhjomfkpaaaGreatDoor
