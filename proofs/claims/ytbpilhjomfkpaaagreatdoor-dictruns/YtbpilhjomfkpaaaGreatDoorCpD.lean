/- The document's Do. DictDoes, walked. Copied, pick; entries as arguments with both their ranges. -/
import Derived.Test.YtbpilhjomfkpaaaGreatDoorRdM
import Derived.Deep.RegionLaw
import Derived.Test.YtbpilhjomfkpaaaGreatDoorAr
import Derived.Test.YtbpilhjomfkpaaaGreatDoorLyD
import Derived.Test.YtbpilhjomfkpaaaGreatDoorDiF
import Derived.ProofKit
import Derived.Deep.Slices
import Derived.OpenShut
import Derived.SizedLaws
import Derived.WideKeyPair
namespace Go.Proofs.YtbpilhjomfkpaaaGreatDoor
open Go.RowKit
set_option linter.unusedVariables false
set_option linter.unusedSimpArgs false
attribute [local go_sem ↓] Go.wp_at_zero Go.wp_at_succ

/-- How the document's Do ends. -/
def rDoE (l : List Pr) (n : Int) (d : Dd) (w : World) (e : Ending) (w' : World) : Prop :=
  if okS l n d = true then ∃ v t, e = .returned (.tuple #[v, t, .bool true]) ∧ St w [ownI 2 1 t (doS l n d).2.length (xC (doS l n d).2), lstE v (doS l n d).1] w'
  else e = .returned (.tuple #[.slice none 0 0, .slice none 0 0, .bool false]) ∧ Kept (fun _ => False) w w'
theorem buildE0 (W : World) : (Instr.buildSlice 32 0 #[]).run Tryz.prog W = .ok (.slice (some ⟨W.heap.size, 0, none⟩) 0 0) (W.alloc (.cells #[] 41)) := by kernel_rfl
set_option maxRecDepth 100000 in
set_option maxHeartbeats 16000000 in
theorem rDo_any (la : Option Addr) (m lc : Nat) (l : List Pr) (n : Int) (d : Dd) (w : World) (hX : EIn w la m l) (hnil : la = none → m = 0 ∧ lc = 0) (hmc : m ≤ lc) : Calls Tryz.prog 23 #[.slice la m lc, .int .i64 n, d.val] w (rDoE l n d w) := by
  have hml := hX.1
  have hR := fun W => rRoom_any n W
  have hB := fun W => rMay_any n d W
  obtain ⟨op, a, b, x, y⟩ := d
  have s1 := (St.nil w).box #[.int .i64 op, .int .i64 a, .int .i64 b, .int .i64 x, .int .i64 y] 45
  have HN : Hid (okS l n ⟨op, a, b, x, y⟩ = false → ∀ w', Kept (fun _ => False) w w' → rDoE l n ⟨op, a, b, x, y⟩ w (.returned (.tuple #[.slice none 0 0, .slice none 0 0, .bool false])) w') := hid (fun h w' k => by
    unfold rDoE
    rw [if_neg (by rw [h]; decide)]
    exact ⟨rfl, k⟩)
  have HY : Hid (okS l n ⟨op, a, b, x, y⟩ = true → ∀ v t w' R r1 r2, doS l n ⟨op, a, b, x, y⟩ = (r1, r2) → St w (ownI 2 1 t r2.length (xC r2) :: lstE v r1 :: R) w' → rDoE l n ⟨op, a, b, x, y⟩ w (.returned (.tuple #[v, t, .bool true])) w') := hid (fun h v t w' R r1 r2 hr s => by
    unfold rDoE
    rw [if_pos h, hr]
    exact ⟨v, t, rfl, St.cut (A := [_, _]) (B := R) s⟩)
  unfold Dd.val at hB ⊢
  simp only at hB ⊢
  generalize hmay : mayS ⟨op, a, b, x, y⟩ = mm at *
  generalize e1 : w.alloc (.cells #[.int .i64 op, .int .i64 a, .int .i64 b, .int .i64 x, .int .i64 y] 45) = w1 at *
  generalize eM : w.heap.size = M at *
  have c0 : w1.cell? ⟨M, 0, none⟩ = some (.int .i64 op) := s1.cell 0 rfl 0
  have c1 : w1.cell? ⟨M, 1, none⟩ = some (.int .i64 a) := s1.cell 0 rfl 1
  have c2 : w1.cell? ⟨M, 2, none⟩ = some (.int .i64 b) := s1.cell 0 rfl 2
  have c3 : w1.cell? ⟨M, 3, none⟩ = some (.int .i64 x) := s1.cell 0 rfl 3
  have c4 : w1.cell? ⟨M, 4, none⟩ = some (.int .i64 y) := s1.cell 0 rfl 4
  have HS1 := hid s1
  have HX := hid hX
  have HML := hid hml
  have HNil := hid hnil
  have hr0 : 0 ≤ roomS n := (roomS_le n).2
  have HOK : Hid (okS l n ⟨op, a, b, x, y⟩ = (decide (0 < roomS n) && (decide ((l.length : Int) ≤ n) && (risesP l && mm)))) := hid (by unfold okS; rw [hmay])
  have HRP : Hid (0 < roomS n → n ≤ 60) := hid (fun h => (roomS_pos h).2.1)
  have HOp : Hid (mm = true → op = 1 ∨ op = 2 ∨ op = 3 ∨ op = 4 ∨ op = 5) := hid (fun h => may_op (d := ⟨op, a, b, x, y⟩) (by rw [hmay]; exact h))
  clear hX hml hnil s1 hmay
  generalize hQQ : rDoE l n ⟨op, a, b, x, y⟩ w = QQ at *
  clear hQQ
  generalize roomS n = r at *
  by_cases h0 : 0 < r
  case neg =>
    have hok : okS l n ⟨op, a, b, x, y⟩ = false := by rw [HOK.out]; simp [h0]
    have HQ := hid (HN.out hok)
    have t0 : (r == 0) = true := by simp; omega
    clear hok HOK HN HY h0 HRP
    go_enter Tryz.func23, Tryz.ntmps23
    go_wp2_with (first | simp only [e1, eM] | (go_at_call 25; refine (hB _).mono ?_; rintro e w2 ⟨rfl, k2⟩) | (go_at_call 12; refine (hR _).mono ?_; rintro e w' ⟨rfl, rfl⟩))
    go_ret3
    exact HQ.out _ (HS1.out.calm k2).same
  have t0 : (r == 0) = false := by simp; omega
  by_cases h1 : (m : Int) ≤ n
  case neg =>
    have hok : okS l n ⟨op, a, b, x, y⟩ = false := by rw [HOK.out]; have := HML.out; simp; omega
    have HQ := hid (HN.out hok)
    have t1 : decide (n < (m : Int)) = true := by simp; omega
    clear hok HOK HN HY h0 h1 HRP
    go_enter Tryz.func23, Tryz.ntmps23
    go_wp2_with (first | simp only [e1, eM] | (go_at_call 25; refine (hB _).mono ?_; rintro e w2 ⟨rfl, k2⟩) | (go_at_call 12; refine (hR _).mono ?_; rintro e w' ⟨rfl, rfl⟩))
    go_ret3
    exact HQ.out _ (HS1.out.calm k2).same
  have t1 : decide (n < (m : Int)) = false := by simp; omega
  cases mm with
  | false =>
    have hok : okS l n ⟨op, a, b, x, y⟩ = false := by rw [HOK.out]; simp
    have HQ := hid (HN.out hok)
    clear hok HOK HN HY h0 h1 HRP
    go_enter Tryz.func23, Tryz.ntmps23
    go_wp2_with (first | simp only [e1, eM] | (go_at_call 25; refine (hB _).mono ?_; rintro e w2 ⟨rfl, k2⟩) | (go_at_call 12; refine (hR _).mono ?_; rintro e w' ⟨rfl, rfl⟩))
    go_ret3
    exact HQ.out _ (HS1.out.calm k2).same
  | true =>
    have hn60 := HRP.out h0
    have hm6 : m ≤ 60 := by omega
    have hm6' : (m : Int) ≤ 60 := by omega
    have hop := HOp.out rfl
    have HNo : Hid (risesP l = false → ∀ w', Kept (fun _ => False) w w' → QQ (.returned (.tuple #[.slice none 0 0, .slice none 0 0, .bool false])) w') := hid (fun h w' k => HN.out (by rw [HOK.out, h]; simp) w' k)
    have HYes : Hid (Rises l → ∀ v t w' R r1 r2, doS l n ⟨op, a, b, x, y⟩ = (r1, r2) → St w (ownI 2 1 t r2.length (xC r2) :: lstE v r1 :: R) w' → QQ (.returned (.tuple #[v, t, .bool true])) w') := hid (fun h => HY.out (by rw [HOK.out, (rises_iff l).2 h]; have := HML.out; simp; omega))
    have HRes : Hid (∀ p, doS l n ⟨op, a, b, x, y⟩ = p → doS l n ⟨op, a, b, x, y⟩ = p) := hid (fun p h => h)
    clear HN HY HOK HRP HOp h0
    have hbe := fun W x y => buildE1 W x y
    have hb1 := fun W x => buildX1 W x
    have hb2 := fun W x y => buildX2 W x y
    go_enter Tryz.func23, Tryz.ntmps23
    go_wp2_with (first | simp only [e1, eM] | (go_at_call 25; refine (hB _).mono ?_; rintro e w2 ⟨rfl, k2⟩) | (go_at_call 12; refine (hR _).mono ?_; rintro e w2 ⟨rfl, rfl⟩))
    have HS2 := hid (e_nil (HS1.out.calm k2))
    clear HS1 c0 c1 c2 c3 c4 e1 k2 hR hB
    go_loopw [10, 11, 12] (fun v at0 i wr => ∃ (j : Nat) (av : Int), i = .int .i64 j ∧ j ≤ m ∧ at0 = .int .i64 av ∧ Rises (l.take j) ∧ AtI l j x op av ∧ St w [lstE v (l.take j), boxI M #[.int .i64 op, .int .i64 a, .int .i64 b, .int .i64 x, .int .i64 y] 45] wr) (fun _ _ i _ => m - (intOf i).toNat)
    case atStart => exact ⟨0, -1, rfl, Nat.zero_le _, rfl, by simp [Rises], atI_zero l x op, HS2.out⟩
    case round =>
      obtain ⟨j, av, rfl, hj, rfl, hri, hat, hs⟩ := hrel
      by_cases hlt : j < m
      · have hjl : j < l.length := by rw [← HML.out]; exact hlt
        obtain ⟨g, o, rfl⟩ := HX.out.addr (by omega)
        have s2 := hs.drew
        have s3 := s2.drew
        obtain ⟨f0, f1⟩ := (HX.out.kept s2.same).cells (j := j) hlt
        obtain ⟨g0, g1⟩ := (HX.out.kept s3.same).cells (j := j) hlt
        have d3 : wr.drew.drew.cell? ⟨M, 3, none⟩ = some (.int .i64 x) := s3.cell 1 rfl 3
        have d0 : wr.drew.drew.cell? ⟨M, 0, none⟩ = some (.int .i64 op) := s3.cell 1 rfl 0
        have htk := take_snocE hjl
        have hall : (l.take j).length ≤ 60 := by rw [List.length_take]; omega
        have HHit : Hid (op ≠ 5 → (l.getD j (0, 0)).1 = x → AtI l (j + 1) x op (j : Int)) := hid (fun ho e => atI_hit hat ho e)
        have HMiss : Hid ((op = 5 ∨ (l.getD j (0, 0)).1 ≠ x) → AtI l (j + 1) x op av) := hid (fun e => atI_miss hjl hat e)
        have HRis : Hid ((j = 0 ∨ ∃ q, j = q + 1 ∧ (l.getD q (0, 0)).1 < (l.getD j (0, 0)).1) → Rises (l.take (j + 1))) := hid (fun e => rises_snoc hjl hri e)
        have HFal : Hid (∀ q, j = q + 1 → ¬ (l.getD q (0, 0)).1 < (l.getD j (0, 0)).1 → risesP l = false) := hid (fun q hq h => by subst hq; exact rises_not hjl h)
        have HTk := hid htk
        have t2 : (j : Int) < (m : Int) := by omega
        have t3 : (0 : Int) ≤ (j : Int) := by omega
        have HJ := hid hlt
        have HS3 := hid s3
        have HS2' := hid s2
        have HAl := hid hall
        have HPrev : Hid (∀ q, j = q + 1 → wr.drew.cell? ⟨g, o + q * 2, none⟩ = some (.int .i64 (l.getD q (0, 0)).1)) := hid (fun q hq => ((HX.out.kept HS2'.out.same).cells (j := q) (by omega)).1)
        clear hs s2 s3 htk hall hat hri hj HS2
        generalize l.take j = acc at *
        generalize l.getD j (0, 0) = kv at *
        obtain ⟨ky, vl⟩ := kv
        simp only at f0 f1 g0 g1 HHit HMiss HRis HFal HTk
        have e4 := hid (ein_box HS3.out ky vl)
        have s4 := hid (e_under HS3.out ky vl)
        by_cases hz : j = 0
        · subst hz
          simp only [Nat.zero_mul, Nat.add_zero] at f0 f1 g0 g1
          have HR2 := hid (HRis.out (.inl rfl))
          clear HRis HFal HPrev
          by_cases hk : ky = x
          · by_cases ho : op = 5
            · have tk : (ky == x) = true := by simpa using hk
              have top : (op != 5) = false := by simpa using ho
              have HA2 := hid (HMiss.out (.inl ho))
              clear hk ho
              clear HHit HMiss
              go_upto_region 9 with fail
              go_region
              all_goals
                go_upto_region 11 with fail
                go_region
              all_goals
                go_wp2_with (first | simp only [hbe] | (at_builtin; refine wpList_appE_st s4.out rfl _ _ rfl rfl _ _ _ rfl e4.out (by simp) (by have := HAl.out; simp; omega) ?_; intro v5 w5 s5; have HS5 := hid (e_drop1 s5); clear s5))
                go_roundw
              case rel => exact ⟨0 + 1, av, by push_cast; rfl, HJ.out, rfl, HR2.out, HA2.out, by rw [HTk.out]; exact HS5.out⟩
              case measure => have := HJ.out; simp [intOf]; omega
            · have tk : (ky == x) = true := by simpa using hk
              have top : (op != 5) = true := by simpa using ho
              have HA2 := hid (HHit.out ho hk)
              clear hk ho
              clear HHit HMiss
              go_upto_region 9 with fail
              go_region
              all_goals
                go_upto_region 11 with fail
                go_region
              all_goals
                go_wp2_with (first | simp only [hbe] | (at_builtin; refine wpList_appE_st s4.out rfl _ _ rfl rfl _ _ _ rfl e4.out (by simp) (by have := HAl.out; simp; omega) ?_; intro v5 w5 s5; have HS5 := hid (e_drop1 s5); clear s5))
                go_roundw
              case rel => exact ⟨0 + 1, (0 : Nat), by push_cast; rfl, HJ.out, rfl, HR2.out, HA2.out, by rw [HTk.out]; exact HS5.out⟩
              case measure => have := HJ.out; simp [intOf]; omega
          · have tk : (ky == x) = false := by simpa using hk
            have HA2 := hid (HMiss.out (.inr hk))
            clear hk
            clear HHit HMiss
            go_upto_region 9 with fail
            go_region
            all_goals
              go_upto_region 11 with fail
              go_region
            all_goals
              go_wp2_with (first | simp only [hbe] | (at_builtin; refine wpList_appE_st s4.out rfl _ _ rfl rfl _ _ _ rfl e4.out (by simp) (by have := HAl.out; simp; omega) ?_; intro v5 w5 s5; have HS5 := hid (e_drop1 s5); clear s5))
              go_roundw
            case rel => exact ⟨0 + 1, av, by push_cast; rfl, HJ.out, rfl, HR2.out, HA2.out, by rw [HTk.out]; exact HS5.out⟩
            case measure => have := HJ.out; simp [intOf]; omega
        · obtain ⟨q, rfl⟩ : ∃ q, j = q + 1 := ⟨j - 1, by omega⟩
          have p0 := HPrev.out q rfl
          have t4 : (0 : Int) < ((q + 1 : Nat) : Int) := by omega
          have t5 : (q : Int) < (m : Int) := by omega
          have t6 : (0 : Int) ≤ (q : Int) := by omega
          have t7 : ((q + 1 : Nat) : Int) - 1 = (q : Int) := by omega
          have t8 : (q : Int) + 1 < (m : Int) := by omega
          by_cases hrs : (l.getD q (0, 0)).1 < ky
          · have HR2 := hid (HRis.out (.inr ⟨q, rfl, hrs⟩))
            have tr : decide (ky ≤ (l.getD q (0, 0)).1) = false := by rw [decide_eq_false_iff_not]; omega
            clear HRis HFal HPrev
            generalize (l.getD q (0, 0)).1 = pk at *
            clear hrs
            by_cases hk : ky = x
            · by_cases ho : op = 5
              · have tk : (ky == x) = true := by simpa using hk
                have top : (op != 5) = false := by simpa using ho
                have HA2 := hid (HMiss.out (.inl ho))
                clear hk ho
                clear HHit HMiss
                go_upto_region 9 with fail
                go_region
                all_goals
                  go_upto_region 11 with fail
                  go_region
                all_goals
                  go_wp2_with (first | simp only [hbe] | (at_builtin; refine wpList_appE_st s4.out rfl _ _ rfl rfl _ _ _ rfl e4.out (by simp) (by have := HAl.out; simp; omega) ?_; intro v5 w5 s5; have HS5 := hid (e_drop1 s5); clear s5))
                  go_roundw
                case rel => exact ⟨(q + 1) + 1, av, by push_cast; rfl, HJ.out, rfl, HR2.out, HA2.out, by rw [HTk.out]; exact HS5.out⟩
                case measure => have := HJ.out; simp [intOf]; omega
              · have tk : (ky == x) = true := by simpa using hk
                have top : (op != 5) = true := by simpa using ho
                have HA2 := hid (HHit.out ho hk)
                clear hk ho
                clear HHit HMiss
                go_upto_region 9 with fail
                go_region
                all_goals
                  go_upto_region 11 with fail
                  go_region
                all_goals
                  go_wp2_with (first | simp only [hbe] | (at_builtin; refine wpList_appE_st s4.out rfl _ _ rfl rfl _ _ _ rfl e4.out (by simp) (by have := HAl.out; simp; omega) ?_; intro v5 w5 s5; have HS5 := hid (e_drop1 s5); clear s5))
                  go_roundw
                case rel => exact ⟨(q + 1) + 1, ((q + 1) : Nat), by push_cast; rfl, HJ.out, rfl, HR2.out, HA2.out, by rw [HTk.out]; exact HS5.out⟩
                case measure => have := HJ.out; simp [intOf]; omega
            · have tk : (ky == x) = false := by simpa using hk
              have HA2 := hid (HMiss.out (.inr hk))
              clear hk
              clear HHit HMiss
              go_upto_region 9 with fail
              go_region
              all_goals
                go_upto_region 11 with fail
                go_region
              all_goals
                go_wp2_with (first | simp only [hbe] | (at_builtin; refine wpList_appE_st s4.out rfl _ _ rfl rfl _ _ _ rfl e4.out (by simp) (by have := HAl.out; simp; omega) ?_; intro v5 w5 s5; have HS5 := hid (e_drop1 s5); clear s5))
                go_roundw
              case rel => exact ⟨(q + 1) + 1, av, by push_cast; rfl, HJ.out, rfl, HR2.out, HA2.out, by rw [HTk.out]; exact HS5.out⟩
              case measure => have := HJ.out; simp [intOf]; omega
          · have tr : decide (ky ≤ (l.getD q (0, 0)).1) = true := by rw [decide_eq_true_eq]; omega
            have HQ := hid (HNo.out (HFal.out q rfl hrs) wr.drew HS2'.out.same)
            generalize (l.getD q (0, 0)).1 = pk at *
            clear hrs HRis HFal HPrev HHit HMiss HYes HNo
            go_upto_region 9 with fail
            go_region
            all_goals go_wp2
            all_goals go_ret3
            all_goals exact HQ.out
      · obtain rfl : j = m := by omega
        have hta : l.take j = l := List.take_of_length_le (by rw [← HML.out]; exact Nat.le_refl _)
        rw [hta] at hs hri
        have HRi := hid hri
        have HYs := hid (HYes.out hri)
        have HAt := hid hat
        have d0 : wr.cell? ⟨M, 0, none⟩ = some (.int .i64 op) := hs.cell 1 rfl 0
        have d3 : wr.cell? ⟨M, 3, none⟩ = some (.int .i64 x) := hs.cell 1 rfl 3
        have d4 : wr.cell? ⟨M, 4, none⟩ = some (.int .i64 y) := hs.cell 1 rfl 4
        have HSe := hid hs
        have t2 : ¬ (j : Int) < (j : Int) := by omega
        clear hs hri hat hta hj hlt HS2 HYes HNo
        have hAT : (av = -1 ∧ (op ≠ 5 → atP l x = none)) ∨ ∃ i : Nat, i < j ∧ av = (i : Int) ∧ (l.getD i (0, 0)).1 = x ∧ op ≠ 5 := by
          rcases HAt.out with ⟨h5, h⟩ | ⟨h5, ⟨h, hn⟩ | ⟨i, hi, hv, he⟩⟩
          · exact .inl ⟨h, fun e => absurd h5 e⟩
          · refine .inl ⟨h, fun _ => atP_of_none (fun p hp => hn p ?_)⟩
            rw [List.take_of_length_le (by rw [← HML.out]; exact Nat.le_refl _)]
            exact hp
          · exact .inr ⟨i, hi, hv, he, h5⟩
        have HOne : Hid (∀ z : Int, St w (ownI 2 1 (.slice (some ⟨wr.heap.size, 0, none⟩) 1 1) 1 (xC [z]) :: lstE u10 l :: [boxI M #[.int .i64 op, .int .i64 a, .int .i64 b, .int .i64 x, .int .i64 y] 45]) (wr.alloc (.cells #[.int .i64 z] 2))) := hid (fun z => one_own HSe.out z)
        rcases hAT with ⟨rfl, hno⟩ | ⟨i, hi, rfl, he, h5⟩
        · rcases hop with rfl | rfl | rfl | rfl | rfl
          · have hn0 := hno (by decide)
            by_cases hln : (j : Int) = n
            · have HQ := hid (HYs.out _ _ _ _ l [2] (by unfold doS; simp only [Int.reduceEq, if_false, hn0, if_true]; rw [if_pos (by rw [← HML.out]; exact hln)]) (HOne.out 2))
              have tn : ((j : Int) == n) = true := by simpa using hln
              clear hno hn0 hln HYs HAt HSe HOne
              go_wp2_with (first | simp only [hb1])
              go_ret3
              exact HQ.out
            · have tn : ((j : Int) == n) = false := by simpa using hln
              have hput := rput_any la j lc l x y wr (HX.out.kept HSe.out.same) (by omega)
              have HQ : Hid (∀ v6 w6, St wr [lstE v6 (lessP l x ++ [(x, y)] ++ moreP l x)] w6 → QQ (.returned (.tuple #[v6, .slice (some ⟨w6.heap.size, 0, none⟩) 1 1, .bool true])) (w6.alloc (.cells #[.int .i64 1] 2))) := hid (fun v6 w6 s6 => HYs.out _ _ _ [] (lessP l x ++ [(x, y)] ++ moreP l x) [1] (by unfold doS; simp only [Int.reduceEq, if_false, hn0, if_true]; rw [if_neg (by rw [← HML.out]; exact hln), ins_split HRi.out (atP_none hn0)]; simp) (one_own (s6.base HSe.out.same) 1))
              clear hno hn0 hln HYs HAt HSe HOne
              go_wp2_with (first | simp only [hb1] | (go_at_call 39; refine hput.mono ?_; rintro e w6 ⟨v6, rfl, s6⟩))
              go_ret3
              exact HQ.out _ _ s6
          · have hn0 := hno (by decide)
            have HQ := hid (HYs.out _ _ _ _ l [0] (by unfold doS; simp only [Int.reduceEq, if_false, hn0]) (HOne.out 0))
            clear hno hn0 HYs HAt HSe HOne
            go_wp2_with (first | simp only [hb1])
            go_ret3
            exact HQ.out
          · have hn0 := hno (by decide)
            have HQ := hid (HYs.out _ _ _ _ l [0] (by unfold doS; simp only [Int.reduceEq, if_false, hn0]) (HOne.out 0))
            clear hno hn0 HYs HAt HSe HOne
            go_wp2_with (first | simp only [hb1])
            go_ret3
            exact HQ.out
          · have hn0 := hno (by decide)
            have HQ := hid (HYs.out _ _ _ _ l [0] (by unfold doS; simp only [Int.reduceEq, if_false, hn0]) (HOne.out 0))
            clear hno hn0 HYs HAt HSe HOne
            go_wp2_with (first | simp only [hb1])
            go_ret3
            exact HQ.out
          · have HQ := hid (HYs.out _ _ _ _ l [(j : Int)] (by unfold doS; simp only [if_true]; rw [HML.out]) (HOne.out (j : Int)))
            clear hno HYs HAt HSe HOne
            go_wp2_with (first | simp only [hb1])
            go_ret3
            exact HQ.out
        · have hil : i < l.length := by rw [← HML.out]; exact hi
          have hx0 := at_idx HRi.out hil he
          have hts := turn_set HRi.out hil he
          have hlk := lack_idx HRi.out hil he
          have hes := fun y => eC_set l i hil y
          rw [he] at hes
          obtain ⟨g0, cap0, e0⟩ := HSe.out.form 0 rfl (by omega)
          subst e0
          have hlj : l.length = j := HML.out.symm
          have k1 : wr.cell? ⟨g0, i * 2 + 1, none⟩ = some (.int .i64 (l.getD i (0, 0)).2) := by rw [HSe.out.ownCell 0 rfl (i * 2 + 1) (by omega)]; exact (eC_at l i hil).2
          have k2 : wr.frozen? ⟨g0, i * 2 + 1, none⟩ = false := HSe.out.ownFrozen 0 rfl _
          have HSet : Hid (∀ z : Int, St w [lstE (.slice (some ⟨g0, 0, none⟩) l.length cap0) (l.set i (x, z)), boxI M #[.int .i64 op, .int .i64 a, .int .i64 b, .int .i64 x, .int .i64 y] 45] (wr.setCell ⟨g0, i * 2 + 1, none⟩ (.int .i64 z))) := hid (fun z => by
            have := HSe.out.ownSet 0 rfl (i * 2 + 1) (by omega) (.int .i64 z)
            rw [hes z] at this
            show St w (ownI 41 2 _ (l.set i (x, z)).length (eC (l.set i (x, z))) :: _) _
            rw [List.length_set]
            exact this)
          have q1 : (0 : Int) ≤ (i : Int) := by omega
          have q2 : (i : Int) < (l.length : Int) := by omega
          have q3 : ¬ (i : Int) < 0 := by omega
          generalize hvv : (l.getD i (0, 0)).2 = vv at *
          clear hvv
          have HLJ := hid hlj
          clear hlj
          rcases hop with rfl | rfl | rfl | rfl | rfl
          · have HQ : Hid (∀ W, St w [lstE (.slice (some ⟨g0, 0, none⟩) l.length cap0) (l.set i (x, y)), boxI M #[.int .i64 1, .int .i64 a, .int .i64 b, .int .i64 x, .int .i64 y] 45] W → QQ (.returned (.tuple #[.slice (some ⟨g0, 0, none⟩) l.length cap0, .slice (some ⟨W.heap.size, 0, none⟩) 1 1, .bool true])) (W.alloc (.cells #[.int .i64 0] 2))) := hid (fun W s => HYs.out _ _ _ _ (l.set i (x, y)) [0] (by unfold doS; simp only [Int.reduceEq, if_false, hx0, if_true, hts]) (one_own s 0))
            have HQ5 := HQ.out _ (HSet.out y)
            rw [size_setCell] at HQ5
            have HQ6 := hid HQ5
            clear HYs HAt HSe HOne HSet hx0 hts hlk hes he h5 HQ HQ5
            go_wp2_with (first | simp only [hb1])
            go_ret3
            exact HQ6.out
          · have sd := HSe.out.drew
            have kd1 : wr.drew.cell? ⟨g0, i * 2 + 1, none⟩ = some (.int .i64 vv) := k1
            have HQ : Hid (QQ (.returned (.tuple #[.slice (some ⟨g0, 0, none⟩) l.length cap0, .slice (some ⟨wr.drew.heap.size, 0, none⟩) 2 2, .bool true])) (wr.drew.alloc (.cells #[.int .i64 1, .int .i64 vv] 2))) := hid (HYs.out _ _ _ _ l [1, vv] (by unfold doS; simp only [Int.reduceEq, if_false, hx0]) (two_own sd 1 vv))
            have hbb := buildX2 wr.drew 1 vv
            clear HYs HAt HSe HOne HSet hx0 hts hlk hes he h5 sd
            go_upto_region 26 with fail
            go_region
            all_goals go_wp2
            all_goals go_ret3
            all_goals exact HQ.out
          · obtain ⟨gl, ol, rfl⟩ := HX.out.addr (by omega)
            have hs1 := sliceHeadE gl ol j lc i (by omega)
            obtain ⟨T2, hT2, hs2, hE2⟩ := sliceTailE gl ol j lc (i + 1) (by omega) hmc
            have hs3 : ∀ W, (Instr.slice 32 (.slice (some ⟨gl, ol, none⟩) j lc) (some (.int .i64 ((i : Int) + 1))) none none).run Tryz.prog W = .ok (.slice T2 (j - (i + 1)) (lc - (i + 1))) W := fun W => by have := hs2 W; push_cast at this; exact this
            clear hs2
            have HI1 : Hid (∀ W its, St w its W → EIn W (some ⟨gl, ol, none⟩) i (l.take i)) := hid (fun W its s => ein_head (HX.out.kept s.same) (by omega))
            have HI2 : Hid (∀ W its, St w its W → EIn W T2 (j - (i + 1)) (l.drop (i + 1))) := hid (fun W its s => hE2 W l (HX.out.kept s.same))
            have HT2 : Hid (T2 = none → j - (i + 1) = 0 ∧ lc - (i + 1) = 0) := hid (fun e => absurd e hT2)
            have hq1 : (i : Int) + 1 ≤ 9223372036854775807 := by omega
            have hwi : IntKind.i64.wrap ((i : Int) + 1) = (i : Int) + 1 := by rw [IntKind.wrap_i64]; omega
            have HLt : Hid ((l.take i).length ≤ 60 ∧ (l.drop (i + 1)).length ≤ 60) := hid (by have := HLJ.out; rw [List.length_take, List.length_drop]; omega)
            have hS0 := HSe.out
            have S1 := e_new hS0 [] (by unfold maxLen; simp)
            have S2 := (one_own S1 1).perm (List.Perm.swap _ _ _)
            have S3 := e_new (one_own hS0 1) [] (by unfold maxLen; simp)
            rw [alloc_size] at S2
            rw [alloc_size] at S3
            have HS1 := hid S1.drew
            have HS2 := hid S2.drew
            have HS3 := hid S3.drew
            have HQG : Hid (∀ v W R, St w (lstE v ([] ++ l.take i ++ l.drop (i + 1)) :: R) W → QQ (.returned (.tuple #[v, .slice (some ⟨W.heap.size, 0, none⟩) 1 1, .bool true])) (W.alloc (.cells #[.int .i64 1] 2))) := hid (fun v W R s => HYs.out _ _ _ R ([] ++ l.take i ++ l.drop (i + 1)) [1] (by unfold doS; simp [hx0, hlk]) (one_own s 1))
            have HQD : Hid (∀ v W R, St w (lstE v ([] ++ l.take i ++ l.drop (i + 1)) :: R) W → QQ (.returned (.tuple #[v, .slice (some ⟨W.heap.size, 0, none⟩) 1 1, .bool true])) (W.alloc (.cells #[.int .i64 1] 2)).drew) := hid (fun v W R s => HYs.out _ _ _ R ([] ++ l.take i ++ l.drop (i + 1)) [1] (by unfold doS; simp [hx0, hlk]) (one_own s 1).drew)
            have HQT : Hid (∀ v K W R, St w (lstE v ([] ++ l.take i ++ l.drop (i + 1)) :: ownI 2 1 (.slice (some ⟨K, 0, none⟩) 1 1) 1 (xC [1]) :: R) W → QQ (.returned (.tuple #[v, .slice (some ⟨K, 0, none⟩) 1 1, .bool true])) W) := hid (fun v K W R s => HYs.out _ _ _ R ([] ++ l.take i ++ l.drop (i + 1)) [1] (by unfold doS; simp [hx0, hlk]) (s.perm (List.Perm.swap _ _ _)))
            have hb0 := fun W => buildE0 W
            clear HYs HAt HSe HOne HSet hx0 hts hlk hes he h5 S1 S2 S3 hS0 hE2 hT2 k1 k2
            generalize l.take i = LA at *
            generalize l.drop (i + 1) = LB at *
            generalize j - (i + 1) = nb at *
            generalize lc - (i + 1) = cb at *
            go_upto_region 30 with fail
            go_region_law (first
              | (refine step_appE_st HS1.out (by rfl) (.tmp 157) (.tmp 160) (by rfl) (by rfl) (some ⟨gl, ol, none⟩) i lc (by rfl) (HI1.out _ _ HS1.out) (by simp) (by have := HLt.out; simp; omega) ?_; intro v4 w4 h4; have HA := hid h4; clear h4)
              | (refine step_appE_st HS2.out (by rfl) (.tmp 157) (.tmp 160) (by rfl) (by rfl) (some ⟨gl, ol, none⟩) i lc (by rfl) (HI1.out _ _ HS2.out) (by simp) (by have := HLt.out; simp; omega) ?_; intro v4 w4 h4; have HAB := hid h4; clear h4)
              | (refine step_appE_st HS3.out (by rfl) (.tmp 157) (.tmp 160) (by rfl) (by rfl) (some ⟨gl, ol, none⟩) i lc (by rfl) (HI1.out _ _ HS3.out) (by simp) (by have := HLt.out; simp; omega) ?_; intro v4 w4 h4; have HAB := hid h4; clear h4)
              | (refine step_appE_st HA.out (by rfl) (.tmp 161) (.tmp 165) (by rfl) (by rfl) T2 nb cb (by rfl) (HI2.out _ _ HA.out) HT2.out (by have := HLt.out; simp; omega) ?_; intro v6 w6 h6; have HG := hid h6; clear h6)
              | (refine step_appE_st HA.out.drew (by rfl) (.tmp 161) (.tmp 165) (by rfl) (by rfl) T2 nb cb (by rfl) (HI2.out _ _ HA.out.drew) HT2.out (by have := HLt.out; simp; omega) ?_; intro v6 w6 h6; have HG := hid h6; clear h6)
              | (refine step_appE_st ((one_own HA.out 1).perm (List.Perm.swap _ _ _)) (by rfl) (.tmp 161) (.tmp 165) (by rfl) (by rfl) T2 nb cb (by rfl) (HI2.out _ _ (one_own HA.out 1)) HT2.out (by have := HLt.out; simp; omega) ?_; intro v6 w6 h6; have HGT := hid h6; clear h6)
              | (refine step_appE_st ((one_own HA.out 1).perm (List.Perm.swap _ _ _)).drew (by rfl) (.tmp 161) (.tmp 165) (by rfl) (by rfl) T2 nb cb (by rfl) (HI2.out _ _ (one_own HA.out 1).drew) HT2.out (by have := HLt.out; simp; omega) ?_; intro v6 w6 h6; have HGT := hid h6; clear h6)
              | (refine step_appE_st HAB.out (by rfl) (.tmp 161) (.tmp 165) (by rfl) (by rfl) T2 nb cb (by rfl) (HI2.out _ _ HAB.out) HT2.out (by have := HLt.out; simp; omega) ?_; intro v6 w6 h6; have HGT := hid h6; clear h6)
              | (refine step_appE_st HAB.out.drew (by rfl) (.tmp 161) (.tmp 165) (by rfl) (by rfl) T2 nb cb (by rfl) (HI2.out _ _ HAB.out.drew) HT2.out (by have := HLt.out; simp; omega) ?_; intro v6 w6 h6; have HGT := hid h6; clear h6))
            all_goals
              go_wp2
              go_ret3
              first
              | exact HQT.out _ _ _ _ HGT.out
              | exact HQT.out _ _ _ _ HGT.out.drew
              | exact HQG.out _ _ _ HG.out
              | exact HQG.out _ _ _ HG.out.drew
              | exact HQD.out _ _ _ HG.out
          · have s5 := (HSet.out (wrap64 (vv + y))).drew
            have HQ : Hid (∀ W, St w [lstE (.slice (some ⟨g0, 0, none⟩) l.length cap0) (l.set i (x, wrap64 (vv + y))), boxI M #[.int .i64 4, .int .i64 a, .int .i64 b, .int .i64 x, .int .i64 y] 45] W → QQ (.returned (.tuple #[.slice (some ⟨g0, 0, none⟩) l.length cap0, .slice (some ⟨W.heap.size, 0, none⟩) 2 2, .bool true])) (W.alloc (.cells #[.int .i64 1, .int .i64 (wrap64 (vv + y))] 2))) := hid (fun W s => HYs.out _ _ _ _ (l.set i (x, wrap64 (vv + y))) [1, wrap64 (vv + y)] (by unfold doS; simp only [Int.reduceEq, if_false, hx0, if_true, hts]) (two_own s 1 _))
            have HCl : Hid (∀ W, St w [lstE (.slice (some ⟨g0, 0, none⟩) l.length cap0) (l.set i (x, wrap64 (vv + y))), boxI M #[.int .i64 4, .int .i64 a, .int .i64 b, .int .i64 x, .int .i64 y] 45] W → W.cell? ⟨g0, i * 2 + 1, none⟩ = some (.int .i64 (wrap64 (vv + y))) ∧ W.cell? ⟨M, 0, none⟩ = some (.int .i64 4)) := hid (fun W s => by
              have hl2 : i < (l.set i (x, wrap64 (vv + y))).length := by rw [List.length_set]; exact hil
              have s2 : St w [ownI 41 2 (.slice (some ⟨g0, 0, none⟩) l.length cap0) l.length (eC (l.set i (x, wrap64 (vv + y)))), boxI M #[.int .i64 4, .int .i64 a, .int .i64 b, .int .i64 x, .int .i64 y] 45] W := by
                have := s
                have e9 : (l.set i (x, wrap64 (vv + y))).length = l.length := List.length_set
                unfold lstE at this
                rw [e9] at this
                exact this
              refine ⟨?_, s.cell 1 rfl 0⟩
              rw [s2.ownCell 0 rfl (i * 2 + 1) (by omega), (eC_at _ i hl2).2]
              simp [List.getD_eq_getElem?_getD, hil])
            have HS5 := hid s5
            clear HYs HAt HSe HOne HSet hx0 hts hlk hes he h5 s5
            go_upto_region 28 with fail
            go_region
            all_goals
              generalize (wr.setCell ⟨g0, i * 2 + 1, none⟩ (.int .i64 (wrap64 (vv + y)))).drew = w5 at *
              obtain ⟨x1, x2⟩ := HCl.out w5.drew HS5.out.drew
              have HQ5 := hid (HQ.out w5.drew HS5.out.drew)
              have hbb := buildX2 w5.drew 1 (wrap64 (vv + y))
              clear k1 k2 HCl HQ HS5 d0 d3 d4
              generalize wrap64 (vv + y) = zz at *
              go_upto_region 29 with fail
              go_region
            all_goals go_wp2
            all_goals go_ret3
            all_goals exact HQ5.out
          · exact absurd rfl h5
end Go.Proofs.YtbpilhjomfkpaaaGreatDoor

namespace Go.Proofs.YtbpilhjomfkpaaaGreatDoor
open Go.RowKit
set_option linter.unusedVariables false
set_option linter.unusedSimpArgs false
attribute [local go_sem ↓] Go.wp_at_zero Go.wp_at_succ

theorem St.join {o w2 w3 : World} {A B : List It} (a : St o A w2) (b : St w2 B w3) : St o (B ++ A) w3 := by
  have a' := a.calm b.same
  refine ⟨?_, ?_, ?_, a'.kept⟩
  · rw [List.flatMap_append, List.nodup_append]
    refine ⟨b.nodup, a.nodup, fun x hx y hy e => ?_⟩
    subst e
    obtain ⟨i, hi, hxi⟩ := List.mem_flatMap.1 hx
    obtain ⟨j, hj, hxj⟩ := List.mem_flatMap.1 hy
    have h1 := b.high i hi x hxi
    have h2 := j.old w2 (a.all j hj) x hxj
    omega
  · intro i hi
    rcases List.mem_append.1 hi with hi | hi
    · exact b.all i hi
    · exact a'.all i hi
  · intro i hi k hk
    rcases List.mem_append.1 hi with hi | hi
    · exact Nat.le_trans a.le (b.high i hi k hk)
    · exact a.high i hi k hk
theorem told_len (l : List Pr) (n : Int) (d : Dd) : (doS l n d).2.length ≤ 2 := by
  unfold doS
  repeat' split
  all_goals simp
theorem st_xinD {o0 w : World} {its : List It} {la : Option Addr} {n lc : Nat} {zs : List Int} (h : St o0 its w) (i : Nat) (hi : its[i]? = some (ownI 2 1 (.slice la n lc) n (xC zs))) (hn : n = zs.length) : XIn w la n zs := by
  subst hn
  obtain ⟨la', lc', e, hx, _⟩ := own_xin (show w.ownsRow 0 2 1 (.slice la zs.length lc) zs.length (xC zs) from h.get i hi)
  simp only [Value.slice.injEq] at e
  obtain ⟨rfl, _, rfl⟩ := e
  exact hx
set_option maxRecDepth 100000 in
set_option maxHeartbeats 4000000 in
theorem does_walk (la : Option Addr) (m lc : Nat) (l : List Pr) (n : Int) (d : Dd) (w : World) (hE : Env w) (hC : CameE w la m lc l) (hdx : Rg d.x) : Calls Tryz.prog 6 #[.slice la m lc, .int .i64 n, d.val] w fun e w' => e = .returned (.bool true) ∧ Kept (fun _ => False) w w' := by
  obtain ⟨i0, hi0, hz0, hz1, hz2⟩ := info_parts Tryz.infoE
  obtain ⟨hX, hlc, hbig, hnil, hkr⟩ := hC
  have HX := hid hX
  have HXL := hid hX
  have HNil := hid hnil
  have hm8 : m * 16 ≤ 140737488351232 := by omega
  have s1 := (St.nil w).box #[.int .i64 d.op, .int .i64 d.a, .int .i64 d.b, .int .i64 d.x, .int .i64 d.y] 45
  have hA := awake_any _ (hE.kept s1.same)
  have HDo : Hid (∀ (W : World) (g cap : Nat), EIn W (some ⟨g, 0, none⟩) m l → Calls Tryz.prog 22 #[.slice (some ⟨g, 0, none⟩) m cap, .int .i64 n, d.val] W (DoE l n d W)) := fun W g cap hx => Do_any hx (by omega) hkr hdx
  have HRf : Hid (∀ (W : World), EIn W la m l → Calls Tryz.prog 23 #[.slice la m lc, .int .i64 n, d.val] W (rDoE l n d W)) := fun W hx => rDo_any la m lc l n d W hx hnil hlc
  have hB := fun b W => codeDict_any b W
  obtain ⟨op, a, b, x, y⟩ := d
  simp only at s1 hA
  unfold Dd.val at HDo HRf ⊢
  simp only at HDo HRf ⊢
  generalize e1 : w.alloc (.cells #[.int .i64 op, .int .i64 a, .int .i64 b, .int .i64 x, .int .i64 y] 45) = w1 at *
  generalize eM : w.heap.size = M at *
  have HS1 := hid s1
  have HML := hid hX.1
  clear hE s1 hX hnil hlc hbig
  go_enter Tryz.func6, Tryz.ntmps6
  go_upto_region 3 with (first | simp only [e1, eM] | (go_at_call 9; refine hA.mono ?_; rintro e w2 ⟨rfl, k2⟩; clear hA e1 eM))
  have s2 := HS1.out.calm k2
  have HS2 := hid s2
  have heq := eqE
  have hgd := guardE
  go_upto_region 4 with (at_builtin; refine wpList_appE_st (e_nil HS2.out) rfl (.tmp 20) (.tmp 21) rfl rfl la m lc rfl (HX.out.kept HS2.out.same) HNil.out (by have := HML.out; simp; omega) ?_; intro v3 w3 h3; have HS3 := hid h3; clear h3)
  have hb2 := fun W => buildE2 W (-777) 0 (-777) 0
  have S4 := (e_new HS3.out [(-777, 0), (-777, 0)] (by unfold maxLen; simp)).perm (List.Perm.swap _ _ _)
  have HS4' := hid S4
  have HE4 := hid (st_ein (e_new HS3.out [(-777, 0), (-777, 0)] (by unfold maxLen; simp)) 0 rfl rfl)
  clear S4
  go_upto_region 5 with (first | simp only [hb2] | (at_builtin; refine wpList_appE_st HS4'.out rfl (.tmp 23) (.tmp 26) rfl rfl _ 2 2 rfl HE4.out (by simp) (by have := HML.out; simp; omega) ?_; intro v4 w4 h4; have HS40 := hid (e_drop1 h4); clear h4))
  obtain ⟨g, cap, e4⟩ := HS40.out.form 0 rfl (by simp)
  have hlm : ([] ++ l ++ [(-777, 0), (-777, 0)] : List Pr).length = m + 2 := by have := HML.out; simp; omega
  have ho4 : w4.ownsRow 0 41 2 v4 ([] ++ l ++ [(-777, 0), (-777, 0)] : List Pr).length (eC ([] ++ l ++ [(-777, 0), (-777, 0)])) := HS40.out.get 0 rfl
  rw [hlm] at e4 ho4
  subst e4
  have s4 : St w [ownI 41 2 (.slice (some ⟨g, 0, none⟩) (m + 2) cap) (m + 2) (eC (l ++ [(-777, 0), (-777, 0)])), boxI M #[.int .i64 op, .int .i64 a, .int .i64 b, .int .i64 x, .int .i64 y] 45] w4 := by
    have := HS40.out
    unfold lstE at this
    rw [hlm] at this
    simpa using this
  have hcap : m + 2 ≤ cap := by
    rcases ho4.2 with ⟨e, _⟩ | ⟨g', c', cur, e, _, _, h1, _⟩
    · cases e
    · simp only [Value.slice.injEq] at e
      omega
  have HS4 := hid s4
  clear ho4 s4 HS4' HE4 HS40 HS3 HS2 HS1 k2 hb2 hlm
  have HEA : Hid (∀ W, Kept (fun _ => False) w4 W → EIn W (some ⟨g, 0, none⟩) (m + 2) (l ++ [(-777, 0), (-777, 0)])) := hid (fun W k => (st_ein HS4.out 0 rfl (by have := HML.out; simp; omega)).kept k)
  have HTk : Hid ((l ++ [(-777, 0), (-777, 0)]).take m = l) := hid (by have := HML.out; rw [this]; simp)
  have HXA : Hid (∀ W, Kept (fun _ => False) w4 W → EIn W (some ⟨g, 0, none⟩) m l) := hid (fun W k => by
    have := ein_head (i := m) (HEA.out W k) (by omega)
    rw [HTk.out] at this
    exact this)
  have hsl := fun W => sliceHeadE g 0 (m + 2) cap m (by omega) W
  have HC : Hid (∀ W, Kept (fun _ => False) w4 W → W.cell? ⟨M, 0, none⟩ = some (.int .i64 op) ∧ W.cell? ⟨M, 1, none⟩ = some (.int .i64 a) ∧ W.cell? ⟨M, 2, none⟩ = some (.int .i64 b) ∧ W.cell? ⟨M, 3, none⟩ = some (.int .i64 x) ∧ W.cell? ⟨M, 4, none⟩ = some (.int .i64 y)) := fun W k => ⟨(HS4.out.calm k).cell 1 rfl 0, (HS4.out.calm k).cell 1 rfl 1, (HS4.out.calm k).cell 1 rfl 2, (HS4.out.calm k).cell 1 rfl 3, (HS4.out.calm k).cell 1 rfl 4⟩
  obtain ⟨c0, c1, c2, c3, c4⟩ := HC.out _ ((Kept.refl _ w4).drew)
  have hq := HDo.out w4.drew g cap (HXA.out _ ((Kept.refl _ w4).drew))
  unfold DoE at hq
  clear HDo
  have hbd1 : (0 : Int) ≤ (m : Int) := by omega
  have hbd2 : (m : Int) ≤ (cap : Int) := by omega
  by_cases hok : okS l n ⟨op, a, b, x, y⟩ = true
  · simp only [if_pos hok] at hq
    have kq : Calls Tryz.prog 22 #[.slice (some ⟨g, 0, none⟩) m cap, .int .i64 n, .agg #[.int .i64 op, .int .i64 a, .int .i64 b, .int .i64 x, .int .i64 y]] w4.drew fun e w' => (∃ v t, e = .returned (.tuple #[v, t, .int .i64 0]) ∧ Hid (St w4 [ownI 2 1 t (doS l n ⟨op, a, b, x, y⟩).2.length (xC (doS l n ⟨op, a, b, x, y⟩).2), lstE v (doS l n ⟨op, a, b, x, y⟩).1] w')) := hq.mono fun e w' ⟨v, t, he, hs⟩ => ⟨v, t, he, hs.base (kept_drew w4)⟩
    clear hq
    go_region_with (first | simp only [hsl] | (go_at_call 22; refine kq.mono ?_; rintro e w5 ⟨v, t, rfl, HS5⟩))
    have hs5 := HS5.out
    have hdl : (doS l n ⟨op, a, b, x, y⟩).1.length ≤ l.length + 1 ∧ (doS l n ⟨op, a, b, x, y⟩).2.length ≤ 2 := ⟨doS_len l n ⟨op, a, b, x, y⟩, told_len l n ⟨op, a, b, x, y⟩⟩
    have hr := fun h => HRf.out w5 h
    unfold rDoE at hr
    generalize hdd : doS l n ⟨op, a, b, x, y⟩ = DD at *
    obtain ⟨l1, tl⟩ := DD
    simp only at hs5 hdl hr
    obtain ⟨va, vc, e1, -⟩ := own_ein (show w5.ownsRow 0 41 2 v l1.length (eC l1) from hs5.get 1 rfl)
    obtain ⟨ta, tc, e2, -⟩ := own_xin (show w5.ownsRow 0 2 1 t tl.length (xC tl) from hs5.get 0 rfl)
    subst e1 e2
    have s6 : St w [ownI 2 1 (.slice ta tl.length tc) tl.length (xC tl), lstE (.slice va l1.length vc) l1, ownI 41 2 (.slice (some ⟨g, 0, none⟩) (m + 2) cap) (m + 2) (eC (l ++ [(-777, 0), (-777, 0)])), boxI M #[.int .i64 op, .int .i64 a, .int .i64 b, .int .i64 x, .int .i64 y] 45] w5 := HS4.out.join hs5
    have k5 := hs5.same
    obtain ⟨d0, d1, d2, d3, d4⟩ := HC.out _ k5
    replace hr := hr (HX.out.kept s6.same)
    simp only [if_pos hok] at hr
    have HS6 := hid s6
    have HK5 := hid k5
    have hkl : l1.length ≤ m + 1 := by have := HML.out; omega
    have htl : tl.length ≤ 2 := hdl.2
    clear c0 c1 c2 c3 c4 kq s6 hs5 HS5 hdd k5 hok HC HRf HX HNil hdl
    go_upto_region 7 with (go_at_call 23; refine hr.mono ?_; rintro e w6 ⟨v2, t2, rfl, s7⟩)
    obtain ⟨va2, vc2, e1, -⟩ := own_ein (show w6.ownsRow 0 41 2 v2 l1.length (eC l1) from s7.get 1 rfl)
    obtain ⟨ta2, tc2, e2, -⟩ := own_xin (show w6.ownsRow 0 2 1 t2 tl.length (xC tl) from s7.get 0 rfl)
    subst e1 e2
    have s8 : St w [ownI 2 1 (.slice ta2 tl.length tc2) tl.length (xC tl), lstE (.slice va2 l1.length vc2) l1, ownI 2 1 (.slice ta tl.length tc) tl.length (xC tl), lstE (.slice va l1.length vc) l1, ownI 41 2 (.slice (some ⟨g, 0, none⟩) (m + 2) cap) (m + 2) (eC (l ++ [(-777, 0), (-777, 0)])), boxI M #[.int .i64 op, .int .i64 a, .int .i64 b, .int .i64 x, .int .i64 y] 45] w6 := HS6.out.join s7
    have hxa : EIn w6 va l1.length l1 := st_ein s8 3 rfl rfl
    have hxb : EIn w6 va2 l1.length l1 := st_ein s8 1 rfl rfl
    have hxc : XIn w6 ta tl.length tl := st_xinD s8 2 rfl rfl
    have hxd : XIn w6 ta2 tl.length tl := st_xinD s8 0 rfl rfl
    have q1 := sameE_any va va2 l1.length l1.length vc vc2 l1 l1 w6 hxa hxb (by omega)
    rw [decide_eq_true rfl] at q1
    have HQ2 : Hid (∀ W, Kept (fun _ => False) w6 W → Calls Tryz.prog 13 #[.slice ta tl.length tc, .slice ta2 tl.length tc2] W fun e w' => e = .returned (.bool true) ∧ Kept (fun _ => False) W w') := fun W k => by
      have := sameInts_any ta ta2 tl.length tl.length tc tc2 tl tl (hxc.kept k) (hxd.kept k) (by omega)
      rw [decide_eq_true rfl] at this
      exact this
    have HS8 := hid s8
    clear s7 s8 hxa hxb hxc hxd hr d0 d1 d2 d3 d4 HS6
    generalize hk1 : l1.length = k at *
    have HK1 := hid hk1
    clear hk1
    generalize tl.length = kt at *
    go_upto_region 8 with (go_at_call 19; refine q1.mono ?_; rintro e w7 ⟨rfl, k7⟩)
    have q2 := HQ2.out w7 k7
    clear q1 HQ2
    go_upto_region 9 with (go_at_call 13; refine q2.mono ?_; rintro e w8 ⟨rfl, k8⟩)
    have s9 := ((HS8.out.calm k7).calm k8).pop.pop.pop
    have HS9 := hid s9
    have HL : Hid (∀ (it : It) (W : World), St w [it, ownI 41 2 (.slice (some ⟨g, 0, none⟩) (m + 2) cap) (m + 2) (eC (l ++ [(-777, 0), (-777, 0)])), boxI M #[.int .i64 op, .int .i64 a, .int .i64 b, .int .i64 x, .int .i64 y] 45] W → EIn W (some ⟨g, 0, none⟩) m l ∧ EIn W la m l ∧ (W.cell? ⟨g, m * 2, none⟩ = some (.int .i64 (-777)) ∧ W.cell? ⟨g, m * 2 + 1, none⟩ = some (.int .i64 0)) ∧ W.cell? ⟨g, (m + 1) * 2, none⟩ = some (.int .i64 (-777)) ∧ W.cell? ⟨g, (m + 1) * 2 + 1, none⟩ = some (.int .i64 0)) := hid (fun it W hs => by
      have hml := HML.out
      have he : EIn W (some ⟨g, 0, none⟩) (m + 2) (l ++ [(-777, 0), (-777, 0)]) := st_ein hs 1 rfl (by simp; omega)
      have h1 := ein_head (i := m) he (by omega)
      rw [HTk.out] at h1
      have h2 := he.cells (j := m) (by omega)
      have h3 := he.cells (j := m + 1) (by omega)
      rw [show (l ++ [(-777, 0), (-777, 0)] : List Pr).getD m (0, 0) = (-777, 0) by rw [hml]; simp [List.getD_eq_getElem?_getD]] at h2
      rw [show (l ++ [(-777, 0), (-777, 0)] : List Pr).getD (m + 1) (0, 0) = (-777, 0) by rw [hml]; simp [List.getD_eq_getElem?_getD]] at h3
      rw [Nat.zero_add] at h2 h3
      exact ⟨h1, HXL.out.kept hs.same, h2, h3⟩)
    clear s9 q2 HS8 k7 k8 HXA HK5 HEA
    have hk63 : (k : Int) ≤ 9223372036854775807 := by omega
    go_wp2
    go_loopw [17] (fun i wr => ∃ (j : Nat) (ys : List Value), i = .int .i64 j ∧ j ≤ k ∧ St w [ownI 41 2 (.slice va k vc) k ys, ownI 41 2 (.slice (some ⟨g, 0, none⟩) (m + 2) cap) (m + 2) (eC (l ++ [(-777, 0), (-777, 0)])), boxI M #[.int .i64 op, .int .i64 a, .int .i64 b, .int .i64 x, .int .i64 y] 45] wr) (fun i _ => k - (intOf i).toNat)
    case atStart => exact ⟨0, eC l1, rfl, Nat.zero_le _, by have h := HS9.out; unfold lstE at h; rw [HK1.out] at h; exact h⟩
    case round =>
      obtain ⟨j, ys, rfl, hj, hst⟩ := hrel
      by_cases hlt : j < k
      · obtain ⟨gv, cv, e⟩ := hst.form 0 rfl (by omega)
        simp only [Value.slice.injEq, true_and] at e
        obtain ⟨rfl, rfl⟩ := e
        have hyl : ys.length = k * 2 := hst.ownCap 0 rfl
        have c1 : ∃ u, wr.cell? ⟨gv, j * 2, none⟩ = some u := ⟨_, (hst.ownCell 0 rfl (j * 2) (by omega)).trans (List.getElem?_eq_getElem (by omega))⟩
        have c2 : ∃ u, wr.cell? ⟨gv, j * 2 + 1, none⟩ = some u := ⟨_, (hst.ownCell 0 rfl (j * 2 + 1) (by omega)).trans (List.getElem?_eq_getElem (by omega))⟩
        obtain ⟨z1, c1⟩ := c1
        obtain ⟨z2, c2⟩ := c2
        have f1 := hst.ownFrozen 0 rfl (j * 2)
        have f2 := hst.ownFrozen 0 rfl (j * 2 + 1)
        have h0 : (0 : Int) ≤ (j : Int) := Int.natCast_nonneg _
        have h1 : (j : Int) < (k : Int) := by omega
        have T1 := hst.ownSet 0 rfl (j * 2) (by omega) (.int .i64 (-777))
        have T2 := T1.ownSet 0 rfl (j * 2 + 1) (by omega) (.int .i64 0)
        have HT := hid T2
        clear hst T1 T2 hyl
        go_wp2
        go_roundw
        case rel => exact ⟨j + 1, _, by simp, by omega, HT.out⟩
        case measure => simp [intOf]; omega
      · have h1 : ¬ (j : Int) < (k : Int) := by omega
        obtain ⟨ha, hb, ⟨hc, hc'⟩, hd, hd'⟩ := HL.out _ _ hst
        have q3 := sameE_any (some ⟨g, 0, none⟩) la m m cap lc l l wr ha hb (by omega)
        rw [decide_eq_true rfl] at q3
        have HK := hid hst.same
        have p0 : (0 : Int) ≤ (m : Int) := by omega
        have p1 : (m : Int) < ((m + 2 : Nat) : Int) := by omega
        have p2 : (0 : Int) ≤ (m : Int) + 1 := by omega
        have p3 : (m : Int) + 1 < ((m + 2 : Nat) : Int) := by omega
        clear hst ha hb HL
        go_upto_region 14 with (first | simp only [hsl] | (go_at_call 19; refine q3.mono ?_; rintro e w9 ⟨rfl, k9⟩))
        have c5 : w9.cell? ⟨g, m * 2, none⟩ = some (.int .i64 (-777)) := by rw [World.cell?_of_block (k9.block g (World.block_lt_of_cell? _ _ hc) (fun f => f))]; exact hc
        have c5b : w9.cell? ⟨g, m * 2 + 1, none⟩ = some (.int .i64 0) := by rw [World.cell?_of_block (k9.block g (World.block_lt_of_cell? _ _ hc') (fun f => f))]; exact hc'
        have c6 : w9.cell? ⟨g, (m + 1) * 2, none⟩ = some (.int .i64 (-777)) := by rw [World.cell?_of_block (k9.block g (World.block_lt_of_cell? _ _ hd) (fun f => f))]; exact hd
        have c6b : w9.cell? ⟨g, (m + 1) * 2 + 1, none⟩ = some (.int .i64 0) := by rw [World.cell?_of_block (k9.block g (World.block_lt_of_cell? _ _ hd') (fun f => f))]; exact hd'
        clear q3 hc hd hc' hd'
        go_wp2_with (first | simp only [heq, hgd] | (go_at_call 15; refine (hB _ _).mono ?_; rintro e w' ⟨rfl, rfl⟩))
        go_ret
        exact ⟨rfl, HK.out.trans k9 (fun _ _ f => f)⟩
  · simp only [if_neg hok] at hq
    have kq : Calls Tryz.prog 22 #[.slice (some ⟨g, 0, none⟩) m cap, .int .i64 n, .agg #[.int .i64 op, .int .i64 a, .int .i64 b, .int .i64 x, .int .i64 y]] w4.drew fun e w' => (e = .returned (.tuple #[.slice none 0 0, .slice none 0 0, .int .i64 190]) ∧ Hid (Kept (fun _ => False) w4 w')) := hq.mono fun e w' ⟨he, hs⟩ => ⟨he, (kept_drew w4).trans hs (fun _ _ f => f)⟩
    clear hq
    go_region_with (first | simp only [hsl] | (go_at_call 22; refine kq.mono ?_; rintro e w5 ⟨rfl, HK5⟩))
    obtain ⟨d0, d1, d2, d3, d4⟩ := HC.out _ HK5.out
    have hr := HRf.out w5 (HX.out.kept (HS4.out.calm HK5.out).same)
    unfold rDoE at hr
    simp only [if_neg hok] at hr
    clear c0 c1 c2 c3 c4 kq hok HC HRf HX HNil
    go_upto_region 7 with (go_at_call 23; refine hr.mono ?_; rintro e w6 ⟨rfl, k6⟩)
    have K6 := HK5.out.trans k6 (fun _ _ f => f)
    have hQ0 : ∀ W, Calls Tryz.prog 19 #[.slice none 0 0, .slice none 0 0] W fun e w' => e = .returned (.bool true) ∧ Kept (fun _ => False) W w' := fun W => by
      have := sameE_any none none 0 0 0 0 [] [] W ⟨rfl, fun h => by omega⟩ ⟨rfl, fun h => by omega⟩ (by omega)
      rw [decide_eq_true rfl] at this
      exact this
    have hQ1 : ∀ W, Calls Tryz.prog 13 #[.slice none 0 0, .slice none 0 0] W fun e w' => e = .returned (.bool true) ∧ Kept (fun _ => False) W w' := fun W => by
      have := sameInts_any (w := W) none none 0 0 0 0 [] [] ⟨rfl, fun h => by omega⟩ ⟨rfl, fun h => by omega⟩ (by omega)
      rw [decide_eq_true rfl] at this
      exact this
    clear hr d0 d1 d2 d3 d4
    go_upto_region 8 with (go_at_call 19; refine (hQ0 _).mono ?_; rintro e w7 ⟨rfl, k7⟩)
    go_upto_region 9 with (go_at_call 13; refine (hQ1 _).mono ?_; rintro e w8 ⟨rfl, k8⟩)
    have K8 := (K6.trans k7 (fun _ _ f => f)).trans k8 (fun _ _ f => f)
    have s9 := HS4.out.calm K8
    have he8 : EIn w8 (some ⟨g, 0, none⟩) (m + 2) (l ++ [(-777, 0), (-777, 0)]) := HEA.out w8 K8
    have hcd : ((w8.cell? ⟨g, m * 2, none⟩ = some (.int .i64 (-777)) ∧ w8.cell? ⟨g, m * 2 + 1, none⟩ = some (.int .i64 0)) ∧ w8.cell? ⟨g, (m + 1) * 2, none⟩ = some (.int .i64 (-777)) ∧ w8.cell? ⟨g, (m + 1) * 2 + 1, none⟩ = some (.int .i64 0)) := by
      have hml := HML.out
      have h2 := he8.cells (j := m) (by omega)
      have h3 := he8.cells (j := m + 1) (by omega)
      rw [show (l ++ [(-777, 0), (-777, 0)] : List Pr).getD m (0, 0) = (-777, 0) by rw [hml]; simp [List.getD_eq_getElem?_getD]] at h2
      rw [show (l ++ [(-777, 0), (-777, 0)] : List Pr).getD (m + 1) (0, 0) = (-777, 0) by rw [hml]; simp [List.getD_eq_getElem?_getD]] at h3
      rw [Nat.zero_add] at h2 h3
      exact ⟨h2, h3⟩
    obtain ⟨⟨hc, hc'⟩, hd, hd'⟩ := hcd
    have q3 := sameE_any (some ⟨g, 0, none⟩) la m m cap lc l l w8 (HXA.out w8 K8) (HXL.out.kept s9.same) (by omega)
    rw [decide_eq_true rfl] at q3
    have HK := hid s9.same
    have p0 : (0 : Int) ≤ (m : Int) := by omega
    have p1 : (m : Int) < ((m + 2 : Nat) : Int) := by omega
    have p2 : (0 : Int) ≤ (m : Int) + 1 := by omega
    have p3 : (m : Int) + 1 < ((m + 2 : Nat) : Int) := by omega
    clear s9 he8 K8 K6 k6 k7 k8 HXA hQ0 hQ1 HK5 HEA
    go_wp2
    go_loopw [17] (fun i wr => i = .int .i64 0 ∧ wr = w8) (fun _ _ => 0)
    case atStart => exact ⟨rfl, rfl⟩
    case round =>
      obtain ⟨rfl, rfl⟩ := hrel
      go_upto_region 14 with (first | simp only [hsl] | (go_at_call 19; refine q3.mono ?_; rintro e w9 ⟨rfl, k9⟩))
      have c5 : w9.cell? ⟨g, m * 2, none⟩ = some (.int .i64 (-777)) := by rw [World.cell?_of_block (k9.block g (World.block_lt_of_cell? _ _ hc) (fun f => f))]; exact hc
      have c5b : w9.cell? ⟨g, m * 2 + 1, none⟩ = some (.int .i64 0) := by rw [World.cell?_of_block (k9.block g (World.block_lt_of_cell? _ _ hc') (fun f => f))]; exact hc'
      have c6 : w9.cell? ⟨g, (m + 1) * 2, none⟩ = some (.int .i64 (-777)) := by rw [World.cell?_of_block (k9.block g (World.block_lt_of_cell? _ _ hd) (fun f => f))]; exact hd
      have c6b : w9.cell? ⟨g, (m + 1) * 2 + 1, none⟩ = some (.int .i64 0) := by rw [World.cell?_of_block (k9.block g (World.block_lt_of_cell? _ _ hd') (fun f => f))]; exact hd'
      clear q3 hc hd hc' hd'
      go_wp2_with (first | simp only [heq, hgd] | (go_at_call 15; refine (hB _ _).mono ?_; rintro e w' ⟨rfl, rfl⟩))
      go_ret
      exact ⟨rfl, HK.out.trans k9 (fun _ _ f => f)⟩
end Go.Proofs.YtbpilhjomfkpaaaGreatDoor

namespace Go.Proofs.YtbpilhjomfkpaaaGreatDoor
open Go.RowKit Go.ChangeShapes Go.WideShapes Go.Deep
set_option linter.unusedVariables false
set_option linter.unusedSimpArgs false
section
variable {H : Type} {enc : TypeId × Value → H} {w : World}

attribute [local go_sem ↓] Go.wp_at_zero Go.wp_at_succ
def CameE2 (w : World) (la : Option Addr) (n lc : Nat) (zs : List Pr) : Prop := EIn w la n zs ∧ n ≤ lc ∧ n * 16 ≤ 140737488351232 ∧ (la = none → n = 0 ∧ lc = 0) ∧ ∀ p ∈ zs, Rg p.1 ∧ Rg p.2
theorem CameE2.kept {w w' : World} {la : Option Addr} {n lc : Nat} {zs : List Pr} (h : CameE2 w la n lc zs) (k : Kept (fun _ => False) w w') : CameE2 w' la n lc zs := ⟨h.1.kept k, h.2⟩
set_option maxRecDepth 100000 in
theorem open_entry2 {fuel : Nat} {cs : List Value} {x : DataW H × List MemPlace} (h : DataW.trod enc Tryz.prog w 0 (fun _ => true) true fuel 41 cs = some x) :
    ∃ o : Pr, cs = [.int .i64 o.1, .int .i64 o.2] ∧ Rg o.1 ∧ Rg o.2 := by
  obtain ⟨xs, n, _, rfl, hl, hlen, hf⟩ := DataW.trod_struct Tryz.underlying41 h
  rw [Tryz.cellsA_e] at hl
  match cs, hl with
  | [v0, v1], _ =>
    match xs, hlen with
    | [y0, y1], _ =>
      have g0 := hf 0 _ rfl
      have g1 := hf 1 _ rfl
      simp [Tryz.cellsA_i64] at g0 g1
      obtain ⟨b0, e0, _, wf0⟩ := DataW.trod_int Tryz.underlying2 g0
      obtain ⟨b1, e1, _, wf1⟩ := DataW.trod_int Tryz.underlying2 g1
      simp only [List.cons.injEq, and_true] at e0 e1
      subst e0 e1
      exact ⟨(b0, b1), rfl, i64_rng wf0, i64_rng wf1⟩
set_option maxRecDepth 100000 in
theorem arg_e2 {b0 : Nat} {v : Value} {d : DataW H} {pl : List MemPlace} (h : DataW.Trod enc Tryz.prog w 0 (fun _ => true) true 32 v d pl) (hv : Value.okWide Tryz.prog w .any b0 32 v) (hz : ∀ n ∈ d.weights Tryz.prog 32, n ≤ reachBytes) :
    ∃ la ll lc zs, v = .slice la ll lc ∧ CameE2 w la ll lc zs := by
  obtain ⟨a, len, cap, rfl⟩ := okWide_slice Tryz.underlying32 hv
  obtain ⟨fuel, hf⟩ := h
  rcases open_slice Tryz.underlying32 hf with ⟨hcs, _⟩ | ⟨a', len', cap', m, n, D, Pl, hcs, _, hl, hm, hmm, hx, hcell⟩
  · simp [Value.cells] at hcs
    obtain ⟨rfl, rfl, rfl⟩ := hcs
    exact ⟨_, _, _, [], rfl, ⟨rfl, fun h => by omega⟩, by omega, by omega, fun _ => ⟨rfl, rfl⟩, by simp⟩
  · simp [Value.cells] at hcs
    obtain ⟨rfl, rfl, rfl⟩ := hcs
    simp only [if_true] at hmm
    subst hmm
    simp only [Prod.mk.injEq] at hx
    obtain ⟨hd, _⟩ := hx
    have hreach : len * 16 ≤ 140737488351232 := by
      have := hz ((len + (m - len)) * 16) (by
        rw [hd]
        simp [DataW.weights, Tryz.underlying32, Tryz.bytesA_e])
      simp only [reachBytes] at this
      omega
    by_cases h0 : len = 0
    · subst h0
      exact ⟨_, _, _, [], rfl, ⟨rfl, fun h => by omega⟩, by omega, by omega, (fun e => by cases e), by simp⟩
    obtain ⟨cs0, hc0, _⟩ := hcell 0 (by omega)
    rw [Tryz.cellsA_e] at hc0
    have hs := (World.cells?_some hc0)
    obtain ⟨b, off, spot⟩ := a'
    have h00 := hs.2.2 0 (by omega)
    rw [List.getElem?_eq_getElem (by omega)] at h00
    have hspot : spot = none := by simpa [Addr.add] using World.cell?_spot h00
    subst hspot
    have hall : ∀ i, i < len → ∃ o : Pr, (w.cell? ⟨b, off + i * 2, none⟩ = some (.int .i64 o.1) ∧ w.cell? ⟨b, off + i * 2 + 1, none⟩ = some (.int .i64 o.2)) ∧ Rg o.1 ∧ Rg o.2 := by
      intro i hi
      obtain ⟨cs, hc, ht⟩ := hcell i (by omega)
      rw [Tryz.cellsA_e] at hc
      obtain ⟨o, rfl, hr⟩ := open_entry2 ht
      have hcc := (World.cells?_some hc).2.2
      have eadd : ∀ j, ((⟨b, off, none⟩ : Addr).add (i * 2)).add j = ⟨b, off + i * 2 + j, none⟩ := by
        intro j
        unfold Addr.add
        split <;> split <;> simp_all
      have c0 := hcc 0 (by omega)
      have c1 := hcc 1 (by omega)
      rw [eadd] at c0 c1
      exact ⟨o, ⟨c0, c1⟩, hr⟩
    obtain ⟨f, hff⟩ := @choose_lt Pr ⟨(0, 0)⟩ len (fun i o => (w.cell? ⟨b, off + i * 2, none⟩ = some (.int .i64 o.1) ∧ w.cell? ⟨b, off + i * 2 + 1, none⟩ = some (.int .i64 o.2)) ∧ Rg o.1 ∧ Rg o.2) hall
    have hgd : ∀ i, i < len → ((List.range len).map f).getD i (0, 0) = f i := fun i hi => by simp [List.getD_eq_getElem?_getD, hi]
    have hln : ((List.range len).map f).length = len := by simp
    refine ⟨_, _, _, (List.range len).map f, rfl, ⟨hln.symm, fun _ => ⟨b, off, rfl, fun j u hu => ?_⟩⟩, hl, hreach, (fun e => by cases e), fun p hp => ?_⟩
    · have hj := (List.getElem?_eq_some_iff.1 hu).1
      rw [eC_length, hln] at hj
      have hq : j / 2 < len := by omega
      obtain ⟨a1, a2⟩ := eC_at ((List.range len).map f) (j / 2) (by rw [hln]; exact hq)
      rw [hgd _ hq] at a1 a2
      obtain ⟨⟨f1, f2⟩, _⟩ := hff (j / 2) hq
      rcases Nat.mod_two_eq_zero_or_one j with hm2 | hm2
      · have ej : j = j / 2 * 2 := by omega
        rw [← ej] at a1 f1
        rw [a1] at hu
        rw [← hu]
        exact f1
      · have ej : j = j / 2 * 2 + 1 := by omega
        rw [← ej] at a2
        rw [Nat.add_assoc, ← ej] at f2
        rw [a2] at hu
        rw [← hu]
        exact f2
    · obtain ⟨i, hi, rfl⟩ := List.mem_map.1 hp
      exact (hff i (List.mem_range.1 hi)).2
end
section
theorem sizeX : (Tryz.prog.info? 2).map (·.size) = some 1 := by kernel_rfl
/-- A list cut or filled up to a length. -/
def padM (k : Nat) (l : List Int) : List Int := l.take k ++ List.replicate (k - l.length) 0
theorem padM_length (k : Nat) (l : List Int) : (padM k l).length = k := by
  unfold padM
  rw [List.length_append, List.length_take, List.length_replicate]
  omega
theorem padM_self (l : List Int) : padM l.length l = l := by simp [padM]
theorem owns_row {w : World} {g n : Nat} {l : List Int} (h : w.heap[g]? = some (.cells (xC l).toArray 2 (0, 0))) (hn : l.length = n) (hm : n ≤ maxLen) : w.ownsRow g 2 1 (.slice (some ⟨g, 0, none⟩) n n) n (xC l) :=
  ⟨by rw [xC_length]; omega, .inr ⟨g, n, (xC l).toArray, rfl, Nat.le_refl _, h, Nat.le_refl _, hm, by simp [xC]; omega, by rw [Nat.mul_one]; exact List.take_of_length_le (by simp [xC]; omega)⟩⟩
theorem copyX (la : Option Addr) (m lc k : Nat) (l : List Int) (w : World) (hX : XIn w la m l) : ∃ w', (Builtin.copy_ #[24, 24] 3 #[.slice (some ⟨w.heap.size, 0, none⟩) k k, .slice la m lc]).run Tryz.prog (w.alloc (.cells (xC (List.replicate k 0)).toArray 2)) = .ok (goInt (Nat.min m k : Nat)) w' ∧ Kept (fun _ => False) w w' ∧ w'.heap[w.heap.size]? = some (.cells (xC (padM k l)).toArray 2 (0, 0)) := by
  have hml := hX.1
  by_cases h0 : Nat.min m k = 0
  · refine ⟨_, by rw [h0]; exact run_copy_none _ 24 24 3 2 _ _ _ _ _ _ Tryz.underlying24 sizeX h0, kept_alloc w _, ?_⟩
    have hp : padM k l = List.replicate k 0 := by
      unfold padM
      by_cases hk : k = 0
      · subst hk; simp
      · have hm0 : m = 0 := by
          simp only [Nat.min_def] at h0
          split at h0 <;> omega
        have : l = [] := List.length_eq_zero_iff.1 (by omega)
        subst this
        simp
    rw [hp]
    exact heap_alloc_new w _
  · have hm1 : 0 < m := by
      simp only [Nat.min_def] at h0
      split at h0 <;> omega
    obtain ⟨g, o, rfl, hc⟩ := (hX.kept (kept_alloc w (.cells (xC (List.replicate k 0)).toArray 2))).2 hm1
    have hl : (xC (l.take k)).length = Nat.min m k := by
      rw [xC_length, List.length_take, ← hml, Nat.min_comm]
    have hl2 : Nat.min m k ≤ k := Nat.min_le_right _ _
    have hl3 : Nat.min m k ≤ m := Nat.min_le_left _ _
    have hrun := run_copy_row (P := Tryz.prog) (w.alloc (.cells (xC (List.replicate k 0)).toArray 2)) 24 24 3 2 w.heap.size 0 k k ⟨g, o, none⟩ m lc (xC (List.replicate k 0)).toArray 2 (xC (l.take k)) Tryz.underlying24 sizeX (heap_alloc_new w _) hl (fun j v hj => by
      have hjl := (List.getElem?_eq_some_iff.1 hj).1
      rw [hl] at hjl
      rw [xC_at _ j (by rw [List.length_take]; omega)] at hj
      rw [Addr.add_lit, hc j (by omega), ← hj]
      congr 2
      simp only [List.getD_eq_getElem?_getD]
      rw [List.getElem?_take_of_lt (by omega)]) (by rw [hl]; simp [xC]; omega) (xC_one _)
    rw [hl] at hrun
    refine ⟨_, hrun, (kept_alloc w _).trans (G := fun b => b = w.heap.size) ⟨rfl, rfl, rfl, by simp [World.setRow], fun b _ hb => setRow_other _ _ _ _ hb⟩ (fun i hi e => by omega), ?_⟩
    rw [setRow_heap _ _ _ _ _ _ (heap_alloc_new w _)]
    have he : (List.take 0 (xC (List.replicate k 0)).toArray.toList ++ xC (l.take k) ++ List.drop (0 + Nat.min m k) (xC (List.replicate k 0)).toArray.toList) = xC (padM k l) := by
      unfold padM
      rw [xC_append, List.take_zero, List.nil_append, Nat.zero_add]
      have e1 : ∀ q, List.drop q (xC (List.replicate k 0)).toArray.toList = xC (List.replicate (k - q) 0) := fun q => by simp [xC, List.drop_replicate]
      rw [e1]
      have e2 : k - Nat.min m k = k - l.length := by
        rw [← hml]
        have hmin : Nat.min m k = if m ≤ k then m else k := rfl
        rw [hmin]
        split <;> omega
      rw [e2]
    rw [he]
set_option maxHeartbeats 1000000 in
theorem Copied_any (la : Option Addr) (n lc : Nat) (l : List Int) (w : World) (hX : XIn w la n l) (hb : n * 8 ≤ 140737488355328) :
    Calls Tryz.prog 16 #[.slice la n lc] w fun e w' => ∃ v, e = .returned v ∧ St w [ownI 2 1 v n (xC l)] w' := by
  have hm := makeX n (n : Int) rfl hb w
  obtain ⟨w2, hcp, k2, hg⟩ := copyX la n lc n l w hX
  have hln : l.length = n := hX.1.symm
  rw [← hln, padM_self] at hg
  have HS := hid ((St.nil w).own k2 (owns_row hg hln (by unfold maxLen; omega)))
  clear hX hln k2 hg
  generalize (xC (List.replicate n 0)).toArray = Z at *
  go_enter Tryz.func16, Tryz.ntmps16
  go_wp2_with (first | simp only [hm] | simp only [hcp])
  go_ret
  exact ⟨_, rfl, HS.out⟩
theorem pick_any (c : Int) (n : Nat) (w : World) (hn : 0 < n) (hn2 : n ≤ 9223372036854775807) (h0 : -9223372036854775808 ≤ c) (h1 : c ≤ 9223372036854775807) : Calls Tryz.prog 21 #[.int .i64 c, .int .i64 n] w fun e w' => (∃ k : Nat, k < n ∧ e = .returned (.int .i64 k)) ∧ w' = w := by
  have key : ∀ z : Int, 0 ≤ z → ∃ k : Nat, k < n ∧ z.tmod n = (k : Int) := fun z hz => by
    refine ⟨(z.tmod n).toNat, ?_, ?_⟩
    · have := Int.tmod_lt_of_pos z (show (0 : Int) < n by omega)
      have h2 := Int.tmod_nonneg (n : Int) hz
      omega
    · have h2 := Int.tmod_nonneg (n : Int) hz
      omega
  have hnz : ¬ (n : Int) = 0 := by omega
  by_cases hc : c < 0
  · obtain ⟨k, hk, ek⟩ := key (-(c + 1)) (by omega)
    have tc : decide (c < 0) = true := decide_eq_true hc
    clear key
    go_enter Tryz.func21, Tryz.ntmps21
    go_wp2_with (simp only [ek])
    go_ret
    exact ⟨⟨k, hk, by first | rfl | (simp; omega) | (simp [ek])⟩, rfl⟩
  · obtain ⟨k, hk, ek⟩ := key c (by omega)
    have tc : decide (c < 0) = false := decide_eq_false hc
    clear key
    go_enter Tryz.func21, Tryz.ntmps21
    go_wp2_with (simp only [ek])
    go_ret
    exact ⟨⟨k, hk, by first | rfl | (simp; omega) | (simp [ek])⟩, rfl⟩
theorem row_xin {o w : World} {R : List It} {g n cap : Nat} {zs : List Int} (h : St o (rowI g n cap zs :: R) w) : XIn w (some ⟨g, 0, none⟩) n zs :=
  ⟨row_len h, fun _ => ⟨g, 0, rfl, fun j hj => by rw [Nat.zero_add]; exact row_cell h hj⟩⟩
theorem own_slice {w : World} {base t n : Nat} {v : Value} {xs : List Value} (h : w.ownsRow base t 1 v n xs) : ∃ la lc, v = .slice la n lc := by
  rcases h.2 with ⟨rfl, hn⟩ | ⟨g, cap, cur, rfl, _⟩
  · exact ⟨none, 0, by rw [hn]⟩
  · exact ⟨_, _, rfl⟩
end
end Go.Proofs.YtbpilhjomfkpaaaGreatDoor
