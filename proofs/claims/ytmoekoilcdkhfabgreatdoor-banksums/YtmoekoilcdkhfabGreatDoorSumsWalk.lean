/- BankSums, walked. -/
import Derived.Test.YtmoekoilcdkhfabGreatDoorBkU
import Derived.Test.YtmoekoilcdkhfabGreatDoorDe
import Derived.Test.YtmoekoilcdkhfabGreatDoorSm
namespace Go.Proofs.YtmoekoilcdkhfabGreatDoor
open Go.RowKit
set_option linter.unusedVariables false
set_option linter.unusedSimpArgs false
attribute [local go_sem ↓] Go.wp_at_zero Go.wp_at_succ

def DeD.dd (o : DeD) : Dd := ⟨o.op, o.a, o.b, o.x, o.y⟩
theorem doM_len (l : List Int) (d : Dd) : (doM l d).1.length = l.length := by
  unfold doM
  split
  · simp
  · split
    · split <;> simp
    · split
      · split <;> simp
      · split <;> rfl
/-- The balances so far: as many as at first, with the same sum. -/
structure Sums (w : World) (la : Option Addr) (m lc : Nat) (S : Int) (wr : World) (v : Value) : Prop where
  ex : ∃ lb cb ys, v = .slice lb m cb ∧ XIn wr lb m ys ∧ (lb = none → m = 0 ∧ cb = 0) ∧ sumM ys = S ∧ ys.length = m
set_option maxRecDepth 100000 in
set_option maxHeartbeats 4000000 in
theorem sums_walk (la : Option Addr) (m lc : Nat) (l : List Int) (lb : Option Addr) (md ld : Nat) (f : Nat → DeD) (w : World) (hE : Env w) (hX : XIn w la m l) (hnil : la = none → m = 0 ∧ lc = 0) (hm8 : m * 8 ≤ 140737488351232) (hD : DesAt w lb md f) (hmd : md * 40 ≤ 140737488351232) :
    Calls Tryz.prog 4 #[.slice la m lc, .slice lb md ld] w fun e w' => e = .returned (.bool true) ∧ Kept (fun _ => False) w w' := by
  have hA := awake_any w hE
  have hR := fun W => Room_any (m : Int) W
  have HX := hid hX
  have HDe := hid hD
  have HNil := hid hnil
  clear hE hX hD hnil
  go_enter Tryz.func4, Tryz.ntmps4
  go_upto_region 3 with (go_at_call 5; refine hA.mono ?_; rintro e w1 ⟨rfl, k1⟩; clear hA)
  by_cases hr : 0 < roomM (m : Int)
  · obtain ⟨hn1, hn2, hn3⟩ := room_pos hr
    have HRoom := hid hr
    rw [hn3] at hR
    have tz : ((m : Int) == 0) = false := by simp; omega
    have hm0 : 0 < m := by omega
    have hm64 : m ≤ 64 := by omega
    have HX1 := hid (HX.out.kept k1)
    have HML := hid HX.out.1
    clear hr hn3 hn1 hn2 HX
    go_wp2_with (go_at_call 19; refine (hR _).mono ?_; rintro e w' ⟨rfl, rfl⟩)
    go_loopw [7, 8] (fun t i wr => ∃ j : Nat, i = .int .i64 j ∧ j ≤ m ∧ t = .int .i64 (sumM (l.take j)) ∧ wr = w') (fun _ i _ => m - (intOf i).toNat)
    case atStart => exact ⟨0, rfl, Nat.zero_le _, rfl, rfl⟩
    case round =>
      obtain ⟨j, rfl, hj, rfl, rfl⟩ := hrel
      by_cases hlt : j < m
      · obtain ⟨g, o, rfl⟩ := HX1.out.addr (by omega)
        have c1 := HX1.out.cell hlt
        have h0 : (0 : Int) ≤ (j : Int) := Int.natCast_nonneg _
        have h1 : (j : Int) < (m : Int) := by omega
        have HT := hid (sumM_take l j (by have := HML.out; omega))
        generalize l.getD j 0 = z at *
        generalize sumM (l.take j) = t at *
        go_wp2
        go_roundw
        case rel => exact ⟨j + 1, by simp, by omega, by rw [HT.out], by trivial⟩
        case measure => simp [intOf]; omega
      · have h1 : ¬ (j : Int) < (m : Int) := by omega
        have hfull : sumM (l.take j) = sumM l := by rw [List.take_of_length_le (by have := HML.out; omega)]
        rw [hfull]
        clear hfull hj hlt
        have HS0 : Hid (Sums w la m lc (sumM l) wr (.slice la m lc)) := ⟨la, lc, l, rfl, HX1.out, HNil.out, rfl, HML.out.symm⟩
        generalize sumM l = S at *
        obtain ⟨wq, hwq⟩ : ∃ wq, wq = wr := ⟨_, rfl⟩
        have HK0 : Hid (Kept (fun _ => False) w wq) := by rw [hwq]; exact k1
        have HS1 : Hid (Sums w la m lc S wq (.slice la m lc)) := by rw [hwq]; exact HS0.out
        rw [← hwq]
        clear hwq HS0 HX1 HML HNil k1
        go_wp2
        go_loopw [0, 9] (fun v i wz => ∃ j : Nat, i = .int .i64 j ∧ j ≤ md ∧ Sums w la m lc S wz v ∧ Kept (fun _ => False) w wz) (fun _ i _ => md - (intOf i).toNat)
        case atStart => exact ⟨0, rfl, Nat.zero_le _, HS1.out, HK0.out⟩
        case round =>
          clear HS1 HK0
          obtain ⟨q, rfl, hq, ⟨la2, lc2, ys, rfl, hx2, hn2, hs2, hl2⟩, hk2⟩ := hrel
          by_cases hlq : q < md
          · obtain ⟨bd, od, rfl, hdc⟩ : ∃ bd od, lb = some ⟨bd, od, none⟩ ∧ DeAt wr bd (od + q * 5) (f q) := by
              rcases HDe.out with h | ⟨bd, od, e, hh⟩
              · omega
              · exact ⟨bd, od, e, (hh q hlq).kept hk2⟩
            obtain ⟨c0, c1, c2, c3, c4⟩ := hdc
            generalize f q = D at *
            obtain ⟨op, a, b, x, y⟩ := D
            simp only at c0 c1 c2 c3 c4
            have h0 : (0 : Int) ≤ (q : Int) := Int.natCast_nonneg _
            have h1 : (q : Int) < (md : Int) := by omega
            have HSum : Hid (Sums w la m lc S wr (.slice la2 m lc2)) := ⟨la2, lc2, ys, rfl, hx2, hn2, hs2, hl2⟩
            by_cases ho1 : op = 1
            · subst ho1
              clear hx2 hn2 hs2 hl2
              go_wp2
              go_roundw
              case rel => exact ⟨q + 1, by simp, by omega, HSum.out, hk2⟩
              case measure => simp [intOf]; omega
            · have t1 : (op == 1) = false := by simpa using ho1
              by_cases ho2 : op = 2
              · subst ho2
                clear hx2 hn2 hs2 hl2
                go_wp2
                go_roundw
                case rel => exact ⟨q + 1, by simp, by omega, HSum.out, hk2⟩
                case measure => simp [intOf]; omega
              · have t2 : (op == 2) = false := by simpa using ho2
                have hdo := Do_any la2 m lc2 ys (m : Int) ⟨op, a, b, x, y⟩ wr hx2 hn2
                unfold DoE Dd.val at hdo
                simp only at hdo
                by_cases hok : okD ys (m : Int) ⟨op, a, b, x, y⟩ = true
                · simp only [if_pos hok, hl2] at hdo
                  have hsum : sumM (doM ys ⟨op, a, b, x, y⟩).1 = S := by
                    unfold okD at hok
                    simp only [Bool.and_eq_true, decide_eq_true_eq] at hok
                    rw [do_sum ys _ ho1 ho2 (fun h3 => by
                      have := may_a hok.2.2 (by rw [h3]; decide)
                      simp only at this ⊢
                      omega) (fun h3 => by
                      have := may_b hok.2.2 h3
                      simp only at this ⊢
                      omega)]
                    exact hs2
                  have hlen := doM_len ys ⟨op, a, b, x, y⟩
                  rw [hl2] at hlen
                  generalize doM ys ⟨op, a, b, x, y⟩ = DD at *
                  obtain ⟨zs, tv⟩ := DD
                  simp only at hsum hlen hdo
                  have HSm := hid hsum
                  have HLn := hid hlen
                  have tm : ((m : Int) != m) = false := by simp
                  clear hx2 hn2 hs2 hl2 hok ho1 ho2 hsum hlen
                  go_upto_region 15 with (go_at_call 20; refine hdo.mono ?_; rintro e w5 ⟨v, t, rfl, s5⟩)
                  obtain ⟨gv, cv, rfl⟩ := s5.form 1 rfl hm0
                  obtain ⟨gt, ct, rfl⟩ := s5.form 0 rfl (by decide)
                  have HS5 : Hid (Sums w la m lc S w5 (.slice (some ⟨gv, 0, none⟩) m cv)) := ⟨some ⟨gv, 0, none⟩, cv, zs, rfl, ⟨HLn.out.symm, fun _ => ⟨gv, 0, rfl, fun j hj => by rw [Nat.zero_add, s5.ownCell 1 rfl j (by omega)]; exact xC_at zs j (by have := HLn.out; omega)⟩⟩, (fun e => by cases e), HSm.out, HLn.out⟩
                  have HK5 := hid (hk2.trans s5.same (fun _ _ f => f))
                  clear s5 hdo c0 c1 c2 c3 c4 HSum
                  go_wp2
                  go_roundw
                  case rel => exact ⟨q + 1, by simp, by omega, HS5.out, HK5.out⟩
                  case measure => simp [intOf]; omega
                · simp only [if_neg hok] at hdo
                  have HLc : Hid (∀ W, Kept (fun _ => False) wr W → Sums w la m lc S W (.slice la2 m lc2)) := fun W k => ⟨la2, lc2, ys, rfl, hx2.kept k, hn2, hs2, hl2⟩
                  clear hx2 hn2 hs2 hl2 hok ho1 ho2 HSum
                  go_upto_region 15 with (go_at_call 20; refine hdo.mono ?_; rintro e w5 ⟨rfl, k5⟩)
                  have HS5 := hid (HLc.out w5 k5)
                  have HK5 := hid (hk2.trans k5 (fun _ _ f => f))
                  clear hdo c0 c1 c2 c3 c4 HLc k5
                  go_wp2
                  go_roundw
                  case rel => exact ⟨q + 1, by simp, by omega, HS5.out, HK5.out⟩
                  case measure => simp [intOf]; omega
          · have h1 : ¬ (q : Int) < (md : Int) := by omega
            have hdo := Do_any la2 m lc2 ys (m : Int) ⟨5, 0, 0, 0, 0⟩ wr hx2 hn2
            have hok : okD ys (m : Int) ⟨5, 0, 0, 0, 0⟩ = true := by
              unfold okD
              rw [decide_eq_true HRoom.out, decide_eq_true (by omega : (ys.length : Int) = (m : Int))]
              simp [mayD, fldM]
            unfold DoE Dd.val at hdo
            have hdd : doM ys ⟨5, 0, 0, 0, 0⟩ = (ys, sumM ys) := by simp [doM]
            simp only [if_pos hok, hdd, hs2] at hdo
            have t9 : (S == S) = true := by simp
            clear hx2 hn2 hs2 hl2 hok hdd
            go_upto_region 20 with (go_at_call 20; refine hdo.mono ?_; rintro e w5 ⟨v, t, rfl, s5⟩)
            obtain ⟨gt, ct, rfl⟩ := s5.form 0 rfl (by decide)
            have c9 : w5.cell? ⟨gt, 0, none⟩ = some (.int .i64 S) := s5.ownCell 0 rfl 0 (by decide)
            have HK5 := hid (hk2.trans s5.same (fun _ _ f => f))
            clear s5 hdo
            go_wp2
            go_ret
            exact ⟨rfl, HK5.out⟩
  · have hz := room_zero hr
    rw [hz] at hR
    clear hr hz
    go_wp2_with (go_at_call 19; refine (hR _).mono ?_; rintro e w' ⟨rfl, rfl⟩)
    go_ret
    exact ⟨rfl, k1⟩
end Go.Proofs.YtmoekoilcdkhfabGreatDoor
