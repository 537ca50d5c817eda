/- OpaqueSwaps, walked. -/
import Derived.Test.YtnmlnjljmikmpabTbN
import Derived.Test.YtnmlnjljmikmpabTbP
namespace Go.Proofs.Ytnmlnjljmikmpab
open Go.RowKit Go.Shelf
set_option linter.unusedVariables false
set_option linter.unusedSimpArgs false
attribute [local go_sem ↓] Go.wp_at_zero Go.wp_at_succ

theorem wf_rng {a : Int} (h : (Lit.int .i64 a).wf = true) : -9223372036854775808 ≤ a ∧ a ≤ 9223372036854775807 := by
  simp only [Lit.wf, decide_eq_true_eq, Bool.and_eq_true] at h
  have m0 : IntKind.i64.min = -9223372036854775808 := by decide
  have m1 : IntKind.i64.max = 9223372036854775807 := by decide
  rw [m0, m1] at h
  exact h
set_option maxRecDepth 100000 in
set_option maxHeartbeats 8000000 in
theorem swaps_walk {w : World} {sa la oa : Option Addr} {sn sc n lc k oc : Nat} {start o : List Int} {L : List Sm} {which : Int} (hs : RIn iC w sa sn start) (hl : LIn w la n L) (ho : RIn iC w oa k o) (hn : n ≤ 1466015503701) (hk : (k : Int) ≤ 9223372036854775806) (hsn : (sn : Int) ≤ 9223372036854775806) (hw0 : -9223372036854775808 ≤ which) (hw1 : which ≤ 9223372036854775807) :
    Calls Try.prog 3 #[.slice sa sn sc, .slice la n lc, .slice oa k oc, .int .i64 which] w fun e w' => e = .returned (.bool true) ∧ Kept (fun _ => False) w w' := by
  have hup := up_any w
  have HC := hid (fun W (kk : Kept (fun _ => False) w W) => (check_any (w := W) (sc := sc) (lc := lc) (oc := oc) (hs.kept kk) (hl.kept kk) (ho.kept kk) hn (by omega) (by omega)).mono (fun e w' h => (⟨h.1, kk.trans h.2 (fun _ _ f => f)⟩ : _ ∧ Kept (fun _ => False) w w')))
  have HS0 := hid hs
  have HL0 := hid hl
  have HI0 := hid ho
  have HN := hid hn
  have hlen := hl.len
  have HKO := hid ho.1
  obtain ⟨ca, cb, hc⟩ : ∃ a b, chk start (smS L) o = (a, b) := ⟨_, _, rfl⟩
  rw [hc] at HC
  simp only at HC
  by_cases h0 : ca = 0
  · subst h0
    by_cases h2 : k < 2
    · have t2 : decide ((k : Int) < 2) = true := by simp; omega
      clear hs hl ho hn hlen hc h2
      go_enter Try.func3, Try.ntmps3
      go_upto_region 2 with (go_at_call 4; refine hup.mono ?_; rintro e w1 ⟨rfl, hk1⟩; have hC := HC.out w1 hk1; have HK1 := hid hk1; clear hk1)
      clear hup
      go_wp2_with (go_at_call 5; refine hC.mono ?_; rintro e w2 ⟨rfl, hk2⟩; have HW2 := hid hk2; clear hk2)
      go_ret
      exact ⟨rfl, HW2.out⟩
    · obtain ⟨hc0, o', rfl⟩ := chk_once hc
      by_cases hng : which < 0
      · exact swaps_neg hs hl ho hn hk hsn hw0 hw1 h2 hng rfl hc0
      · exact swaps_pos hs hl ho hn hk hsn hw0 hw1 h2 hng rfl hc0
  · have t0 : (ca != 0) = true := by simpa using h0
    clear hs hl ho hn hlen h0 hc
    go_enter Try.func3, Try.ntmps3
    go_upto_region 2 with (go_at_call 4; refine hup.mono ?_; rintro e w1 ⟨rfl, hk1⟩; have hC := HC.out w1 hk1; have HK1 := hid hk1; clear hk1)
    clear hup
    go_wp2_with (go_at_call 5; refine hC.mono ?_; rintro e w2 ⟨rfl, hk2⟩; have HW2 := hid hk2; clear hk2)
    go_ret
    exact ⟨rfl, HW2.out⟩
end Go.Proofs.Ytnmlnjljmikmpab
