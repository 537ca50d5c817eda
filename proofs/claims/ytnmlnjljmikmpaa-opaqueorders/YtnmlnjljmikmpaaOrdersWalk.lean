/- OpaqueOrders, walked. -/
import Derived.Test.YtnmlnjljmikmpaaRa3
import Derived.Test.YtnmlnjljmikmpaaSa
namespace Go.Proofs.Ytnmlnjljmikmpaa
open Go.RowKit Go.Shelf
set_option linter.unusedVariables false
set_option linter.unusedSimpArgs false
attribute [local go_sem ↓] Go.wp_at_zero Go.wp_at_succ

set_option maxRecDepth 100000 in
set_option maxHeartbeats 4000000 in
theorem orders_walk {w : World} {la : Option Addr} {n lc : Nat} {L : List Sm} (hl : LIn w la n L) (hn : n ≤ 1466015503701) :
    Calls Try.prog 4 #[.slice la n lc] w fun e w' => e = .returned (.bool true) ∧ Kept (fun _ => False) w w' := by
  have hup := up_any w
  have HO := hid (fun W (kk : Kept (fun _ => False) w W) => (order_in (w := W) (lc := lc) (hl.kept kk) hn))
  have HR := hid (fun W (kk : Kept (fun _ => False) w W) => (rOrder_any (w := W) (lc := lc) (hl.kept kk) hn))
  have hn1 : (n : Int) ≤ 9223372036854775806 := by omega
  have HQ := hid (fun W (a b : Option Addr) (c d : Nat) (o : List Nat) (h1 : RIn iC W a n (asI o)) (h2 : RIn iC W b n (asI o)) => (sameInts_any (lc := c) (ld := d) h1 h2 hn1 hn1))
  clear hl hn hn1
  go_enter Try.func4, Try.ntmps4
  go_upto_region 2 with (go_at_call 9; refine hup.mono ?_; rintro e w1 ⟨rfl, hk1⟩; have hO := HO.out w1 hk1; have HK1 := hid hk1; clear hk1)
  clear hup
  go_upto_region 3 with (go_at_call 10; refine hO.mono ?_; rintro e w2 ⟨oa, oc, o, rfl, hs, hr, hk⟩; have HS := hid hs; have HRO := hid hr; have HK2 := hid (HK1.out.trans hk (fun _ _ f => f)); have hR := HR.out w2 (HK1.out.trans hk (fun _ _ f => f)); clear hs hr hk)
  clear hO
  go_upto_region 4 with (go_at_call 11; refine hR.mono ?_; rintro e w3 ⟨ra, rc, o', rfl, hs, hr, hk⟩; obtain rfl := srt_uniq HS.out hs; have hQ := HQ.out w3 oa ra oc rc o (HRO.out.kept hk) hr; have HK3 := hid (HK2.out.trans hk (fun _ _ f => f)); clear hs hr hk)
  clear hR
  go_wp2_with (go_at_call 12; refine hQ.mono ?_; rintro e w4 ⟨rfl, hk⟩; have HK4 := hid (HK3.out.trans hk (fun _ _ f => f)); clear hk)
  go_ret
  exact ⟨by simp, HK4.out⟩
end Go.Proofs.Ytnmlnjljmikmpaa
