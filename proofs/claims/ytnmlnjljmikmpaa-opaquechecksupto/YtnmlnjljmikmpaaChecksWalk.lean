/- OpaqueChecks, walked, where the stories write no more cells in all than a list holds. -/
import Derived.Test.YtnmlnjljmikmpaaRi
import Derived.Test.YtnmlnjljmikmpaaOy
namespace Go.Proofs.Ytnmlnjljmikmpaa
open Go.RowKit Go.Shelf
set_option linter.unusedVariables false
set_option linter.unusedSimpArgs false
attribute [local go_sem ↓] Go.wp_at_zero Go.wp_at_succ

set_option maxRecDepth 100000 in
set_option maxHeartbeats 8000000 in
theorem checks_walk {w : World} {sa la oa : Option Addr} {sn sc n lc k oc : Nat} {start o : List Int} {L : List Sm} (hs : RIn iC w sa sn start) (hl : LIn w la n L) (ho : RIn iC w oa k o) (hn : n ≤ 1466015503701) (hk : k * 8 ≤ 140737488355328) (hsn : (sn : Int) ≤ 9223372036854775806) (hR : ∀ m ∈ L, RngS m.s) (h0 : oa = none → k = 0 ∧ oc = 0)
    (hB : ∀ (os : List Int) j, os.length = k ∨ os.length = n → sumW (pick (smS L) (os.take j)) < 2932031007317) :
    Calls Try.prog 5 #[.slice sa sn sc, .slice la n lc, .slice oa k oc] w fun e w' => e = .returned (.bool true) ∧ Kept (fun _ => False) w w' := by
  have hup := up_any w
  obtain rfl : k = o.length := ho.1
  have HC := hid (fun W (va : Option Addr) (vc q : Nat) (os : List Int) (kk : Kept (fun _ => False) w W) (h : RIn iC W va q os) (hq : (q : Int) ≤ 9223372036854775806) => (check_any (w := W) (sc := sc) (lc := lc) (oc := vc) (hs.kept kk) (hl.kept kk) h hn (by omega) (by omega)).mono (fun e w' x => (⟨x.1, h.kept x.2, kk.trans x.2 (fun _ _ f => f), x.2⟩ : e = Ending.returned (.tuple #[.int .i64 (chk start (smS L) os).1, .int .i64 (chk start (smS L) os).2]) ∧ RIn iC w' va q os ∧ Kept (fun _ => False) w w' ∧ Kept (fun _ => False) W w')))
  have HD := hid (fun W (va : Option Addr) (vc q : Nat) (os : List Int) (kk : Kept (fun _ => False) w W) (h : RIn iC W va q os) (hq : (q : Int) ≤ 9223372036854775806) (hqq : q = o.length ∨ q = n) => (rCheck_any (w := W) (sc := sc) (lc := lc) (oc := vc) (hs.kept kk) (hl.kept kk) h hn (by omega) (by omega) hR (fun j => hB os j (by rw [← h.1]; exact hqq))).mono (fun e w' x => (⟨x.1, h.kept x.2, kk.trans x.2 (fun _ _ f => f), x.2⟩ : e = Ending.returned (.tuple #[.int .i64 (chk start (smS L) os).1, .int .i64 (chk start (smS L) os).2]) ∧ RIn iC w' va q os ∧ Kept (fun _ => False) w w' ∧ Kept (fun _ => False) W w')))
  have HO := hid (fun W (kk : Kept (fun _ => False) w W) => (rOrder_any (w := W) (lc := lc) (hl.kept kk) hn))
  have HQ := hid (fun W (a b : Option Addr) (c d : Nat) (h1 : RIn iC W a o.length o) (h2 : RIn iC W b o.length o) => (sameInts_any (lc := c) (ld := d) h1 h2 (by omega) (by omega)))
  have HI := hid ho
  have hk2 : (o.length : Int) ≤ 9223372036854775806 := by omega
  have hn2 : (n : Int) ≤ 9223372036854775806 := by omega
  have HZ : Hid ((([] : List Int).length + o.length) * 8 ≤ 140737488355328) := hid (by simp; exact hk)
  have H0 := hid h0
  clear hs hl ho hn hsn hR hB h0
  go_enter Try.func5, Try.ntmps5
  go_upto_region 2 with (go_at_call 9; refine hup.mono ?_; rintro e w1 ⟨rfl, hk1⟩; have HK1 := hid hk1; clear hk1)
  clear hup
  have s1 := r_nil iC 3 1 ((St.nil w).calm HK1.out)
  have HS1 := hid s1
  have HI1 := hid (HI.out.kept HK1.out)
  clear s1
  go_upto_region 4 with (at_builtin; refine wpList_appR Try.rowI HS1.out rfl _ _ rfl rfl oa o.length oc rfl HI1.out H0.out HZ.out ?_; intro v2 w2 s2; rw [List.nil_append] at s2; obtain ⟨va, vc, rfl⟩ := r_form s2 0 rfl rfl (fun _ => rfl); have HS2 := hid s2; clear s2)
  have K2 := hid HS2.out.same
  have R2 := hid (st_rin (f := iC) HS2.out 0 rfl rfl (fun _ => rfl))
  clear HS1 HI1 HZ
  have h4 := HC.out w2 va vc _ o K2.out R2.out hk2
  go_upto_region 5 with (go_at_call 13; refine h4.mono ?_; rintro e w3 ⟨rfl, hr, hk, -⟩; have R3 := hid hr; have K3 := hid hk; clear hr hk)
  clear h4
  have h5 := HD.out w3 oa oc _ o K3.out (HI.out.kept K3.out) hk2 (.inl rfl)
  go_upto_region 6 with (go_at_call 14; refine h5.mono ?_; rintro e w4 ⟨rfl, hr, hk, hv⟩; have K4 := hid hk; have R4 := hid (R3.out.kept hv); clear hr hk hv)
  clear h5
  have h6 := HO.out w4 K4.out
  go_upto_region 7 with (go_at_call 11; refine h6.mono ?_; rintro e w5 ⟨ba, bc, o2, rfl, hsr, hr, hk⟩; have R5 := hid hr; have K5 := hid (K4.out.trans hk (fun _ _ f => f)); have P5 := hid (R4.out.kept hk); clear hsr hr hk)
  clear h6
  have h7 := HC.out w5 ba bc _ _ K5.out R5.out hn2
  go_upto_region 8 with (go_at_call 13; refine h7.mono ?_; rintro e w6 ⟨rfl, hr, hk, hv⟩; have R6 := hid hr; have K6 := hid hk; have P6 := hid (P5.out.kept hv); clear hr hk hv)
  clear h7
  have h8 := HD.out w6 ba bc _ _ K6.out R6.out hn2 (.inr rfl)
  go_upto_region 9 with (go_at_call 14; refine h8.mono ?_; rintro e w7 ⟨rfl, hr, hk, hv⟩; have K7 := hid hk; have P7 := hid (P6.out.kept hv); clear hr hk hv)
  clear h8
  have h9 := HQ.out w7 va oa vc oc P7.out (HI.out.kept K7.out)
  generalize (chk start (smS L) o).1 = y1 at *
  generalize (chk start (smS L) o).2 = y2 at *
  generalize (chk start (smS L) (asI o2)).1 = y3 at *
  generalize (chk start (smS L) (asI o2)).2 = y4 at *
  go_wp2_with (go_at_call 12; refine h9.mono ?_; rintro e w8 ⟨rfl, hk⟩; have K8 := hid (K7.out.trans hk (fun _ _ f => f)); clear hk)
  go_ret
  exact ⟨by simp, K8.out⟩
end Go.Proofs.Ytnmlnjljmikmpaa
