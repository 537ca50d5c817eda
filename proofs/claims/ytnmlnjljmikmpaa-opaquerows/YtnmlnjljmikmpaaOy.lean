/- What the document says of the example: awake. -/
import Derived.Test.YtnmlnjljmikmpaaOv
namespace Go.Proofs.Ytnmlnjljmikmpaa
open Go.RowKit Go.Shelf
set_option linter.unusedVariables false
set_option linter.unusedSimpArgs false
attribute [local go_sem ↓] Go.wp_at_zero Go.wp_at_succ

theorem keyOf_s (L : List Sm) : keyOf L = fun i => ptOf ((smS L).getD i Sy.zero) := by
  funext i
  simp only [keyOf, smS, List.getD_eq_getElem?_getD, List.getElem?_map]
  cases L[i]? <;> rfl
theorem LIn.len {w : World} {la : Option Addr} {n : Nat} {L : List Sm} (h : LIn w la n L) : (smS L).length = n := by rw [smS, List.length_map]; exact h.1.1.symm
/-- Order, its answer as a list in memory. -/
theorem order_in {w : World} {la : Option Addr} {n lc : Nat} {L : List Sm} (hl : LIn w la n L) (hn : n ≤ 1466015503701) : Calls Try.prog 10 #[.slice la n lc] w fun e w' => ∃ oa oc o, e = .returned (.slice oa n oc) ∧ Srt (fun i => ptOf ((smS L).getD i Sy.zero)) 0 n o ∧ RIn iC w' oa n (asI o) ∧ Kept (fun _ => False) w w' := by
  refine (order_any (lc := lc) hl hn).mono ?_
  rintro e w' ⟨v, o, rfl, hs, s⟩
  rw [keyOf_s] at hs
  have hlen : n = (asI o).length := by rw [asI_len, hs.len, Nat.sub_zero]
  obtain ⟨oa, oc, rfl⟩ := r_form s 0 rfl hlen (fun _ => rfl)
  exact ⟨oa, oc, o, rfl, hs, st_rin s 0 rfl hlen (fun _ => rfl), s.same⟩
/-- Search, its answer as a list in memory. -/
theorem search_in {w : World} {sa la : Option Addr} {sn sc n lc : Nat} {start : List Int} {L : List Sm} (hs : RIn iC w sa sn start) (hl : LIn w la n L) (hn : n ≤ 1466015503701) (hsn : (sn : Int) ≤ 9223372036854775807) :
    Calls Try.prog 16 #[.slice sa sn sc, .slice la n lc] w fun e w' => ∃ oa oc, e = .returned (.tuple #[.slice oa (srchM start (smS L)).1.length oc, .bool (srchM start (smS L)).2.1, .int .i64 (srchM start (smS L)).2.2]) ∧ RIn iC w' oa (srchM start (smS L)).1.length (asI (srchM start (smS L)).1) ∧ Kept (fun _ => False) w w' := by
  refine (search_any (lc := lc) (sc := sc) hs hl hn hsn).mono ?_
  rintro e w' ⟨v, rfl, s⟩
  obtain ⟨oa, oc, rfl⟩ := r_form s 0 rfl (asI_len _).symm (fun _ => rfl)
  exact ⟨oa, oc, rfl, st_rin s 0 rfl (asI_len _).symm (fun _ => rfl), s.same⟩
theorem new3 (W : World) (a b c : Int) : RIn iC (W.alloc (.cells #[.int .i64 a, .int .i64 b, .int .i64 c] 3)) (some ⟨W.heap.size, 0, none⟩) 3 [a, b, c] := st_rin (r_new (f := iC) (k := 1) (fun _ => rfl) 3 (St.nil W) [a, b, c] (by simp [maxLen])) 0 rfl rfl (fun _ => rfl)
set_option maxRecDepth 100000 in
set_option maxHeartbeats 4000000 in
theorem up_any (w : World) : Calls Try.prog 9 #[] w fun e w' => e = .returned (.bool true) ∧ Kept (fun _ => False) w w' := by
  have h3 := three_any w
  have HC : Hid (∀ (la : Option Addr) (L : List Sm) (a b c : Int) (x y : Int) W, LIn W la 3 L → smS L = exS → chk [] exS [a, b, c] = (x, y) → Kept (fun _ => False) w W → Calls Try.prog 13 #[.slice none 0 0, .slice la 3 3, .slice (some ⟨W.heap.size, 0, none⟩) 3 3] (W.alloc (.cells #[.int .i64 a, .int .i64 b, .int .i64 c] 3)) fun e w' => e = .returned (.tuple #[.int .i64 x, .int .i64 y]) ∧ LIn w' la 3 L ∧ Kept (fun _ => False) w w') := hid (fun la L a b c x y W hl hs hc hk => by
    refine (check_any (sa := none) (sn := 0) (sc := 0) (start := []) (lc := 3) (oc := 3) (RIn.nil _ _) (hl.kept (kept_alloc W _)) (new3 W a b c) (by omega) (by omega) (by omega)).mono ?_
    rintro e w' ⟨rfl, hk'⟩
    have hk2 := (kept_alloc W (.cells #[.int .i64 a, .int .i64 b, .int .i64 c] 3)).trans hk' (fun _ _ f => f)
    refine ⟨?_, hl.kept hk2, hk.trans hk2 (fun _ _ f => f)⟩
    rw [hs, hc])
  have HS : Hid (∀ (la oa : Option Addr) (oc : Nat) (L : List Sm) W, LIn W la 3 L → Kept (fun _ => False) w W → RIn iC W oa 3 [2, 0, 1] → Calls Try.prog 12 #[.slice oa 3 oc, .slice (some ⟨W.heap.size, 0, none⟩) 3 3] (W.alloc (.cells #[.int .i64 2, .int .i64 0, .int .i64 1] 3)) fun e w' => e = .returned (.bool true) ∧ LIn w' la 3 L ∧ Kept (fun _ => False) w w') := hid (fun la oa oc L W hl hk ho => by
    refine (sameInts_any (lc := oc) (ld := 3) (ho.kept (kept_alloc W _)) (new3 W 2 0 1) (by omega) (by omega)).mono ?_
    rintro e w' ⟨rfl, hk'⟩
    have hk2 := (kept_alloc W (.cells #[.int .i64 2, .int .i64 0, .int .i64 1] 3)).trans hk' (fun _ _ f => f)
    exact ⟨rfl, hl.kept hk2, hk.trans hk2 (fun _ _ f => f)⟩)
  have HO : Hid (∀ (la : Option Addr) (L : List Sm) W, LIn W la 3 L → smS L = exS → Kept (fun _ => False) w W → Calls Try.prog 10 #[.slice la 3 3] W fun e w' => ∃ oa oc, e = .returned (.slice oa 3 oc) ∧ RIn iC w' oa 3 [2, 0, 1] ∧ LIn w' la 3 L ∧ Kept (fun _ => False) w w') := hid (fun la L W hl hs hk => by
    refine (order_in (lc := 3) hl (by omega)).mono ?_
    rintro e w' ⟨oa, oc, o, rfl, ho, hr, hk'⟩
    rw [hs] at ho
    obtain rfl := srt_uniq ho ex_srt
    exact ⟨oa, oc, rfl, hr, hl.kept hk', hk.trans hk' (fun _ _ f => f)⟩)
  have HR : Hid (∀ (la : Option Addr) (L : List Sm) W, LIn W la 3 L → smS L = exS → Kept (fun _ => False) w W → Calls Try.prog 16 #[.slice none 0 0, .slice la 3 3] W fun e w' => ∃ oa oc, e = .returned (.tuple #[.slice oa 3 oc, .bool true, .int .i64 0]) ∧ RIn iC w' oa 3 [2, 0, 1] ∧ LIn w' la 3 L ∧ Kept (fun _ => False) w w') := hid (fun la L W hl hs hk => by
    refine (search_in (sa := none) (sn := 0) (sc := 0) (start := []) (lc := 3) (RIn.nil _ _) hl (by omega) (by omega)).mono ?_
    rintro e w' ⟨oa, oc, rfl, hr, hk'⟩
    rw [hs, ex_srch] at hr ⊢
    exact ⟨oa, oc, rfl, hr, hl.kept hk', hk.trans hk' (fun _ _ f => f)⟩)
  go_enter Try.func9, Try.ntmps9
  go_upto_region 2 with (go_at_call 19; refine h3.mono ?_; rintro e w1 ⟨la, L, rfl, hl, hs, hk⟩; have HL := hid hl; have HSS := hid hs; have HK := hid hk; have hO := HO.out la L w1 hl hs hk; clear hl hs hk)
  go_upto_region 3 with (go_at_call 10; refine hO.mono ?_; rintro e w2 ⟨oa, oc, rfl, hr, hl, hk⟩; have HL2 := hid hl; have HK2 := hid hk; have hS := HS.out la oa oc L w2 hl hk hr; clear hl hr hk)
  clear hO
  go_upto_region 4 with (go_at_call 12; refine hS.mono ?_; rintro e w3 ⟨rfl, hl, hk⟩; have HL3 := hid hl; have HK3 := hid hk; have hC1 := HC.out la L 2 0 1 _ _ w3 hl HSS.out ex_chk1 hk; clear hl hk)
  clear hS
  go_upto_region 5 with (go_at_call 13; refine hC1.mono ?_; rintro e w4 ⟨rfl, hl, hk⟩; have HL4 := hid hl; have HK4 := hid hk; have hC2 := HC.out la L 0 2 1 _ _ w4 hl HSS.out ex_chk2 hk; clear hl hk)
  clear hC1
  go_upto_region 6 with (go_at_call 13; refine hC2.mono ?_; rintro e w5 ⟨rfl, hl, hk⟩; have HL5 := hid hl; have HK5 := hid hk; have hC3 := HC.out la L 1 0 2 _ _ w5 hl HSS.out ex_chk3 hk; clear hl hk)
  clear hC2
  go_upto_region 7 with (go_at_call 13; refine hC3.mono ?_; rintro e w6 ⟨rfl, hl, hk⟩; have HL6 := hid hl; have HK6 := hid hk; have hR := HR.out la L w6 hl HSS.out hk; clear hl hk)
  clear hC3
  go_upto_region 8 with (go_at_call 16; refine hR.mono ?_; rintro e w7 ⟨ra, rc, rfl, hr, hl, hk⟩; have HK7 := hid hk; have hS2 := HS.out la ra rc L w7 hl hk hr; clear hl hr hk)
  clear hR
  go_wp2_with (go_at_call 12; refine hS2.mono ?_; rintro e w8 ⟨rfl, hl, hk⟩; have HK8 := hid hk; clear hl hk)
  go_ret
  exact ⟨rfl, HK8.out⟩
end Go.Proofs.Ytnmlnjljmikmpaa
