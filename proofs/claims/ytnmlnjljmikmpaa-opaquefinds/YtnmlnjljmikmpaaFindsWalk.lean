/- OpaqueFinds, walked. -/
import Derived.Test.YtnmlnjljmikmpaaOy
import Derived.Test.YtnmlnjljmikmpaaSa
namespace Go.Proofs.Ytnmlnjljmikmpaa
open Go.RowKit Go.Shelf
set_option linter.unusedVariables false
set_option linter.unusedSimpArgs false
attribute [local go_sem ↓] Go.wp_at_zero Go.wp_at_succ

set_option maxRecDepth 100000 in
set_option maxHeartbeats 4000000 in
theorem long_any {w : World} {la : Option Addr} {n lc : Nat} {L : List Sm} (hl : LIn w la n L) (hn : n ≤ 1466015503701) : Calls Try.prog 15 #[.slice la n lc] w fun e w' => ∃ b, e = .returned (.bool b) ∧ Kept (fun _ => False) w w' := by
  have HL := hid hl
  have HLN : Hid (n = L.length) := hid hl.1.1
  have hn1 : (n : Int) ≤ 1466015503701 := by omega
  clear hl hn
  go_enter Try.func15, Try.ntmps15
  go_upto_region 3 with fail
  go_loopw [3, 4] (fun s i wr => ∃ (j : Nat) (t : Int), i = .int .i64 j ∧ s = .int .i64 t ∧ j ≤ n ∧ 0 ≤ t ∧ t ≤ 300 ∧ Kept (fun _ => False) w wr) (fun _ i _ => n - (intOf i).toNat)
  case atStart => exact ⟨0, 0, rfl, rfl, Nat.zero_le _, by omega, by omega, Kept.refl _ _⟩
  case round =>
    obtain ⟨j, t, rfl, rfl, hj, ht0, ht1, hk⟩ := hrel
    by_cases hlt : j < n
    · have hlt' : (j : Int) < (n : Int) := by omega
      have hj0 : (0 : Int) ≤ (j : Int) := by omega
      obtain ⟨g, off, rfl⟩ := HL.out.1.addr (by omega)
      obtain ⟨m, hx⟩ : ∃ x, L[j]? = some x := ⟨_, List.getElem?_eq_getElem (by have := HLN.out; omega)⟩
      have hSM := HL.out.2 m (List.mem_of_getElem? hx)
      have hml := hSM.2.1
      obtain ⟨⟨z0, z1, z2, z3, z4, z5, z6, z7, z8, ms⟩, ma, mc⟩ := m
      simp only at hml
      obtain ⟨a0, a1, a2, a3, a4, a5, a6, a7, a8, a9⟩ := story_cells HL.out hk hx
      have HJ : Hid (j + 1 ≤ n ∧ n - (j + 1) < n - j) := hid ⟨by omega, by omega⟩
      have HK := hid hk
      have hml2 : (ms.length : Int) ≤ 2932031007317 := by omega
      clear hx hSM hk hj hlt
      by_cases h3 : 300 < t + (ms.length : Int)
      · have t3 : decide (300 < t + (ms.length : Int)) = true := by simpa using h3
        go_wp2
        go_ret
        exact ⟨true, rfl, HK.out⟩
      · have t3 : decide (300 < t + (ms.length : Int)) = false := by simpa using h3
        have HT : Hid (0 ≤ t + (ms.length : Int) ∧ t + (ms.length : Int) ≤ 300) := hid ⟨by omega, by omega⟩
        clear h3
        go_wp2
        go_roundw
        case rel => exact ⟨j + 1, _, by simp, rfl, HJ.out.1, HT.out.1, HT.out.2, HK.out⟩
        case measure => have := HJ.out.2; simp [intOf]; omega
    · have hlt' : ¬ (j : Int) < (n : Int) := by omega
      have HK := hid hk
      clear hk hj hlt
      go_wp2
      go_ret
      exact ⟨.inl rfl, HK.out⟩
theorem le_first : ∀ {r o : List Nat}, (r = o ∨ lx r o) → ∀ (i x y : Nat), r.take i = o.take i → r[i]? = some x → o[i]? = some y → x ≠ y → x < y
  | [], _, _, i, x, y, _, h, _, _ => by simp at h
  | _ :: _, [], _, i, x, y, _, _, h, _ => by simp at h
  | a :: r, b :: o, h, 0, x, y, _, hx, hy, hne => by
    simp only [List.getElem?_cons_zero, Option.some.injEq] at hx hy
    subst hx hy
    rcases h with h | h | ⟨rfl, _⟩
    · simp only [List.cons.injEq] at h; exact absurd h.1 hne
    · exact h
    · exact absurd rfl hne
  | a :: r, b :: o, h, i + 1, x, y, ht, hx, hy, hne => by
    simp only [List.take_succ_cons, List.cons.injEq] at ht
    simp only [List.getElem?_cons_succ] at hx hy
    have h' : r = o ∨ lx r o := by
      rcases h with h | h | ⟨_, h⟩
      · simp only [List.cons.injEq] at h; exact .inl h.2
      · have := ht.1; omega
      · exact .inr h
    exact le_first h' i x y ht.2 hx hy hne
theorem chk_once {start : List Int} {l : List Sy} {o : List Int} {b : Int} (h : chk start l o = (0, b)) : chk start l o = (0, 0) ∧ ∃ o', o = asI o' := by
  unfold chk at h ⊢
  split at h
  · rename_i he
    split at h
    · simp at h
    · rename_i ht
      split at h
      · simp at h
      · rename_i hr
        refine ⟨?_, o.map Int.toNat, ?_⟩
        · rw [if_pos he]
        · unfold asI
          rw [List.map_map]
          refine (List.map_id o).symm.trans (List.map_congr_left fun x hx => ?_)
          have := he.2.1 x hx
          simp only [id, Function.comp]
          omega
  · simp at h
/-- What Search finds where Check takes an order. -/
theorem finds_plain {start : List Int} {l : List Sy} {o : List Nat} (hr : ∀ s ∈ l, minI ≤ s.en) (h : chk start l (asI o) = (0, 0)) (h7 : l.length ≤ 7) : ∃ r, srchM start l = (r, true, 0) ∧ chk start l (asI r) = (0, 0) ∧ r.length = o.length ∧ (r = o ∨ lx r o) := by
  have hs := found_spec (start := start) hr
  cases hf : found start l with
  | none => rw [hf] at hs; exact absurd h (hs o)
  | some r =>
    rw [hf] at hs
    have l1 := (chk_ok.1 hs.1).2
    have l2 := (chk_ok.1 h).2
    refine ⟨r, by unfold srchM; rw [if_neg (by omega), hf], hs.1, by omega, ?_⟩
    rcases lx_total (a := r) (b := o) (by omega) with c | c | c
    · exact .inr c
    · exact .inl c
    · exact absurd c (hs.2 o h)
set_option maxRecDepth 100000 in
set_option maxHeartbeats 8000000 in
theorem finds_walk {w : World} {sa la oa : Option Addr} {sn sc n lc k oc : Nat} {start o : List Int} {L : List Sm} (hs : RIn iC w sa sn start) (hl : LIn w la n L) (ho : RIn iC w oa k o) (hn : n ≤ 1466015503701) (hk : (k : Int) ≤ 9223372036854775806) (hsn : (sn : Int) ≤ 9223372036854775806) (hR : ∀ m ∈ L, RngS m.s) :
    Calls Try.prog 7 #[.slice sa sn sc, .slice la n lc, .slice oa k oc] w fun e w' => e = .returned (.bool true) ∧ Kept (fun _ => False) w w' := by
  have hup := up_any w
  have HC := hid (fun W (kk : Kept (fun _ => False) w W) => (check_any (w := W) (sc := sc) (lc := lc) (oc := oc) (hs.kept kk) (hl.kept kk) (ho.kept kk) hn (by omega) (by omega)).mono (fun e w' h => (⟨h.1, kk.trans h.2 (fun _ _ f => f)⟩ : _ ∧ Kept (fun _ => False) w w')))
  have HG := hid (fun W (kk : Kept (fun _ => False) w W) => (long_any (w := W) (lc := lc) (hl.kept kk) hn))
  have HS0 := hid hs
  have HL0 := hid hl
  have HI0 := hid ho
  have HN := hid hn
  have hlen := hl.len
  have hr2 : ∀ s ∈ smS L, minI ≤ s.en := fun s h => by
    obtain ⟨m, hm, rfl⟩ := List.mem_map.1 h
    exact (hR m hm).1
  have HK2 := hid ho.1
  obtain ⟨ca, cb, hc⟩ : ∃ a b, chk start (smS L) o = (a, b) := ⟨_, _, rfl⟩
  rw [hc] at HC
  simp only at HC
  by_cases h0 : ca = 0
  · subst h0
    by_cases h7 : n ≤ 7
    · have t7 : decide ((7 : Int) < (n : Int)) = false := by simp; omega
      obtain ⟨hc0, o', rfl⟩ := chk_once hc
      rw [hc0] at hc
      simp only [Prod.mk.injEq, true_and] at hc
      subst hc
      obtain ⟨r, hsr, hcr, hrl, hle⟩ := finds_plain hr2 hc0 (by omega)
      have hk' : k = o'.length := by rw [HK2.out, asI_len]
      have hn1 : (n : Int) ≤ 7 := by omega
      have HSR := hid (fun W (kk : Kept (fun _ => False) w W) => (search_in (w := W) (sc := sc) (lc := lc) (hs.kept kk) (hl.kept kk) hn (by omega)))
      rw [hsr] at HSR
      simp only at HSR
      have HC2 := hid (fun W (fa : Option Addr) (fc : Nat) (kk : Kept (fun _ => False) w W) (hf : RIn iC W fa r.length (asI r)) => (check_any (w := W) (sc := sc) (lc := lc) (oc := fc) (hs.kept kk) (hl.kept kk) hf hn (by have := HK2.out; rw [asI_len] at this; omega) (by omega)).mono (fun e w' h => (⟨h.1, hf.kept h.2, kk.trans h.2 (fun _ _ f => f)⟩ : _ ∧ RIn iC w' fa r.length (asI r) ∧ Kept (fun _ => False) w w')))
      rw [hcr] at HC2
      simp only at HC2
      have HLE := hid hle
      have HRL := hid hrl
      have HKL := hid hk'
      have tl : ((r.length : Int) != (k : Int)) = false := by simp; omega
      clear hs hl ho hn hlen hr2 hR hc0 hsr hcr hrl hle hk' h7
      go_enter Try.func7, Try.ntmps7
      go_upto_region 2 with (go_at_call 9; refine hup.mono ?_; rintro e w1 ⟨rfl, hk1⟩; have hC := HC.out w1 hk1; have HK1 := hid hk1; clear hk1)
      clear hup
      go_upto_region 3 with (go_at_call 13; refine hC.mono ?_; rintro e w2 ⟨rfl, hk2⟩; have HW2 := hid hk2; have hG := HG.out w2 hk2; clear hk2)
      clear hC
      go_upto_region 4 with (go_at_call 15; refine hG.mono ?_; rintro e w3 ⟨b, rfl, hk3⟩; have HW3 := hid (HW2.out.trans hk3 (fun _ _ f => f)); have hSR := HSR.out w3 (HW2.out.trans hk3 (fun _ _ f => f)); clear hk3)
      clear hG
      cases b with
      | true =>
        go_wp2
        go_ret
        exact ⟨rfl, HW3.out⟩
      | false =>
        go_upto_region 7 with (go_at_call 16; refine hSR.mono ?_; rintro e w4 ⟨fa, fc, rfl, hf, hk4⟩; have HW4 := hid (HW3.out.trans hk4 (fun _ _ f => f)); have hC2 := HC2.out w4 fa fc (HW3.out.trans hk4 (fun _ _ f => f)) hf; clear hf hk4)
        clear hSR
        go_upto_region 11 with (go_at_call 13; refine hC2.mono ?_; rintro e w5 ⟨rfl, hf, hk5⟩; have HW5 := hid hk5; have HF := hid hf; clear hf hk5)
        clear hC2
        go_loopw [16] (fun i wr => ∃ j : Nat, i = .int .i64 j ∧ j ≤ r.length ∧ r.take j = o'.take j ∧ Kept (fun _ => False) w5 wr) (fun i _ => r.length - (intOf i).toNat)
        case atStart => exact ⟨0, rfl, Nat.zero_le _, rfl, Kept.refl _ _⟩
        case round =>
          obtain ⟨j, rfl, hj, he, hkr⟩ := hrel
          have HKR := hid hkr
          have HW6 := hid (HW5.out.trans hkr (fun _ _ f => f))
          clear hkr
          by_cases hlt : j < r.length
          · have hlt' : (j : Int) < (r.length : Int) := by omega
            have hlk : (j : Int) < (k : Int) := by have := HKL.out; have := HRL.out; omega
            have hj0 : (0 : Int) ≤ (j : Int) := by omega
            obtain ⟨g, off, rfl⟩ := HF.out.addr (by omega)
            obtain ⟨g2, off2, rfl⟩ := HI0.out.addr (by have := HKL.out; have := HRL.out; omega)
            obtain ⟨x, hx⟩ : ∃ x, r[j]? = some x := ⟨_, List.getElem?_eq_getElem hlt⟩
            obtain ⟨y, hy⟩ : ∃ y, o'[j]? = some y := ⟨_, List.getElem?_eq_getElem (by have := HRL.out; omega)⟩
            have q1 := (HF.out.kept HKR.out.drew).at (k := 1) (fun _ => rfl) (j := j) (x := (x : Int)) (by simp [asI, hx]) 0 _ rfl
            have p1 := (HI0.out.kept HW6.out.drew).at (k := 1) (fun _ => rfl) (j := j) (x := (y : Int)) (by simp [asI, hy]) 0 _ rfl
            have q2 := (HF.out.kept HKR.out.drew.drew).at (k := 1) (fun _ => rfl) (j := j) (x := (x : Int)) (by simp [asI, hx]) 0 _ rfl
            have p2 := (HI0.out.kept HW6.out.drew.drew).at (k := 1) (fun _ => rfl) (j := j) (x := (y : Int)) (by simp [asI, hy]) 0 _ rfl
            rw [Nat.mul_one, Nat.add_zero] at q1 p1 q2 p2
            have HJ : Hid (j + 1 ≤ r.length ∧ r.length - (j + 1) < r.length - j) := hid ⟨by omega, by omega⟩
            by_cases hxy : x = y
            · subst hxy
              have t0 : ((x : Int) != (x : Int)) = false := by simp
              have HE2 : Hid (r.take (j + 1) = o'.take (j + 1)) := hid (by rw [List.take_add_one, List.take_add_one, he, hx, hy])
              clear hx hy he hj hlt
              go_upto_region 13 with fail
              go_region
              go_wp2
              go_roundw
              case rel => exact ⟨j + 1, by simp, HJ.out.1, HE2.out, HKR.out.drew⟩
              case measure => have := HJ.out.2; simp [intOf]; omega
            · have t0 : ((x : Int) != (y : Int)) = true := by simp; omega
              have hlxy := le_first HLE.out j x y he hx hy hxy
              have t1 : decide ((x : Int) < (y : Int)) = true := by simp; omega
              clear hx hy he hj hlt hxy
              go_upto_region 13 with fail
              go_region
              go_upto_region 14 with fail
              go_region
              go_wp2
              go_ret
              exact ⟨rfl, HW6.out.drew.drew⟩
          · have hlt' : ¬ (j : Int) < (r.length : Int) := by omega
            clear he hj hlt
            go_wp2
            go_ret
            exact ⟨rfl, HW6.out⟩
    · have t7 : decide ((7 : Int) < (n : Int)) = true := by simp; omega
      clear hs hl ho hn hlen hr2 hR h7 hc
      go_enter Try.func7, Try.ntmps7
      go_upto_region 2 with (go_at_call 9; refine hup.mono ?_; rintro e w1 ⟨rfl, hk1⟩; have hC := HC.out w1 hk1; have HK1 := hid hk1; clear hk1)
      clear hup
      go_upto_region 3 with (go_at_call 13; refine hC.mono ?_; rintro e w2 ⟨rfl, hk2⟩; have HW2 := hid hk2; have hG := HG.out w2 hk2; clear hk2)
      clear hC
      go_wp2_with (go_at_call 15; refine hG.mono ?_; rintro e w3 ⟨b, rfl, hk3⟩; have HW3 := hid (HW2.out.trans hk3 (fun _ _ f => f)); clear hk3)
      go_ret
      exact ⟨rfl, HW3.out⟩
  · have t0 : (ca != 0) = true := by simpa using h0
    clear hs hl ho hn hlen hr2 hR h0 hc
    go_enter Try.func7, Try.ntmps7
    go_upto_region 2 with (go_at_call 9; refine hup.mono ?_; rintro e w1 ⟨rfl, hk1⟩; have hC := HC.out w1 hk1; have HK1 := hid hk1; clear hk1)
    clear hup
    go_upto_region 3 with (go_at_call 13; refine hC.mono ?_; rintro e w2 ⟨rfl, hk2⟩; have HW2 := hid hk2; have hG := HG.out w2 hk2; clear hk2)
    clear hC
    go_wp2_with (go_at_call 15; refine hG.mono ?_; rintro e w3 ⟨b, rfl, hk3⟩; have HW3 := hid (HW2.out.trans hk3 (fun _ _ f => f)); clear hk3)
    go_ret
    exact ⟨rfl, HW3.out⟩
end Go.Proofs.Ytnmlnjljmikmpaa
