/- StackBack's walk: what is pushed comes back the other way round. -/
import Derived.Test.YtgbhefbhleflhaaApart
namespace Go.Proofs.Ytgbhefbhleflhaa
open Go.RowKit
set_option linter.unusedVariables false
set_option linter.unusedSimpArgs false

/-- The stack and its copy. -/
structure Twin (w0 w : World) (p q : Nat) (most : Int) (v u : Value) (n m : Nat) (xs ys : List Value) : Prop where
  s : Held 67 3 1 w0 w p most v n xs
  c : StackAt 67 3 1 w0.heap.size w q most u m ys
  ap : Apart p v q u
theorem Twin.calm {w0 w w' : World} {p q : Nat} {most : Int} {v u : Value} {n m : Nat} {xs ys : List Value} (h : Twin w0 w p q most v u n m xs ys) (k : Kept (fun _ => False) w w') : Twin w0 w' p q most v u n m xs ys := ⟨h.s.calm k, h.c.calm k, h.ap⟩
theorem Twin.turned {w0 w w' : World} {p q : Nat} {most : Int} {v u : Value} {n m n' : Nat} {xs ys xs' : List Value} (h : Twin w0 w p q most v u n m xs ys) (ht : Turned 67 3 1 w0.heap.size w w' p most v n' xs') : ∃ v', Twin w0 w' p q most v' u n' m xs' ys := by
  obtain ⟨v', a1, a2, a3⟩ := ht
  refine ⟨v', ⟨a1, h.s.kept.trans a2 (fun i hi f => ?_)⟩, h.c.other h.ap a2, h.ap.fresh a3 h.c⟩
  have := (h.s.st.foot f).1
  omega

theorem take_snoc (zs : List Int) (k : Nat) (hk : k < zs.length) : (zs.take (k + 1)).map (Value.int .i64) = (zs.take k).map (Value.int .i64) ++ [.int .i64 (zs.getD k 0)] := by
  rw [List.take_succ_eq_append_getElem hk, List.map_append]
  simp only [List.map_cons, List.map_nil, List.getD_eq_getElem?_getD, List.getElem?_eq_getElem hk, Option.getD_some]
theorem take_at (zs : List Int) (k : Nat) (hk : k < zs.length) : ((zs.take (k + 1)).map (Value.int .i64)).getD k undef = .int .i64 (zs.getD k 0) := by
  rw [take_snoc zs k hk]
  simp [Nat.min_eq_left (Nat.le_of_lt hk)]
theorem take_back (zs : List Int) (k : Nat) : ((zs.take (k + 1)).map (Value.int .i64)).take k = (zs.take k).map (Value.int .i64) := by
  rw [← List.map_take, List.take_take, Nat.min_eq_left (Nat.le_succ k)]
theorem ints_take {w : World} {la : Option Addr} {n : Nat} {zs : List Int} (h : IntsIn w la n zs) {k : Nat} (hk : k ≤ n) : IntsIn w la k (zs.take k) := by
  obtain ⟨h1, h2⟩ := h
  refine ⟨by simp; omega, fun h0 => ?_⟩
  obtain ⟨g, o, hla, hc⟩ := h2 (by omega)
  refine ⟨g, o, hla, fun j hj => ?_⟩
  rw [hc j (by omega), List.getD_eq_getElem?_getD, List.getD_eq_getElem?_getD, List.getElem?_take_of_lt hj]

set_option maxRecDepth 100000 in
set_option maxHeartbeats 1000000 in
theorem back_walk (most : Int) (la : Option Addr) (len cap : Nat) (zs : List Int) (w : World) (hL : ListAt w la len cap zs) :
    Calls Try.prog 4 #[.int .i64 most, .slice la len cap] w fun e w' => e = .returned (.bool true) ∧ Kept (fun _ => False) w w' := by
  obtain ⟨hI, hlen, hbig⟩ := list_ints hL
  have HI : Hid (∀ w', Kept (fun _ => False) w w' → IntsIn w' la len zs) := fun w' k => hI.kept k
  have HL : Hid (len = zs.length) := hlen
  have hcap : (len : Int) ≤ (cap : Int) := by
    rcases hL with ⟨_, h1, h2, _⟩ | ⟨_, _, _, h1, _⟩
    · omega
    · omega
  have hA := and255 most
  obtain ⟨N, hN⟩ : ∃ N : Nat, (N : Int) = 1 + most % 256 := ⟨(1 + most % 256).toNat, by omega⟩
  have hN1 : 1 ≤ N := by omega
  have hN2 : N ≤ 256 := by omega
  have hW : wrap64 (1 + bits .and .i64 most 255) = N := by rw [hA, ← hN]; unfold wrap64; omega
  clear hA hN hlen hI hL
  go_enter Try.func4, Try.ntmps4
  go_wp2_with fail
  refine (awake_any _).mono ?_
  rintro e wa ⟨rfl, hka⟩
  go_wp2_with fail
  simp only [hW]
  clear hW
  refine (newI_yes N _ (by omega) (by omega)).mono ?_
  rintro e w2 ⟨rfl, h0, k0⟩
  have H0 : Held 67 3 1 wa w2 wa.heap.size N (.slice none 0 0) 0 [] := ⟨h0, k0⟩
  clear h0 k0
  generalize hp : wa.heap.size = p at H0 ⊢
  clear hp
  have HKA : Hid (Kept (fun _ => False) w wa) := hka
  clear hka
  have hlen : len ≤ 17592186044416 := by omega
  clear hbig
  have hbi : (1 : Int) ≤ N := by omega
  have hbj : (N : Int) ≤ 256 := by omega
  go_wp2_with fail
  go_loopw [9] (fun i wr => ∃ (k : Nat) (v : Value), i = .int .i64 k ∧ k ≤ len ∧ Held 67 3 1 wa wr p N v (min k N) ((zs.take (min k N)).map (Value.int .i64))) (fun i _ => len - (intOf i).toNat)
  case atStart => exact ⟨0, _, rfl, Nat.zero_le _, by simpa using H0⟩
  case round =>
    clear H0
    obtain ⟨k, v, rfl, hk, H⟩ := hrel
    have hk0 : (0 : Int) ≤ (k : Int) := Int.natCast_nonneg _
    by_cases hlt : k < len
    · have hI := HI.out wr (HKA.out.trans H.kept (fun _ _ f => f))
      obtain ⟨g, o, rfl, hc⟩ := hI.2 (by omega)
      have c1 := hc k hlt
      have hzl : k < zs.length := by have := HL.out; omega
      clear hI hc
      have hk1 : (k : Int) < (len : Int) := by omega
      by_cases hkn : k < N
      · rw [Nat.min_eq_left (by omega)] at H
        have hP := pushI_ok (zs.getD k 0) (by omega) H.st H.kept.size
        rw [← take_snoc zs k hzl] at hP
        generalize zs.getD k 0 = z at *
        have hkn1 : (k : Int) < (N : Int) := by omega
        have HR : Hid (∀ w', Turned 67 3 1 wa.heap.size wr w' p N v (k + 1) ((zs.take (k + 1)).map (Value.int .i64)) → ∃ v', Held 67 3 1 wa w' p N v' (k + 1) ((zs.take (k + 1)).map (Value.int .i64))) := fun w' ht => H.turned ht
        clear H
        go_wp2_with fail
        refine hP.mono ?_
        rintro e w3 ⟨rfl, ht⟩
        obtain ⟨v', H'⟩ := HR.out _ ht
        clear hP ht HR
        go_wp2
        go_roundw
        case rel => exact ⟨k + 1, _, by go_num, by omega, by rw [Nat.min_eq_left (by omega)]; exact H'⟩
        case measure => simp [intOf]; omega
      · rw [Nat.min_eq_right (by omega)] at H
        have hP := pushI_full (.int .i64 (zs.getD k 0)) rfl H.st
        generalize zs.getD k 0 = z at *
        have hkn1 : (N : Int) ≤ (k : Int) := by omega
        have HR : Hid (∀ w', Kept (fun _ => False) wr w' → Held 67 3 1 wa w' p N v N ((zs.take N).map (Value.int .i64))) := fun w' ht => H.calm ht
        clear H
        go_wp2_with fail
        refine hP.mono ?_
        rintro e w3 ⟨rfl, ht⟩
        have H' := HR.out _ ht
        clear hP ht HR
        go_wp2
        go_roundw
        case rel => exact ⟨k + 1, _, by go_num, by omega, by rw [Nat.min_eq_right (by omega)]; exact H'⟩
        case measure => simp [intOf]; omega
    · obtain rfl : k = len := by omega
      have hmin := min_run (P := Try.prog) N k
      have hKl : min k N ≤ zs.length := by have := HL.out; omega
      have hKk : min k N ≤ k := by omega
      have hKN : min k N ≤ 256 := by omega
      generalize min k N = K at *
      clear hk0 hlt
      go_wp2_with (simp only [hmin])
      refine (copyI_any H.st (ints_one _)).mono ?_
      rintro e w3 ⟨q, u, rfl, hC, hkc⟩
      have T0 : Twin wa w3 p q N v u K K ((zs.take K).map (Value.int .i64)) ((zs.take K).map (Value.int .i64)) := ⟨H.calm hkc, hC.mono H.kept.size, Apart.later H.st hC⟩
      clear H hC hkc hmin
      have hK0 : (0 : Int) ≤ K := Int.natCast_nonneg _
      have hK1 : (K : Int) ≤ 256 := by omega
      obtain ⟨wl, hwl⟩ : ∃ y, y = wr := ⟨_, rfl⟩
      clear hwl wl
      go_wp2_with fail
      go_loopw [13] (fun i wr => ∃ (a : Int) (j : Nat) (v : Value), i = .int .i64 a ∧ a = j - 1 ∧ j ≤ K ∧ Twin wa wr p q N v u j K ((zs.take j).map (Value.int .i64)) ((zs.take K).map (Value.int .i64))) (fun i _ => (intOf i + 1).toNat)
      case atStart => exact ⟨_, K, _, rfl, rfl, Nat.le_refl _, T0⟩
      case round =>
        clear T0
        obtain ⟨a, j, v, rfl, ha, hj, T⟩ := hrel
        rcases j with _ | j
        · obtain rfl : a = -1 := by simpa using ha
          have hT := T
          clear ha hj
          have hP := popI_no T.s.st
          go_wp2_with fail
          refine hP.mono ?_
          rintro e w4 ⟨rfl, rfl⟩
          clear hP
          have LN : ∀ W, Twin wa W p q N v u 0 K [] ((zs.take K).map (Value.int .i64)) → Calls Try.prog 12 #[.pointer (some ⟨p, 0, none⟩)] W fun e w' => e = .returned (.int .i64 0) ∧ Twin wa w' p q N v u 0 K [] ((zs.take K).map (Value.int .i64)) :=
            fun W h => (lenI_any h.s.st).mono fun e w' ⟨he, hw⟩ => ⟨he, hw ▸ h⟩
          have AL : ∀ W, Twin wa W p q N v u 0 K [] ((zs.take K).map (Value.int .i64)) → Calls Try.prog 15 #[.pointer (some ⟨q, 0, none⟩)] W fun e w' => ∃ ga ca, e = .returned (.slice ga K ca) ∧ IntsIn w' ga K (zs.take K) ∧ Twin wa w' p q N v u 0 K [] ((zs.take K).map (Value.int .i64)) := by
            intro W h
            refine (allI_any h.c (ints_one _)).mono ?_
            rintro e w' ⟨v', rfl, ho, hk⟩
            obtain ⟨ga, ca, rfl⟩ := own_shape ho
            exact ⟨ga, ca, rfl, owned_ints ho, h.calm hk⟩
          have SM : ∀ W ga ca, IntsIn W ga K (zs.take K) → Twin wa W p q N v u 0 K [] ((zs.take K).map (Value.int .i64)) → Calls Try.prog 14 #[.slice ga K ca, .slice la K cap] W fun e w' => e = .returned (.bool true) ∧ Twin wa w' p q N v u 0 K [] ((zs.take K).map (Value.int .i64)) := by
            intro W ga ca hi h
            have hl := ints_take (HI.out W (HKA.out.trans h.s.kept (fun _ _ f => f))) hKk
            refine (sameInts_true ga la K ca cap _ W hi hl (by omega)).mono ?_
            rintro e w' ⟨rfl, d, rfl⟩
            exact ⟨rfl, h.calm ((Kept.refl _ W).drewN d)⟩
          have hKc : (K : Int) ≤ (cap : Int) := by omega
          go_wp2_with fail
          have hD : Twin wa w4.drew p q N v u 0 K [] ((zs.take K).map (Value.int .i64)) := hT.calm ((Kept.refl _ w4).drew)
          clear T hT
          go_region_held3 (fun w' => Twin wa w' p q N v u 0 K [] ((zs.take K).map (Value.int .i64))) (first | exact hD)
            (first | (go_at_call 12; refine (LN _ hD).mono ?_; rintro e w' ⟨rfl, hD⟩) | (go_at_call 15; refine (AL _ hD).mono ?_; rintro e w' ⟨ga, ca, rfl, hI, hD⟩) | (go_at_call 14; refine (SM _ _ _ hI hD).mono ?_; rintro e w' ⟨rfl, hD⟩))
          go_wp2
          go_ret
          exact ⟨rfl, HKA.out.trans hD.s.kept (fun _ _ f => f)⟩
        · obtain rfl : a = (j : Int) := by omega
          have hjl : j < zs.length := by omega
          have hI := HI.out wr (HKA.out.trans T.s.kept (fun _ _ f => f))
          obtain ⟨g, o, rfl, hc⟩ := hI.2 (by omega)
          have c1 := hc j (by omega)
          have HC : Hid (∀ w', Kept (fun _ => False) wa w' → w'.cell? ⟨g, o + j, none⟩ = some (.int .i64 (zs.getD j 0))) := fun w' k => by
            have hx := (HI.out w' (HKA.out.trans k (fun _ _ f => f))).2 (by omega)
            obtain ⟨g', o', he, hc'⟩ := hx
            cases he
            exact hc' j (by omega)
          clear hI hc
          have hP := popI_ok T.s.st
          rw [take_at zs j hjl, take_back] at hP
          generalize zs.getD j 0 = z at *
          have HR : Hid (∀ w', Turned 67 3 1 wa.heap.size wr w' p N v j ((zs.take j).map (Value.int .i64)) → ∃ v', Twin wa w' p q N v' u j K ((zs.take j).map (Value.int .i64)) ((zs.take K).map (Value.int .i64))) := fun w' ht => T.turned ht
          have hj0 : (0 : Int) ≤ (j : Int) := Int.natCast_nonneg _
          have hj1 : (j : Int) < (k : Int) := by omega
          have hzz : (z != z) = false := by simp
          have HJ : Hid (j + 1 ≤ K) := hj
          clear T ha hj
          go_wp2_with fail
          refine hP.mono ?_
          rintro e w4 ⟨rfl, ht⟩
          obtain ⟨v', T'⟩ := HR.out _ ht
          have c2 : w4.cell? ⟨g, o + j, none⟩ = some (.int .i64 z) := HC.out _ T'.s.kept
          clear hP ht HR c1
          go_wp2
          go_roundw
          case rel => exact ⟨_, j, _, rfl, rfl, by have := HJ.out; omega, T'⟩
          case measure => simp [intOf]
end Go.Proofs.Ytgbhefbhleflhaa
