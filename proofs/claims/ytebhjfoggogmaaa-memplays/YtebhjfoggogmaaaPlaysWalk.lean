/- MemPlays's walk where both rows may be. -/
import Derived.Test.YtebhjfoggogmaaaPlaysNo
namespace Go.Proofs.Ytebhjfoggogmaaa
open Go.RowKit
set_option linter.unusedVariables false
set_option linter.unusedSimpArgs false
attribute [local go_sem ↓] Go.wp_at_zero Go.wp_at_succ

set_option maxRecDepth 100000 in
set_option maxHeartbeats 1000000 in
theorem plays_yes (kind one two : Int) (a : Option Addr) (len cap : Nat) (f : Nat → OpD) (w : World) (hs : ScriptAt w a len f) (h1 : 1 ≤ one ∧ one ≤ 4096) (h2 : 1 ≤ two ∧ two ≤ 4096) :
    Calls Try.prog 4 #[.int .i64 kind, .int .i64 one, .int .i64 two, .slice a len cap] w fun e w' => e = .returned (.bool true) ∧ Below w.heap.size w w' := by
  obtain ⟨n1, rfl⟩ : ∃ n1 : Nat, one = n1 := ⟨one.toNat, by omega⟩
  obtain ⟨n2, rfl⟩ : ∃ n2 : Nat, two = n2 := ⟨two.toNat, by omega⟩
  have HO : Hid ((1 : Int) ≤ n1 ∧ (n1 : Int) ≤ 4096) := h1
  have HT : Hid ((1 : Int) ≤ n2 ∧ (n2 : Int) ≤ 4096) := h2
  clear h1 h2
  go_enter Try.func4, Try.ntmps4
  go_wp2_with fail
  refine (awake_any _).mono ?_
  rintro e wa ⟨rfl, hka⟩
  obtain ⟨M, hM⟩ : ∃ M, wa.heap.size = M := ⟨_, rfl⟩
  have hwM : w.heap.size ≤ M := hM ▸ hka.size
  go_wp2_with fail
  refine (newMeter_f _).mono ?_
  rintro e w1 ⟨rfl, m1⟩
  have z1 : w1.heap.size = M + 1 := by have := m1.size; omega
  go_wp2_with fail
  refine (newRow_f _ _ _ _ HO.out.1 HO.out.2).mono ?_
  rintro e w2 ⟨rfl, m2⟩
  have z2 : w2.heap.size = M + 3 := by have := m2.size; omega
  go_wp2_with fail
  generalize hkd : wrap64 (kind - 1) = kd2
  refine (newRow_f _ _ _ _ HT.out.1 HT.out.2).mono ?_
  rintro e w3 ⟨rfl, m3⟩
  have z3 : w3.heap.size = M + 5 := by have := m3.size; omega
  go_wp2_with fail
  refine (may_yes _ _ HO.out.1 HO.out.2).mono ?_
  rintro e w4 ⟨rfl, hw4⟩
  subst hw4
  go_wp2_with fail
  refine (may_yes _ _ HT.out.1 HT.out.2).mono ?_
  rintro e w5 ⟨rfl, hw5⟩
  subst hw5
  go_wp2_with fail
  have m4 := newM 34 w5
  generalize w5.alloc (.cells #[.int .i64 0, .int .i64 0, .int .i64 0, .int .i64 0, .slice none 0 0] 34) = w6 at m4 ⊢
  have z4 : w6.heap.size = M + 6 := by have := m4.size; omega
  refine (refNew_f _ _ _ _ HO.out.1 HO.out.2).mono ?_
  rintro e w7 ⟨rfl, m5⟩
  have z5 : w7.heap.size = M + 8 := by have := m5.size; omega
  go_wp2_with fail
  refine (refNew_f _ _ _ _ HT.out.1 HT.out.2).mono ?_
  rintro e w8 ⟨rfl, m6⟩
  have z6 : w8.heap.size = M + 10 := by have := m6.size; omega
  have T0 : Duo w M 0 kind kd2 n1 n2 w8 Mt.zero (.slice none 0 0) (.slice none 0 0) (List.replicate n1 0) (List.replicate n2 0) := by
    have h1 := HO.out
    have h2 := HT.out
    have c5 := m6.calm
    have c4 := calm_trans m5.calm c5
    have c3 := calm_trans m4.calm c4
    have c2 := calm_trans m3.calm c3
    have c1 := calm_trans m2.calm c2
    have c0 := calm_trans m1.calm c1
    have a1 := meter_made (b := M + 10) m1 c1 (by omega) (by omega)
    have a2 := row_made (b := M + 10) m2 c2 (by simp; omega) (by omega) (by omega) (by omega)
    have a3 := row_made (b := M + 10) m3 c3 (by simp; omega) (by omega) (by omega) (by omega)
    have a4 := meter_made (b := M + 10) m4 c4 (by omega) (by omega)
    have a5 := row_made (b := M + 10) m5 c5 (by simp; omega) (by omega) (by omega) (by omega)
    have a6 := row_made (b := M + 10) m6 (Kept.refl _ _) (by simp; omega) (by omega) (by omega) (by omega)
    simp only [hM, z1, z2, z3, z4, z5, Int.toNat_natCast] at a1 a2 a3 a4 a5 a6
    exact ⟨⟨a1, a4, a2, a5, apart_nil _, by omega, by omega, by omega, by omega, by omega, by omega, by omega, by omega, by omega⟩, ⟨a1, a4, a3, a6, apart_nil _, by omega, by omega, by omega, by omega, by omega, by omega, by omega, by omega, by omega⟩, by simp, by simp, Mt.within_zero _, (hka.below (Nat.le_refl _) (fun _ _ f => f)).trans (c0.below hka.size (fun _ _ f => f))⟩
  clear m1 m2 m3 m4 m5 m6 hka
  go_wp2_with fail
  clear z1 z2 z3 z4 z5 z6 hM hkd
  go_loopw [18] (fun i wr => ∃ (k : Nat) (s : Mt) (v q : Value) (xs1 xs2 : List Int), i = .int .i64 k ∧ k ≤ len ∧ Duo w M k kind kd2 n1 n2 wr s v q xs1 xs2) (fun i _ => len - (intOf i).toNat)
  case atStart => exact ⟨0, _, _, _, _, _, rfl, Nat.zero_le _, T0⟩
  case round =>
    obtain ⟨k, s, v, q, xs1, xs2, rfl, hk, hT⟩ := hrel
    by_cases hlt : k < len
    · rcases hs with h0 | ⟨b0, off, rfl, hreach, hops⟩
      · omega
      have ho := (hops k hlt).below hT.be (Nat.le_refl _)
      have hlist := (hops k hlt).list
      clear hops
      generalize f k = o at ho hlist
      have hap : ∀ a, o.la = some a → 0 < o.ll → a.block < w.heap.size := by
        intro a ha h0
        obtain ⟨g, q, hgo, hc⟩ := (list_ints hlist).1.2 h0
        rw [ha] at hgo; cases hgo
        exact World.block_lt_of_cell? w _ (hc 0 h0)
      obtain ⟨o0, o1, o2, o3, o4, o5, hl'⟩ := ho
      have hi0 : (0 : Int) ≤ (k : Int) := Int.natCast_nonneg _
      have hi1 : (k : Int) < (len : Int) := by omega
      have D1 := does_any o hT.p1 hT.wi (by omega) hl' (fun a ha h0 => by have := hap a ha h0; omega)
      have D2 := does_any o hT.p2 hT.wi (by omega) hl' (fun a ha h0 => by have := hap a ha h0; omega)
      clear hlist hl' hap
      obtain ⟨other, kind', i, x, old, la, ll, lc, zs⟩ := o
      simp only at o0 o1 o2 o3 o4 o5 D1 D2
      cases other
      · go_wp2_with (first | (go_at_call 14; refine D1.mono ?_; rintro e w' ⟨rfl, hd⟩; have hT' := hT.first hwM hd; clear D1 D2; obtain ⟨s', v', q', xs1', hT'⟩ := hT') | (go_at_call 15; refine (held_meters _ hT'.p1.m1 hT'.p1.m2).mono ?_; rintro e w'' ⟨rfl, hc⟩; have hT'' := hT'.calm hc))
        go_roundw
        case rel => exact ⟨k + 1, _, _, _, _, _, by go_num, by omega, hT''⟩
        case measure => simp [intOf]; omega
      · go_wp2_with (first | (go_at_call 14; refine D2.mono ?_; rintro e w' ⟨rfl, hd⟩; have hT' := hT.second hwM hd; clear D1 D2; obtain ⟨s', v', q', xs2', hT'⟩ := hT') | (go_at_call 15; refine (held_meters _ hT'.p1.m1 hT'.p1.m2).mono ?_; rintro e w'' ⟨rfl, hc⟩; have hT'' := hT'.calm hc))
        go_roundw
        case rel => exact ⟨k + 1, _, _, _, _, _, by go_num, by omega, hT''⟩
        case measure => simp [intOf]; omega
    · have hreach : len * 64 ≤ 140737488351232 := by
        rcases hs with h0 | ⟨b0, off, _, hreach, _⟩
        · omega
        · exact hreach
      clear hs T0
      have hkn : k ≤ 2199023255552 := by omega
      have hsl := hT.wi.len
      go_wp2_with fail
      refine (log_any _ _ _ _ _ _ _ _ _ hT.p1.m1 (by omega)).mono ?_
      rintro e w1 ⟨l1, rfl, ho1, k1⟩
      have hT1 := hT.calm k1
      go_wp2_with fail
      refine (log_any _ _ _ _ _ _ _ _ _ hT1.p1.m1 (by omega)).mono ?_
      rintro e w2 ⟨l2, rfl, ho2, k2⟩
      obtain ⟨gl, cl, rfl, hgl⟩ := owned_shape ho1
      have HD1 : Hid (Duo w M k kind kd2 n1 n2 wr s v q xs1 xs2) := hT
      have hTold : Told w M k kind kd2 n1 n2 wr.heap.size w1.heap.size (.slice gl s.l.length cl) l2 s v q xs1 xs2 w2 := ⟨hT1.calm k2, ownsRow_kept ho1 k2 (fun _ _ f => f), ho2, k2.size⟩
      have HL2 : Hid (∀ i, (Value.slice gl s.l.length cl).ownBlock = some i → wr.heap.size ≤ i ∧ i < w1.heap.size) := fun i hi => ho1.lt i hi
      have HL1 : Hid (0 < s.l.length → ∃ g, gl = some ⟨g, 0, none⟩ ∧ wr.heap.size ≤ g ∧ g < w1.heap.size) := hgl
      have HS1 : Hid (wr.heap.size ≤ w1.heap.size) := k1.size
      have HX1 : Hid (xs1.length = n1) := hT.l1
      have HX2 : Hid (xs2.length = n2) := hT.l2
      have HN1 : Hid (n1 ≤ 4096) := by have := HO.out; show n1 ≤ 4096; omega
      have HN2 : Hid (n2 ≤ 4096) := by have := HT.out; show n2 ≤ 4096; omega
      clear ho1 ho2 k1 k2 hT1 hgl
      generalize hW0 : wr.heap.size = H1 at *
      generalize w1.heap.size = H2 at *
      have HD0 : Hid (wr.heap.size = H1) := hW0
      clear hW0
      go_wp2_with fail
      generalize e1 : M + 1 + 1 = r1
      generalize e2 : M + 3 + 1 = r2
      generalize e3 : M + 5 = x0
      generalize e4 : M + 6 + 1 = y1
      generalize e5 : M + 8 + 1 = y2
      have sm : ∀ W, Told w M k kind kd2 n1 n2 H1 H2 (.slice gl s.l.length cl) l2 s v q xs1 xs2 W → Calls Try.prog 17 #[.slice gl s.l.length cl, q] W fun e w' => e = .returned (.bool true) ∧ Told w M k kind kd2 n1 n2 H1 H2 (.slice gl s.l.length cl) l2 s v q xs1 xs2 w' :=
        fun W h => (held_log W h.duo.p1.m2 (own_zero h.o1) h.duo.wi hkn).mono fun e w' ⟨he, hk⟩ => ⟨he, h.calm hk⟩
      have ln1 : ∀ W, Told w M k kind kd2 n1 n2 H1 H2 (.slice gl s.l.length cl) l2 s v q xs1 xs2 W → Calls Try.prog 18 #[.pointer (some ⟨r1, 0, none⟩)] W fun e w' => e = .returned (.int .i64 n1) ∧ Told w M k kind kd2 n1 n2 H1 H2 (.slice gl s.l.length cl) l2 s v q xs1 xs2 w' :=
        fun W h => e1 ▸ (len_any W h.duo.p1.r1).mono fun e w' ⟨he, hw⟩ => ⟨by rw [he, h.duo.l1], hw ▸ h⟩
      have ln2 : ∀ W, Told w M k kind kd2 n1 n2 H1 H2 (.slice gl s.l.length cl) l2 s v q xs1 xs2 W → Calls Try.prog 18 #[.pointer (some ⟨r2, 0, none⟩)] W fun e w' => e = .returned (.int .i64 n2) ∧ Told w M k kind kd2 n1 n2 H1 H2 (.slice gl s.l.length cl) l2 s v q xs1 xs2 w' :=
        fun W h => e2 ▸ (len_any W h.duo.p2.r1).mono fun e w' ⟨he, hw⟩ => ⟨by rw [he, h.duo.l2], hw ▸ h⟩
      have al1 : ∀ W, Told w M k kind kd2 n1 n2 H1 H2 (.slice gl s.l.length cl) l2 s v q xs1 xs2 W → Calls Try.prog 20 #[.pointer (some ⟨r1, 0, none⟩)] W fun e w' => ∃ ga ca, e = .returned (.slice ga n1 ca) ∧ IntsIn w' ga n1 xs1 ∧ Told w M k kind kd2 n1 n2 H1 H2 (.slice gl s.l.length cl) l2 s v q xs1 xs2 w' := by
        intro W h
        subst e1
        refine (all_any W h.duo.p1.r1).mono ?_
        rintro e w' ⟨v', rfl, ho, hk⟩
        obtain ⟨ga, ca, rfl, _⟩ := owned_shape ho
        have hi := owned_ints ho
        rw [h.duo.l1] at hi
        exact ⟨ga, ca, by rw [h.duo.l1], hi, h.calm hk⟩
      have al2 : ∀ W, Told w M k kind kd2 n1 n2 H1 H2 (.slice gl s.l.length cl) l2 s v q xs1 xs2 W → Calls Try.prog 20 #[.pointer (some ⟨r2, 0, none⟩)] W fun e w' => ∃ ga ca, e = .returned (.slice ga n2 ca) ∧ IntsIn w' ga n2 xs2 ∧ Told w M k kind kd2 n1 n2 H1 H2 (.slice gl s.l.length cl) l2 s v q xs1 xs2 w' := by
        intro W h
        subst e2
        refine (all_any W h.duo.p2.r1).mono ?_
        rintro e w' ⟨v', rfl, ho, hk⟩
        obtain ⟨ga, ca, rfl, _⟩ := owned_shape ho
        have hi := owned_ints ho
        rw [h.duo.l2] at hi
        exact ⟨ga, ca, by rw [h.duo.l2], hi, h.calm hk⟩
      have sr1 : ∀ W ga ca, IntsIn W ga n1 xs1 → Told w M k kind kd2 n1 n2 H1 H2 (.slice gl s.l.length cl) l2 s v q xs1 xs2 W → Calls Try.prog 19 #[.slice ga n1 ca, .slice (some ⟨M + 6, 0, none⟩) n1 n1] W fun e w' => e = .returned (.bool true) ∧ Told w M k kind kd2 n1 n2 H1 H2 (.slice gl s.l.length cl) l2 s v q xs1 xs2 w' := by
        intro W ga ca hi h
        have hr := row_ints h.duo.p1.r2
        rw [h.duo.l1] at hr
        exact (held_rows W hi hr HN1.out).mono fun e w' ⟨he, hk⟩ => ⟨he, h.calm hk⟩
      have sr2 : ∀ W ga ca, IntsIn W ga n2 xs2 → Told w M k kind kd2 n1 n2 H1 H2 (.slice gl s.l.length cl) l2 s v q xs1 xs2 W → Calls Try.prog 19 #[.slice ga n2 ca, .slice (some ⟨M + 8, 0, none⟩) n2 n2] W fun e w' => e = .returned (.bool true) ∧ Told w M k kind kd2 n1 n2 H1 H2 (.slice gl s.l.length cl) l2 s v q xs1 xs2 w' := by
        intro W ga ca hi h
        have hr := row_ints h.duo.p2.r2
        rw [h.duo.l2] at hr
        exact (held_rows W hi hr HN2.out).mono fun e w' ⟨he, hk⟩ => ⟨he, h.calm hk⟩
      have C0 : Hid (∀ W, Half w M k kind kd2 n1 n2 H2 l2 s v q xs1 xs2 W → W.cell? ⟨x0, 4, none⟩ = some q) := fun W h => e3 ▸ cell_of_heap h.duo.p1.m2.heap
      have C1 : Hid (∀ W, Told w M k kind kd2 n1 n2 H1 H2 (.slice gl s.l.length cl) l2 s v q xs1 xs2 W → W.cell? ⟨x0, 4, none⟩ = some q) := fun W h => e3 ▸ cell_of_heap h.duo.p1.m2.heap
      have C2 : Hid (∀ W, Told w M k kind kd2 n1 n2 H1 H2 (.slice gl s.l.length cl) l2 s v q xs1 xs2 W → W.cell? ⟨y1, 2, none⟩ = some (.slice (some ⟨M + 6, 0, none⟩) n1 n1)) := fun W h => by have := h.duo.p1.r2.row; rw [h.duo.l1] at this; exact e4 ▸ cell_of_heap this
      have C3 : Hid (∀ W, Told w M k kind kd2 n1 n2 H1 H2 (.slice gl s.l.length cl) l2 s v q xs1 xs2 W → W.cell? ⟨y2, 2, none⟩ = some (.slice (some ⟨M + 8, 0, none⟩) n2 n2)) := fun W h => by have := h.duo.p2.r2.row; rw [h.duo.l2] at this; exact e5 ▸ cell_of_heap this
      clear e1 e2 e3 e4 e5
      have c1 := C1.out _ hTold
      have c2 := C2.out _ hTold
      have c3 := C3.out _ hTold
      have hH := hTold.calm ((Kept.refl _ w2).drew)
      have hn1 : ((n1 : Int) != (n1 : Int)) = false := by simp
      have hn2 : ((n2 : Int) != (n2 : Int)) = false := by simp
      clear hT hTold
      go_region_held3 (fun w' => w'.cell? ⟨x0, 4, none⟩ = some q ∧ w'.cell? ⟨y1, 2, none⟩ = some (.slice (some ⟨M + 6, 0, none⟩) n1 n1) ∧ w'.cell? ⟨y2, 2, none⟩ = some (.slice (some ⟨M + 8, 0, none⟩) n2 n2) ∧ Told w M k kind kd2 n1 n2 H1 H2 (.slice gl s.l.length cl) l2 s v q xs1 xs2 w')
        (first | exact ⟨C1.out _ hH, C2.out _ hH, C3.out _ hH, hH⟩)
        (first | (go_at_call 17; refine (sm _ hH).mono ?_; rintro e w' ⟨rfl, hH⟩) | (go_at_call_of 18 r1; refine (ln1 _ hH).mono ?_; rintro e w' ⟨rfl, hH⟩) | (go_at_call_of 18 r2; refine (ln2 _ hH).mono ?_; rintro e w' ⟨rfl, hH⟩) | (go_at_call_of 20 r1; refine (al1 _ hH).mono ?_; rintro e w' ⟨ga, ca, rfl, hI, hH⟩) | (go_at_call_of 20 r2; refine (al2 _ hH).mono ?_; rintro e w' ⟨ga, ca, rfl, hI, hH⟩) | (go_at_call_of 19 n1; refine (sr1 _ _ _ hI hH).mono ?_; rintro e w' ⟨rfl, hH⟩) | (go_at_call_of 19 n2; refine (sr2 _ _ _ hI hH).mono ?_; rintro e w' ⟨rfl, hH⟩))
      have hB : Half w M k kind kd2 n1 n2 H2 l2 s v q xs1 xs2 w' := ⟨hH.duo, hH.o2, hH.sz⟩
      have hB1 := hH.o1
      clear sm ln1 ln2 al1 al2 sr1 sr2 C1 C2 C3 c1 c2 c3 hn1 hn2 hH
      have C1 : Hid (∀ W, Half w M k kind kd2 n1 n2 H2 l2 s v q xs1 xs2 W → W.cell? ⟨x0, 4, none⟩ = some q) := fun W h => C0.out W h
      have sm2 : ∀ W, Half w M k kind kd2 n1 n2 H2 l2 s v q xs1 xs2 W → Calls Try.prog 17 #[l2, q] W fun e w' => e = .returned (.bool true) ∧ Half w M k kind kd2 n1 n2 H2 l2 s v q xs1 xs2 w' :=
        fun W h => (held_log W h.duo.p1.m2 (own_zero h.o2) h.duo.wi hkn).mono fun e w' ⟨he, hk⟩ => ⟨he, h.calm hk⟩
      have lg : ∀ W, Half w M k kind kd2 n1 n2 H2 l2 s v q xs1 xs2 W → Calls Try.prog 16 #[.pointer (some ⟨M, 0, none⟩)] W fun e w' => ∃ v', e = .returned v' ∧ w'.ownsRow 0 50 6 v' s.l.length (logCells s.l) ∧ Half w M k kind kd2 n1 n2 H2 l2 s v q xs1 xs2 w' :=
        fun W h => (told_log W h.duo.p1.m1 h.duo.wi hkn).mono fun e w' ⟨v', he, ho, hk⟩ => ⟨v', he, ho, h.calm hk⟩
      have sm3 : ∀ W v', Half w M k kind kd2 n1 n2 H2 l2 s v q xs1 xs2 W → W.ownsRow 0 50 6 v' s.l.length (logCells s.l) → Calls Try.prog 17 #[v', q] W fun e w' => e = .returned (.bool true) ∧ Half w M k kind kd2 n1 n2 H2 l2 s v q xs1 xs2 w' :=
        fun W v' h hv => (held_log W h.duo.p1.m2 hv h.duo.wi hkn).mono fun e w' ⟨he, hk⟩ => ⟨he, h.calm hk⟩
      have SM2 : Hid (∀ W, Half w M k kind kd2 n1 n2 H2 l2 s v q xs1 xs2 W → Calls Try.prog 17 #[l2, q] W fun e w' => e = .returned (.bool true) ∧ Half w M k kind kd2 n1 n2 H2 l2 s v q xs1 xs2 w') := sm2
      have LG : Hid (∀ W, Half w M k kind kd2 n1 n2 H2 l2 s v q xs1 xs2 W → Calls Try.prog 16 #[.pointer (some ⟨M, 0, none⟩)] W fun e w' => ∃ v', e = .returned v' ∧ w'.ownsRow 0 50 6 v' s.l.length (logCells s.l) ∧ Half w M k kind kd2 n1 n2 H2 l2 s v q xs1 xs2 w') := lg
      have SM3 : Hid (∀ W v', Half w M k kind kd2 n1 n2 H2 l2 s v q xs1 xs2 W → W.ownsRow 0 50 6 v' s.l.length (logCells s.l) → Calls Try.prog 17 #[v', q] W fun e w' => e = .returned (.bool true) ∧ Half w M k kind kd2 n1 n2 H2 l2 s v q xs1 xs2 w') := sm3
      clear sm2 lg sm3
      have HTurn : Hid (∀ (W W' : World) (F : Nat → Prop), Half w M k kind kd2 n1 n2 H2 l2 s v q xs1 xs2 W → Kept F W W' → (∀ i, F i → H1 ≤ i ∧ i < H2) → Half w M k kind kd2 n1 n2 H2 l2 s v q xs1 xs2 W') := fun W W' F a1 a2 a3 => Half.turn HD1.out a1 a2 HD0.out a3
      clear HD1 HD0
      obtain ⟨i0, hi0, hz0, hz1, hz2⟩ := info_parts Try.info50
      go_wp2_with fail
      go_loopw [22] (fun iv wr' => ∃ (j : Nat) (cs : List Value), iv = .int .i64 j ∧ j ≤ s.l.length ∧ wr'.ownsRow H1 50 6 (.slice gl s.l.length cl) s.l.length cs ∧ Half w M k kind kd2 n1 n2 H2 l2 s v q xs1 xs2 wr') (fun iv _ => s.l.length - (intOf iv).toNat)
      case atStart => exact ⟨0, _, rfl, Nat.zero_le _, hB1, hB⟩
      case round =>
        obtain ⟨j, cs, rfl, hj, hor1, hhf⟩ := hrel
        clear hB1 hB
        by_cases hjl : j < s.l.length
        · obtain ⟨g, rfl, hg1, hg2⟩ := HL1.out (by omega)
          have hcl := hor1.1
          have cx : ∀ t, t < 6 → ∃ z, wr.cell? ⟨g, j * 6 + t, none⟩ = some z := fun t ht => ⟨_, (hor1.cellAt (j * 6 + t) (by omega)).trans (List.getElem?_eq_getElem (by omega))⟩
          obtain ⟨z0, d0⟩ := cx 0 (by omega)
          obtain ⟨z1, d1⟩ := cx 1 (by omega)
          obtain ⟨z2, d2⟩ := cx 2 (by omega)
          obtain ⟨z3, d3⟩ := cx 3 (by omega)
          obtain ⟨z4, d4⟩ := cx 4 (by omega)
          obtain ⟨z5, d5⟩ := cx 5 (by omega)
          rw [Nat.add_zero] at d0
          have f0 : wr.frozen? ⟨g, j * 6, none⟩ = false := hor1.frozenAt _
          have f1 : wr.frozen? ⟨g, j * 6 + 1, none⟩ = false := hor1.frozenAt _
          have f2 : wr.frozen? ⟨g, j * 6 + 2, none⟩ = false := hor1.frozenAt _
          have f3 : wr.frozen? ⟨g, j * 6 + 3, none⟩ = false := hor1.frozenAt _
          have f4 : wr.frozen? ⟨g, j * 6 + 4, none⟩ = false := hor1.frozenAt _
          have f5 : wr.frozen? ⟨g, j * 6 + 5, none⟩ = false := hor1.frozenAt _
          have hj0 : (0 : Int) ≤ (j : Int) := Int.natCast_nonneg _
          have hj1 : (j : Int) < (s.l.length : Int) := by omega
          obtain ⟨⟨cs', S1⟩, S2⟩ := six hor1 (j * 6) (.int .i64 0) (.int .i64 0) (.int .i64 0) (.int .i64 0) (.int .i64 0) (.bool false)
          have S3 := HTurn.out _ _ _ hhf S2 (fun i f => by omega)
          clear cx hcl S2
          go_wp2
          go_roundw
          case rel => exact ⟨j + 1, cs', by go_num, by omega, S1, S3⟩
          case measure => simp [intOf]; omega
        · have hrow := HL2.out
          have hbase : H1 ≤ wr.heap.size := by have := hhf.sz; have := HS1.out; omega
          go_wp2_with (at_builtin; refine wpList_append_own_at _ rfl (.tmp 203) (.tmp 205) 32 rfl H1 50 i0 _ 6 48 Try.underlying32 hi0 hz0 hz1 hz2 rfl (by omega) (.slice gl s.l.length cl) s.l.length cs rfl (hor1.alloc _) ⟨wr.heap.size, 0, none⟩ 1 1 [.int .i64 (-1), .int .i64 0, .int .i64 0, .int .i64 0, .int .i64 0, .bool false] rfl rfl (World.news_of_block (cs := #[.int .i64 (-1), .int .i64 0, .int .i64 0, .int .i64 0, .int .i64 0, .bool false]) (t := 50) (fr := (0, 0)) (heap_alloc_new wr _)) (by simp [Value.oneCell']) (by unfold maxLen; omega) (by omega) (by simp; omega) ?_; intro v3 w3 hown3 hgrow hnil hat)
          have hH : Half w M k kind kd2 n1 n2 H2 l2 s v q xs1 xs2 w3 := HTurn.out _ _ (fun i => (Value.slice gl s.l.length cl).ownBlock = some i) hhf (((Kept.refl _ wr).alloc _).grown hgrow (fun i e => .inl e)) hrow
          have c1 := C1.out _ hH
          clear hgrow hown3 hnil hat hor1 hhf
          have hH0 := hH
          clear hrow
          go_wp2_with fail
          have hH := hH0.calm ((Kept.refl _ w3).drew)
          clear hH0
          go_region_held3 (fun w' => w'.cell? ⟨x0, 4, none⟩ = some q ∧ Half w M k kind kd2 n1 n2 H2 l2 s v q xs1 xs2 w')
            (first | exact ⟨C1.out _ hH, hH⟩)
            (first | (go_at_call_of 17 l2; refine (SM2.out _ hH).mono ?_; rintro e w' ⟨rfl, hH⟩) | (go_at_call 16; refine (LG.out _ hH).mono ?_; rintro e w' ⟨v', rfl, hL, hH⟩) | (go_at_call_of 17 v'; refine (SM3.out _ _ hH hL).mono ?_; rintro e w' ⟨rfl, hH⟩))
          go_wp2
          go_ret
          exact ⟨rfl, hH.duo.be⟩
end Go.Proofs.Ytebhjfoggogmaaa
