/- The law GhostGrows, walked. -/
import Derived.Test.YtkhbkdabihokjaaGq
import Derived.Test.YtkhbkdabihokjaaGu
import Derived.Test.YtkhbkdabihokjaaGv
namespace Go.Proofs.Ytkhbkdabihokjaa
open Go.RowKit Go.Shelf
set_option linter.unusedVariables false
set_option linter.unusedSimpArgs false
attribute [local go_sem ↓] Go.wp_at_zero Go.wp_at_succ

theorem slFront (la : Option Addr) (n lc k : Nat) (h : k ≤ lc) (h0 : la = none → lc = 0) (W : World) : (Instr.slice 23 (.slice la n lc) none (some (.int .i64 (k : Int))) none).run Try.prog W = .ok (.slice la k lc) W := by
  cases la with
  | none =>
    obtain rfl := h0 rfl
    obtain rfl : k = 0 := by omega
    kernel_rfl
  | some a =>
    obtain ⟨b, o, q⟩ := a
    have e1 : (0 : Int) ≤ (k : Int) ∧ (k : Int) ≤ (lc : Int) := by omega
    simp only [Instr.slice, run_underlying Try.underlying23, Instr.sliceBounds, Instr.sliceBound, asIntOf, go_sem]
    simp [go_sem, e1]
    omega
theorem rin_take {w : World} {la : Option Addr} {n k : Nat} {l : List Ev} (h : RIn eC w la n l) (hk : k ≤ n) : RIn eC w la k (l.take k) := by
  refine ⟨by rw [List.length_take, ← h.1]; omega, fun h0 => ?_⟩
  obtain ⟨g, o, e, hc⟩ := h.2 (by omega)
  refine ⟨g, o, e, fun j u hj => hc j u ?_⟩
  have : fl eC l = fl eC (l.take k) ++ fl eC (l.drop k) := by rw [← fl_append, List.take_append_drop]
  rw [this, List.getElem?_append_left (List.getElem?_eq_some_iff.1 hj).1]
  exact hj
/-- What Build answers of events and of a beginning of them. -/
theorem grows_cases (l : List Ev) (k : Nat) (hk : k ≤ l.length) :
    (∃ j : Nat, outE l = 210 ∧ outP l = (j : Int) ∧ j < k ∧ outE (l.take k) = 210 ∧ outP (l.take k) = (j : Int)) ∨
    (∃ j : Nat, outE l = 210 ∧ outP l = (j : Int) ∧ k ≤ j ∧ j < l.length ∧ outE (l.take k) = 0) ∨
    (outE l = 0 ∧ outE (l.take k) = 0 ∧ Grows (outS (l.take k)) (outS l)) := by
  obtain ⟨h1, h2, h3⟩ := out_cut l k hk
  cases h : (outR l).2 with
  | none =>
    obtain ⟨a, b⟩ := h3 h
    exact .inr (.inr ⟨by unfold outE; rw [h], by unfold outE; rw [a], b⟩)
  | some j =>
    have e1 : outE l = 210 := by unfold outE; rw [h]
    have e2 : outP l = (j : Int) := by unfold outP; rw [h]; rfl
    by_cases hj : j < k
    · have := h1 j h hj
      exact .inl ⟨j, e1, e2, hj, by unfold outE; rw [this], by unfold outP; rw [this]; rfl⟩
    · obtain ⟨a, b⟩ := h2 j h (by omega)
      exact .inr (.inl ⟨j, e1, e2, by omega, b, by unfold outE; rw [a]⟩)
theorem outS_small (l : List Ev) : (outS l).length ≤ l.length + 8 ∧ ∀ s ∈ outS l, s.ms.length ≤ l.length := by
  unfold outS
  cases h : (outR l).2 with
  | some j => simp
  | none =>
    have := (runB_grows l Bk.zero 0 0 Bk.ok_zero Bk.live_zero h).2.1
    rw [Nat.zero_add] at this
    change (outR l).1.ok l.length at this
    have h1 := this.many
    have h2 := opens_le (outR l).1.op
    exact ⟨by show (outR l).1.ss.length ≤ _; omega, this.moves⟩
theorem mv_rin {o w : World} {sv : Value} {L : List Sm} {A B : List It} (h : St o (A ++ (stL sv L ++ B)) w) {j : Nat} {m : Sm} (hm : L[j]? = some m) : RIn mC w m.la m.s.ms.length m.s.ms := by
  have hj := (List.getElem?_eq_some_iff.1 hm).1
  refine st_rin (t := 38) (k := 6) (lc := m.lc) h (A.length + (j + 1)) ?_ rfl (fun _ => rfl)
  rw [List.getElem?_append_right (by omega), show A.length + (j + 1) - A.length = j + 1 by omega, List.getElem?_append_left (by simp; omega), List.getElem?_cons_succ, List.getElem?_map, hm]
  rfl
set_option maxRecDepth 100000 in
set_option maxHeartbeats 4000000 in
theorem grows_walk {w : World} (la : Option Addr) (n lc : Nat) (l : List Ev) (cut : Int) (hc1 : -9223372036854775808 ≤ cut) (hc2 : cut ≤ 9223372036854775807) (hl : RIn eC w la n l) (h1 : n ≤ lc) (h2 : lc ≤ maxLen) (h3 : n * 80 ≤ 140737488351232) (h4 : la = none → n = 0 ∧ lc = 0) :
    Calls Try.prog 7 #[.slice la n lc, .int .i64 cut] w fun e w' => e = .returned (.bool true) ∧ Kept (fun _ => False) w w' := by
  have hU := awake_any w
  have hn1 : (n : Int) ≤ 1759218604390 := by omega
  refine if hc : cut < 0 then ?pp else ?qq
  case' pp =>
    go_enter Try.func7, Try.ntmps7
    go_upto_region 4 with (first | (go_at_call 9; refine hU.mono ?_; rintro e wa ⟨rfl, ka⟩))
    have hz : 0 ≤ -(cut + 1) := by omega
    generalize -(cut + 1) = c at *
    have hz2 : c ≤ c := by omega
    clear hc hc1 hc2
  case' qq =>
    go_enter Try.func7, Try.ntmps7
    go_upto_region 4 with (first | (go_at_call 9; refine hU.mono ?_; rintro e wa ⟨rfl, ka⟩))
    have hz : 0 ≤ cut := by omega
    clear hc hc1 hc2
    generalize cut = c at *
  all_goals
    obtain ⟨k, hk, hkn⟩ : ∃ k : Nat, c % ((n : Int) + 1) = (k : Int) ∧ k ≤ n := by
      have e1 := Int.emod_nonneg c (show ((n : Int) + 1) ≠ 0 by omega)
      have e2 := Int.emod_lt_of_pos c (show (0 : Int) < (n : Int) + 1 by omega)
      exact ⟨(c % ((n : Int) + 1)).toNat, by omega, by omega⟩
    have hB := build_any (lc := lc) (hl.kept ka) h3
    have HG := hid (grows_cases l k (by rw [← hl.1]; exact hkn))
    have HLN := hid hl.1
    have hsl := slFront la n lc k (by omega) (fun e => (h4 e).2)
    have HL := hid (fun (W : World) (kk : Kept (fun _ => False) w W) => build_any (lc := lc) (rin_take (hl.kept kk) hkn) (by omega))
    have HKA := hid ka
    have HS1 := hid (outS_small l)
    have HS2 := hid (outS_small (l.take k))
    clear hU hl h1 h2 h3 h4 ka
    go_upto_region 5 with fail
    simp only [hk]
    clear hk hz
    go_upto_region 6 with (first | (go_at_call 11; refine hB.mono ?_; rintro e wb ⟨sv, L, rfl, hL, sb⟩; have HSB := hid sb; obtain ⟨sa, sc, rfl, -, hsc, -⟩ := r_rin sb 0 rfl sC_len))
    have hB2 := HL.out _ (HKA.out.trans HSB.out.same (fun _ _ f => f))
    clear hB HL sb
    go_upto_region 7 with (first | simp only [hsl] | (go_at_call 11; refine hB2.mono ?_; rintro e wc ⟨sv2, L2, rfl, hL2, sc2⟩; have HSC := hid sc2; obtain ⟨sa2, cc2, rfl, -, hsc2, -⟩ := r_rin sc2 0 rfl sC_len))
    clear hB2 sc2 hsl
    have HX := hid (HSB.out.over HSC.out)
    have HK := hid (HKA.out.trans HX.out.same (fun _ _ f => f))
    have HLL := hid hL
    have HLL2 := hid hL2
    clear HSB HSC HKA hL hL2
    rcases HG.out with ⟨j, e1, e2, e3, e4, e5⟩ | ⟨j, e1, e2, e3, e6, e4⟩ | ⟨e1, e4, HGR⟩
    · have t1 : (j : Int) < (k : Int) := by omega
      simp only [e1, e2, e4, e5]
      clear e1 e2 e3 e4 e5 HG
      go_wp2
      go_ret
      exact ⟨rfl, HK.out⟩
    · have t1 : ¬ (j : Int) < (k : Int) := by omega
      have t2 : (j : Int) < (n : Int) := by have := HLN.out; omega
      simp only [e1, e2, e4]
      clear e1 e2 e3 e4 e6 HG
      go_wp2
      go_ret
      exact ⟨rfl, HK.out⟩
    · have HLE : Hid (L2.length ≤ L.length) := hid (by
        have := HGR.len
        rw [← HLL.out, ← HLL2.out, List.length_map, List.length_map] at this
        exact this)
      have t1 : ¬ (L.length : Int) < (L2.length : Int) := by have := HLE.out; omega
      have hm1 : (L.length : Int) ≤ 1759218604398 := by
        have := HS1.out.1
        rw [← HLL.out, List.length_map] at this
        have := HLN.out
        omega
      have HWI : Hid (∀ (j : Nat) m, L2[j]? = some m → ∃ m2, L[j]? = some m2 ∧ Wi m.s m2.s ∧ m2.s.ms.length ≤ 2932031007317) := hid (fun j m hm => by
        have e : (outS (l.take k))[j]? = some m.s := by rw [← HLL2.out, List.getElem?_map, hm]; rfl
        obtain ⟨s2, he, hw⟩ := HGR j m.s e
        rw [← HLL.out, List.getElem?_map] at he
        obtain ⟨m2, hm2, rfl⟩ := Option.map_eq_some_iff.1 he
        refine ⟨m2, hm2, hw, ?_⟩
        have h5 := HS1.out.2 m2.s (by rw [← HLL.out]; exact List.mem_map_of_mem (List.mem_of_getElem? hm2))
        have := HLN.out
        omega)
      simp only [e1, e4]
      clear e1 e4 HG HGR HLL HLL2 HS1 HS2
      generalize outP l = p1
      generalize outP (l.take k) = p2
      have hm2 : (L2.length : Int) ≤ 1759218604398 := by have := HLE.out; omega
      go_upto_region 14 with fail
      go_loopw [13] (fun i wr => ∃ (j : Nat), i = .int .i64 j ∧ j ≤ L2.length ∧ Kept (fun _ => False) wc wr) (fun i _ => L2.length - (intOf i).toNat)
      case atStart => exact ⟨0, rfl, Nat.zero_le _, Kept.refl _ _⟩
      case round =>
        obtain ⟨j, rfl, hj, hk⟩ := hrel
        by_cases hlt : j < L2.length
        · have hlt' : (j : Int) < (L2.length : Int) := by omega
          have hlt2 : (j : Int) < (L.length : Int) := by have := HLE.out; omega
          have hj0 : (0 : Int) ≤ (j : Int) := by omega
          obtain ⟨m, hm⟩ : ∃ m, L2[j]? = some m := ⟨_, List.getElem?_eq_getElem hlt⟩
          obtain ⟨m2, hm2, hw, hms⟩ := HWI.out j m hm
          have hr := st_rin (HX.out.calm hk.drew) 0 rfl rfl sC_len
          have hr2 := st_rin (f := sC) (k := 10) (t := 36) (xs := L) (la := sa) (lc := sc) (n := L.length) (HX.out.calm hk.drew) (L2.length + 1) (by rw [List.getElem?_append_right (by simp)]; simp) rfl sC_len
          obtain ⟨g, off, rfl⟩ := hr.addr (by omega)
          obtain ⟨g2, off2, rfl⟩ := hr2.addr (by omega)
          have hD := hk.drew
          have CH : Hid (∀ W, Kept (fun _ => False) wc W → W.cell? ⟨g, off + j * 10, none⟩ = some (.int .i64 m.s.th) ∧ W.cell? ⟨g, off + j * 10 + 1, none⟩ = some (.int .i64 m.s.sp) ∧ W.cell? ⟨g, off + j * 10 + 2, none⟩ = some (.int .i64 m.s.bg) ∧ W.cell? ⟨g, off + j * 10 + 3, none⟩ = some (.int .i64 m.s.en) ∧ W.cell? ⟨g, off + j * 10 + 4, none⟩ = some (.int .i64 m.s.ft) ∧ W.cell? ⟨g, off + j * 10 + 5, none⟩ = some (.int .i64 m.s.e) ∧ W.cell? ⟨g, off + j * 10 + 6, none⟩ = some (.int .i64 m.s.by_) ∧ W.cell? ⟨g, off + j * 10 + 7, none⟩ = some (.int .i64 m.s.op) ∧ W.cell? ⟨g, off + j * 10 + 8, none⟩ = some (.int .i64 m.s.ga) ∧ W.cell? ⟨g, off + j * 10 + 9, none⟩ = some (.slice m.la m.s.ms.length m.lc) ∧ W.cell? ⟨g2, off2 + j * 10, none⟩ = some (.int .i64 m2.s.th) ∧ W.cell? ⟨g2, off2 + j * 10 + 1, none⟩ = some (.int .i64 m2.s.sp) ∧ W.cell? ⟨g2, off2 + j * 10 + 2, none⟩ = some (.int .i64 m2.s.bg) ∧ W.cell? ⟨g2, off2 + j * 10 + 3, none⟩ = some (.int .i64 m2.s.en) ∧ W.cell? ⟨g2, off2 + j * 10 + 4, none⟩ = some (.int .i64 m2.s.ft) ∧ W.cell? ⟨g2, off2 + j * 10 + 5, none⟩ = some (.int .i64 m2.s.e) ∧ W.cell? ⟨g2, off2 + j * 10 + 6, none⟩ = some (.int .i64 m2.s.by_) ∧ W.cell? ⟨g2, off2 + j * 10 + 7, none⟩ = some (.int .i64 m2.s.op) ∧ W.cell? ⟨g2, off2 + j * 10 + 8, none⟩ = some (.int .i64 m2.s.ga) ∧ W.cell? ⟨g2, off2 + j * 10 + 9, none⟩ = some (.slice m2.la m2.s.ms.length m2.lc) ∧ Kept (fun _ => False) wc W) := hid (fun W h => by
            have s := HX.out.calm h
            have r1 := st_rin s 0 rfl rfl sC_len
            have r2 := st_rin (f := sC) (k := 10) (t := 36) (xs := L) (n := L.length) s (L2.length + 1) (by rw [List.getElem?_append_right (by simp)]; simp; rfl) rfl sC_len
            have q := fun i u hu => r1.at (k := 10) sC_len hm i u hu
            have r := fun i u hu => r2.at (k := 10) sC_len hm2 i u hu
            exact ⟨q 0 _ rfl, q 1 _ rfl, q 2 _ rfl, q 3 _ rfl, q 4 _ rfl, q 5 _ rfl, q 6 _ rfl, q 7 _ rfl, q 8 _ rfl, q 9 _ rfl, r 0 _ rfl, r 1 _ rfl, r 2 _ rfl, r 3 _ rfl, r 4 _ rfl, r 5 _ rfl, r 6 _ rfl, r 7 _ rfl, r 8 _ rfl, r 9 _ rfl, h⟩)
          have CS : Hid (∀ W, Kept (fun _ => False) wc W → Calls Try.prog 26 #[syV m, syV m2] W fun e w' => e = .returned (.bool true) ∧ Kept (fun _ => False) wc w') := hid (fun W h => by
            have s := HX.out.calm h
            refine (within_yes m m2 hw (mv_rin (A := []) s hm) (mv_rin (B := []) (by rw [List.append_nil]; exact s) hm2) hms).mono ?_
            rintro e w' ⟨rfl, kk⟩
            exact ⟨rfl, h.trans kk (fun _ _ f => f)⟩)
          have HJ : Hid (j + 1 ≤ L2.length ∧ L2.length - (j + 1) < L2.length - j) := hid ⟨by omega, by omega⟩
          obtain ⟨c0, c1, c2, c3, c4, c5, c6, c7, c8, c9, d0, d1, d2, d3, d4, d5, d6, d7, d8, d9, _⟩ := CH.out _ hD
          clear hr hr2 hw hms hm hm2 hk HX HWI hlt hj
          generalize L2.length = N2 at *
          generalize L.length = N1 at *
          go_upto_region 16 with fail
          go_region_held3 (fun W => W.cell? ⟨g, off + j * 10, none⟩ = some (.int .i64 m.s.th) ∧ W.cell? ⟨g, off + j * 10 + 1, none⟩ = some (.int .i64 m.s.sp) ∧ W.cell? ⟨g, off + j * 10 + 2, none⟩ = some (.int .i64 m.s.bg) ∧ W.cell? ⟨g, off + j * 10 + 3, none⟩ = some (.int .i64 m.s.en) ∧ W.cell? ⟨g, off + j * 10 + 4, none⟩ = some (.int .i64 m.s.ft) ∧ W.cell? ⟨g, off + j * 10 + 5, none⟩ = some (.int .i64 m.s.e) ∧ W.cell? ⟨g, off + j * 10 + 6, none⟩ = some (.int .i64 m.s.by_) ∧ W.cell? ⟨g, off + j * 10 + 7, none⟩ = some (.int .i64 m.s.op) ∧ W.cell? ⟨g, off + j * 10 + 8, none⟩ = some (.int .i64 m.s.ga) ∧ W.cell? ⟨g, off + j * 10 + 9, none⟩ = some (.slice m.la m.s.ms.length m.lc) ∧ W.cell? ⟨g2, off2 + j * 10, none⟩ = some (.int .i64 m2.s.th) ∧ W.cell? ⟨g2, off2 + j * 10 + 1, none⟩ = some (.int .i64 m2.s.sp) ∧ W.cell? ⟨g2, off2 + j * 10 + 2, none⟩ = some (.int .i64 m2.s.bg) ∧ W.cell? ⟨g2, off2 + j * 10 + 3, none⟩ = some (.int .i64 m2.s.en) ∧ W.cell? ⟨g2, off2 + j * 10 + 4, none⟩ = some (.int .i64 m2.s.ft) ∧ W.cell? ⟨g2, off2 + j * 10 + 5, none⟩ = some (.int .i64 m2.s.e) ∧ W.cell? ⟨g2, off2 + j * 10 + 6, none⟩ = some (.int .i64 m2.s.by_) ∧ W.cell? ⟨g2, off2 + j * 10 + 7, none⟩ = some (.int .i64 m2.s.op) ∧ W.cell? ⟨g2, off2 + j * 10 + 8, none⟩ = some (.int .i64 m2.s.ga) ∧ W.cell? ⟨g2, off2 + j * 10 + 9, none⟩ = some (.slice m2.la m2.s.ms.length m2.lc) ∧ Kept (fun _ => False) wc W) (first | exact CH.out _ hD) (first | (go_at_call 26; refine (CS.out _ hD).mono ?_; rintro e wx ⟨rfl, hD⟩))
          go_wp2
          go_roundw
          case rel => exact ⟨j + 1, by simp, HJ.out.1, hD⟩
          case measure => have := HJ.out.2; simp [intOf]; omega
        · have hlt' : ¬ (j : Int) < (L2.length : Int) := by omega
          have HR := hid (HK.out.trans hk (fun _ _ f => f))
          clear HX HWI hk
          go_wp2
          go_ret
          exact ⟨rfl, HR.out⟩
end Go.Proofs.Ytkhbkdabihokjaa
