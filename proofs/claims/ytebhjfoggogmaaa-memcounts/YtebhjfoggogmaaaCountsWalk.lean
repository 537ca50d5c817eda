/- MemCounts's walk. -/
import Derived.Test.YtebhjfoggogmaaaUp
import Derived.Test.YtebhjfoggogmaaaOps
import Derived.Test.YtebhjfoggogmaaaRuns
import Derived.BigQuiet
import Derived.Deep.QuietTactic
namespace Go.Proofs.Ytebhjfoggogmaaa
open Go.RowKit
set_option linter.unusedVariables false
set_option linter.unusedSimpArgs false
attribute [local go_sem ↓] Go.wp_at_zero Go.wp_at_succ

theorem and63 (n : Int) : bits .and .i64 n 63 = n % 64 := by
  have h63 : (BitVec.ofInt 64 63).toNat = 2 ^ 6 - 1 := by decide
  have key : (BitVec.ofInt 64 n &&& BitVec.ofInt 64 63).toNat = (n % ((2 ^ 64 : Nat) : Int)).toNat % 2 ^ 6 := by
    rw [BitVec.toNat_and, BitVec.toNat_ofInt, h63, Nat.and_two_pow_sub_one_eq_mod]
  show IntKind.i64.wrap ((BitVec.ofInt 64 n &&& BitVec.ofInt 64 63).toNat : Nat) = n % 64
  rw [key, IntKind.wrap_i64]
  omega

theorem foot_below {B : Nat} {w w' : World} {b m c : Nat} {s : Mt} {v : Value} (k : Kept (rowFoot m c v) w w') (hm : MeterS 79 50 b w m s v) (h1 : B ≤ m) (h2 : B ≤ c) (h3 : B ≤ b) (h4 : B ≤ w.heap.size) : Below B w w' :=
  k.below h4 (fun i hi f => by
    rcases f with f | f | f
    · omega
    · exact hm.apart (by omega) f
    · omega)

theorem log_step (l : List Acc) : ∀ j, j < l.length → (logCells l)[j * 6]? = some (.int .i64 ((steps l).getD j 0)) := by
  induction l with
  | nil => intro j hj; simp at hj
  | cons a l ih =>
    intro j hj
    cases j with
    | zero => simp [logCells, Acc.cells, steps]
    | succ j =>
      have := ih j (by simpa using hj)
      rw [show (j + 1) * 6 = 6 + j * 6 by omega]
      simp only [logCells]
      rw [List.getElem?_append_right (by simp [Acc.cells])]
      simpa [Acc.cells, steps] using this

/-- What stands while the log is gone through. -/
structure LogHeld (w : World) (g cap m b : Nat) (s : Mt) (v : Value) (ga : Option Addr) (B : Nat) (wr : World) : Prop where
  own : wr.ownsRow B 50 6 (.slice ga s.l.length cap) s.l.length (logCells s.l)
  met : MeterS 79 50 b wr m s v
  bel : Below w.heap.size w wr
theorem LogHeld.drew {w : World} {g cap m b : Nat} {s : Mt} {v : Value} {ga : Option Addr} {B : Nat} {wr : World} (h : LogHeld w g cap m b s v ga B wr) : LogHeld w g cap m b s v ga B wr.drew := ⟨h.own.drew, h.met.drew, h.bel.drew⟩
theorem LogHeld.drewN {w : World} {g cap m b : Nat} {s : Mt} {v : Value} {ga : Option Addr} {B : Nat} {wr : World} (h : LogHeld w g cap m b s v ga B wr) (n : Nat) : LogHeld w g cap m b s v ga B (wr.drewN n) := by
  obtain ⟨h1, h2, h3⟩ := h
  refine ⟨?_, ⟨h2.heap, h2.own, h2.low, h2.high⟩, ⟨h3.os, h3.tape, h3.output, h3.size, h3.block⟩⟩
  obtain ⟨ha, hb⟩ := h1
  exact ⟨ha, hb⟩

/-- What holds at the head of each round. -/
def CountsRel (w : World) (b r c m : Nat) (len : Nat) (calls i : Value) (wr : World) : Prop :=
  ∃ (k : Nat) (s : Mt) (xs : List Int) (v : Value), k ≤ len ∧ i = .int .i64 k ∧ calls = .int .i64 s.l.length ∧ MeterS 79 50 b wr m s v ∧ RowIn 81 b wr r c m 4 xs ∧ s.within k ∧ Runs s ∧ Below w.heap.size w wr

set_option maxRecDepth 100000 in
set_option maxHeartbeats 1000000 in
theorem counts_walk (n : Int) (a : Option Addr) (len cap : Nat) (f : Nat → OpD) (w : World) (hs : ScriptAt w a len f) :
    Calls Try.prog 5 #[.int .i64 n, .slice a len cap] w fun e w' => e = .returned (.bool true) ∧ Below w.heap.size w w' := by
  have hn := and63 n
  have hn1 : 0 ≤ n % 64 ∧ n % 64 < 64 := by omega
  generalize n % 64 = q at hn hn1
  go_enter Try.func5, Try.ntmps5
  go_wp2_with fail
  refine (awake_any _).mono ?_
  rintro e wa ⟨rfl, hka⟩
  go_wp2_with fail
  refine (newMeter_any _).mono ?_
  rintro e w1 ⟨rfl, rfl⟩
  go_wp2_with fail
  refine (newRow_int _ 4 _ _ (by omega) (by omega)).mono ?_
  rintro e w2 ⟨rfl, hw2⟩
  obtain ⟨hm0, hr0, k0⟩ := setup1 wa 4 (1 + q).toNat (by omega) w2 (by rw [hw2]; simp)
  clear hw2
  have hb0 : Below w.heap.size w w2 := (hka.below (Nat.le_refl _) (fun _ _ f => f)).trans (k0.below hka.size (fun _ _ f => f))
  have hwa : w.heap.size ≤ wa.heap.size := hka.size
  clear k0 hka hn
  go_wp2_with fail
  generalize wa.heap.size = m at *
  go_loopw [9, 10] (fun calls i wr => CountsRel w (m + 3) (m + 2) (m + 1) m len calls i wr) (fun _ i _ => len - (intOf i).toNat)
  case atStart => exact ⟨0, Mt.zero, _, _, Nat.zero_le _, rfl, rfl, hm0, hr0, Mt.within_zero 0, Runs.zero, hb0⟩
  case round =>
    obtain ⟨k, s, xs, v, hk, rfl, rfl, hm, hr, hw, hruns, hb⟩ := hrel
    have hsz := hb.size
    by_cases hlt : k < len
    · rcases hs with h0 | ⟨b0, off, rfl, hreach, hops⟩
      · omega
      have ho := (hops k hlt).below hb (Nat.le_refl _)
      have hb0lt : b0 < w.heap.size := World.block_lt_of_cell? w _ (hops k hlt).c0
      clear hops
      generalize f k = o at ho
      obtain ⟨other, kind, i, x, old, la, ll, lc, zs⟩ := o
      obtain ⟨o0, o1, o2, o3, o4, o5, _⟩ := ho
      simp only at o0 o1 o2 o3 o4 o5
      have hi0 : (0 : Int) ≤ (k : Int) := Int.natCast_nonneg _
      have hi1 : (k : Int) < (len : Int) := by omega
      have hsl : s.l.length ≤ k := hw.len
      by_cases h1 : kind = 1
      · subst h1
        go_wp2_with (go_at_call 21; refine (begin_met 1 _ hm hw (by omega)).mono ?_; rintro e w' ⟨rfl, hm', hk'⟩)
        go_roundw
        case rel => exact ⟨k + 1, s.start 1, xs, v, by omega, by go_num, rfl, hm', hr.kept hk' hr.rm hr.cm, hw.start 1, hruns.start 1, hb.trans (hk'.below hb.size (fun i hi f => by omega))⟩
        case measure => simp [intOf]; omega
      have t1 : (kind == 1) = false := by simp [h1]
      clear h1
      by_cases h2 : kind = 2
      · subst h2
        have hc := load_met i _ hm hr hw (by omega)
        cases hbb : hasB xs i
        · have he : rowErr xs i = 2 := by simp [rowErr, hbb]
          have hnt : ∀ op ok, rowNote s xs 4 i op ok = s := fun op ok => by simp [rowNote, hbb]
          rw [he, hnt] at hc
          clear he hnt
          go_wp2_with (go_at_call 22; refine hc.mono ?_; rintro e w' ⟨rfl, v', hm', hr', _, hk'⟩; have hbe : Below w.heap.size wr w' := foot_below hk' hm (by omega) (by omega) (by omega) hb.size)
          go_roundw
          case rel => exact ⟨k + 1, s, _, v', by omega, by go_num, rfl, hm', hr', hw.more (Nat.le_succ _), hruns, hb.trans hbe⟩
          case measure => simp [intOf]; omega
        · have he : rowErr xs i = 0 := by simp [rowErr, hbb]
          have hnt : ∀ op ok, rowNote s xs 4 i op ok = s.note 4 i op ok := fun op ok => by simp [rowNote, hbb]
          rw [he, hnt] at hc
          clear he hnt
          go_wp2_with (go_at_call 22; refine hc.mono ?_; rintro e w' ⟨rfl, v', hm', hr', _, hk'⟩; have hbe : Below w.heap.size wr w' := foot_below hk' hm (by omega) (by omega) (by omega) hb.size)
          go_roundw
          case rel => exact ⟨k + 1, _, _, v', by omega, by go_num, by simp [Mt.note], hm', hr', hw.note _ _ _ _, hruns.note _ _ _ _, hb.trans hbe⟩
          case measure => simp [intOf]; omega
      have t2 : (kind == 2) = false := by simp [h2]
      clear h2
      by_cases h3 : kind = 3
      · subst h3
        have hc := store_met i x wr.drew hm.drew hr.drew hw (by omega)
        cases hbb : hasB xs i
        · have he : rowErr xs i = 2 := by simp [rowErr, hbb]
          have hnt : ∀ op ok, rowNote s xs 4 i op ok = s := fun op ok => by simp [rowNote, hbb]
          rw [he, hnt] at hc
          clear he hnt
          go_wp2_with fail
          go_region_held3 (fun w' => w'.cell? ⟨b0, off + k * 6 + 2, none⟩ = some (.int .i64 i) ∧ w'.cell? ⟨b0, off + k * 6 + 3, none⟩ = some (.int .i64 x)) (first | go_keep | exact ⟨(hbe.cell hb0lt).trans o2, (hbe.cell hb0lt).trans o3⟩)
            (first | (go_at_call 23; refine hc.mono ?_; rintro e w' ⟨rfl, v', hm', hr', _, hk'⟩; have hbe : Below w.heap.size wr w' := foot_below hk'.ofDrew hm (by omega) (by omega) (by omega) hb.size))
          go_wp2
          go_roundw
          case rel => exact ⟨k + 1, s, _, v', by omega, by go_num, rfl, hm', hr', hw.more (Nat.le_succ _), hruns, hb.trans hbe⟩
          case measure => simp [intOf]; omega
        · have he : rowErr xs i = 0 := by simp [rowErr, hbb]
          have hnt : ∀ op ok, rowNote s xs 4 i op ok = s.note 4 i op ok := fun op ok => by simp [rowNote, hbb]
          rw [he, hnt] at hc
          clear he hnt
          go_wp2_with fail
          go_region_held3 (fun w' => w'.cell? ⟨b0, off + k * 6 + 2, none⟩ = some (.int .i64 i) ∧ w'.cell? ⟨b0, off + k * 6 + 3, none⟩ = some (.int .i64 x)) (first | go_keep | exact ⟨(hbe.cell hb0lt).trans o2, (hbe.cell hb0lt).trans o3⟩)
            (first | (go_at_call 23; refine hc.mono ?_; rintro e w' ⟨rfl, v', hm', hr', _, hk'⟩; have hbe : Below w.heap.size wr w' := foot_below hk'.ofDrew hm (by omega) (by omega) (by omega) hb.size))
          go_wp2
          go_roundw
          case rel => exact ⟨k + 1, _, _, v', by omega, by go_num, by simp [Mt.note], hm', hr', hw.note _ _ _ _, hruns.note _ _ _ _, hb.trans hbe⟩
          case measure => simp [intOf]; omega
      have t3 : (kind == 3) = false := by simp [h3]
      clear h3
      by_cases h4 : kind = 4
      · subst h4
        have hc := trade_met i old x wr.drew hm.drew hr.drew hw (by omega)
        cases hbb : hasB xs i
        · have he : rowErr xs i = 2 := by simp [rowErr, hbb]
          have hnt : ∀ op ok, rowNote s xs 4 i op ok = s := fun op ok => by simp [rowNote, hbb]
          rw [he, hnt] at hc
          clear he hnt
          go_wp2_with fail
          go_region_held3 (fun w' => w'.cell? ⟨b0, off + k * 6 + 2, none⟩ = some (.int .i64 i) ∧ w'.cell? ⟨b0, off + k * 6 + 3, none⟩ = some (.int .i64 x) ∧ w'.cell? ⟨b0, off + k * 6 + 4, none⟩ = some (.int .i64 old)) (first | go_keep | exact ⟨(hbe.cell hb0lt).trans o2, (hbe.cell hb0lt).trans o3, (hbe.cell hb0lt).trans o4⟩)
            (first | (go_at_call 24; refine hc.mono ?_; rintro e w' ⟨rfl, v', hm', hr', _, hk'⟩; have hbe : Below w.heap.size wr w' := foot_below hk'.ofDrew hm (by omega) (by omega) (by omega) hb.size))
          go_wp2
          go_roundw
          case rel => exact ⟨k + 1, s, _, v', by omega, by go_num, rfl, hm', hr', hw.more (Nat.le_succ _), hruns, hb.trans hbe⟩
          case measure => simp [intOf]; omega
        · have he : rowErr xs i = 0 := by simp [rowErr, hbb]
          have hnt : ∀ op ok, rowNote s xs 4 i op ok = s.note 4 i op ok := fun op ok => by simp [rowNote, hbb]
          rw [he, hnt] at hc
          clear he hnt
          go_wp2_with fail
          go_region_held3 (fun w' => w'.cell? ⟨b0, off + k * 6 + 2, none⟩ = some (.int .i64 i) ∧ w'.cell? ⟨b0, off + k * 6 + 3, none⟩ = some (.int .i64 x) ∧ w'.cell? ⟨b0, off + k * 6 + 4, none⟩ = some (.int .i64 old)) (first | go_keep | exact ⟨(hbe.cell hb0lt).trans o2, (hbe.cell hb0lt).trans o3, (hbe.cell hb0lt).trans o4⟩)
            (first | (go_at_call 24; refine hc.mono ?_; rintro e w' ⟨rfl, v', hm', hr', _, hk'⟩; have hbe : Below w.heap.size wr w' := foot_below hk'.ofDrew hm (by omega) (by omega) (by omega) hb.size))
          go_wp2
          go_roundw
          case rel => exact ⟨k + 1, _, _, v', by omega, by go_num, by simp [Mt.note], hm', hr', hw.note _ _ _ _, hruns.note _ _ _ _, hb.trans hbe⟩
          case measure => simp [intOf]; omega
      have t4 : (kind == 4) = false := by simp [h4]
      clear h4
      go_wp2
      go_roundw
      case rel => exact ⟨k + 1, s, xs, v, by omega, by go_num, rfl, hm, hr, hw.more (Nat.le_succ _), hruns, hb⟩
      case measure => simp [intOf]; omega
    · obtain rfl : k = len := by omega
      have hreach : k * 64 ≤ 140737488351232 := by
        rcases hs with h0 | ⟨b0, off, _, hreach, _⟩
        · omega
        · exact hreach
      have hsl : s.l.length ≤ k := hw.len
      clear hs
      go_wp2_with fail
      refine (log_any _ _ _ _ _ _ _ _ _ hm (by omega)).mono ?_
      rintro e w3 ⟨v3, rfl, ho3, hk3⟩
      obtain ⟨ga, cap3, rfl⟩ : ∃ ga cap3, v3 = .slice ga s.l.length cap3 := by
        rcases ho3.2 with ⟨h, h0⟩ | ⟨g, c3, _, h, _⟩
        · exact ⟨none, 0, by rw [h, h0]⟩
        · exact ⟨_, _, h⟩
      have H3 : LogHeld w 0 cap3 m (m + 3) s v ga wr.heap.size w3 := ⟨ho3, hm.kept hk3 (fun f => f) (fun _ _ f => f), hb.trans (hk3.below hb.size (fun _ _ f => f))⟩
      generalize wr.heap.size = B0 at H3
      have HL : Hid ((steps s.l).length = s.l.length) := steps_length s.l
      have HR : Hid (Runs s) := hruns
      clear ho3 hk3 hm hr hb hb0 hsz hruns
      go_wp2_with fail
      go_loopw [13, 14] (fun most i wr' => ∃ (j : Nat) (mo : Int), i = .int .i64 j ∧ most = .int .i64 mo ∧ Gone (steps s.l) j mo ∧ LogHeld w 0 cap3 m (m + 3) s v ga B0 wr') (fun _ i _ => s.l.length - (intOf i).toNat)
      case atStart => exact ⟨0, 0, rfl, rfl, Gone.zero _, H3⟩
      case round =>
        obtain ⟨j, mo, rfl, rfl, hg, hH⟩ := hrel
        have hjle : j ≤ s.l.length := by have := hg.le; have := HL.out; omega
        have hmo0 := hg.pos
        have hmo1 : mo ≤ s.l.length := by have := hg.fit; have := HL.out; omega
        by_cases hjn : j < s.l.length
        · have hj0 : (0 : Int) ≤ (j : Int) := Int.natCast_nonneg _
          have hj1 : (j : Int) < (s.l.length : Int) := by omega
          obtain ⟨g, hga⟩ : ∃ g, ga = some ⟨g, 0, none⟩ := by
            obtain ⟨g, c, he, _, _⟩ := hH.own.form (by omega)
            simp only [Value.slice.injEq] at he
            exact ⟨g, he.1⟩
          subst hga
          go_wp2_with fail
          go_loopw [15] (fun kk wr' => ∃ p : Nat, kk = .int .i64 p ∧ j ≤ p ∧ p ≤ s.l.length ∧ (∀ t, j ≤ t → t < p → (steps s.l).getD t 0 = (steps s.l).getD j 0) ∧ LogHeld w 0 cap3 m (m + 3) s v (some ⟨g, 0, none⟩) B0 wr') (fun kk _ => s.l.length - (intOf kk).toNat)
          case atStart => exact ⟨j, rfl, Nat.le_refl _, hjle, fun t h1 h2 => by omega, hH⟩
          case round =>
            obtain ⟨p, rfl, hjp, hpn, hrun, hH2⟩ := hrel
            have cj : wr.cell? ⟨g, j * 6, none⟩ = some (.int .i64 ((steps s.l).getD j 0)) := (hH2.own.cellAt (j * 6) (by omega)).trans (log_step s.l j hjn)
            generalize hSj : (steps s.l).getD j 0 = sj at cj hrun
            by_cases hp : p < s.l.length
            · have cp : wr.cell? ⟨g, p * 6, none⟩ = some (.int .i64 ((steps s.l).getD p 0)) := (hH2.own.cellAt (p * 6) (by omega)).trans (log_step s.l p hp)
              have hp0 : (0 : Int) ≤ (p : Int) := Int.natCast_nonneg _
              have hp1 : (p : Int) < (s.l.length : Int) := by omega
              generalize hSp : (steps s.l).getD p 0 = sp at cp
              have HSj : Hid ((steps s.l).getD j 0 = sj) := hSj
              have HSp : Hid ((steps s.l).getD p 0 = sp) := hSp
              have HRun : Hid (∀ t, j ≤ t → t < p → (steps s.l).getD t 0 = sj) := hrun
              clear hSj hSp hrun
              by_cases heq : sp = sj
              · subst heq
                go_wp2_with fail
                go_quiet (fail)
                go_wp2
                go_roundw
                case rel =>
                  refine ⟨p + 1, by go_num, by omega, by omega, fun t h1 h2 => ?_, hH2.drewN _⟩
                  by_cases ht : t < p
                  · exact HRun.out t h1 ht
                  · obtain rfl : t = p := by omega
                    exact HSp.out
                case measure => simp [intOf]; omega
              · have hne : (sp == sj) = false := by simp [heq]
                have hlt' : j < p := by
                  rcases Nat.lt_or_ge j p with h | h
                  · exact h
                  · obtain rfl : j = p := by omega
                    exact absurd (HSp.out.symm.trans HSj.out) heq
                have hstop : p = (steps s.l).length ∨ (steps s.l).getD p 0 ≠ (steps s.l).getD j 0 := .inr (by rw [HSp.out, HSj.out]; exact heq)
                clear heq
                go_wp2_with fail
                go_quiet (fail)
                have hgp : Gone (steps s.l) p (max mo ((p : Int) - j)) := hg.step HR.out.srt hlt' (by have := HL.out; omega) (fun t h1 h2 => (HRun.out t h1 h2).trans HSj.out.symm) hstop
                by_cases hmx : mo < (p : Int) - j
                · have hmv : max mo ((p : Int) - j) = (p : Int) - j := Int.max_eq_right (by omega)
                  rw [hmv] at hgp
                  clear hmv hstop
                  go_wp2
                  go_roundw
                  case rel => exact ⟨p, (p : Int) - j, rfl, rfl, hgp, hH2.drewN _⟩
                  case measure => simp [intOf]; omega
                · have hmv : max mo ((p : Int) - j) = mo := Int.max_eq_left (by omega)
                  rw [hmv] at hgp
                  clear hmv hstop
                  go_wp2
                  go_roundw
                  case rel => exact ⟨p, mo, rfl, rfl, hgp, hH2.drewN _⟩
                  case measure => simp [intOf]; omega
            · have hpe : p = s.l.length := by omega
              have hlt' : j < p := by omega
              have hd : decide ((p : Int) < (s.l.length : Int)) = false := by simp; omega
              have hstop : p = (steps s.l).length ∨ (steps s.l).getD p 0 ≠ (steps s.l).getD j 0 := .inl (by have := HL.out; omega)
              have HSj : Hid ((steps s.l).getD j 0 = sj) := hSj
              have HRun : Hid (∀ t, j ≤ t → t < p → (steps s.l).getD t 0 = sj) := hrun
              clear hSj hrun hpe
              go_wp2_with fail
              go_quiet (fail)
              have hgp : Gone (steps s.l) p (max mo ((p : Int) - j)) := hg.step HR.out.srt hlt' (by have := HL.out; omega) (fun t h1 h2 => (HRun.out t h1 h2).trans HSj.out.symm) hstop
              by_cases hmx : mo < (p : Int) - j
              · have hmv : max mo ((p : Int) - j) = (p : Int) - j := Int.max_eq_right (by omega)
                rw [hmv] at hgp
                clear hmv hstop
                go_wp2
                go_roundw
                case rel => exact ⟨p, (p : Int) - j, rfl, rfl, hgp, hH2.drewN _⟩
                case measure => simp [intOf]; omega
              · have hmv : max mo ((p : Int) - j) = mo := Int.max_eq_left (by omega)
                rw [hmv] at hgp
                clear hmv hstop
                go_wp2
                go_roundw
                case rel => exact ⟨p, mo, rfl, rfl, hgp, hH2.drewN _⟩
                case measure => simp [intOf]; omega
        · obtain rfl : j = s.l.length := by omega
          have hmo : s.mo = mo := Gone.last HR.out (by rw [HL.out]; exact hg)
          have hmet := hH.met
          have hbel := hH.bel
          clear hg hH
          go_wp2_with fail
          refine (most_any _ _ _ _ _ _ _ _ _ hmet).mono ?_
          rintro e w4 ⟨he, rfl⟩
          rw [hmo] at he
          subst he
          clear hmo
          go_wp2
          go_ret
          exact ⟨rfl, hbel⟩
end Go.Proofs.Ytebhjfoggogmaaa
