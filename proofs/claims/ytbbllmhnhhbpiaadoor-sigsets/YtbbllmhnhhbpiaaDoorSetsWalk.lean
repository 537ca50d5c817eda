/- SigSets, step by step: it answers true. -/
import Derived.Test.YtbbllmhnhhbpiaaDoorTold
import Derived.Test.YtbbllmhnhhbpiaaDoorUp
namespace Go.Proofs.YtbbllmhnhhbpiaaDoor
open Go.RowKit
set_option linter.unusedVariables false
set_option linter.unusedSimpArgs false

theorem IntsIn.keptF {w w' : World} {la : Option Addr} {n : Nat} {zs : List Int} {F : Nat → Prop} (h : IntsIn w la n zs) (k : Kept F w w') (hf : ∀ a, la = some a → 0 < n → ¬ F a.block) : IntsIn w' la n zs := by
  refine ⟨h.1, fun h0 => ?_⟩
  obtain ⟨g, o, rfl, hc⟩ := h.2 h0
  exact ⟨g, o, rfl, fun j hj => k.cell (hc j hj) (hf ⟨g, o, none⟩ rfl h0)⟩
def ints (l : List Nat) : List Int := l.map fun b : Nat => (b : Int)
theorem cellsOf_ints (l : List Nat) : cellsOf l = (ints l).map (Value.int .i64) := by simp [cellsOf, ints]
theorem ints_length (l : List Nat) : (ints l).length = l.length := by simp [ints]

/-- The calls of one region: they leave two signatures as they are. -/
theorem Duo.cells {w W : World} {m : Nat} {a b : Sg} (h : Duo w m a b W) : W.cell? ⟨m, 0, none⟩ = some (.int .u64 a.lo) ∧ W.cell? ⟨m, 1, none⟩ = some (.int .u64 a.hi) ∧ W.cell? ⟨m + 1, 0, none⟩ = some (.int .u64 b.lo) ∧ W.cell? ⟨m + 1, 1, none⟩ = some (.int .u64 b.hi) := ⟨h.A.c0, h.A.c1, h.B.c0, h.B.c1⟩

theorem ownsRow_keptV {w w' : World} {base n : Nat} {v : Value} {e : TypeId} {size : Nat} {xs : List Value} {F : Nat → Prop} (h : w.ownsRow base e size v n xs) (k : Kept F w w') (hf : ∀ g, v.ownBlock = some g → ¬ F g) : w'.ownsRow base e size v n xs := by
  refine ⟨h.1, ?_⟩
  rcases h.2 with hc | ⟨g, cap, cur, rfl, hg, hh, r⟩
  · exact .inl hc
  · exact .inr ⟨g, cap, cur, rfl, hg, (k.block g (lt_of_heap hh) (hf g rfl)).trans hh, r⟩
/-- A list of the call's own: how it looks, where it lies. -/
theorem row_open {w : World} {base n : Nat} {v : Value} {l : List Nat} (hn : l.length = n) (h : w.ownsRow base 3 1 v n (cellsOf l)) : ∃ ga ca, v = .slice ga n ca ∧ IntsIn w ga n (ints l) ∧ (∀ k, (Value.slice ga n ca).ownBlock = some k → base ≤ k ∧ k < w.heap.size) ∧ (0 < n → ∃ g, ga = some ⟨g, 0, none⟩) ∧ (∀ a, ga = some a → 0 < n → base ≤ a.block ∧ a.block < w.heap.size) := by
  obtain ⟨ga, ca, rfl, hg⟩ := owned_shape h
  rw [cellsOf_ints] at h
  refine ⟨ga, ca, rfl, owned_ints h, h.lt, fun h0 => ?_, fun a ha h0 => ?_⟩
  · obtain ⟨g, e, _⟩ := hg h0
    exact ⟨g, e⟩
  · obtain ⟨g, e, h1, h2⟩ := hg h0
    rw [e] at ha
    cases ha
    exact ⟨h1, h2⟩

set_option maxRecDepth 100000 in
set_option maxHeartbeats 4000000 in
theorem sigSets_walk (a b : Sg) (ha : a.ok) (hb : b.ok) (w : World) (hT : Tab w) :
    Calls Tryd.prog 5 #[a.val, b.val] w fun e w' => e = .returned (.bool true) ∧ Kept (fun _ => False) w w' := by
  have f18 := fun m => Duo.of_calls (w := w) (m := m) (a := a) (b := b) (join_any a b ha hb)
  have f19 := fun m => Duo.of_calls (w := w) (m := m) (a := a) (b := b) (refJoin_any a b ha hb)
  have f20 := fun m => Duo.of_calls (w := w) (m := m) (a := a) (b := b) (meet_any a b ha hb)
  have f21 := fun m => Duo.of_calls (w := w) (m := m) (a := a) (b := b) (refMeet_any a b ha hb)
  have f22 := fun m => Duo.of_calls (w := w) (m := m) (a := a) (b := b) (minus_any a b ha hb)
  have f23 := fun m => Duo.of_calls (w := w) (m := m) (a := a) (b := b) (refMinus_any a b ha hb)
  have f24 := fun m => Duo.of_calls (w := w) (m := m) (a := a) (b := b) (meets_any a b ha hb)
  have f25 := fun m => Duo.of_calls (w := w) (m := m) (a := a) (b := b) (refMeets_any a b ha hb)
  have f26 := fun m => Duo.of_calls (w := w) (m := m) (a := a) (b := b) (within_any a b ha hb)
  have f27 := fun m => Duo.of_calls (w := w) (m := m) (a := a) (b := b) (refWithin_any a b ha hb)
  have F28 : Hid (∀ W, Tab W → Calls Tryd.prog 28 #[a.val] W fun e W' => ∃ v, e = .returned v ∧ W'.ownsRow W.heap.size 3 1 v a.bits.length (cellsOf a.bits) ∧ Kept (fun _ => False) W W') := fun W h => bits_any a ha W h
  have F30 : Hid (∀ W, Calls Tryd.prog 30 #[a.val] W fun e W' => ∃ v, e = .returned v ∧ W'.ownsRow W.heap.size 3 1 v a.bits.length (cellsOf a.bits) ∧ Kept (fun _ => False) W W') := fun W => refBits_any a ha W
  have F29 : Hid (∀ W, Calls Tryd.prog 29 #[a.val, b.val] W fun e W' => ∃ v, e = .returned v ∧ W'.ownsRow W.heap.size 3 1 v (b.minus a).words.length (cellsOf (b.minus a).words) ∧ Kept (fun _ => False) W W') := fun W => touched_any a b ha hb W
  have F31 : Hid (∀ W, Calls Tryd.prog 31 #[a.val, b.val] W fun e W' => ∃ v, e = .returned v ∧ W'.ownsRow W.heap.size 3 1 v (b.minus a).words.length (cellsOf (b.minus a).words) ∧ Kept (fun _ => False) W W') := fun W => refTouched_any a b ha hb W
  have F33 : Hid (∀ W, Calls Tryd.prog 33 #[a.val] W fun e W' => e = .returned (.int .i64 (a.bits.length : Nat)) ∧ Kept (fun _ => False) W W') := fun W => by
    rw [Sg.bits_words, List.length_append, List.length_map]
    exact count_any a ha W
  have HB1 : Hid (a.bits.length ≤ 128) := by
    have := List.length_filter_le a.has (List.range 128)
    simpa [Sg.bits, Hid] using this
  have HB2 : Hid ((b.minus a).words.length ≤ 2) := wordsBelow_le _ 2
  have hA := fun W (h : Tab W) => awake_any W h
  have HT : Hid (∀ W, Kept (fun _ => False) w W → Tab W) := fun W k => hT.kept k id
  generalize a.join b = j at *
  generalize a.meet b = t at *
  generalize a.minus b = n at *
  generalize (!(t.same Sg.zero)) = r1 at *
  generalize (j.same b) = r2 at *
  generalize a.bits = LB at *
  generalize (b.minus a).words = LW at *
  have HD : Hid (∀ W m, Duo w m a b W → W.cell? ⟨m, 0, none⟩ = some (.int .u64 a.lo) ∧ W.cell? ⟨m, 1, none⟩ = some (.int .u64 a.hi) ∧ W.cell? ⟨m + 1, 0, none⟩ = some (.int .u64 b.lo) ∧ W.cell? ⟨m + 1, 1, none⟩ = some (.int .u64 b.hi)) := fun W m h => h.cells
  obtain ⟨a0, a1⟩ := a
  obtain ⟨b0, b1⟩ := b
  obtain ⟨j0, j1⟩ := j
  obtain ⟨t0, t1⟩ := t
  obtain ⟨n0, n1⟩ := n
  simp only [Sg.val] at *
  have hE := eqS
  have e1 : ((j0 : Int) == (j0 : Int)) = true := by simp
  have e2 : ((j1 : Int) == (j1 : Int)) = true := by simp
  have e3 : ((t0 : Int) == (t0 : Int)) = true := by simp
  have e4 : ((t1 : Int) == (t1 : Int)) = true := by simp
  have e5 : ((n0 : Int) == (n0 : Int)) = true := by simp
  have e6 : ((n1 : Int) == (n1 : Int)) = true := by simp
  have e7 : (r1 == r1) = true := by simp
  have e8 : (r2 == r2) = true := by simp
  clear ha hb hT
  go_enter Tryd.func5, Tryd.ntmps5
  go_wp2_with fail
  generalize hW : (w.alloc (.cells #[.int .u64 a0, .int .u64 a1] 31)).alloc (.cells #[.int .u64 b0, .int .u64 b1] 31) = W
  obtain ⟨A, B, K⟩ := hasTwo w a0 a1 b0 b1 hW
  clear hW
  generalize hm : w.heap.size = m at *
  have HM : Hid (w.heap.size = m) := hm
  clear hm
  refine (hA W (HT.out _ K)).mono ?_
  rintro e wa ⟨rfl, ka⟩
  have hD0 : Duo w m ⟨a0, a1⟩ ⟨b0, b1⟩ wa := Duo.kept ⟨A, B, K⟩ ka
  clear A B K ka hA
  go_wp2_with fail
  have hD := hD0.drew
  clear hD0
  go_region_held3 (fun w' => w'.cell? ⟨m, 0, none⟩ = some (.int .u64 a0) ∧ w'.cell? ⟨m, 1, none⟩ = some (.int .u64 a1) ∧ w'.cell? ⟨m + 1, 0, none⟩ = some (.int .u64 b0) ∧ w'.cell? ⟨m + 1, 1, none⟩ = some (.int .u64 b1) ∧ Duo w m ⟨a0, a1⟩ ⟨b0, b1⟩ w')
    (first | exact ⟨(HD.out _ _ hD).1, (HD.out _ _ hD).2.1, (HD.out _ _ hD).2.2.1, (HD.out _ _ hD).2.2.2, hD⟩)
    (first | (go_at_call 18; refine (f18 m _ hD).mono ?_; rintro e w1 ⟨rfl, hD⟩) | (go_at_call 19; refine (f19 m _ hD).mono ?_; rintro e w1 ⟨rfl, hD⟩) | (go_at_call 20; refine (f20 m _ hD).mono ?_; rintro e w1 ⟨rfl, hD⟩) | (go_at_call 21; refine (f21 m _ hD).mono ?_; rintro e w1 ⟨rfl, hD⟩) | (go_at_call 22; refine (f22 m _ hD).mono ?_; rintro e w1 ⟨rfl, hD⟩) | (go_at_call 23; refine (f23 m _ hD).mono ?_; rintro e w1 ⟨rfl, hD⟩))
  replace hD := hD.drew
  go_wp2_with fail
  go_region_held3 (fun w' => w'.cell? ⟨m, 0, none⟩ = some (.int .u64 a0) ∧ w'.cell? ⟨m, 1, none⟩ = some (.int .u64 a1) ∧ w'.cell? ⟨m + 1, 0, none⟩ = some (.int .u64 b0) ∧ w'.cell? ⟨m + 1, 1, none⟩ = some (.int .u64 b1) ∧ Duo w m ⟨a0, a1⟩ ⟨b0, b1⟩ w')
    (first | exact ⟨(HD.out _ _ hD).1, (HD.out _ _ hD).2.1, (HD.out _ _ hD).2.2.1, (HD.out _ _ hD).2.2.2, hD⟩)
    (first | (go_at_call 24; refine (f24 m _ hD).mono ?_; rintro e w1 ⟨rfl, hD⟩) | (go_at_call 25; refine (f25 m _ hD).mono ?_; rintro e w1 ⟨rfl, hD⟩) | (go_at_call 26; refine (f26 m _ hD).mono ?_; rintro e w1 ⟨rfl, hD⟩) | (go_at_call 27; refine (f27 m _ hD).mono ?_; rintro e w1 ⟨rfl, hD⟩))
  clear f18 f19 f20 f21 f22 f23 f24 f25 f26 f27 e1 e2 e3 e4 e5 e6 e7 e8
  obtain ⟨i0, hi0, hz0, hz1, hz2⟩ := info_parts Tryd.info3
  generalize hn1 : LB.length = n1 at *
  have HN1 : Hid (LB.length = n1) := hn1
  generalize hn2 : LW.length = n2 at *
  have HN2 : Hid (LW.length = n2) := hn2
  clear hn1 hn2
  obtain ⟨x0, x1, x2, x3⟩ := HD.out _ _ hD
  have S0 : Hid (m + 2 ≤ w1.heap.size) := hD.B.lt
  go_wp2_with fail
  refine (F28.out _ (HT.out _ hD.K)).mono ?_
  rintro e u1 ⟨vl, rfl, ol, kl⟩
  replace hD := hD.kept kl
  have S1 : Hid (w1.heap.size ≤ u1.heap.size) := kl.size
  obtain ⟨gl, cl, rfl, il, bl, pl, ql⟩ := row_open HN1.out ol
  clear x0 x1 x2 x3 kl
  obtain ⟨x0, x1, x2, x3⟩ := HD.out _ _ hD
  go_wp2_with fail
  refine (F28.out _ (HT.out _ hD.K)).mono ?_
  rintro e u2 ⟨vm, rfl, om, km⟩
  replace hD := hD.kept km
  have S2 : Hid (u1.heap.size ≤ u2.heap.size) := km.size
  obtain ⟨gm, cm, rfl, im, bm, pm, qm⟩ := row_open HN1.out om
  replace ol := ownsRow_kept ol km (fun _ _ f => f)
  replace il := il.kept km
  clear x0 x1 x2 x3 km om pm bm
  obtain ⟨x0, x1, x2, x3⟩ := HD.out _ _ hD
  go_wp2_with fail
  refine (F29.out _).mono ?_
  rintro e u3 ⟨vw, rfl, ow, kw⟩
  replace hD := hD.kept kw
  have S3 : Hid (u2.heap.size ≤ u3.heap.size) := kw.size
  obtain ⟨gw, cw, rfl, iw, bw, pw, qw⟩ := row_open HN2.out ow
  replace ol := ownsRow_kept ol kw (fun _ _ f => f)
  replace il := il.kept kw
  replace im := im.kept kw
  clear x0 x1 x2 x3 kw
  obtain ⟨x0, x1, x2, x3⟩ := HD.out _ _ hD
  go_wp2_with fail
  refine (F29.out _).mono ?_
  rintro e u4 ⟨vx, rfl, ox, kx⟩
  replace hD := hD.kept kx
  have S4 : Hid (u3.heap.size ≤ u4.heap.size) := kx.size
  obtain ⟨gx, cx, rfl, ix, bx, px, qx⟩ := row_open HN2.out ox
  replace ol := ownsRow_kept ol kx (fun _ _ f => f)
  replace ow := ownsRow_kept ow kx (fun _ _ f => f)
  replace il := il.kept kx
  replace im := im.kept kx
  replace iw := iw.kept kx
  clear x0 x1 x2 x3 kx ox px bx
  obtain ⟨x0, x1, x2, x3⟩ := HD.out _ _ hD
  go_wp2_with fail
  refine (F30.out _).mono ?_
  rintro e u5 ⟨vn, rfl, on, kn⟩
  replace hD := hD.kept kn
  have S5 : Hid (u4.heap.size ≤ u5.heap.size) := kn.size
  obtain ⟨gn, cn, rfl, in_, bn, pn, qn⟩ := row_open HN1.out on
  replace ol := ownsRow_kept ol kn (fun _ _ f => f)
  replace ow := ownsRow_kept ow kn (fun _ _ f => f)
  replace il := il.kept kn
  replace im := im.kept kn
  replace iw := iw.kept kn
  replace ix := ix.kept kn
  clear x0 x1 x2 x3 kn on pn bn
  obtain ⟨x0, x1, x2, x3⟩ := HD.out _ _ hD
  go_wp2_with fail
  refine (F31.out _).mono ?_
  rintro e u6 ⟨vd, rfl, od, kd⟩
  replace hD := hD.kept kd
  have S6 : Hid (u5.heap.size ≤ u6.heap.size) := kd.size
  obtain ⟨gd, cd, rfl, id_, bd, pd, qd⟩ := row_open HN2.out od
  replace ol := ownsRow_kept ol kd (fun _ _ f => f)
  replace ow := ownsRow_kept ow kd (fun _ _ f => f)
  replace il := il.kept kd
  replace im := im.kept kd
  replace iw := iw.kept kd
  replace ix := ix.kept kd
  replace in_ := in_.kept kd
  clear x0 x1 x2 x3 kd od pd bd
  have hb1 := HB1.out
  have hb2 := HB2.out
  go_wp2_with fail
  refine (sameInts_true _ _ n1 cl cn (ints LB) u6 il in_ (by omega)).mono ?_
  rintro e u7 ⟨rfl, q7⟩
  have k7 : Kept (fun _ => False) u6 u7 := by obtain ⟨k, rfl⟩ := q7; exact (Kept.refl _ _).drewN k
  replace hD := hD.kept k7
  replace ol := ownsRow_kept ol k7 (fun _ _ f => f)
  replace ow := ownsRow_kept ow k7 (fun _ _ f => f)
  replace im := im.kept k7
  replace iw := iw.kept k7
  replace ix := ix.kept k7
  replace in_ := in_.kept k7
  replace id_ := id_.kept k7
  have S7 : Hid (u6.heap.size ≤ u7.heap.size) := k7.size
  clear il q7 k7
  go_wp2_with fail
  refine (sameInts_true _ _ n2 cw cd (ints LW) u7 iw id_ (by omega)).mono ?_
  rintro e u8 ⟨rfl, q8⟩
  have k8 : Kept (fun _ => False) u7 u8 := by obtain ⟨k, rfl⟩ := q8; exact (Kept.refl _ _).drewN k
  replace hD := hD.kept k8
  replace ol := ownsRow_kept ol k8 (fun _ _ f => f)
  replace ow := ownsRow_kept ow k8 (fun _ _ f => f)
  replace im := im.kept k8
  replace ix := ix.kept k8
  replace in_ := in_.kept k8
  replace id_ := id_.kept k8
  have S8 : Hid (u7.heap.size ≤ u8.heap.size) := k8.size
  clear iw q8 k8
  have BL : Hid (∀ k, (Value.slice gl n1 cl).ownBlock = some k → w1.heap.size ≤ k ∧ k < u1.heap.size) := bl
  have BW : Hid (∀ k, (Value.slice gw n2 cw).ownBlock = some k → u2.heap.size ≤ k ∧ k < u3.heap.size) := bw
  clear bl bw
  go_wp2_with fail
  rw [cellsOf_ints] at ol ow
  go_loopw [15] (fun i wr => ∃ (j : Nat) (ys : List Int), i = .int .i64 j ∧ j ≤ n1 ∧ wr.ownsRow w1.heap.size 3 1 (.slice gl n1 cl) n1 (ys.map (Value.int .i64)) ∧ Kept (fun k => (Value.slice gl n1 cl).ownBlock = some k) u8 wr) (fun i _ => n1 - (intOf i).toNat)
  case atStart => exact ⟨0, _, rfl, Nat.zero_le _, ol, Kept.refl _ _⟩
  case round =>
    obtain ⟨j, ys, rfl, hj, hor, hkr⟩ := hrel
    clear ol
    by_cases hlt : j < n1
    · obtain ⟨g, rfl⟩ := pl (by omega)
      have cj := owned_cell hor hlt
      have fj : wr.frozen? ⟨g, j, none⟩ = false := hor.frozenAt j
      generalize ys.getD j 0 = z at cj
      have hi0' : (0 : Int) ≤ (j : Int) := Int.natCast_nonneg _
      have hi1' : (j : Int) < (n1 : Int) := by omega
      have HO : Hid (∀ X, (wr.setCell ⟨g, j, none⟩ (.int .i64 X)).ownsRow w1.heap.size 3 1 (.slice (some ⟨g, 0, none⟩) n1 cl) n1 ((ys.set j X).map (Value.int .i64)) ∧ Kept (fun k => (Value.slice (some ⟨g, 0, none⟩) n1 cl).ownBlock = some k) u8 (wr.setCell ⟨g, j, none⟩ (.int .i64 X))) := fun X => ⟨owned_set hor j X, hkr.setCell _ (.inl (by simp [Value.ownBlock]))⟩
      clear hor hkr
      go_wp2_with fail
      go_roundw
      case rel => exact ⟨j + 1, _, by go_num, by omega, (HO.out _).1, (HO.out _).2⟩
      case measure => simp [intOf]; omega
    · have hlt2 : ¬ (j : Int) < (n1 : Int) := by omega
      obtain ⟨y1, hy1⟩ : ∃ y, y = wr := ⟨_, rfl⟩
      subst hy1
      have ow1 := ownsRow_keptV ow hkr (fun g hg f => by
        have h1 := BL.out g f
        have h2 := BW.out g hg
        have h3 := S2.out
        omega)
      clear ow
      go_wp2_with fail
      clear hlt2 hlt hj
      go_loopw [16] (fun i wr => ∃ (j : Nat) (zs : List Int), i = .int .i64 j ∧ j ≤ n2 ∧ wr.ownsRow u2.heap.size 3 1 (.slice gw n2 cw) n2 (zs.map (Value.int .i64)) ∧ Kept (fun k => (Value.slice gw n2 cw).ownBlock = some k) y1 wr) (fun i _ => n2 - (intOf i).toNat)
      case atStart => exact ⟨0, _, rfl, Nat.zero_le _, ow1, Kept.refl _ _⟩
      case round =>
        obtain ⟨j2, zs, rfl, hj, hor2, hkr2⟩ := hrel
        clear ow1
        by_cases hlt : j2 < n2
        · obtain ⟨g, rfl⟩ := pw (by omega)
          have cj := owned_cell hor2 hlt
          have fj : wr.frozen? ⟨g, j2, none⟩ = false := hor2.frozenAt j2
          generalize zs.getD j2 0 = z at cj
          have hi0' : (0 : Int) ≤ (j2 : Int) := Int.natCast_nonneg _
          have hi1' : (j2 : Int) < (n2 : Int) := by omega
          have HO : Hid (∀ X, (wr.setCell ⟨g, j2, none⟩ (.int .i64 X)).ownsRow u2.heap.size 3 1 (.slice (some ⟨g, 0, none⟩) n2 cw) n2 ((zs.set j2 X).map (Value.int .i64)) ∧ Kept (fun k => (Value.slice (some ⟨g, 0, none⟩) n2 cw).ownBlock = some k) y1 (wr.setCell ⟨g, j2, none⟩ (.int .i64 X))) := fun X => ⟨owned_set hor2 j2 X, hkr2.setCell _ (.inl (by simp [Value.ownBlock]))⟩
          clear hor2 hkr2
          go_wp2_with fail
          go_roundw
          case rel => exact ⟨j2 + 1, _, by go_num, by omega, (HO.out _).1, (HO.out _).2⟩
          case measure => simp [intOf]; omega
        · have hlt2 : ¬ (j2 : Int) < (n2 : Int) := by omega
          have ol2 := ownsRow_keptV hor hkr2 (fun g hg f => by
            have h1 := BL.out g hg
            have h2 := BW.out g f
            have h3 := S2.out
            omega)
          have KG : Kept (fun k => (Value.slice gl n1 cl).ownBlock = some k ∨ (Value.slice gw n2 cw).ownBlock = some k) u8 wr := (hkr.mono (fun _ _ f => .inl f)).trans hkr2 (fun _ _ f => .inr f)
          have sz1 : Hid (w1.heap.size ≤ wr.heap.size ∧ u2.heap.size ≤ wr.heap.size) := by
            have h1 := KG.size
            have h2 := S1.out; have h3 := S2.out; have h4 := S3.out; have h5 := S4.out; have h6 := S5.out; have h7 := S6.out; have h8 := S7.out; have h9 := S8.out
            show _ ∧ _
            omega
          clear hor hkr hkr2
          go_wp2_with (first | (at_builtin; refine wpList_append_lies _ rfl (.tmp 100) (.tmp 101) 27 rfl w1.heap.size 3 i0 _ 1 8 Tryd.underlying27 hi0 hz0 hz1 hz2 rfl (by omega) (.slice gl n1 cl) n1 (ys.map (Value.int .i64)) rfl (ol2.alloc _) ⟨wr.heap.size, 0, none⟩ 2 2 [.int .i64 5, .int .i64 6] rfl rfl (World.news_of_block (cs := #[.int .i64 5, .int .i64 6]) (t := 3) (fr := (0, 0)) (heap_alloc_new wr _)) (by simp [Value.oneCell']) (by omega) (by unfold maxLen; omega) (by omega) (by simp; have := sz1.out; omega) (wr.heap.size + 1) (by simp) ?_; intro g1 cap1 z1 ho1 hg1 ha1 hl1; have kz1 := (((Kept.refl (fun k => (Value.slice gl n1 cl).ownBlock = some k) wr).alloc _).grown hg1 (fun k e => .inl e)); have ow2 := ownsRow_keptV hor2 kz1 (fun g hg f => by have h1 := BL.out g f; have h2 := BW.out g hg; have h3 := S2.out; omega); have sz2 : Hid (u2.heap.size ≤ z1.heap.size) := Nat.le_trans sz1.out.2 kz1.size) | (at_builtin; refine wpList_append_lies _ rfl (.tmp 103) (.tmp 104) 27 rfl u2.heap.size 3 i0 _ 1 8 Tryd.underlying27 hi0 hz0 hz1 hz2 rfl (by omega) (.slice gw n2 cw) n2 (zs.map (Value.int .i64)) rfl (ow2.alloc _) ⟨z1.heap.size, 0, none⟩ 2 2 [.int .i64 5, .int .i64 6] rfl rfl (World.news_of_block (cs := #[.int .i64 5, .int .i64 6]) (t := 3) (fr := (0, 0)) (heap_alloc_new z1 _)) (by simp [Value.oneCell']) (by omega) (by unfold maxLen; omega) (by omega) (by simp; have := sz2.out; omega) (z1.heap.size + 1) (by simp) ?_; intro g2 cap2 z2 ho2 hg2 ha2 hl2; have kz2 := (((Kept.refl (fun k => (Value.slice gw n2 cw).ownBlock = some k) z1).alloc _).grown hg2 (fun k e => .inl e)); have KZ : Kept (fun k => (Value.slice gl n1 cl).ownBlock = some k ∨ (Value.slice gw n2 cw).ownBlock = some k) u8 z2 := (KG.trans kz1 (fun _ _ f => .inl f)).trans kz2 (fun _ _ f => .inr f); have hA2 := hD.A.kept KZ (fun f => by have h0 := S0.out; have h1 := S1.out; have h2 := S2.out; rcases f with f | f <;> first | (have := BL.out _ f; omega) | (have := BW.out _ f; omega)); have x0 := hA2.c0; have x1 := hA2.c1; simp only at x0 x1))
          have h0 := S0.out; have h1 := S1.out; have h2 := S2.out; have h3 := S3.out; have h4 := S4.out; have h5 := S5.out; have h6 := S6.out
          have KW : Kept (fun _ => False) w z2 := hD.K.trans KZ (fun i hi f => by
            rw [HM.out] at hi
            rcases f with f | f
            · have := BL.out _ f; omega
            · have := BW.out _ f; omega)
          have im2 := im.keptF KZ (fun a ha hn f => by
            have := qm a ha hn
            rcases f with f | f
            · have := BL.out _ f; omega
            · have := BW.out _ f; omega)
          have in2 := in_.keptF KZ (fun a ha hn f => by
            have := qn a ha hn
            rcases f with f | f
            · have := BL.out _ f; omega
            · have := BW.out _ f; omega)
          have ix2 := ix.keptF KZ (fun a ha hn f => by
            have := qx a ha hn
            rcases f with f | f
            · have := BL.out _ f; omega
            · have := BW.out _ f; omega)
          have id2 := id_.keptF KZ (fun a ha hn f => by
            have := qd a ha hn
            rcases f with f | f
            · have := BL.out _ f; omega
            · have := BW.out _ f; omega)
          clear h0 h1 h2 h3 h4 h5 h6
          refine (F33.out _).mono ?_
          rintro e z3 ⟨rfl, k3⟩
          replace im2 := im2.kept k3
          replace in2 := in2.kept k3
          replace ix2 := ix2.kept k3
          replace id2 := id2.kept k3
          replace KW : Kept (fun _ => False) w z3 := KW.trans k3 (fun _ _ f => f)
          have hq1 : ((n1 : Int) == (n1 : Int)) = true := by simp
          clear x0 x1
          go_wp2_with fail
          refine (sameInts_true _ _ n1 cm cn (ints LB) z3 im2 in2 (by omega)).mono ?_
          rintro e z4 ⟨rfl, q4⟩
          have k4 : Kept (fun _ => False) z3 z4 := by obtain ⟨k, rfl⟩ := q4; exact (Kept.refl _ _).drewN k
          replace ix2 := ix2.kept k4
          replace id2 := id2.kept k4
          replace KW : Kept (fun _ => False) w z4 := KW.trans k4 (fun _ _ f => f)
          clear q4
          go_wp2_with fail
          refine (sameInts_true _ _ n2 cx cd (ints LW) z4 ix2 id2 (by omega)).mono ?_
          rintro e z5 ⟨rfl, q5⟩
          have k5 : Kept (fun _ => False) z4 z5 := by obtain ⟨k, rfl⟩ := q5; exact (Kept.refl _ _).drewN k
          replace KW : Kept (fun _ => False) w z5 := KW.trans k5 (fun _ _ f => f)
          clear q5
          go_wp2
          go_ret
          exact ⟨rfl, KW⟩
end Go.Proofs.YtbbllmhnhhbpiaaDoor
