/- MemApart's walk. -/
import Derived.Test.YtebhjfoggogmaaaDoes
namespace Go.Proofs.Ytebhjfoggogmaaa
open Go.RowKit
set_option linter.unusedVariables false
set_option linter.unusedSimpArgs false
attribute [local go_sem ↓] Go.wp_at_zero Go.wp_at_succ

/-- Four logs, each apart from each of the other pair. -/
structure Cross (v u v' u' : Value) : Prop where
  a : Apart v v'
  b : Apart v u'
  c : Apart u v'
  d : Apart u u'
theorem Cross.symm {v u v' u' : Value} (h : Cross v u v' u') : Cross v' u' v u := ⟨h.a.symm, h.c.symm, h.b.symm, h.d.symm⟩
theorem apart_nil (v : Value) : Apart (.slice none 0 0) v := fun g hg => by simp [Value.ownBlock] at hg

/-- A pair that has no part in a step of another one. -/
theorem Pair.other {b : Nat} {w w' : World} {m r c x y d m' r' c' x' y' d' : Nat} {kind kind' : Int} {s s' : Mt} {v u v' u' : Value} {xs xs' : List Int} (h : Pair b w m r c x y d kind s v u xs) (h' : Pair b w m' r' c' x' y' d' kind' s' v' u' xs')
    (k : Kept (pairFoot m c x d v u) w w') (hc : Cross v u v' u') (hm : ∀ i ∈ [m', r', c', x', y', d'], i ≠ m ∧ i ≠ c ∧ i ≠ x ∧ i ≠ d) : Pair b w' m' r' c' x' y' d' kind' s' v' u' xs' := by
  have hs : ∀ i ∈ [m', r', c', x', y', d'], i < b → ¬ pairFoot m c x d v u i := by
    intro i hi hb f
    obtain ⟨n1, n2, n3, n4⟩ := hm i hi
    rcases f with (f | f | f) | (f | f | f)
    · exact n1 f
    · exact h.m1.apart hb f
    · exact n2 f
    · exact n3 f
    · exact h.m2.apart hb f
    · exact n4 f
  have hl : ∀ g, b ≤ g → v.ownBlock ≠ some g → u.ownBlock ≠ some g → ¬ pairFoot m c x d v u g := by
    intro g hg h1 h2 f
    have e1 := h.m1.low
    have e2 := h.r1.cb
    have e3 := h.m2.low
    have e4 := h.r2.cb
    rcases f with (f | f | f) | (f | f | f)
    · omega
    · exact h1 f
    · omega
    · omega
    · exact h2 f
    · omega
  exact h'.kept k (hs _ (by simp) h'.m1.low) (hs _ (by simp) h'.r1.rb) (hs _ (by simp) h'.r1.cb) (hs _ (by simp) h'.m2.low) (hs _ (by simp) h'.r2.rb) (hs _ (by simp) h'.r2.cb)
    (fun g hg => hl g (h'.m1.own.lt g hg).1 (fun e => hc.a g e hg) (fun e => hc.c g e hg)) (fun g hg => hl g (h'.m2.own.lt g hg).1 (fun e => hc.b g e hg) (fun e => hc.d g e hg))

theorem Cross.step {b : Nat} {w : World} {m' r' c' x' y' d' : Nat} {kind' : Int} {s' : Mt} {v u v1 u1 v' u' : Value} {xs' : List Int} (hc : Cross v u v' u') (h' : Pair b w m' r' c' x' y' d' kind' s' v' u' xs') (f1 : Fresh w v v1) (f2 : Fresh w u u1) : Cross v1 u1 v' u' :=
  ⟨hc.a.left h'.m1 f1, hc.b.left h'.m2 f1, hc.c.left h'.m1 f2, hc.d.left h'.m2 f2⟩

/-- What holds of both. -/
structure Two (w : World) (M k : Nat) (wr : World) (s1 : Mt) (v1 u1 : Value) (xs1 : List Int) (s2 : Mt) (v2 u2 : Value) (xs2 : List Int) : Prop where
  p1 : Pair (M + 12) wr M (M + 3) (M + 2) (M + 6) (M + 9) (M + 8) 1 s1 v1 u1 xs1
  p2 : Pair (M + 12) wr (M + 1) (M + 5) (M + 4) (M + 7) (M + 11) (M + 10) 1 s2 v2 u2 xs2
  cr : Cross v1 u1 v2 u2
  w1 : s1.within k
  w2 : s2.within k
  be : Below w.heap.size w wr

theorem foot_bel {b B : Nat} {w w' : World} {m r c x y d : Nat} {kind : Int} {s : Mt} {v u : Value} {xs : List Int} (h : Pair b w m r c x y d kind s v u xs) (k : Kept (pairFoot m c x d v u) w w') (hB : B ≤ w.heap.size) (h1 : B ≤ m) (h2 : B ≤ c) (h3 : B ≤ x) (h4 : B ≤ d) : Below B w w' :=
  k.below hB (fun i hi f => by
    have e1 := h.m1.low
    rcases f with (f | f | f) | (f | f | f)
    · omega
    · have := (h.m1.own.lt i f).1; omega
    · omega
    · omega
    · have := (h.m2.own.lt i f).1; omega
    · omega)

theorem Two.first {w : World} {M k : Nat} {wr w' : World} {s1 s2 : Mt} {v1 u1 v2 u2 : Value} {xs1 xs2 : List Int} (h : Two w M k wr s1 v1 u1 xs1 s2 v2 u2 xs2) (hM : w.heap.size ≤ M) (hd : Did (M + 12) wr w' M (M + 3) (M + 2) (M + 6) (M + 9) (M + 8) 1 k v1 u1 xs1) :
    ∃ s1' v1' u1' xs1', Two w M (k + 1) w' s1' v1' u1' xs1' s2 v2 u2 xs2 := by
  obtain ⟨s', v', u', xs', hp, hw, _, f1, f2, hk⟩ := hd
  exact ⟨s', v', u', xs', hp, h.p1.other h.p2 hk h.cr (by simp), h.cr.step h.p2 f1 f2, hw, h.w2.more (Nat.le_succ _), h.be.trans (foot_bel h.p1 hk h.be.size (by omega) (by omega) (by omega) (by omega))⟩
theorem Two.second {w : World} {M k : Nat} {wr w' : World} {s1 s2 : Mt} {v1 u1 v2 u2 : Value} {xs1 xs2 : List Int} (h : Two w M k wr s1 v1 u1 xs1 s2 v2 u2 xs2) (hM : w.heap.size ≤ M) (hd : Did (M + 12) wr w' (M + 1) (M + 5) (M + 4) (M + 7) (M + 11) (M + 10) 1 k v2 u2 xs2) :
    ∃ s2' v2' u2' xs2', Two w M (k + 1) w' s1 v1 u1 xs1 s2' v2' u2' xs2' := by
  obtain ⟨s', v', u', xs', hp, hw, _, f1, f2, hk⟩ := hd
  exact ⟨s', v', u', xs', h.p2.other h.p1 hk h.cr.symm (by simp), hp, (h.cr.symm.step h.p1 f1 f2).symm, h.w1.more (Nat.le_succ _), hw, h.be.trans (foot_bel h.p2 hk h.be.size (by omega) (by omega) (by omega) (by omega))⟩

theorem Two.calm {w : World} {M k : Nat} {wr w' : World} {s1 s2 : Mt} {v1 u1 v2 u2 : Value} {xs1 xs2 : List Int} (h : Two w M k wr s1 v1 u1 xs1 s2 v2 u2 xs2) (c : Kept (fun _ => False) wr w') : Two w M k w' s1 v1 u1 xs1 s2 v2 u2 xs2 :=
  ⟨h.p1.calm c, h.p2.calm c, h.cr, h.w1, h.w2, h.be.trans (c.below h.be.size (fun _ _ f => f))⟩

/-- A log that was told, held against the document's. -/
theorem told_log {b m : Nat} {s : Mt} {v : Value} {n : Nat} (W : World) (h1 : MeterS 79 50 b W m s v) (hw : s.within n) (hn : n ≤ 2199023255552) :
    Calls Try.prog 16 #[.pointer (some ⟨m, 0, none⟩)] W fun e w' => ∃ v', e = .returned v' ∧ w'.ownsRow 0 50 6 v' s.l.length (logCells s.l) ∧ Kept (fun _ => False) W w' := by
  refine (log_any b m s.st s.th s.dn s.mo v s.l W h1 (by have := hw.len; omega)).mono ?_
  rintro e w' ⟨v', he, ho, hk⟩
  refine ⟨v', he, ⟨ho.1, ?_⟩, hk⟩
  rcases ho.2 with h | ⟨g, cap, cur, a1, a2, a3⟩
  · exact .inl h
  · exact .inr ⟨g, cap, cur, a1, Nat.zero_le _, a3⟩
theorem held_log {b x : Nat} {s : Mt} {v' u : Value} {n : Nat} (W : World) (h2 : MeterS 34 50 b W x s u) (hv : W.ownsRow 0 50 6 v' s.l.length (logCells s.l)) (hw : s.within n) (hn : n ≤ 2199023255552) :
    Calls Try.prog 17 #[v', u] W fun e w' => e = .returned (.bool true) ∧ Kept (fun _ => False) W w' := by
  refine (same_true 0 b v' u s.l W hv h2.own (by have := hw.len; omega)).mono ?_
  rintro e w' ⟨he, k, rfl⟩
  exact ⟨he, (Kept.refl _ W).drewN k⟩
theorem held_meters {b b2 m x : Nat} {s : Mt} {v v2 : Value} (W : World) (h1 : MeterS 79 50 b W m s v) (h2 : MeterS 34 50 b2 W x s v2) :
    Calls Try.prog 15 #[.pointer (some ⟨m, 0, none⟩), .pointer (some ⟨x, 0, none⟩)] W fun e w' => e = .returned (.bool true) ∧ Kept (fun _ => False) W w' := by
  refine (meters_true W h1 h2).mono ?_
  rintro e w' ⟨he, k, rfl⟩
  exact ⟨he, (Kept.refl _ W).drewN k⟩

set_option maxRecDepth 100000 in
set_option maxHeartbeats 1000000 in
theorem apart_walk (a : Option Addr) (len cap : Nat) (f : Nat → OpD) (w : World) (hs : ScriptAt w a len f) :
    Calls Try.prog 8 #[.slice a len cap] w fun e w' => e = .returned (.bool true) ∧ Below w.heap.size w w' := by
  go_enter Try.func8, Try.ntmps8
  go_wp2_with fail
  refine (awake_any _).mono ?_
  rintro e wa ⟨rfl, hka⟩
  obtain ⟨M, hM⟩ : ∃ M, wa.heap.size = M := ⟨_, rfl⟩
  have hwM : w.heap.size ≤ M := hM ▸ hka.size
  go_wp2_with fail
  refine (newMeter_f _).mono ?_
  rintro e w1 ⟨rfl, n1⟩
  have z1 : w1.heap.size = M + 1 := by have := n1.size; omega
  go_wp2_with fail
  refine (newMeter_f _).mono ?_
  rintro e w2 ⟨rfl, n2⟩
  have z2 : w2.heap.size = M + 2 := by have := n2.size; omega
  go_wp2_with fail
  refine (newRow_f _ 1 4 _ (by omega) (by omega)).mono ?_
  rintro e w3 ⟨rfl, n3⟩
  have z3 : w3.heap.size = M + 4 := by have := n3.size; omega
  go_wp2_with fail
  refine (newRow_f _ 1 4 _ (by omega) (by omega)).mono ?_
  rintro e w4 ⟨rfl, n4⟩
  have z4 : w4.heap.size = M + 6 := by have := n4.size; omega
  go_wp2_with fail
  have n5 := newM 34 w4
  generalize w4.alloc (.cells #[.int .i64 0, .int .i64 0, .int .i64 0, .int .i64 0, .slice none 0 0] 34) = w5 at n5 ⊢
  have n6 := newM 34 w5
  generalize w5.alloc (.cells #[.int .i64 0, .int .i64 0, .int .i64 0, .int .i64 0, .slice none 0 0] 34) = w6 at n6 ⊢
  have z5 : w5.heap.size = M + 7 := by have := n5.size; omega
  have z6 : w6.heap.size = M + 8 := by have := n6.size; omega
  refine (refNew_f _ 1 4 _ (by omega) (by omega)).mono ?_
  rintro e w7 ⟨rfl, n7⟩
  have z7 : w7.heap.size = M + 10 := by have := n7.size; omega
  go_wp2_with fail
  refine (refNew_f _ 1 4 _ (by omega) (by omega)).mono ?_
  rintro e w8 ⟨rfl, n8⟩
  have z8 : w8.heap.size = M + 12 := by have := n8.size; omega
  have T0 : Two w M 0 w8 Mt.zero (.slice none 0 0) (.slice none 0 0) [0, 0, 0, 0] Mt.zero (.slice none 0 0) (.slice none 0 0) [0, 0, 0, 0] := by
    have c7 := n8.calm
    have c6 := calm_trans n7.calm c7
    have c5 := calm_trans n6.calm c6
    have c4 := calm_trans n5.calm c5
    have c3 := calm_trans n4.calm c4
    have c2 := calm_trans n3.calm c3
    have c1 := calm_trans n2.calm c2
    have c0 := calm_trans n1.calm c1
    have a1 := meter_made (b := M + 12) n1 c1 (by omega) (by omega)
    have a2 := meter_made (b := M + 12) n2 c2 (by omega) (by omega)
    have a3 := row_made (b := M + 12) n3 c3 (by decide) (by omega) (by omega) (by omega)
    have a4 := row_made (b := M + 12) n4 c4 (by decide) (by omega) (by omega) (by omega)
    have a5 := meter_made (b := M + 12) n5 c5 (by omega) (by omega)
    have a6 := meter_made (b := M + 12) n6 c6 (by omega) (by omega)
    have a7 := row_made (b := M + 12) n7 c7 (by decide) (by omega) (by omega) (by omega)
    have a8 := row_made (b := M + 12) n8 (Kept.refl _ _) (by decide) (by omega) (by omega) (by omega)
    simp only [hM, z1, z2, z3, z4, z5, z6, z7] at a1 a2 a3 a4 a5 a6 a7 a8
    exact ⟨⟨a1, a5, a3, a7, apart_nil _, by omega, by omega, by omega, by omega, by omega, by omega, by omega, by omega, by omega⟩, ⟨a2, a6, a4, a8, apart_nil _, by omega, by omega, by omega, by omega, by omega, by omega, by omega, by omega, by omega⟩, ⟨apart_nil _, apart_nil _, apart_nil _, apart_nil _⟩, Mt.within_zero _, Mt.within_zero _, (hka.below (Nat.le_refl _) (fun _ _ f => f)).trans (c0.below hka.size (fun _ _ f => f))⟩
  clear n1 n2 n3 n4 n5 n6 n7 n8 hka
  go_wp2_with fail
  clear z1 z2 z3 z4 z5 z6 z7 z8 hM
  go_loopw [14] (fun i wr => ∃ (k : Nat) (s1 : Mt) (v1 u1 : Value) (xs1 : List Int) (s2 : Mt) (v2 u2 : Value) (xs2 : List Int), i = .int .i64 k ∧ k ≤ len ∧ Two w M k wr s1 v1 u1 xs1 s2 v2 u2 xs2) (fun i _ => len - (intOf i).toNat)
  case atStart => exact ⟨0, _, _, _, _, _, _, _, _, rfl, Nat.zero_le _, T0⟩
  case round =>
    obtain ⟨k, s1, v1, u1, xs1, s2, v2, u2, xs2, rfl, hk, hT⟩ := hrel
    by_cases hlt : k < len
    · rcases hs with h0 | ⟨b0, off, rfl, hreach, hops⟩
      · omega
      have ho := (hops k hlt).below hT.be (Nat.le_refl _)
      have hlist := (hops k hlt).list
      clear hops
      generalize f k = o at ho hlist
      have hap : ∀ a, o.la = some a → 0 < o.ll → a.block < w.heap.size := by
        intro a ha h0
        obtain ⟨g, q, hgo, hc⟩ := (list_ints hlist).1.2 h0
        rw [ha] at hgo; cases hgo
        exact World.block_lt_of_cell? w _ (hc 0 h0)
      obtain ⟨o0, o1, o2, o3, o4, o5, hl'⟩ := ho
      have hi0 : (0 : Int) ≤ (k : Int) := Int.natCast_nonneg _
      have hi1 : (k : Int) < (len : Int) := by omega
      have D1 := does_any o hT.p1 hT.w1 (by omega) hl' (fun a ha h0 => by have := hap a ha h0; omega)
      have D2 := does_any o hT.p2 hT.w2 (by omega) hl' (fun a ha h0 => by have := hap a ha h0; omega)
      clear hlist hl' hap
      obtain ⟨other, kind, i, x, old, la, ll, lc, zs⟩ := o
      simp only at o0 o1 o2 o3 o4 o5 D1 D2
      cases other
      · go_wp2_with (go_at_call 14; refine D1.mono ?_; rintro e w' ⟨rfl, hd⟩; have hT' := hT.first hwM hd)
        obtain ⟨s1', v1', u1', xs1', hT'⟩ := hT'
        go_roundw
        case rel => exact ⟨k + 1, _, _, _, _, _, _, _, _, by go_num, by omega, hT'⟩
        case measure => simp [intOf]; omega
      · go_wp2_with (go_at_call 14; refine D2.mono ?_; rintro e w' ⟨rfl, hd⟩; have hT' := hT.second hwM hd)
        obtain ⟨s2', v2', u2', xs2', hT'⟩ := hT'
        go_roundw
        case rel => exact ⟨k + 1, _, _, _, _, _, _, _, _, by go_num, by omega, hT'⟩
        case measure => simp [intOf]; omega
    · have hreach : len * 64 ≤ 140737488351232 := by
        rcases hs with h0 | ⟨b0, off, _, hreach, _⟩
        · omega
        · exact hreach
      clear hs
      have hkn : k ≤ 2199023255552 := by omega
      go_wp2_with fail
      generalize e1 : M + 6 + 1 = z2
      generalize e2 : M + 6 = z1
      generalize e3 : M + 1 = m2
      have mt1 : ∀ W, Two w M k W s1 v1 u1 xs1 s2 v2 u2 xs2 → Calls Try.prog 15 #[.pointer (some ⟨M, 0, none⟩), .pointer (some ⟨z1, 0, none⟩)] W fun e w' => e = .returned (.bool true) ∧ Two w M k w' s1 v1 u1 xs1 s2 v2 u2 xs2 :=
        fun W h => e2 ▸ (held_meters W h.p1.m1 h.p1.m2).mono fun e w' ⟨he, hk⟩ => ⟨he, h.calm hk⟩
      have mt2 : ∀ W, Two w M k W s1 v1 u1 xs1 s2 v2 u2 xs2 → Calls Try.prog 15 #[.pointer (some ⟨m2, 0, none⟩), .pointer (some ⟨z2, 0, none⟩)] W fun e w' => e = .returned (.bool true) ∧ Two w M k w' s1 v1 u1 xs1 s2 v2 u2 xs2 :=
        fun W h => e1 ▸ e3 ▸ (held_meters W h.p2.m1 h.p2.m2).mono fun e w' ⟨he, hk⟩ => ⟨he, h.calm hk⟩
      have lg1 : ∀ W, Two w M k W s1 v1 u1 xs1 s2 v2 u2 xs2 → Calls Try.prog 16 #[.pointer (some ⟨M, 0, none⟩)] W fun e w' => ∃ v', e = .returned v' ∧ w'.ownsRow 0 50 6 v' s1.l.length (logCells s1.l) ∧ Two w M k w' s1 v1 u1 xs1 s2 v2 u2 xs2 :=
        fun W h => (told_log W h.p1.m1 h.w1 hkn).mono fun e w' ⟨v', he, ho, hk⟩ => ⟨v', he, ho, h.calm hk⟩
      have lg2 : ∀ W, Two w M k W s1 v1 u1 xs1 s2 v2 u2 xs2 → Calls Try.prog 16 #[.pointer (some ⟨m2, 0, none⟩)] W fun e w' => ∃ v', e = .returned v' ∧ w'.ownsRow 0 50 6 v' s2.l.length (logCells s2.l) ∧ Two w M k w' s1 v1 u1 xs1 s2 v2 u2 xs2 :=
        fun W h => e3 ▸ (told_log W h.p2.m1 h.w2 hkn).mono fun e w' ⟨v', he, ho, hk⟩ => ⟨v', he, ho, h.calm hk⟩
      have sm1 : ∀ W v', Two w M k W s1 v1 u1 xs1 s2 v2 u2 xs2 → W.ownsRow 0 50 6 v' s1.l.length (logCells s1.l) → Calls Try.prog 17 #[v', u1] W fun e w' => e = .returned (.bool true) ∧ Two w M k w' s1 v1 u1 xs1 s2 v2 u2 xs2 :=
        fun W v' h hv => (held_log W h.p1.m2 hv h.w1 hkn).mono fun e w' ⟨he, hk⟩ => ⟨he, h.calm hk⟩
      have sm2 : ∀ W v', Two w M k W s1 v1 u1 xs1 s2 v2 u2 xs2 → W.ownsRow 0 50 6 v' s2.l.length (logCells s2.l) → Calls Try.prog 17 #[v', u2] W fun e w' => e = .returned (.bool true) ∧ Two w M k w' s1 v1 u1 xs1 s2 v2 u2 xs2 :=
        fun W v' h hv => (held_log W h.p2.m2 hv h.w2 hkn).mono fun e w' ⟨he, hk⟩ => ⟨he, h.calm hk⟩
      have c1 : wr.cell? ⟨z1, 4, none⟩ = some u1 := e2 ▸ cell_of_heap hT.p1.m2.heap
      have c2 : wr.cell? ⟨z2, 4, none⟩ = some u2 := e1 ▸ cell_of_heap hT.p2.m2.heap
      have C1 : Hid (∀ W, Two w M k W s1 v1 u1 xs1 s2 v2 u2 xs2 → W.cell? ⟨z1, 4, none⟩ = some u1) := fun W h => e2 ▸ cell_of_heap h.p1.m2.heap
      have C2 : Hid (∀ W, Two w M k W s1 v1 u1 xs1 s2 v2 u2 xs2 → W.cell? ⟨z2, 4, none⟩ = some u2) := fun W h => e1 ▸ cell_of_heap h.p2.m2.heap
      clear e1 e2 e3
      have hH := hT.calm ((Kept.refl _ wr).drew)
      go_region_held3 (fun w' => w'.cell? ⟨z1, 4, none⟩ = some u1 ∧ w'.cell? ⟨z2, 4, none⟩ = some u2 ∧ Two w M k w' s1 v1 u1 xs1 s2 v2 u2 xs2)
        (first | exact ⟨C1.out _ hH, C2.out _ hH, hH⟩)
        (first | (go_at_call_of 15 z1; refine (mt1 _ hH).mono ?_; rintro e w' ⟨rfl, hH⟩) | (go_at_call_of 15 z2; refine (mt2 _ hH).mono ?_; rintro e w' ⟨rfl, hH⟩) | (go_at_call_of 16 m2; refine (lg2 _ hH).mono ?_; rintro e w' ⟨v', rfl, hL, hH⟩) | (go_at_call_of 16 M; refine (lg1 _ hH).mono ?_; rintro e w' ⟨v', rfl, hL, hH⟩) | (go_at_call_of 17 u1; refine (sm1 _ _ hH hL).mono ?_; rintro e w' ⟨rfl, hH⟩) | (go_at_call_of 17 u2; refine (sm2 _ _ hH hL).mono ?_; rintro e w' ⟨rfl, hH⟩))
      go_wp2
      go_ret
      exact ⟨rfl, hH.be⟩
end Go.Proofs.Ytebhjfoggogmaaa
