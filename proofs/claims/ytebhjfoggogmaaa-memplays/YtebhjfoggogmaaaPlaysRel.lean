/- Two rows of one meter beside the document's: what holds of them, and what a step leaves. No walk here. -/
import Derived.Test.YtebhjfoggogmaaaApartWalk
namespace Go.Proofs.Ytebhjfoggogmaaa
open Go.RowKit
set_option linter.unusedVariables false
set_option linter.unusedSimpArgs false

structure Duo (w : World) (M k : Nat) (kd1 kd2 : Int) (n1 n2 : Nat) (wr : World) (s : Mt) (v u : Value) (xs1 xs2 : List Int) : Prop where
  p1 : Pair (M + 10) wr M (M + 2) (M + 1) (M + 5) (M + 7) (M + 6) kd1 s v u xs1
  p2 : Pair (M + 10) wr M (M + 4) (M + 3) (M + 5) (M + 9) (M + 8) kd2 s v u xs2
  l1 : xs1.length = n1
  l2 : xs2.length = n2
  wi : s.within k
  be : Below w.heap.size w wr

theorem Duo.calm {w : World} {M k : Nat} {kd1 kd2 : Int} {n1 n2 : Nat} {wr w' : World} {s : Mt} {v u : Value} {xs1 xs2 : List Int} (h : Duo w M k kd1 kd2 n1 n2 wr s v u xs1 xs2) (c : Kept (fun _ => False) wr w') : Duo w M k kd1 kd2 n1 n2 w' s v u xs1 xs2 :=
  ⟨h.p1.calm c, h.p2.calm c, h.l1, h.l2, h.wi, h.be.trans (c.below h.be.size (fun _ _ f => f))⟩

/-- Nothing that a step on the one row may turn is a block of the other row. -/
theorem foot_no {b : Nat} {w : World} {m r c x y d : Nat} {kind : Int} {s : Mt} {v u : Value} {xs : List Int} (h : Pair b w m r c x y d kind s v u xs) {i : Nat} (hi : i < b) (n1 : i ≠ m) (n2 : i ≠ c) (n3 : i ≠ x) (n4 : i ≠ d) : ¬ pairFoot m c x d v u i := by
  rintro ((f | f | f) | (f | f | f))
  · exact n1 f
  · exact h.m1.apart hi f
  · exact n2 f
  · exact n3 f
  · exact h.m2.apart hi f
  · exact n4 f

theorem Duo.first {w : World} {M k : Nat} {kd1 kd2 : Int} {n1 n2 : Nat} {wr w' : World} {s : Mt} {v u : Value} {xs1 xs2 : List Int} (h : Duo w M k kd1 kd2 n1 n2 wr s v u xs1 xs2) (hM : w.heap.size ≤ M) (hd : Did (M + 10) wr w' M (M + 2) (M + 1) (M + 5) (M + 7) (M + 6) kd1 k v u xs1) :
    ∃ s' v' u' xs1', Duo w M (k + 1) kd1 kd2 n1 n2 w' s' v' u' xs1' xs2 := by
  obtain ⟨s', v', u', xs', hp, hw, hl, f1, f2, hk⟩ := hd
  have r1 := h.p2.r1.kept hk (foot_no h.p1 (by omega) (by omega) (by omega) (by omega) (by omega)) (foot_no h.p1 (by omega) (by omega) (by omega) (by omega) (by omega))
  have r2 := h.p2.r2.kept hk (foot_no h.p1 (by omega) (by omega) (by omega) (by omega) (by omega)) (foot_no h.p1 (by omega) (by omega) (by omega) (by omega) (by omega))
  exact ⟨s', v', u', xs', hp, ⟨hp.m1, hp.m2, r1, r2, hp.ap, by omega, by omega, by omega, by omega, by omega, by omega, by omega, by omega, by omega⟩, hl.trans h.l1, h.l2, hw, h.be.trans (foot_bel h.p1 hk h.be.size (by omega) (by omega) (by omega) (by omega))⟩
theorem Duo.second {w : World} {M k : Nat} {kd1 kd2 : Int} {n1 n2 : Nat} {wr w' : World} {s : Mt} {v u : Value} {xs1 xs2 : List Int} (h : Duo w M k kd1 kd2 n1 n2 wr s v u xs1 xs2) (hM : w.heap.size ≤ M) (hd : Did (M + 10) wr w' M (M + 4) (M + 3) (M + 5) (M + 9) (M + 8) kd2 k v u xs2) :
    ∃ s' v' u' xs2', Duo w M (k + 1) kd1 kd2 n1 n2 w' s' v' u' xs1 xs2' := by
  obtain ⟨s', v', u', xs', hp, hw, hl, f1, f2, hk⟩ := hd
  have r1 := h.p1.r1.kept hk (foot_no h.p2 (by omega) (by omega) (by omega) (by omega) (by omega)) (foot_no h.p2 (by omega) (by omega) (by omega) (by omega) (by omega))
  have r2 := h.p1.r2.kept hk (foot_no h.p2 (by omega) (by omega) (by omega) (by omega) (by omega)) (foot_no h.p2 (by omega) (by omega) (by omega) (by omega) (by omega))
  exact ⟨s', v', u', xs', ⟨hp.m1, hp.m2, r1, r2, hp.ap, by omega, by omega, by omega, by omega, by omega, by omega, by omega, by omega, by omega⟩, hp, h.l1, hl.trans h.l2, hw, h.be.trans (foot_bel h.p2 hk h.be.size (by omega) (by omega) (by omega) (by omega))⟩

/-- Blocks that came later than all of it may turn. -/
theorem Duo.late {w : World} {M k : Nat} {kd1 kd2 : Int} {n1 n2 : Nat} {w0 wr w' : World} {s : Mt} {v u : Value} {xs1 xs2 : List Int} {F : Nat → Prop} (h0 : Duo w M k kd1 kd2 n1 n2 w0 s v u xs1 xs2) (h : Duo w M k kd1 kd2 n1 n2 wr s v u xs1 xs2) (c : Kept F wr w') (hF : ∀ i, F i → w0.heap.size ≤ i) : Duo w M k kd1 kd2 n1 n2 w' s v u xs1 xs2 := by
  have hh := h0.p1.m1.high
  have hs : ∀ i, i < w0.heap.size → ¬ F i := fun i hi f => by have := hF i f; omega
  have hv : ∀ g, v.ownBlock = some g → ¬ F g := fun g hg => hs g (h0.p1.m1.own.lt g hg).2
  have hu : ∀ g, u.ownBlock = some g → ¬ F g := fun g hg => hs g (h0.p1.m2.own.lt g hg).2
  refine ⟨h.p1.kept c (hs _ (by omega)) (hs _ (by omega)) (hs _ (by omega)) (hs _ (by omega)) (hs _ (by omega)) (hs _ (by omega)) hv hu, h.p2.kept c (hs _ (by omega)) (hs _ (by omega)) (hs _ (by omega)) (hs _ (by omega)) (hs _ (by omega)) (hs _ (by omega)) hv hu, h.l1, h.l2, h.wi, h.be.trans (c.below h.be.size (fun i hi f => by have := hF i f; have := h0.be.size; omega))⟩

/-- Both, and two logs that were told. -/
structure Told (w : World) (M k : Nat) (kd1 kd2 : Int) (n1 n2 : Nat) (H1 H2 : Nat) (l1 l2 : Value) (s : Mt) (v u : Value) (xs1 xs2 : List Int) (wr : World) : Prop where
  duo : Duo w M k kd1 kd2 n1 n2 wr s v u xs1 xs2
  o1 : wr.ownsRow H1 50 6 l1 s.l.length (logCells s.l)
  o2 : wr.ownsRow H2 50 6 l2 s.l.length (logCells s.l)
  sz : H2 ≤ wr.heap.size
theorem Told.calm {w : World} {M k : Nat} {kd1 kd2 : Int} {n1 n2 : Nat} {H1 H2 : Nat} {l1 l2 : Value} {s : Mt} {v u : Value} {xs1 xs2 : List Int} {wr w' : World} (h : Told w M k kd1 kd2 n1 n2 H1 H2 l1 l2 s v u xs1 xs2 wr) (c : Kept (fun _ => False) wr w') : Told w M k kd1 kd2 n1 n2 H1 H2 l1 l2 s v u xs1 xs2 w' :=
  ⟨h.duo.calm c, ownsRow_kept h.o1 c (fun _ _ f => f), ownsRow_kept h.o2 c (fun _ _ f => f), Nat.le_trans h.sz c.size⟩

theorem own_zero {wr : World} {H : Nat} {e : TypeId} {sz : Nat} {l : Value} {n : Nat} {xs : List Value} (h : wr.ownsRow H e sz l n xs) : wr.ownsRow 0 e sz l n xs := by
  refine ⟨h.1, ?_⟩
  rcases h.2 with h | ⟨g, cap, cur, a1, a2, a3⟩
  · exact .inl h
  · exact .inr ⟨g, cap, cur, a1, Nat.zero_le _, a3⟩

theorem held_rows {ga gb : Option Addr} {n ca cb : Nat} {zs : List Int} (W : World) (ha : IntsIn W ga n zs) (hb : IntsIn W gb n zs) (hn : n ≤ 4096) :
    Calls Try.prog 19 #[.slice ga n ca, .slice gb n cb] W fun e w' => e = .returned (.bool true) ∧ Kept (fun _ => False) W w' := by
  refine (sameRow_true ga gb n ca cb zs W ha hb (by omega)).mono ?_
  rintro e w' ⟨he, k, rfl⟩
  exact ⟨he, (Kept.refl _ W).drewN k⟩
/-- Both, and the second log that was told. -/
structure Half (w : World) (M k : Nat) (kd1 kd2 : Int) (n1 n2 : Nat) (H2 : Nat) (l2 : Value) (s : Mt) (v u : Value) (xs1 xs2 : List Int) (wr : World) : Prop where
  duo : Duo w M k kd1 kd2 n1 n2 wr s v u xs1 xs2
  o2 : wr.ownsRow H2 50 6 l2 s.l.length (logCells s.l)
  sz : H2 ≤ wr.heap.size
theorem Half.calm {w : World} {M k : Nat} {kd1 kd2 : Int} {n1 n2 : Nat} {H2 : Nat} {l2 : Value} {s : Mt} {v u : Value} {xs1 xs2 : List Int} {wr w' : World} (h : Half w M k kd1 kd2 n1 n2 H2 l2 s v u xs1 xs2 wr) (c : Kept (fun _ => False) wr w') : Half w M k kd1 kd2 n1 n2 H2 l2 s v u xs1 xs2 w' :=
  ⟨h.duo.calm c, ownsRow_kept h.o2 c (fun _ _ f => f), Nat.le_trans h.sz c.size⟩
/-- The first log's own block may turn. -/
theorem Half.turn {w : World} {M k : Nat} {kd1 kd2 : Int} {n1 n2 : Nat} {H1 H2 : Nat} {l2 : Value} {s : Mt} {v u : Value} {xs1 xs2 : List Int} {w0 wr w' : World} {F : Nat → Prop} (h0 : Duo w M k kd1 kd2 n1 n2 w0 s v u xs1 xs2) (h : Half w M k kd1 kd2 n1 n2 H2 l2 s v u xs1 xs2 wr) (c : Kept F wr w') (h1 : w0.heap.size = H1) (hF : ∀ i, F i → H1 ≤ i ∧ i < H2) : Half w M k kd1 kd2 n1 n2 H2 l2 s v u xs1 xs2 w' :=
  ⟨h0.late h.duo c (fun i f => by have := hF i f; omega), ownsRow_kept h.o2 c (fun g hg f => by have := hF g f; omega), Nat.le_trans h.sz c.size⟩

theorem six {wr : World} {g cl n H : Nat} {cs : List Value} (h : wr.ownsRow H 50 6 (.slice (some ⟨g, 0, none⟩) n cl) n cs) (o : Nat) (v0 v1 v2 v3 v4 v5 : Value) :
    (∃ cs', ((((((wr.setCell ⟨g, o, none⟩ v0).setCell ⟨g, o + 1, none⟩ v1).setCell ⟨g, o + 2, none⟩ v2).setCell ⟨g, o + 3, none⟩ v3).setCell ⟨g, o + 4, none⟩ v4).setCell ⟨g, o + 5, none⟩ v5).ownsRow H 50 6 (.slice (some ⟨g, 0, none⟩) n cl) n cs') ∧
      Kept (fun k => k = g) wr ((((((wr.setCell ⟨g, o, none⟩ v0).setCell ⟨g, o + 1, none⟩ v1).setCell ⟨g, o + 2, none⟩ v2).setCell ⟨g, o + 3, none⟩ v3).setCell ⟨g, o + 4, none⟩ v4).setCell ⟨g, o + 5, none⟩ v5) := by
  have a0 := (h.stored o v0).1
  have a1 := (a0.stored (o + 1) v1).1
  have a2 := (a1.stored (o + 2) v2).1
  have a3 := (a2.stored (o + 3) v3).1
  have a4 := (a3.stored (o + 4) v4).1
  have a5 := (a4.stored (o + 5) v5).1
  exact ⟨⟨_, a5⟩, ((((((Kept.refl (fun k => k = g) wr).setCell _ (.inl rfl)).setCell _ (.inl rfl)).setCell _ (.inl rfl)).setCell _ (.inl rfl)).setCell _ (.inl rfl)).setCell _ (.inl rfl)⟩
end Go.Proofs.Ytebhjfoggogmaaa
