/- What Load, Store, Trade and Begin of the code do to a row and its meter: as the model says. -/
import Derived.Test.YtebhjfoggogmaaaModel
import Derived.Test.YtebhjfoggogmaaaNote
import Derived.Test.YtebhjfoggogmaaaTrade
import Derived.Test.YtebhjfoggogmaaaSmall
namespace Go.Proofs.Ytebhjfoggogmaaa
open Go.RowKit
set_option linter.unusedVariables false
set_option linter.unusedSimpArgs false

theorem note_met {b m : Nat} {s : Mt} {v : Value} {n : Nat} (kind i op : Int) (ok : Bool) (w : World) (h : MeterS 79 50 b w m s v) (hw : s.within n) (hn : n ≤ 2199023255552) :
    Calls Try.prog 42 #[.pointer (some ⟨m, 0, none⟩), .int .i64 kind, .int .i64 i, .int .i64 op, .bool ok] w fun e w' => e = .returned (.tuple #[]) ∧
      ∃ v', MeterS 79 50 b w' m (s.note kind i op ok) v' ∧ Fresh w v v' ∧ Kept (fun k => k = m ∨ v.ownBlock = some k) w w' := by
  obtain ⟨a1, a2, a3, a4, a5⟩ := hw
  refine (note_any b m s.st s.th s.dn s.mo kind i op ok v s.l w h a3 (by omega) (by omega)).mono ?_
  rintro e w' ⟨he, g, cap, h1, h2, h3⟩
  exact ⟨he, _, h1, h2, h3⟩

/-- The row behind a note of its meter. -/
theorem RowIn.noted {t : TypeId} {b : Nat} {w w' : World} {r c m : Nat} {kind : Int} {xs : List Int} {s : Mt} {v : Value} (h : RowIn t b w r c m kind xs) (hm : MeterS 79 50 b w m s v) (k : Kept (fun k => k = m ∨ v.ownBlock = some k) w w') : RowIn t b w' r c m kind xs :=
  h.kept k (fun f => f.elim h.rm (hm.apart h.rb)) (fun f => f.elim h.cm (hm.apart h.cb))

theorem foot_note {m c : Nat} {v : Value} {w w' : World} (k : Kept (fun k => k = m ∨ v.ownBlock = some k) w w') : Kept (rowFoot m c v) w w' :=
  k.mono (fun _ _ f => f.elim .inl (fun x => .inr (.inl x)))

theorem load_met {b r c m : Nat} {kind : Int} {xs : List Int} {s : Mt} {v : Value} {n : Nat} (i : Int) (w : World) (hm : MeterS 79 50 b w m s v) (hr : RowIn 81 b w r c m kind xs) (hw : s.within n) (hn : n ≤ 2199023255552) :
    Calls Try.prog 22 #[.pointer (some ⟨r, 0, none⟩), .int .i64 i] w fun e w' => e = .returned (.tuple #[.int .i64 (rowLoad xs i), .int .i64 (rowErr xs i)]) ∧
      ∃ v', MeterS 79 50 b w' m (rowNote s xs kind i 1 true) v' ∧ RowIn 81 b w' r c m kind xs ∧ Fresh w v v' ∧ Kept (rowFoot m c v) w w' := by
  cases hb : hasB xs i
  · simp only [rowLoad, rowErr, rowNote, hb]
    refine (load_out r _ _ c xs.length i _ w hr.row (hasB_no hb) hr.small).mono ?_
    rintro e w' ⟨he, rfl⟩
    exact ⟨he, v, hm, hr, Fresh.refl _ _, Kept.refl _ _⟩
  · obtain ⟨k, rfl, hk⟩ := hasB_nat hb
    simp only [rowLoad, rowErr, rowNote, hb, if_true, Int.toNat_natCast]
    refine (load_in r _ kind c xs.length k _ (ints xs) _ w hr.row hr.cells hk hr.small (ints_at xs k hk)
      (fun w' => ∃ v', MeterS 79 50 b w' m (s.note kind k 1 true) v' ∧ RowIn 81 b w' r c m kind xs ∧ Fresh w v v' ∧ Kept (rowFoot m c v) w w') ?_ ?_).mono ?_
    · rintro w' ⟨v', _, h2, _⟩
      exact ⟨h2.row, h2.cells⟩
    · refine (note_met kind k 1 true w.drew (v := v) (b := b) (s := s) hm.drew hw hn).mono ?_
      rintro e w' ⟨he, v', h1, h2, h3⟩
      have hr' : RowIn 81 b w' r c m kind xs := RowIn.noted (w := w.drew) (s := s) hr.drew hm.drew h3
      exact ⟨he, v', h1, hr', h2, foot_note (w := w) h3.ofDrew⟩
    · rintro e w' ⟨he, h⟩
      exact ⟨he, h⟩

theorem store_met {b r c m : Nat} {kind : Int} {xs : List Int} {s : Mt} {v : Value} {n : Nat} (i x : Int) (w : World) (hm : MeterS 79 50 b w m s v) (hr : RowIn 81 b w r c m kind xs) (hw : s.within n) (hn : n ≤ 2199023255552) :
    Calls Try.prog 23 #[.pointer (some ⟨r, 0, none⟩), .int .i64 i, .int .i64 x] w fun e w' => e = .returned (.int .i64 (rowErr xs i)) ∧
      ∃ v', MeterS 79 50 b w' m (rowNote s xs kind i 2 true) v' ∧ RowIn 81 b w' r c m kind (rowStore xs i x) ∧ Fresh w v v' ∧ Kept (rowFoot m c v) w w' := by
  cases hb : hasB xs i
  · simp only [rowStore, rowErr, rowNote, hb]
    refine (store_out r _ _ c xs.length i x _ w hr.row (hasB_no hb) hr.small).mono ?_
    rintro e w' ⟨he, rfl⟩
    exact ⟨he, v, hm, hr, Fresh.refl _ _, Kept.refl _ _⟩
  · obtain ⟨k, rfl, hk⟩ := hasB_nat hb
    simp only [rowStore, rowErr, rowNote, hb, if_true, Int.toNat_natCast]
    refine (store_in r _ kind c xs.length k _ (ints xs) x w hr.row hk hr.small (ints_size xs)
      (fun w' => ∃ v', MeterS 79 50 b w' m (s.note kind k 2 true) v' ∧ RowIn 81 b w' r c m kind xs ∧ Fresh w v v' ∧ Kept (rowFoot m c v) w w') ?_ ?_).mono ?_
    · rintro w' ⟨v', _, h2, _⟩
      exact ⟨h2.row, h2.cells⟩
    · refine (note_met kind k 2 true w.drew (v := v) (b := b) (s := s) hm.drew hw hn).mono ?_
      rintro e w' ⟨he, v', h1, h2, h3⟩
      have hr' : RowIn 81 b w' r c m kind xs := RowIn.noted (w := w.drew) (s := s) hr.drew hm.drew h3
      exact ⟨he, v', h1, hr', h2, foot_note (w := w) h3.ofDrew⟩
    · rintro e w' ⟨he, w1, ⟨v', h1, h2, h3, h4⟩, rfl⟩
      refine ⟨he, v', h1.kept ((Kept.refl (fun k => k = c) w1).setCell _ (.inl rfl)) (fun f => h2.cm f.symm) (fun g hg f => ?_), h2.stored k x, h3, h4.setCell _ (.inl (.inr (.inr rfl)))⟩
      subst f
      exact h1.apart h2.cb hg

theorem trade_met {b r c m : Nat} {kind : Int} {xs : List Int} {s : Mt} {v : Value} {n : Nat} (i old x : Int) (w : World) (hm : MeterS 79 50 b w m s v) (hr : RowIn 81 b w r c m kind xs) (hw : s.within n) (hn : n ≤ 2199023255552) :
    Calls Try.prog 24 #[.pointer (some ⟨r, 0, none⟩), .int .i64 i, .int .i64 old, .int .i64 x] w fun e w' => e = .returned (.tuple #[.int .i64 (rowLoad xs i), .bool (rowHit xs i old), .int .i64 (rowErr xs i)]) ∧
      ∃ v', MeterS 79 50 b w' m (rowNote s xs kind i 3 (rowHit xs i old)) v' ∧ RowIn 81 b w' r c m kind (rowTrade xs i old x) ∧ Fresh w v v' ∧ Kept (rowFoot m c v) w w' := by
  cases hb : hasB xs i
  · simp only [rowTrade, rowHit, rowLoad, rowErr, rowNote, hb, Bool.false_and]
    refine (trade_out r _ _ c xs.length i old x _ w hr.row (hasB_no hb) hr.small).mono ?_
    rintro e w' ⟨he, rfl⟩
    exact ⟨he, v, hm, hr, Fresh.refl _ _, Kept.refl _ _⟩
  · obtain ⟨k, rfl, hk⟩ := hasB_nat hb
    simp only [rowTrade, rowHit, rowLoad, rowErr, rowNote, hb, if_true, Int.toNat_natCast, Bool.true_and]
    generalize hy : xs.getD k 0 = y
    generalize hbb : (y == old) = bb
    have ks := sameW_kept w bb
    have hmS : MeterS 79 50 b (sameW w bb) m s v := hm.kept ks (fun f => f) (fun _ _ f => f)
    have hrS : RowIn 81 b (sameW w bb) r c m kind xs := hr.kept ks (fun f => f) (fun f => f)
    refine (trade_in r _ kind c xs.length k _ (ints xs) y old x bb w hr.row hr.cells hk hr.small (ints_size xs) (hy ▸ ints_at xs k hk) hbb
      (fun w' => ∃ v', MeterS 79 50 b w' m (s.note kind k 3 bb) v' ∧ RowIn 81 b w' r c m kind xs ∧ Fresh w v v' ∧ Kept (rowFoot m c v) w w') ?_ ?_).mono ?_
    · rintro w' ⟨v', _, h2, _⟩
      exact ⟨h2.row, h2.cells⟩
    · refine (note_met kind k 3 bb (sameW w bb).drew (v := v) (b := b) (s := s) hmS.drew hw hn).mono ?_
      rintro e w' ⟨he, v', h1, h2, h3⟩
      have hr' : RowIn 81 b w' r c m kind xs := RowIn.noted (w := (sameW w bb).drew) (s := s) hrS.drew hmS.drew h3
      refine ⟨he, v', h1, hr', ?_, (ks.mono (fun _ _ f => f.elim)).trans (foot_note (w := sameW w bb) h3.ofDrew) (fun _ _ f => f)⟩
      rcases h2 with h2 | ⟨g, h2, h4⟩
      · exact .inl h2
      · exact .inr ⟨g, h2, Nat.le_trans ks.size h4⟩
    · rintro e w' ⟨he, w1, ⟨v', h1, h2, h3, h4⟩, rfl⟩
      cases bb
      · exact ⟨he, v', h1, h2, h3, h4⟩
      · refine ⟨he, v', h1.kept ((Kept.refl (fun k => k = c) w1).setCell _ (.inl rfl)) (fun f => h2.cm f.symm) (fun g hg f => ?_), h2.stored k x, h3, h4.setCell _ (.inl (.inr (.inr rfl)))⟩
        subst f
        exact h1.apart h2.cb hg

theorem begin_met {b m : Nat} {s : Mt} {v : Value} {n : Nat} (t : Int) (w : World) (hm : MeterS 79 50 b w m s v) (hw : s.within n) (hn : n ≤ 2199023255552) :
    Calls Try.prog 21 #[.pointer (some ⟨m, 0, none⟩), .int .i64 t] w fun e w' => e = .returned (.tuple #[]) ∧ MeterS 79 50 b w' m (s.start t) v ∧ Kept (fun k => k = m) w w' := by
  obtain ⟨a1, a2, a3, a4, a5⟩ := hw
  exact begin_any b m s.st s.th s.dn s.mo t v s.l w hm a1 (by omega)
end Go.Proofs.Ytebhjfoggogmaaa
