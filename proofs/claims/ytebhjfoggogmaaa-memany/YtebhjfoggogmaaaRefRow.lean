/- What the document's rows do: there, note, Load, Store, Trade, Begin, New, May: as the model says. -/
import Derived.Test.YtebhjfoggogmaaaRefNote
import Derived.Test.YtebhjfoggogmaaaModel
import Derived.Test.YtebhjfoggogmaaaUp
import Derived.Deep.RegionHeld3
import Derived.Deep.DrawnRows
namespace Go.Proofs.Ytebhjfoggogmaaa
open Go.RowKit
set_option linter.unusedVariables false
set_option linter.unusedSimpArgs false
attribute [local go_sem ↓] Go.wp_at_zero Go.wp_at_succ

theorem refNote_met {b m : Nat} {s : Mt} {v : Value} {n : Nat} (kind i op : Int) (ok : Bool) (w : World) (h : MeterS 34 50 b w m s v) (hw : s.within n) (hn : n ≤ 2199023255552) :
    Calls Try.prog 51 #[.pointer (some ⟨m, 0, none⟩), .int .i64 kind, .int .i64 i, .int .i64 op, .bool ok] w fun e w' => e = .returned (.tuple #[]) ∧
      ∃ v', MeterS 34 50 b w' m (s.note kind i op ok) v' ∧ Fresh w v v' ∧ Kept (fun k => k = m ∨ v.ownBlock = some k) w w' := by
  obtain ⟨a1, a2, a3, a4, a5⟩ := hw
  refine (refNote_any b m s.st s.th s.dn s.mo kind i op ok v s.l w h a3 (by omega) (by omega)).mono ?_
  rintro e w' ⟨he, g, cap, h1, h2, h3⟩
  exact ⟨he, _, h1, h2, h3⟩

theorem there_in (r : Nat) (mp kd : Value) (c n k : Nat) (cap : Nat) (w : World) (hr : w.heap[r]? = some (.cells #[mp, kd, .slice (some ⟨c, 0, none⟩) n cap] 48 (0, 0))) (hk : k < n) (hn : n ≤ 4096) :
    Calls Try.prog 47 #[.pointer (some ⟨r, 0, none⟩), .int .i64 k] w fun e w' => e = .returned (.bool true) ∧ w' = w := by
  have c2 : w.cell? ⟨r, 2, none⟩ = some (.slice (some ⟨c, 0, none⟩) n cap) := cell_of_heap hr
  have h0 : (0 : Int) ≤ (k : Int) := Int.natCast_nonneg _
  have h1 : (k : Int) < (n : Int) := by omega
  clear hr
  go_enter Try.func47, Try.ntmps47
  go_wp2
  go_ret
  exact ⟨rfl, rfl⟩

theorem there_out (r : Nat) (mp kd : Value) (c n : Nat) (i : Int) (cap : Nat) (w : World) (hr : w.heap[r]? = some (.cells #[mp, kd, .slice (some ⟨c, 0, none⟩) n cap] 48 (0, 0))) (hk : ¬ (0 ≤ i ∧ i < n)) (hn : n ≤ 4096) :
    Calls Try.prog 47 #[.pointer (some ⟨r, 0, none⟩), .int .i64 i] w fun e w' => e = .returned (.bool false) ∧ w' = w := by
  have c2 : w.cell? ⟨r, 2, none⟩ = some (.slice (some ⟨c, 0, none⟩) n cap) := cell_of_heap hr
  clear hr
  by_cases h0 : (0 : Int) ≤ i
  · have h1 : ¬ i < (n : Int) := by omega
    clear hk
    go_enter Try.func47, Try.ntmps47
    go_wp2
    go_ret
    exact ⟨rfl, rfl⟩
  · clear hk
    have hd : decide ((0 : Int) ≤ i) = false := by simpa using h0
    go_enter Try.func47, Try.ntmps47
    go_wp2
    go_ret
    exact ⟨rfl, rfl⟩

set_option maxRecDepth 100000 in
set_option maxHeartbeats 1000000 in
theorem refRowNote (r m : Nat) (kind i op : Int) (ok : Bool) (lv : Value) (w : World) (hr : w.heap[r]? = some (.cells #[.pointer (some ⟨m, 0, none⟩), .int .i64 kind, lv] 48 (0, 0))) (R : World → Prop)
    (hR : ∀ w', R w' → w'.heap[r]? = some (.cells #[.pointer (some ⟨m, 0, none⟩), .int .i64 kind, lv] 48 (0, 0)))
    (hnote : Calls Try.prog 51 #[.pointer (some ⟨m, 0, none⟩), .int .i64 kind, .int .i64 i, .int .i64 op, .bool ok] w.drew fun e w' => e = .returned (.tuple #[]) ∧ R w') :
    Calls Try.prog 48 #[.pointer (some ⟨r, 0, none⟩), .int .i64 i, .int .i64 op, .bool ok] w fun e w' => e = .returned (.tuple #[]) ∧ R w' := by
  have c0 : w.cell? ⟨r, 0, none⟩ = some (.pointer (some ⟨m, 0, none⟩)) := cell_of_heap hr
  have c1 : w.cell? ⟨r, 1, none⟩ = some (.int .i64 kind) := cell_of_heap hr
  clear hr
  go_enter Try.func48, Try.ntmps48
  go_wp2_with fail
  go_region_held3 (fun w' => w'.cell? ⟨r, 0, none⟩ = some (.pointer (some ⟨m, 0, none⟩)) ∧ w'.cell? ⟨r, 1, none⟩ = some (.int .i64 kind)) (first | go_keep | exact ⟨cell_of_heap hrr.out, cell_of_heap hrr.out⟩)
    (first | (go_at_call 51; refine hnote.mono ?_; rintro e w' ⟨rfl, hq⟩; have hrr : Hid (w'.heap[r]? = some (.cells #[.pointer (some ⟨m, 0, none⟩), .int .i64 kind, lv] 48 (0, 0))) := hR _ hq))
  go_wp2
  first | go_end0 | refine bodyPost_ret (results_none rfl _ _ _) rfl ?_
  exact ⟨rfl, hq⟩

/-- The document's note of a row, as the model says. -/
theorem refRowNote_met {b r c m : Nat} {kind : Int} {xs : List Int} {s : Mt} {v : Value} {n : Nat} (i op : Int) (ok : Bool) (w : World) (hm : MeterS 34 50 b w m s v) (hr : RowIn 48 b w r c m kind xs) (hw : s.within n) (hn : n ≤ 2199023255552) :
    Calls Try.prog 48 #[.pointer (some ⟨r, 0, none⟩), .int .i64 i, .int .i64 op, .bool ok] w fun e w' => e = .returned (.tuple #[]) ∧
      ∃ v', MeterS 34 50 b w' m (s.note kind i op ok) v' ∧ RowIn 48 b w' r c m kind xs ∧ Fresh w v v' ∧ Kept (rowFoot m c v) w w' := by
  refine (refRowNote r m kind i op ok _ w hr.row
      (fun w' => ∃ v', MeterS 34 50 b w' m (s.note kind i op ok) v' ∧ RowIn 48 b w' r c m kind xs ∧ Fresh w v v' ∧ Kept (rowFoot m c v) w w') ?_ ?_).mono ?_
  · rintro w' ⟨v', _, h2, _⟩
    exact h2.row
  · refine (refNote_met kind i op ok w.drew (v := v) (b := b) (s := s) hm.drew hw hn).mono ?_
    rintro e w' ⟨he, v', h1, h2, h3⟩
    have hr' : RowIn 48 b w' r c m kind xs := hr.kept h3.ofDrew (fun f => f.elim hr.rm (hm.apart hr.rb)) (fun f => f.elim hr.cm (hm.apart hr.cb))
    exact ⟨he, v', h1, hr', h2, foot_note (w := w) h3.ofDrew⟩
  · rintro e w' ⟨he, h⟩
    exact ⟨he, h⟩

set_option maxRecDepth 100000 in
set_option maxHeartbeats 1000000 in
theorem refLoad_met {b r c m : Nat} {kind : Int} {xs : List Int} {s : Mt} {v : Value} {n : Nat} (i : Int) (w : World) (hm : MeterS 34 50 b w m s v) (hr : RowIn 48 b w r c m kind xs) (hw : s.within n) (hn : n ≤ 2199023255552) :
    Calls Try.prog 34 #[.pointer (some ⟨r, 0, none⟩), .int .i64 i] w fun e w' => e = .returned (.tuple #[.int .i64 (rowLoad xs i), .int .i64 (rowErr xs i)]) ∧
      ∃ v', MeterS 34 50 b w' m (rowNote s xs kind i 1 true) v' ∧ RowIn 48 b w' r c m kind xs ∧ Fresh w v v' ∧ Kept (rowFoot m c v) w w' := by
  cases hb : hasB xs i
  · simp only [rowLoad, rowErr, rowNote, hb]
    have HB := hasB_no hb
    have HR := hr.row
    have hsm := hr.small
    clear hb
    go_enter Try.func34, Try.ntmps34
    go_wp2_with (go_at_call 47; refine (there_out r _ _ c xs.length i _ _ HR HB hsm).mono ?_; rintro e w' ⟨rfl, rfl⟩)
    go_ret2
    exact ⟨rfl, v, hm, hr, Fresh.refl _ _, Kept.refl _ _⟩
  · obtain ⟨k, rfl, hk⟩ := hasB_nat hb
    simp only [rowLoad, rowErr, rowNote, hb, if_true, Int.toNat_natCast]
    have h0 : (0 : Int) ≤ (k : Int) := Int.natCast_nonneg _
    have h1 : (k : Int) < (xs.length : Int) := by omega
    have hN := refRowNote_met (k : Int) 1 true w hm hr hw hn
    have HR := hr.row
    have hsm := hr.small
    generalize hy : xs.getD k 0 = y
    have HY : Hid ((ints xs)[k]? = some (.int .i64 y)) := hy ▸ ints_at xs k hk
    clear hb hy
    go_enter Try.func34, Try.ntmps34
    go_wp2_with (first | (go_at_call 47; refine (there_in r _ _ c xs.length k _ _ HR hk hsm).mono ?_; rintro e w' ⟨rfl, rfl⟩) | (go_at_call 48; refine hN.mono ?_; rintro e w' ⟨rfl, v', hm', hr', hf', hk'⟩; have e2 : w'.cell? ⟨r, 2, none⟩ = some (.slice (some ⟨c, 0, none⟩) xs.length xs.length) := cell_of_heap hr'.row; have ek : w'.cell? ⟨c, k, none⟩ = some (.int .i64 y) := (cell_of_heap hr'.cells).trans HY.out))
    go_ret2
    exact ⟨rfl, v', hm', hr', hf', hk'⟩

theorem stored_met {t b r c m : Nat} {kind : Int} {xs : List Int} {s : Mt} {v v' : Value} {w w1 : World} (k : Nat) (x : Int) (h1 : MeterS t 50 b w1 m s v') (h2 : RowIn 48 b w1 r c m kind xs) (h4 : Kept (rowFoot m c v) w w1) :
    MeterS t 50 b (w1.setCell ⟨c, k, none⟩ (.int .i64 x)) m s v' ∧ RowIn 48 b (w1.setCell ⟨c, k, none⟩ (.int .i64 x)) r c m kind (xs.set k x) ∧ Kept (rowFoot m c v) w (w1.setCell ⟨c, k, none⟩ (.int .i64 x)) := by
  refine ⟨h1.kept ((Kept.refl (fun k => k = c) w1).setCell _ (.inl rfl)) (fun f => h2.cm f.symm) (fun g hg f => ?_), h2.stored k x, h4.setCell _ (.inl (.inr (.inr rfl)))⟩
  subst f
  exact h1.apart h2.cb hg

set_option maxRecDepth 100000 in
set_option maxHeartbeats 1000000 in
theorem refStore_met {b r c m : Nat} {kind : Int} {xs : List Int} {s : Mt} {v : Value} {n : Nat} (i x : Int) (w : World) (hm : MeterS 34 50 b w m s v) (hr : RowIn 48 b w r c m kind xs) (hw : s.within n) (hn : n ≤ 2199023255552) :
    Calls Try.prog 35 #[.pointer (some ⟨r, 0, none⟩), .int .i64 i, .int .i64 x] w fun e w' => e = .returned (.int .i64 (rowErr xs i)) ∧
      ∃ v', MeterS 34 50 b w' m (rowNote s xs kind i 2 true) v' ∧ RowIn 48 b w' r c m kind (rowStore xs i x) ∧ Fresh w v v' ∧ Kept (rowFoot m c v) w w' := by
  cases hb : hasB xs i
  · simp only [rowStore, rowErr, rowNote, hb]
    have HB := hasB_no hb
    have HR := hr.row
    have hsm := hr.small
    clear hb
    go_enter Try.func35, Try.ntmps35
    go_wp2_with (go_at_call 47; refine (there_out r _ _ c xs.length i _ _ HR HB hsm).mono ?_; rintro e w' ⟨rfl, rfl⟩)
    go_ret
    exact ⟨rfl, v, hm, hr, Fresh.refl _ _, Kept.refl _ _⟩
  · obtain ⟨k, rfl, hk⟩ := hasB_nat hb
    simp only [rowStore, rowErr, rowNote, hb, if_true, Int.toNat_natCast]
    have h0 : (0 : Int) ≤ (k : Int) := Int.natCast_nonneg _
    have h1 : (k : Int) < (xs.length : Int) := by omega
    have hN := refRowNote_met (k : Int) 2 true w hm hr hw hn
    have HR := hr.row
    have hsm := hr.small
    have HY : Hid ((ints xs)[k]? = some (.int .i64 (xs.getD k 0))) := ints_at xs k hk
    clear hb
    go_enter Try.func35, Try.ntmps35
    go_wp2_with (first | (go_at_call 47; refine (there_in r _ _ c xs.length k _ _ HR hk hsm).mono ?_; rintro e w' ⟨rfl, rfl⟩) | (go_at_call 48; refine hN.mono ?_; rintro e w' ⟨rfl, v', hm', hr', hf', hk'⟩; have e2 : w'.cell? ⟨r, 2, none⟩ = some (.slice (some ⟨c, 0, none⟩) xs.length xs.length) := cell_of_heap hr'.row; have ek : w'.cell? ⟨c, k, none⟩ = some (.int .i64 (xs.getD k 0)) := (cell_of_heap hr'.cells).trans HY.out; have fk : w'.frozen? ⟨c, k, none⟩ = false := frozen_of_heap hr'.cells; have HS := stored_met k x hm' hr' hk'))
    go_ret
    exact ⟨rfl, v', HS.1, HS.2.1, hf', HS.2.2⟩

set_option maxRecDepth 100000 in
set_option maxHeartbeats 1000000 in
theorem refTrade_met {b r c m : Nat} {kind : Int} {xs : List Int} {s : Mt} {v : Value} {n : Nat} (i old x : Int) (w : World) (hm : MeterS 34 50 b w m s v) (hr : RowIn 48 b w r c m kind xs) (hw : s.within n) (hn : n ≤ 2199023255552) :
    Calls Try.prog 36 #[.pointer (some ⟨r, 0, none⟩), .int .i64 i, .int .i64 old, .int .i64 x] w fun e w' => e = .returned (.tuple #[.int .i64 (rowLoad xs i), .bool (rowHit xs i old), .int .i64 (rowErr xs i)]) ∧
      ∃ v', MeterS 34 50 b w' m (rowNote s xs kind i 3 (rowHit xs i old)) v' ∧ RowIn 48 b w' r c m kind (rowTrade xs i old x) ∧ Fresh w v v' ∧ Kept (rowFoot m c v) w w' := by
  cases hb : hasB xs i
  · simp only [rowTrade, rowHit, rowLoad, rowErr, rowNote, hb, Bool.false_and]
    have HB := hasB_no hb
    have HR := hr.row
    have hsm := hr.small
    clear hb
    go_enter Try.func36, Try.ntmps36
    go_wp2_with (go_at_call 47; refine (there_out r _ _ c xs.length i _ _ HR HB hsm).mono ?_; rintro e w' ⟨rfl, rfl⟩)
    go_ret3
    exact ⟨rfl, v, hm, hr, Fresh.refl _ _, Kept.refl _ _⟩
  · obtain ⟨k, rfl, hk⟩ := hasB_nat hb
    simp only [rowTrade, rowHit, rowLoad, rowErr, rowNote, hb, if_true, Int.toNat_natCast, Bool.true_and]
    have h0 : (0 : Int) ≤ (k : Int) := Int.natCast_nonneg _
    have h1 : (k : Int) < (xs.length : Int) := by omega
    have HR := hr.row
    have hsm := hr.small
    generalize hy : xs.getD k 0 = y
    have HY : Hid ((ints xs)[k]? = some (.int .i64 y)) := hy ▸ ints_at xs k hk
    have c2 : w.cell? ⟨r, 2, none⟩ = some (.slice (some ⟨c, 0, none⟩) xs.length xs.length) := cell_of_heap hr.row
    have ck : w.cell? ⟨c, k, none⟩ = some (.int .i64 y) := (cell_of_heap hr.cells).trans HY.out
    clear hb hy
    cases hbb : (y == old)
    · have hN := refRowNote_met (k : Int) 3 false w hm hr hw hn
      go_enter Try.func36, Try.ntmps36
      go_wp2_with (first | (go_at_call 47; refine (there_in r _ _ c xs.length k _ _ HR hk hsm).mono ?_; rintro e w' ⟨rfl, rfl⟩) | (go_at_call 48; refine hN.mono ?_; rintro e w' ⟨rfl, v', hm', hr', hf', hk'⟩))
      go_ret3
      exact ⟨rfl, v', hm', hr', hf', hk'⟩
    · have hN := refRowNote_met (k : Int) 3 true w hm hr hw hn
      go_enter Try.func36, Try.ntmps36
      go_wp2_with (first | (go_at_call 47; refine (there_in r _ _ c xs.length k _ _ HR hk hsm).mono ?_; rintro e w' ⟨rfl, rfl⟩) | (go_at_call 48; refine hN.mono ?_; rintro e w' ⟨rfl, v', hm', hr', hf', hk'⟩; have e2 : w'.cell? ⟨r, 2, none⟩ = some (.slice (some ⟨c, 0, none⟩) xs.length xs.length) := cell_of_heap hr'.row; have ek : w'.cell? ⟨c, k, none⟩ = some (.int .i64 y) := (cell_of_heap hr'.cells).trans HY.out; have fk : w'.frozen? ⟨c, k, none⟩ = false := frozen_of_heap hr'.cells; have HS := stored_met k x hm' hr' hk'))
      go_ret3
      exact ⟨rfl, v', HS.1, HS.2.1, hf', HS.2.2⟩

set_option maxRecDepth 100000 in
theorem refBegin_met {b m : Nat} {s : Mt} {v : Value} {n : Nat} (t : Int) (w : World) (h : MeterS 34 50 b w m s v) (hw : s.within n) (hn : n ≤ 2199023255552) :
    Calls Try.prog 33 #[.pointer (some ⟨m, 0, none⟩), .int .i64 t] w fun e w' => e = .returned (.tuple #[]) ∧ MeterS 34 50 b w' m (s.start t) v ∧ Kept (fun k => k = m) w w' := by
  obtain ⟨a1, a2, a3, a4, a5⟩ := hw
  have hvm : v.ownBlock ≠ some m := h.apart h.low
  obtain ⟨hm, ho, hlow, hhigh⟩ := h
  have c0 : w.cell? ⟨m, 0, none⟩ = some (.int .i64 s.st) := cell_of_heap hm
  have c1 : w.cell? ⟨m, 1, none⟩ = some (.int .i64 s.th) := cell_of_heap hm
  have c2 : w.cell? ⟨m, 2, none⟩ = some (.int .i64 s.dn) := cell_of_heap hm
  have f0 : w.frozen? ⟨m, 0, none⟩ = false := frozen_of_heap hm
  have f1 : w.frozen? ⟨m, 1, none⟩ = false := frozen_of_heap hm
  have f2 : w.frozen? ⟨m, 2, none⟩ = false := frozen_of_heap hm
  have HM := hm
  clear hm
  go_enter Try.func33, Try.ntmps33
  go_wp2
  go_end0
  refine ⟨rfl, ⟨?_, ownsRow_setCell_far (ownsRow_setCell_far (ownsRow_setCell_far ho hvm _) hvm _) hvm _, hlow, by simpa [World.setCell] using hhigh⟩, (((Kept.refl (fun k => k = m) w).setCell _ (.inl rfl)).setCell _ (.inl rfl)).setCell _ (.inl rfl)⟩
  rw [heap_setCell_at (heap_setCell_at (heap_setCell_at HM _) _) _]
  rfl

set_option maxRecDepth 100000 in
theorem refNew_yes (p : Option Addr) (kind n : Int) (w : World) (h0 : 1 ≤ n) (h1 : n ≤ 4096) : Calls Try.prog 13 #[.pointer p, .int .i64 kind, .int .i64 n] w fun e w' => e = .returned (.pointer (some ⟨w.heap.size + 1, 0, none⟩)) ∧ w' = (w.alloc (.cells (ints (List.replicate n.toNat 0)) 2)).alloc (.cells #[.pointer p, .int .i64 kind, .slice (some ⟨w.heap.size, 0, none⟩) n.toNat n.toNat] 48) := by
  obtain ⟨k, rfl⟩ : ∃ k : Nat, n = k := ⟨n.toNat, by omega⟩
  obtain ⟨i0, hi0, hz0, hz1, hz2⟩ := info_parts Try.info2
  have hmk : (Instr.makeSlice 37 (.int .i64 k) (.int .i64 k)).run Try.prog w = .ok (.slice (some ⟨w.heap.size, 0, none⟩) k k) (w.alloc (.cells (ints (List.replicate k 0)) 2)) := by
    have := run_make (P := Try.prog) w 37 2 i0 _ Try.underlying37 hi0 hz0 .i64 .i64 k k (by omega) (by omega) (by rw [hz2]; omega) (by omega)
    have e : madeCells (Value.int .i64 0).cells k = ints (List.replicate k 0) := by
      apply Array.ext'
      exact (toList_madeCells_one (.int .i64 0) k).trans (by simp [ints])
    rw [this, hz1, Int.toNat_natCast, Nat.mul_one, e]
  go_enter Try.func13, Try.ntmps13
  go_wp2
  go_ret
  exact ⟨rfl, rfl⟩

theorem may_any (n : Int) (w : World) : Calls Try.prog 12 #[.int .i64 n] w fun e w' => e = .returned (.bool (decide (1 ≤ n) && decide (n ≤ 4096))) ∧ w' = w := by
  by_cases h : 1 ≤ n
  · have hd : decide (1 ≤ n) = true := by simpa using h
    go_enter Try.func12, Try.ntmps12
    go_wp2
    go_ret
    exact ⟨by simp [h], rfl⟩
  · have hd : decide (1 ≤ n) = false := by simpa using h
    go_enter Try.func12, Try.ntmps12
    go_wp2
    go_ret
    exact ⟨by simp [h], rfl⟩
end Go.Proofs.Ytebhjfoggogmaaa
