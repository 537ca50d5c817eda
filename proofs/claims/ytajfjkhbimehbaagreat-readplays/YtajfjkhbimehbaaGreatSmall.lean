/- Meters' small functions: a new one, Begin, Steps, Done, Most, Log; and the document's Begin. -/
import Derived.Test.YtajfjkhbimehbaaGreatMeter
import Derived.Test.YtajfjkhbimehbaaGreatGrow
import Derived.Laws.MakeOwn
import Derived.Laws.OwnMore
namespace Go.Proofs.YtajfjkhbimehbaaGreat
open Go.RowKit
set_option linter.unusedVariables false
set_option linter.unusedSimpArgs false

theorem newMeter_st {o w : World} {its : List It} (h : St o its w) :
    Calls Tryz.prog 24 #[] w fun e w' => e = .returned (.pointer (some ⟨w.heap.size, 0, none⟩)) ∧ St o (meterI 109 (some w.heap.size) Mt.zero (.slice none 0 0) :: its) w' ∧ w'.heap.size = w.heap.size + 1 := by
  have hS : Hid (St o (meterI 109 (some w.heap.size) Mt.zero (.slice none 0 0) :: its) (w.alloc (.cells #[.int .i64 0, .int .i64 0, .int .i64 0, .int .i64 0, .slice none 0 0] 109))) :=
    h.push (meterI 109 (some w.heap.size) Mt.zero (.slice none 0 0)) (kept_alloc w _) ⟨heap_alloc_new w _, World.ownsRow_nil _ _ _ _, by simp [Value.ownBlock]⟩ (by simp [meterI, Value.ownBlock]) (by simp [meterI, Value.ownBlock])
  go_enter Tryz.func24, Tryz.ntmps24
  go_wp2
  go_ret
  exact ⟨rfl, hS.out, by simp⟩

theorem begin_any (m : Nat) (st th dn mo t : Int) (v : Value) (l : List Acc) (w : World) (h : MeterAt 109 166 w m st th dn mo v l) (h0 : 0 ≤ st) (h1 : st < 4611686018427387904) : Calls Tryz.prog 32 #[.pointer (some ⟨m, 0, none⟩), .int .i64 t] w fun e w' => e = .returned (.tuple #[]) ∧ MeterAt 109 166 w' m (st + 1) t 0 mo v l ∧ Kept (fun k => k = m ∨ v.ownBlock = some k) w w' := by
  obtain ⟨hm, ho, hvm⟩ := h
  have c0 : w.cell? ⟨m, 0, none⟩ = some (.int .i64 st) := cell_of_heap hm
  have c1 : w.cell? ⟨m, 1, none⟩ = some (.int .i64 th) := cell_of_heap hm
  have c2 : w.cell? ⟨m, 2, none⟩ = some (.int .i64 dn) := cell_of_heap hm
  have f0 : w.frozen? ⟨m, 0, none⟩ = false := frozen_of_heap hm
  have f1 : w.frozen? ⟨m, 1, none⟩ = false := frozen_of_heap hm
  have f2 : w.frozen? ⟨m, 2, none⟩ = false := frozen_of_heap hm
  have HM := hm
  clear hm
  go_enter Tryz.func32, Tryz.ntmps32
  go_wp2
  go_end0
  refine ⟨rfl, ⟨?_, ownsRow_setCell_far (ownsRow_setCell_far (ownsRow_setCell_far ho hvm _) hvm _) hvm _, hvm⟩, (((Kept.refl (fun k => k = m ∨ v.ownBlock = some k) w).setCell _ (.inl (.inl rfl))).setCell _ (.inl (.inl rfl))).setCell _ (.inl (.inl rfl))⟩
  rw [heap_setCell_at (heap_setCell_at (heap_setCell_at HM _) _) _]
  rfl
theorem begin_st {o w : World} {its : List It} (h : St o its w) (i : Nat) {m : Nat} {s : Mt} {v : Value} (hi : its[i]? = some (meterI 109 (some m) s v)) {n : Nat} (hw : s.within n) (hn : n ≤ 4611686018427) (t : Int) :
    Calls Tryz.prog 32 #[.pointer (some ⟨m, 0, none⟩), .int .i64 t] w fun e w' => e = .returned (.tuple #[]) ∧ St o (its.set i (meterI 109 (some m) (s.start t) v)) w' := by
  obtain ⟨a1, a2, a3, a4, a5⟩ := hw
  refine (begin_any m s.st s.th s.dn s.mo t v s.l w (h.get i hi) a1 (by omega)).mono ?_
  rintro e w' ⟨he, h1, h2⟩
  exact ⟨he, h.meter i hi h1 (Fresh.refl _ _) h2⟩

theorem refBegin_any (m : Nat) (st th dn mo t : Int) (v : Value) (l : List Acc) (w : World) (h : MeterAt 67 166 w m st th dn mo v l) (h0 : 0 ≤ st) (h1 : st < 4611686018427387904) : Calls Tryz.prog 10 #[.pointer (some ⟨m, 0, none⟩), .int .i64 t] w fun e w' => e = .returned (.tuple #[]) ∧ MeterAt 67 166 w' m (st + 1) t 0 mo v l ∧ Kept (fun k => k = m ∨ v.ownBlock = some k) w w' := by
  obtain ⟨hm, ho, hvm⟩ := h
  have c0 : w.cell? ⟨m, 0, none⟩ = some (.int .i64 st) := cell_of_heap hm
  have c1 : w.cell? ⟨m, 1, none⟩ = some (.int .i64 th) := cell_of_heap hm
  have c2 : w.cell? ⟨m, 2, none⟩ = some (.int .i64 dn) := cell_of_heap hm
  have f0 : w.frozen? ⟨m, 0, none⟩ = false := frozen_of_heap hm
  have f1 : w.frozen? ⟨m, 1, none⟩ = false := frozen_of_heap hm
  have f2 : w.frozen? ⟨m, 2, none⟩ = false := frozen_of_heap hm
  have HM := hm
  clear hm
  go_enter Tryz.func10, Tryz.ntmps10
  go_wp2
  go_end0
  refine ⟨rfl, ⟨?_, ownsRow_setCell_far (ownsRow_setCell_far (ownsRow_setCell_far ho hvm _) hvm _) hvm _, hvm⟩, (((Kept.refl (fun k => k = m ∨ v.ownBlock = some k) w).setCell _ (.inl (.inl rfl))).setCell _ (.inl (.inl rfl))).setCell _ (.inl (.inl rfl))⟩
  rw [heap_setCell_at (heap_setCell_at (heap_setCell_at HM _) _) _]
  rfl
theorem refBegin_st {o w : World} {its : List It} (h : St o its w) (i : Nat) {m : Nat} {s : Mt} {v : Value} (hi : its[i]? = some (meterI 67 (some m) s v)) {n : Nat} (hw : s.within n) (hn : n ≤ 4611686018427) (t : Int) :
    Calls Tryz.prog 10 #[.pointer (some ⟨m, 0, none⟩), .int .i64 t] w fun e w' => e = .returned (.tuple #[]) ∧ St o (its.set i (meterI 67 (some m) (s.start t) v)) w' := by
  obtain ⟨a1, a2, a3, a4, a5⟩ := hw
  refine (refBegin_any m s.st s.th s.dn s.mo t v s.l w (h.get i hi) a1 (by omega)).mono ?_
  rintro e w' ⟨he, h1, h2⟩
  exact ⟨he, h.meter i hi h1 (Fresh.refl _ _) h2⟩

theorem done_st {o w : World} {its : List It} (h : St o its w) (i : Nat) {m : Nat} {s : Mt} {v : Value} (hi : its[i]? = some (meterI 109 (some m) s v)) :
    Calls Tryz.prog 15 #[.pointer (some ⟨m, 0, none⟩)] w fun e w' => e = .returned (.int .i64 s.dn) ∧ w' = w := by
  have c : w.cell? ⟨m, 2, none⟩ = some (.int .i64 s.dn) := cell_of_heap (show MeterAt _ _ w m _ _ _ _ _ _ from h.get i hi).heap
  clear h hi
  go_enter Tryz.func15, Tryz.ntmps15
  go_wp2
  go_ret
  exact ⟨rfl, rfl⟩

theorem most_st {o w : World} {its : List It} (h : St o its w) (i : Nat) {m : Nat} {s : Mt} {v : Value} (hi : its[i]? = some (meterI 109 (some m) s v)) :
    Calls Tryz.prog 65 #[.pointer (some ⟨m, 0, none⟩)] w fun e w' => e = .returned (.int .i64 s.mo) ∧ w' = w := by
  have c : w.cell? ⟨m, 3, none⟩ = some (.int .i64 s.mo) := cell_of_heap (show MeterAt _ _ w m _ _ _ _ _ _ from h.get i hi).heap
  clear h hi
  go_enter Tryz.func65, Tryz.ntmps65
  go_wp2
  go_ret
  exact ⟨rfl, rfl⟩

set_option maxRecDepth 100000 in
set_option maxHeartbeats 1000000 in
theorem cloneLog (b0 : Nat) (v : Value) (l : List Acc) (w : World) (hown : w.ownsRow b0 166 6 v l.length (logCells l)) (hb : l.length ≤ 4611686018427) :
    Calls Tryz.prog 99 #[v] w fun e w' => ∃ v', e = .returned v' ∧ w'.ownsRow w.heap.size 166 6 v' l.length (logCells l) ∧ Kept (fun _ => False) w w' := by
  obtain ⟨i0, hi0, hz0, hz1, hz2⟩ := info_parts Tryz.infoAcc
  have hE : ∀ a n c w, (binOp .eql 65 (.slice a n c) (.slice none 0 0)).run Tryz.prog w = .ok (.bool a.isNone) w := fun a n c w => Lib.run_eql_slice_nil w 65 166 a n c 0 0 Tryz.underlying65
  rcases hown.2 with ⟨hv, hn⟩ | ⟨g, cap, cur, hv, _⟩
  · subst hv
    have hl : l = [] := List.length_eq_zero_iff.1 hn
    subst hl
    clear hown hn
    go_enter Tryz.func99, Tryz.ntmps99
    go_wp2
    go_ret
    exact ⟨_, rfl, World.ownsRow_nil _ _ _ _, Kept.refl _ _⟩
  · subst hv
    have hcells : ∀ j u, (logCells l)[j]? = some u → (w.alloc (.cells #[] 166)).cell? ((⟨g, 0, none⟩ : Addr).add j) = some u := (hown.alloc _).cells (g := g) rfl
    have hlen := hown.1
    have hml : l.length ≤ maxLen := by unfold maxLen; omega
    clear hown
    go_enter Tryz.func99, Tryz.ntmps99
    go_wp2_with (at_builtin; refine wpList_append_copy (base := w.heap.size) (size := 6) (bytes := 48) (news := logCells l) rfl (.tmp 5) (.tmp 6) 65 rfl i0 Tryz.underlying65 hi0 hz0 hz1 hz2 rfl (by omega) w.heap.size rfl (World.ownsRow_made w #[] 0 (Nat.le_refl _) (Nat.zero_le _) rfl) ⟨g, 0, none⟩ cap rfl hlen hcells (logCells_one l) hml (by omega) (by simp) ?_; intro v' w1 hown' hgrow)
    go_ret
    refine ⟨_, rfl, hown', ((Kept.refl _ w).alloc _).grown hgrow (fun k e => ?_)⟩
    right
    simp at e
    omega

set_option maxRecDepth 100000 in
theorem log_st {o w : World} {its : List It} (h : St o its w) (i : Nat) {m : Nat} {s : Mt} {v : Value} (hi : its[i]? = some (meterI 109 (some m) s v)) {n : Nat} (hw : s.within n) (hn : n ≤ 4611686018427) :
    Calls Tryz.prog 64 #[.pointer (some ⟨m, 0, none⟩)] w fun e w' => ∃ v', e = .returned v' ∧ St o (ownI 166 6 v' s.l.length (logCells s.l) :: its) w' := by
  have hm : MeterAt 109 166 w m s.st s.th s.dn s.mo v s.l := h.get i hi
  have c : w.cell? ⟨m, 4, none⟩ = some v := cell_of_heap hm.heap
  have hb : s.l.length ≤ 4611686018427 := by have := hw.len; omega
  have hc := cloneLog 0 v s.l w hm.own hb
  have hS : Hid (∀ v' w', w'.ownsRow w.heap.size 166 6 v' s.l.length (logCells s.l) → Kept (fun _ => False) w w' → St o (ownI 166 6 v' s.l.length (logCells s.l) :: its) w') := fun v' w' p k => h.own k p
  clear h hi hm hw hn hb
  generalize logCells s.l = L at *
  go_enter Tryz.func64, Tryz.ntmps64
  go_wp2_with (go_at_call 99; refine hc.mono ?_; rintro e w' ⟨v', rfl, ho', hk⟩)
  go_ret
  exact ⟨_, rfl, hS.out _ _ ho' hk⟩
end Go.Proofs.YtajfjkhbimehbaaGreat
