/- Logs of lists under a text and a number: New, Len, find, Get, At, Put. -/
import Derived.Test.YtoejhbecogmdbaaSelf
namespace Go.Proofs.Ytoejhbecogmdbaa
open Go.RowKit
open Go.Maps (Keyed)
set_option linter.unusedVariables false
set_option linter.unusedSimpArgs false

/-- A key. -/
abbrev KV (s : ByteArray) (n : Int) : Value := .agg #[.string s, .int .i64 n]
/-- The log in memory. -/
abbrev LogT (w : World) (p : Nat) (most : Int) (v : Value) (bm : Nat) (ps : List (Value × Value)) : Prop := LogAt Try.prog 80 85 3 49 OKk w p most v bm ps
abbrev TurnedT (w w' : World) (p : Nat) (most : Int) (v : Value) (bm : Nat) (ps : List (Value × Value)) : Prop := Turned Try.prog 80 85 3 49 OKk w w' p most v bm ps
theorem grown_undrew {w w' : World} {o : Obj} {row : Option Nat} (h : (w.alloc o).drew.grownBy w' row) : (w.alloc o).grownBy w' row := ⟨h.os, h.tape, h.output, h.size, h.block⟩
theorem grown_heap {w1 w2 : World} {o ob : Obj} {row : Option Nat} {p : Nat} (hp : w1.heap[p]? = some ob) (hg : (w1.alloc o).grownBy w2 row) (hne : row ≠ some p) : w2.heap[p]? = some ob := by
  rw [hg.block p (by have := lt_of_heap hp; simp; omega) (fun e => hne e.symm), Below.heap_alloc w1 o p (lt_of_heap hp)]
  exact hp
/-- The cells of a key that was laid into a block of its own. -/
theorem boxK (w : World) (s : ByteArray) (n : Int) : (w.alloc (.cells #[.string s, .int .i64 n] 49)).heap[w.heap.size]? = some (.cells #[.string s, .int .i64 n] 49 (0, 0)) := heap_alloc_new w _

set_option maxRecDepth 100000 in
theorem newT_yes (most : Int) (w : World) (h1 : 1 ≤ most) (h2 : most ≤ 4096) :
    Calls Try.prog 13 #[.int .i64 most] w fun e w' => e = .returned (.tuple #[.pointer (some ⟨w.heap.size + 1, 0, none⟩), .int .i64 0]) ∧ LogT w' (w.heap.size + 1) most (.slice none 0 0) w.heap.size [] ∧ Kept (fun _ => False) w w' := by
  have hm := made (P := Try.prog) (t := 80) (e := 85) (z := 3) (K := 49) (OK := OKk) w (most := most) (by omega) h2
  have hk := ((Kept.refl (fun _ => False) w).alloc (.map #[] 0)).alloc (.cells #[.int .i64 most, .slice none 0 0, .map (some w.heap.size)] 80)
  have hmm := @run_makeMap Try.prog
  go_enter Try.func13, Try.ntmps13
  go_wp2
  go_ret2
  exact ⟨rfl, hm, hk⟩

section
variable {w : World} {p : Nat} {most : Int} {v : Value} {bm : Nat} {ps : List (Value × Value)}
set_option maxRecDepth 100000 in
theorem lenT_any (h : LogT w p most v bm ps) :
    Calls Try.prog 17 #[.pointer (some ⟨p, 0, none⟩)] w fun e w' => e = .returned (.int .i64 ps.length) ∧ w' = w := by
  obtain ⟨ga, ca, rfl⟩ := h.shape
  have c1 := h.c1
  clear h
  go_enter Try.func17, Try.ntmps17
  go_wp2
  go_ret
  exact ⟨rfl, rfl⟩
set_option maxRecDepth 100000 in
set_option maxHeartbeats 1000000 in
theorem findT_at (h : LogT w p most v bm ps) {i : Nat} {s : ByteArray} {n : Int} {u : Value} (hi : ps[i]? = some (KV s n, u)) :
    Calls Try.prog 34 #[.pointer (some ⟨p, 0, none⟩), KV s n] w fun e w' => e = .returned (.tuple #[.int .i64 i, .bool true]) ∧ Kept (fun _ => False) w w' := by
  have k0 := kept_alloc w (.cells #[.string s, .int .i64 n] 49)
  have hb := boxK w s n
  go_enter Try.func34, Try.ntmps34
  go_wp2_with fail
  generalize w.alloc (.cells #[.string s, .int .i64 n] 49) = w0 at *
  generalize w.heap.size = B at *
  refine (sameK_any s n w0).mono ?_
  rintro e w1 ⟨rfl, k1⟩
  have k2 := k0.trans k1 (fun _ _ f => f.elim)
  have h1 := (h.calm k2).drew
  have hb1 : w1.drew.heap[B]? = some (.cells #[.string s, .int .i64 n] 49 (0, 0)) := (k1.block B (lt_of_heap hb) (fun f => f)).trans hb
  have c2 := h1.c2
  have d0 : w1.drew.cell? ⟨B, 0, none⟩ = some (.string s) := cell_of_heap hb1
  have d1 : w1.drew.cell? ⟨B, 1, none⟩ = some (.int .i64 n) := cell_of_heap hb1
  have hl := h1.look_at lawK okK Try.underlying77 zero3 hi
  clear h h1 hb hb1
  go_wp2_with fail
  go_region
  all_goals go_wp2
  all_goals go_ret2
  all_goals exact ⟨rfl, k2.drew⟩
set_option maxRecDepth 100000 in
set_option maxHeartbeats 1000000 in
theorem findT_no (h : LogT w p most v bm ps) {s : ByteArray} {n : Int} (hk : OKk (KV s n)) (hn : ∀ x ∈ ps, x.1 ≠ KV s n) :
    Calls Try.prog 34 #[.pointer (some ⟨p, 0, none⟩), KV s n] w fun e w' => e = .returned (.tuple #[.int .i64 0, .bool false]) ∧ Kept (fun _ => False) w w' := by
  have k0 := kept_alloc w (.cells #[.string s, .int .i64 n] 49)
  have hb := boxK w s n
  go_enter Try.func34, Try.ntmps34
  go_wp2_with fail
  generalize w.alloc (.cells #[.string s, .int .i64 n] 49) = w0 at *
  generalize w.heap.size = B at *
  refine (sameK_any s n w0).mono ?_
  rintro e w1 ⟨rfl, k1⟩
  have k2 := k0.trans k1 (fun _ _ f => f.elim)
  have h1 := (h.calm k2).drew
  have hb1 : w1.drew.heap[B]? = some (.cells #[.string s, .int .i64 n] 49 (0, 0)) := (k1.block B (lt_of_heap hb) (fun f => f)).trans hb
  have c2 := h1.c2
  have d0 : w1.drew.cell? ⟨B, 0, none⟩ = some (.string s) := cell_of_heap hb1
  have d1 : w1.drew.cell? ⟨B, 1, none⟩ = some (.int .i64 n) := cell_of_heap hb1
  have hl := h1.look_no lawK okK Try.underlying77 zero3 hk hn
  clear h h1 hb hb1 hn hk
  go_wp2_with fail
  go_region
  all_goals go_wp2
  all_goals go_ret2
  all_goals exact ⟨rfl, k2.drew⟩
set_option maxRecDepth 100000 in
theorem getT_at (h : LogT w p most v bm ps) {i : Nat} {s : ByteArray} {n : Int} {u : Value} (hi : ps[i]? = some (KV s n, u)) :
    Calls Try.prog 18 #[.pointer (some ⟨p, 0, none⟩), KV s n] w fun e w' => e = .returned (.tuple #[u, .bool true]) ∧ Kept (fun _ => False) w w' := by
  have k0 := kept_alloc w (.cells #[.string s, .int .i64 n] 49)
  go_enter Try.func18, Try.ntmps18
  go_wp2_with fail
  generalize w.alloc (.cells #[.string s, .int .i64 n] 49) = w0 at *
  refine (findT_at (h.calm k0) hi).mono ?_
  rintro e w1 ⟨rfl, k1⟩
  have k2 := k0.trans k1 (fun _ _ f => f.elim)
  have h1 := h.calm k2
  obtain ⟨g, cap, rfl, hg, hc, hlt⟩ := h1.row hi
  have c1 := h1.c1
  have c3 : w1.cell? ⟨g, i * 3 + 2, none⟩ = some u := h1.cellAt hi (j := 2) (by omega)
  have b1 : (i : Int) < ps.length := by omega
  clear h h1 hi
  go_wp2
  go_ret2
  exact ⟨rfl, k2⟩
set_option maxRecDepth 100000 in
set_option maxHeartbeats 1000000 in
theorem putT_old (h : LogT w p most v bm ps) {i : Nat} {s : ByteArray} {n : Int} {u : Value} (hi : ps[i]? = some (KV s n, u)) (xa : Option Addr) (xn xc : Nat) :
    Calls Try.prog 15 #[.pointer (some ⟨p, 0, none⟩), KV s n, .slice xa xn xc] w fun e w' => e = .returned (.int .i64 0) ∧ TurnedT w w' p most v bm (ps.set i (KV s n, .slice xa xn xc)) := by
  have k0 := kept_alloc w (.cells #[.string s, .int .i64 n] 49)
  have hb := boxK w s n
  go_enter Try.func15, Try.ntmps15
  go_wp2_with fail
  generalize w.alloc (.cells #[.string s, .int .i64 n] 49) = w0 at *
  generalize w.heap.size = B at *
  refine (sameK_any s n w0).mono ?_
  rintro e w1 ⟨rfl, k1⟩
  have k2 := k0.trans k1 (fun _ _ f => f.elim)
  have k3 := k2.drew
  have h1 := (h.calm k2).drew
  have hb1 : w1.drew.heap[B]? = some (.cells #[.string s, .int .i64 n] 49 (0, 0)) := (k1.block B (lt_of_heap hb) (fun f => f)).trans hb
  have c2 := h1.c2
  have d0 : w1.drew.cell? ⟨B, 0, none⟩ = some (.string s) := cell_of_heap hb1
  have d1 : w1.drew.cell? ⟨B, 1, none⟩ = some (.int .i64 n) := cell_of_heap hb1
  have hl := h1.look_at lawK okK Try.underlying77 zero3 hi
  obtain ⟨g, cap, rfl, hg, hc, hlt⟩ := h1.row hi
  have c1 := h1.c1
  have c3 : w1.drew.cell? ⟨g, i * 3 + 2, none⟩ = some u := h1.cellAt hi (j := 2) (by omega)
  have f3 : w1.drew.frozen? ⟨g, i * 3 + 2, none⟩ = false := h1.own.frozenAt _
  have b1 : (i : Int) < ps.length := by omega
  have HE := h1.set hi (.slice xa xn xc) rfl 2 rfl
  clear h h1 hb hb1 hi
  go_wp2_with fail
  go_region
  all_goals go_wp2
  all_goals go_ret
  all_goals exact ⟨rfl, HE.after k3⟩
set_option maxRecDepth 100000 in
set_option maxHeartbeats 1000000 in
theorem putT_full (h : LogT w p most v bm ps) {s : ByteArray} {n : Int} (hk : OKk (KV s n)) (hn : ∀ x ∈ ps, x.1 ≠ KV s n) (hf : (ps.length : Int) = most) (xa : Option Addr) (xn xc : Nat) :
    Calls Try.prog 15 #[.pointer (some ⟨p, 0, none⟩), KV s n, .slice xa xn xc] w fun e w' => e = .returned (.int .i64 11) ∧ Kept (fun _ => False) w w' := by
  have k0 := kept_alloc w (.cells #[.string s, .int .i64 n] 49)
  have hb := boxK w s n
  go_enter Try.func15, Try.ntmps15
  go_wp2_with fail
  generalize w.alloc (.cells #[.string s, .int .i64 n] 49) = w0 at *
  generalize w.heap.size = B at *
  refine (sameK_any s n w0).mono ?_
  rintro e w1 ⟨rfl, k1⟩
  have k2 := k0.trans k1 (fun _ _ f => f.elim)
  have k3 := k2.drew
  have h1 := (h.calm k2).drew
  have hb1 : w1.drew.heap[B]? = some (.cells #[.string s, .int .i64 n] 49 (0, 0)) := (k1.block B (lt_of_heap hb) (fun f => f)).trans hb
  have c2 := h1.c2
  have d0 : w1.drew.cell? ⟨B, 0, none⟩ = some (.string s) := cell_of_heap hb1
  have d1 : w1.drew.cell? ⟨B, 1, none⟩ = some (.int .i64 n) := cell_of_heap hb1
  have hl := h1.look_no lawK okK Try.underlying77 zero3 hk hn
  have hL : ∀ k, Calls Try.prog 17 #[.pointer (some ⟨p, 0, none⟩)] (w1.drew.drewN k) fun e w' => e = .returned (.int .i64 ps.length) ∧ w' = w1.drew.drewN k := fun k => lenT_any (h1.calm ((Kept.refl _ w1.drew).drewN k))
  have c0 := h1.c0
  subst hf
  clear h h1 hb hb1 hn hk
  go_wp2_with fail
  go_region
  all_goals go_wp2_with fail
  all_goals generalize w1.drew = w2 at *
  all_goals go_quiet (first | (go_at_call 17; exact Calls.quiet_of_same (hL _)))
  all_goals go_wp2
  all_goals go_ret
  all_goals exact ⟨rfl, k3.drewN _⟩
end
theorem Try.info85 : (Try.prog.info? 85).map (fun i => (i.zero, i.size, i.bytes)) = some (some (.agg #[.string { data := #[] }, .int .i64 0, .slice none 0 0]), 3, 48) := by kernel_rfl
section
variable {w : World} {p : Nat} {most : Int} {v : Value} {bm : Nat} {ps : List (Value × Value)}
set_option maxRecDepth 100000 in
set_option maxHeartbeats 2000000 in
theorem putT_new (h : LogT w p most v bm ps) {s : ByteArray} {n : Int} (hk : OKk (KV s n)) (hn : ∀ x ∈ ps, x.1 ≠ KV s n) (hf : (ps.length : Int) < most) (xa : Option Addr) (xn xc : Nat) :
    Calls Try.prog 15 #[.pointer (some ⟨p, 0, none⟩), KV s n, .slice xa xn xc] w fun e w' => e = .returned (.int .i64 0) ∧ TurnedT w w' p most v bm (ps ++ [(KV s n, .slice xa xn xc)]) := by
  obtain ⟨i0, hi0, hz0, hz1, hz2⟩ := info_parts Try.info85
  have k0 := kept_alloc w (.cells #[.string s, .int .i64 n] 49)
  have hb := boxK w s n
  have HBw : Hid (w.heap.size ∉ foot p bm v) := fun hh => by have := h.old _ hh; omega
  go_enter Try.func15, Try.ntmps15
  go_wp2_with fail
  generalize w.alloc (.cells #[.string s, .int .i64 n] 49) = w0 at *
  generalize w.heap.size = B at *
  refine (sameK_any s n w0).mono ?_
  rintro e w1 ⟨rfl, k1⟩
  have k2 := k0.trans k1 (fun _ _ f => f.elim)
  have k3 := k2.drew
  have h1 := (h.calm k2).drew
  have hb1 : w1.drew.heap[B]? = some (.cells #[.string s, .int .i64 n] 49 (0, 0)) := (k1.block B (lt_of_heap hb) (fun f => f)).trans hb
  have c2 := h1.c2
  have d0 : w1.drew.cell? ⟨B, 0, none⟩ = some (.string s) := cell_of_heap hb1
  have d1 : w1.drew.cell? ⟨B, 1, none⟩ = some (.int .i64 n) := cell_of_heap hb1
  have hl := h1.look_no lawK okK Try.underlying77 zero3 hk hn
  have hL : ∀ k, Calls Try.prog 17 #[.pointer (some ⟨p, 0, none⟩)] (w1.drew.drewN k) fun e w' => e = .returned (.int .i64 ps.length) ∧ w' = w1.drew.drewN k := fun k => lenT_any (h1.calm ((Kept.refl _ w1.drew).drewN k))
  have c0 := h1.c0
  have hne : ((ps.length : Int) == most) = false := by simp; omega
  have HN : Hid (∀ x ∈ ps, x.1 ≠ KV s n) := hn
  have HF : Hid ((ps.length : Int) < most) := hf
  have HB : Hid (w1.drew.heap[B]? = some (.cells #[.string s, .int .i64 n] 49 (0, 0))) := hb1
  clear h hb hb1 hn hf k0 k1 k2
  go_wp2_with fail
  go_region
  all_goals go_wp2_with fail
  all_goals clear hl c2 d0 d1
  all_goals generalize w1.drew = w2 at *
  all_goals go_quiet (first | (go_at_call 17; exact Calls.quiet_of_same (hL _)))
  all_goals go_wp2
  all_goals (
    have k4 := k3.drewN nq
    have h4 := (h1.calm ((Kept.refl (fun _ => False) w2).drewN nq)).drew
    have hb4 : (w2.drewN nq).drew.heap[B]? = some (.cells #[.string s, .int .i64 n] 49 (0, 0)) := HB.out
    clear hL h1 c0 HB
    generalize w2.drewN nq = w4 at *
    have k5 : Kept (fun _ => False) w w4.drew := k4.drew
    have c2 : w4.drew.cell? ⟨p, 2, none⟩ = some (.map (some bm)) := h4.c2
    have d0 : w4.drew.cell? ⟨B, 0, none⟩ = some (.string s) := cell_of_heap hb4
    have d1 : w4.drew.cell? ⟨B, 1, none⟩ = some (.int .i64 n) := cell_of_heap hb4
    have hL := lenT_any h4
    obtain ⟨f, hf, hx⟩ := h4.map
    obtain ⟨w5, hst, k6, hsz, hm⟩ := hf.store lawK Try.underlying77 (okK (KV s n) hk) (.int .i64 ps.length)
    have HS : Hid (w5.heap.size = w4.drew.heap.size) := hsz
    go_region_with (go_at_call 17; refine hL.mono ?_; rintro e wx ⟨rfl, rfl⟩))
  all_goals clear hst hL c2 d0 d1 hsz
  all_goals (
    have h5 : w5.heap[p]? = some (.cells #[.int .i64 most, v, .map (some bm)] 80 (0, 0)) := (k6.block p (lt_of_heap h4.heap) h4.ne3).trans h4.heap
    have hbB : B ≠ bm := fun e => HBw.out (by simp [foot, e])
    have hbp : B ≠ p := fun e => HBw.out (by simp [foot, e])
    have hb5 : w5.heap[B]? = some (.cells #[.string s, .int .i64 n] 49 (0, 0)) := (k6.block B (lt_of_heap hb4) hbB).trans hb4
    have c5 : w5.cell? ⟨p, 1, none⟩ = some v := cell_of_heap h5
    have f5 : w5.frozen? ⟨p, 1, none⟩ = false := frozen_of_heap h5
    have d0 : w5.cell? ⟨B, 0, none⟩ = some (.string s) := cell_of_heap hb5
    have d1 : w5.cell? ⟨B, 1, none⟩ = some (.int .i64 n) := cell_of_heap hb5
    have fA : ∀ c t, (w5.alloc (.cells c t)).frozen? ⟨p, 1, none⟩ = false := fun c t => by rw [frozen?_alloc_cells]; exact f5
    have hown := own_loc h4.own (w' := w5) (fun b hb => k6.block b ((h4.own.lt b hb).2) (fun e => h4.ne2 (e ▸ hb)))
    have hsm := h4.small
    have lm := lt_of_heap h5
    have H2 : Hid (LogT w4.drew p most v bm ps ∧ Idx OKk f ps ∧ MapIs Try.prog 49 w4.drew bm f ∧ w5.heap[p]? = some (.cells #[.int .i64 most, v, .map (some bm)] 80 (0, 0))) := ⟨h4, hx, hf, h5⟩
    clear h4 hx hf h5 hb5 hb4 hne
    go_wp2_with fail
    go_region_law
      ((refine step_append_lies _ (by rfl) _ _ _ (by rfl) 0 85 i0 _ 3 48 Try.underlying78 hi0 hz0 hz1 hz2 rfl (by omega) v ps.length (flat ps) (by rfl) ((hown.alloc _).drew)
          ⟨w5.heap.size, 0, none⟩ 1 1 [.string s, .int .i64 n, .slice xa xn xc] (by rfl) (by rfl) (World.news_of_block (cs := #[.string s, .int .i64 n, .slice xa xn xc]) (t := 85) (fr := (0, 0)) (heap_alloc_new w5 _)) (by simp [Value.oneCell'])
          (by omega) (by unfold maxLen; omega) (by omega) (by simp) (w5.heap.size + 1) (by simp) ?_; intro g cap w6 ho6 hg6 ha6 hl6
        have hh6 := grown_heap H2.out.2.2.2 (grown_undrew hg6) H2.out.1.ne1
        have e6 : w6.cell? ⟨p, 1, none⟩ = some v := cell_of_heap hh6
        have ef6 : w6.frozen? ⟨p, 1, none⟩ = false := frozen_of_heap hh6))
    all_goals go_wp2
    all_goals go_ret
    all_goals refine ⟨rfl, Turned.after k5 (H2.out.1.snoc (k := KV s n) (x := .slice xa xn xc) hk HN.out ⟨rfl, by simp [pcells, Value.cells, Value.oneCell']⟩ HF.out H2.out.2.2.1 H2.out.2.1 k6 hm ((kept_alloc w5 _).drew) hg6 ho6 (ha6.imp_right fun e => ?_))⟩
    all_goals (have := HS.out; omega))
end
end Go.Proofs.Ytoejhbecogmdbaa
