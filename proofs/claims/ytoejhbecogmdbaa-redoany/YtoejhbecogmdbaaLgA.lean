/- Logs of numbers under numbers: New, Len, find, Get, At, Put. -/
import Derived.Test.YtoejhbecogmdbaaSelf
namespace Go.Proofs.Ytoejhbecogmdbaa
open Go.RowKit
open Go.Maps (Keyed)
set_option linter.unusedVariables false
set_option linter.unusedSimpArgs false

/-- The log in memory. -/
abbrev LogA (w : World) (p : Nat) (most : Int) (v : Value) (bm : Nat) (ps : List (Value × Value)) : Prop := LogAt Try.prog 70 76 2 3 OKi w p most v bm ps
abbrev TurnedA (w w' : World) (p : Nat) (most : Int) (v : Value) (bm : Nat) (ps : List (Value × Value)) : Prop := Turned Try.prog 70 76 2 3 OKi w w' p most v bm ps

set_option maxRecDepth 100000 in
theorem newA_no (most : Int) (w : World) (h : ¬ (1 ≤ most ∧ most ≤ 4096)) :
    Calls Try.prog 6 #[.int .i64 most] w fun e w' => e = .returned (.tuple #[.pointer none, .int .i64 1]) ∧ w' = w := by
  by_cases h1 : most < 1
  · go_enter Try.func6, Try.ntmps6
    go_wp2
    go_ret2
    exact ⟨rfl, rfl⟩
  · have h2 : ¬ most ≤ 4096 := by omega
    go_enter Try.func6, Try.ntmps6
    go_wp2
    go_ret2
    exact ⟨rfl, rfl⟩
set_option maxRecDepth 100000 in
theorem newA_yes (most : Int) (w : World) (h1 : 1 ≤ most) (h2 : most ≤ 4096) :
    Calls Try.prog 6 #[.int .i64 most] w fun e w' => e = .returned (.tuple #[.pointer (some ⟨w.heap.size + 1, 0, none⟩), .int .i64 0]) ∧ LogA w' (w.heap.size + 1) most (.slice none 0 0) w.heap.size [] ∧ Kept (fun _ => False) w w' := by
  have hm := made (P := Try.prog) (t := 70) (e := 76) (z := 2) (K := 3) (OK := OKi) w (most := most) (by omega) h2
  have hk := ((Kept.refl (fun _ => False) w).alloc (.map #[] 0)).alloc (.cells #[.int .i64 most, .slice none 0 0, .map (some w.heap.size)] 70)
  have hmm := @run_makeMap Try.prog
  go_enter Try.func6, Try.ntmps6
  go_wp2
  go_ret2
  exact ⟨rfl, hm, hk⟩

section
variable {w : World} {p : Nat} {most : Int} {v : Value} {bm : Nat} {ps : List (Value × Value)}
set_option maxRecDepth 100000 in
theorem lenA_any (h : LogA w p most v bm ps) :
    Calls Try.prog 9 #[.pointer (some ⟨p, 0, none⟩)] w fun e w' => e = .returned (.int .i64 ps.length) ∧ w' = w := by
  obtain ⟨ga, ca, rfl⟩ := h.shape
  have c1 := h.c1
  clear h
  go_enter Try.func9, Try.ntmps9
  go_wp2
  go_ret
  exact ⟨rfl, rfl⟩
set_option maxRecDepth 100000 in
theorem findA_at (h : LogA w p most v bm ps) {i : Nat} {k : Int} {u : Value} (hi : ps[i]? = some (.int .i64 k, u)) :
    Calls Try.prog 40 #[.pointer (some ⟨p, 0, none⟩), .int .i64 k] w fun e w' => e = .returned (.tuple #[.int .i64 i, .bool true]) ∧ Kept (fun _ => False) w w' := by
  go_enter Try.func40, Try.ntmps40
  go_wp2_with fail
  refine (sameI_any k w).mono ?_
  rintro e w1 ⟨rfl, k1⟩
  have h1 := h.calm k1
  have c2 := h1.c2
  have hl := h1.look_at lawI okI Try.underlying67 zero3 hi
  clear h h1
  go_wp2
  go_ret2
  exact ⟨rfl, k1⟩
set_option maxRecDepth 100000 in
theorem findA_no (h : LogA w p most v bm ps) {k : Int} (hk : (Lit.int .i64 k).wf = true) (hn : ∀ x ∈ ps, x.1 ≠ .int .i64 k) :
    Calls Try.prog 40 #[.pointer (some ⟨p, 0, none⟩), .int .i64 k] w fun e w' => e = .returned (.tuple #[.int .i64 0, .bool false]) ∧ Kept (fun _ => False) w w' := by
  go_enter Try.func40, Try.ntmps40
  go_wp2_with fail
  refine (sameI_any k w).mono ?_
  rintro e w1 ⟨rfl, k1⟩
  have h1 := h.calm k1
  have c2 := h1.c2
  have hl := h1.look_no lawI okI Try.underlying67 zero3 ⟨k, rfl, hk⟩ hn
  clear h h1 hn hk
  go_wp2
  go_ret2
  exact ⟨rfl, k1⟩
set_option maxRecDepth 100000 in
theorem getA_at (h : LogA w p most v bm ps) {i : Nat} {k : Int} {u : Value} (hi : ps[i]? = some (.int .i64 k, u)) :
    Calls Try.prog 27 #[.pointer (some ⟨p, 0, none⟩), .int .i64 k] w fun e w' => e = .returned (.tuple #[u, .bool true]) ∧ Kept (fun _ => False) w w' := by
  go_enter Try.func27, Try.ntmps27
  go_wp2_with fail
  refine (findA_at h hi).mono ?_
  rintro e w1 ⟨rfl, k1⟩
  have h1 := h.calm k1
  obtain ⟨g, cap, rfl, hg, hc, hlt⟩ := h1.row hi
  have c1 := h1.c1
  have c3 : w1.cell? ⟨g, i * 2 + 1, none⟩ = some u := h1.cellAt hi (j := 1) (by omega)
  have b1 : (i : Int) < ps.length := by omega
  clear h h1 hi
  go_wp2
  go_ret2
  exact ⟨rfl, k1⟩
set_option maxRecDepth 100000 in
theorem getA_no (h : LogA w p most v bm ps) {k : Int} (hk : (Lit.int .i64 k).wf = true) (hn : ∀ x ∈ ps, x.1 ≠ .int .i64 k) :
    Calls Try.prog 27 #[.pointer (some ⟨p, 0, none⟩), .int .i64 k] w fun e w' => e = .returned (.tuple #[.int .i64 0, .bool false]) ∧ Kept (fun _ => False) w w' := by
  go_enter Try.func27, Try.ntmps27
  go_wp2_with fail
  refine (findA_no h hk hn).mono ?_
  rintro e w1 ⟨rfl, k1⟩
  clear h hn hk
  go_wp2
  go_ret2
  exact ⟨rfl, k1⟩
set_option maxRecDepth 100000 in
set_option maxHeartbeats 1000000 in
theorem atA_no (h : LogA w p most v bm ps) {i : Int} (hi : ¬ (0 ≤ i ∧ i < ps.length)) :
    Calls Try.prog 10 #[.pointer (some ⟨p, 0, none⟩), .int .i64 i] w fun e w' => e = .returned (.tuple #[.int .i64 0, .int .i64 0, .int .i64 2]) ∧ Kept (fun _ => False) w w' := by
  have hk : Kept (fun _ => False) w (w.alloc (.cells #[.int .i64 0, .int .i64 0] 76)) := kept_alloc w _
  have hL := lenA_any h
  clear h
  have d0 : (w.alloc (.cells #[.int .i64 0, .int .i64 0] 76)).cell? ⟨w.heap.size, 0, none⟩ = some (.int .i64 0) := cell_of_heap (heap_alloc_new w _)
  have d1 : (w.alloc (.cells #[.int .i64 0, .int .i64 0] 76)).cell? ⟨w.heap.size, 1, none⟩ = some (.int .i64 0) := cell_of_heap (heap_alloc_new w _)
  by_cases h0 : i < 0
  · go_enter Try.func10, Try.ntmps10
    go_wp2
    go_quiet (fail)
    go_wp2
    exact bodyPost_ret (v := .tuple #[.int .i64 0, .int .i64 0, .int .i64 2]) (by simp [results, Try.results10, go_sem]) rfl ⟨rfl, hk.drewN _⟩
  · have h1 : (ps.length : Int) ≤ i := by omega
    clear hi
    go_enter Try.func10, Try.ntmps10
    go_wp2_with fail
    refine hL.mono ?_
    rintro e w1 ⟨rfl, rfl⟩
    go_wp2
    go_quiet (fail)
    go_wp2
    exact bodyPost_ret (v := .tuple #[.int .i64 0, .int .i64 0, .int .i64 2]) (by simp [results, Try.results10, go_sem]) rfl ⟨rfl, hk.drewN _⟩
set_option maxRecDepth 100000 in
set_option maxHeartbeats 1000000 in
theorem atA_ok (h : LogA w p most v bm ps) {i : Nat} {k u : Value} (hi : ps[i]? = some (k, u)) (hk : OKi k) :
    Calls Try.prog 10 #[.pointer (some ⟨p, 0, none⟩), .int .i64 i] w fun e w' => e = .returned (.tuple #[k, u, .int .i64 0]) ∧ Kept (fun _ => False) w w' := by
  obtain ⟨k, rfl, _⟩ := hk
  have hL := lenA_any h
  obtain ⟨g, cap, rfl, hg, hc, hlt⟩ := h.row hi
  have c1 := h.c1
  have c3 : w.cell? ⟨g, i * 2, none⟩ = some (.int .i64 k) := h.cellAt hi (j := 0) (by omega)
  have c4 : w.cell? ⟨g, i * 2 + 1, none⟩ = some u := h.cellAt hi (j := 1) (by omega)
  have b0 : ¬ (i : Int) < 0 := by omega
  have b1 : (i : Int) < ps.length := by omega
  have b2 : (0 : Int) ≤ i := by omega
  clear h hi
  go_enter Try.func10, Try.ntmps10
  go_wp2_with fail
  refine hL.mono ?_
  rintro e w1 ⟨rfl, rfl⟩
  go_wp2
  go_quiet (fail)
  go_wp2
  exact bodyPost_ret (v := .tuple #[.int .i64 k, u, .int .i64 0]) (by simp [results, Try.results10, go_sem]) rfl ⟨rfl, (Kept.refl _ w1).drewN _⟩
set_option maxRecDepth 100000 in
set_option maxHeartbeats 1000000 in
theorem putA_old (h : LogA w p most v bm ps) {i : Nat} {k : Int} {u : Value} (hi : ps[i]? = some (.int .i64 k, u)) (x : Int) :
    Calls Try.prog 25 #[.pointer (some ⟨p, 0, none⟩), .int .i64 k, .int .i64 x] w fun e w' => e = .returned (.int .i64 0) ∧ TurnedA w w' p most v bm (ps.set i (.int .i64 k, .int .i64 x)) := by
  go_enter Try.func25, Try.ntmps25
  go_wp2_with fail
  refine (sameI_any k w).mono ?_
  rintro e w1 ⟨rfl, k1⟩
  have h1 := h.calm k1
  have hl := h1.look_at lawI okI Try.underlying67 zero3 hi
  obtain ⟨g, cap, rfl, hg, hc, hlt⟩ := h1.row hi
  have c1 := h1.c1
  have c2 := h1.c2
  have c3 : w1.cell? ⟨g, i * 2 + 1, none⟩ = some u := h1.cellAt hi (j := 1) (by omega)
  have f3 : w1.frozen? ⟨g, i * 2 + 1, none⟩ = false := h1.own.frozenAt _
  have b1 : (i : Int) < ps.length := by omega
  have HE := h1.set hi (.int .i64 x) rfl 1 rfl
  clear h h1 hi
  go_wp2
  go_ret
  exact ⟨rfl, HE.after k1⟩
set_option maxRecDepth 100000 in
set_option maxHeartbeats 1000000 in
theorem putA_full (h : LogA w p most v bm ps) {k : Int} (hk : (Lit.int .i64 k).wf = true) (hn : ∀ x ∈ ps, x.1 ≠ .int .i64 k) (hf : (ps.length : Int) = most) (x : Int) :
    Calls Try.prog 25 #[.pointer (some ⟨p, 0, none⟩), .int .i64 k, .int .i64 x] w fun e w' => e = .returned (.int .i64 11) ∧ Kept (fun _ => False) w w' := by
  go_enter Try.func25, Try.ntmps25
  go_wp2_with fail
  refine (sameI_any k w).mono ?_
  rintro e w1 ⟨rfl, k1⟩
  have h1 := h.calm k1
  have hl := h1.look_no lawI okI Try.underlying67 zero3 ⟨k, rfl, hk⟩ hn
  have c0 := h1.c0
  have c2 := h1.c2
  have hL : ∀ k, Calls Try.prog 9 #[.pointer (some ⟨p, 0, none⟩)] (w1.drewN k) fun e w' => e = .returned (.int .i64 ps.length) ∧ w' = w1.drewN k := fun k => lenA_any (h1.calm ((Kept.refl _ w1).drewN k))
  subst hf
  clear h h1 hn hk
  go_wp2_with fail
  go_quiet (first | (go_at_call 9; exact Calls.quiet_of_same (hL _)))
  go_wp2
  go_ret
  exact ⟨rfl, k1.drewN _⟩
end
theorem Try.info76 : (Try.prog.info? 76).map (fun i => (i.zero, i.size, i.bytes)) = some (some (.agg #[.int .i64 0, .int .i64 0]), 2, 16) := by kernel_rfl
section
variable {w : World} {p : Nat} {most : Int} {v : Value} {bm : Nat} {ps : List (Value × Value)}
set_option maxRecDepth 100000 in
set_option maxHeartbeats 1000000 in
theorem putA_new (h : LogA w p most v bm ps) {k : Int} (hk : (Lit.int .i64 k).wf = true) (hn : ∀ x ∈ ps, x.1 ≠ .int .i64 k) (hf : (ps.length : Int) < most) (x : Int) :
    Calls Try.prog 25 #[.pointer (some ⟨p, 0, none⟩), .int .i64 k, .int .i64 x] w fun e w' => e = .returned (.int .i64 0) ∧ TurnedA w w' p most v bm (ps ++ [(.int .i64 k, .int .i64 x)]) := by
  obtain ⟨i0, hi0, hz0, hz1, hz2⟩ := info_parts Try.info76
  go_enter Try.func25, Try.ntmps25
  go_wp2_with fail
  refine (sameI_any k w).mono ?_
  rintro e w1 ⟨rfl, k1⟩
  have h1 := h.calm k1
  have hl := h1.look_no lawI okI Try.underlying67 zero3 ⟨k, rfl, hk⟩ hn
  have c0 := h1.c0
  have c2 := h1.c2
  have hL : ∀ k, Calls Try.prog 9 #[.pointer (some ⟨p, 0, none⟩)] (w1.drewN k) fun e w' => e = .returned (.int .i64 ps.length) ∧ w' = w1.drewN k := fun k => lenA_any (h1.calm ((Kept.refl _ w1).drewN k))
  have hne : ((ps.length : Int) == most) = false := by simp; omega
  have hf' : (ps.length : Int) < most := hf
  clear hf
  go_wp2_with fail
  go_quiet (first | (go_at_call 9; exact Calls.quiet_of_same (hL _)))
  go_wp2
  clear hL
  have k2 := k1.drewN nq
  have h2 := (h.calm k2).drew
  clear h1 c0 c2 hl k1
  generalize w1.drewN nq = w2 at *
  have k3 : Kept (fun _ => False) w w2.drew := k2.drew
  have c2 : w2.drew.cell? ⟨p, 2, none⟩ = some (.map (some bm)) := h2.c2
  have hL := lenA_any h2
  obtain ⟨f, hf, hx⟩ := h2.map
  obtain ⟨w3, hst, k4, hsz, hm⟩ := hf.store lawI Try.underlying67 (okI (.int .i64 k) ⟨k, rfl, hk⟩) (.int .i64 ps.length)
  go_region_with (go_at_call 9; refine hL.mono ?_; rintro e wx ⟨rfl, rfl⟩)
  all_goals clear hst hL c2
  all_goals (
    have HS : Hid (w3.heap.size = w2.drew.heap.size) := hsz
    have h5 : w3.heap[p]? = some (.cells #[.int .i64 most, v, .map (some bm)] 70 (0, 0)) := (k4.block p (lt_of_heap h2.heap) h2.ne3).trans h2.heap
    have c5 : w3.cell? ⟨p, 1, none⟩ = some v := cell_of_heap h5
    have ho := (own_loc h2.own (w' := w3) (fun b hb => k4.block b ((h2.own.lt b hb).2) (fun e => h2.ne2 (e ▸ hb)))).alloc (.cells #[.int .i64 k, .int .i64 x] 76)
    have hsm := h2.small
    have k5 := kept_alloc w3 (.cells #[.int .i64 k, .int .i64 x] 76)
    have H2 : Hid (LogA w2.drew p most v bm ps ∧ (ps.length : Int) < most ∧ Idx OKi f ps ∧ w3.heap[p]? = some (.cells #[.int .i64 most, v, .map (some bm)] 70 (0, 0)) ∧ ∀ x ∈ ps, x.1 ≠ .int .i64 k) := ⟨h2, hf', hx, h5, hn⟩
    clear hsz h2 h hx h5 hn hf' hne
    go_wp2_with (at_builtin; refine wpList_append_lies _ rfl (.tmp 48) (.tmp 52) 68 rfl 0 76 i0 _ 2 16 Try.underlying68 hi0 hz0 hz1 hz2 rfl (by omega) v ps.length (flat ps) rfl ho ⟨w3.heap.size, 0, none⟩ 1 1 [.int .i64 k, .int .i64 x] rfl rfl (World.news_of_block (cs := #[.int .i64 k, .int .i64 x]) (t := 76) (fr := (0, 0)) (heap_alloc_new w3 _)) (by simp [Value.oneCell']) (by omega) (by unfold maxLen; omega) (by omega) (by simp) (w3.heap.size + 1) (by simp) ?_; intro g cap w4 ho4 hg4 ha4 hl4; have c6 : w4.cell? ⟨p, 1, none⟩ = some v := cell_of_heap ((hg4.block p (by have := lt_of_heap H2.out.2.2.2.1; simp; omega) (fun e => H2.out.1.ne1 e.symm)).trans ((Below.heap_alloc w3 _ p (lt_of_heap H2.out.2.2.2.1)).trans H2.out.2.2.2.1)); have f6 : w4.frozen? ⟨p, 1, none⟩ = false := frozen_of_heap ((hg4.block p (by have := lt_of_heap H2.out.2.2.2.1; simp; omega) (fun e => H2.out.1.ne1 e.symm)).trans ((Below.heap_alloc w3 _ p (lt_of_heap H2.out.2.2.2.1)).trans H2.out.2.2.2.1)))
    go_ret
    refine ⟨rfl, Turned.after k3 (H2.out.1.snoc (k := .int .i64 k) (x := .int .i64 x) ⟨k, rfl, hk⟩ H2.out.2.2.2.2 ⟨rfl, by simp [pcells, Value.cells, Value.oneCell']⟩ H2.out.2.1 hf H2.out.2.2.1 k4 hm k5 hg4 ho4 (ha4.imp_right fun e => ?_))⟩
    have := HS.out
    omega)
end
end Go.Proofs.Ytoejhbecogmdbaa
