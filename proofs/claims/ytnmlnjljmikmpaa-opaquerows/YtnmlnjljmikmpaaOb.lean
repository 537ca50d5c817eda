/- Package opaque: what is made; the closure that the order is sorted by; the library's Or. -/
import Derived.Test.YtnmlnjljmikmpaaOa
import Derived.Laws.MakeOwn
namespace Go.Proofs.Ytnmlnjljmikmpaa
open Go.RowKit Go.Shelf
set_option linter.unusedVariables false
set_option linter.unusedSimpArgs false
attribute [local go_sem ↓] Go.wp_at_zero Go.wp_at_succ

theorem made_row {α : Type} {f : α → List Value} {k : Nat} (hk : ∀ a, (f a).length = k) (hk0 : 0 < k) (z : α) (cs : Array Value) (hcs : cs = (f z).toArray) (n : Nat) : madeCells cs (n * k) = (fl f (List.replicate n z)).toArray := by
  subst hcs
  apply Array.ext'
  apply List.ext_getElem?
  intro j
  by_cases hj : j < n * k
  · have hq : j / k < n := Nat.div_lt_of_lt_mul (by rw [Nat.mul_comm]; exact hj)
    have hr : j % k < k := Nat.mod_lt _ hk0
    have e : j = j / k * k + j % k := by rw [Nat.mul_comm, Nat.div_add_mod]
    have h1 := fl_at hk (List.replicate n z) (j / k) (j % k) z hr (by simp [hq])
    rw [← e] at h1
    simp only [madeCells, List.size_toArray, hk, Array.toList_map, Array.toList_range, List.getElem?_map, List.getElem?_range hj, Option.map_some]
    rw [h1]
    have hl : j % k < (f z).length := by rw [hk]; exact hr
    simp [hl]
  · rw [List.getElem?_eq_none (by simp [size_madeCells]; omega), List.getElem?_eq_none (by rw [fl_length hk]; simp; omega)]
theorem r_make {α : Type} {f : α → List Value} {k b : Nat} {P : Program} {t sl : TypeId} (D : RowT P t sl k b f) (z : α) (hz : ∀ i z0, P.info? t = some i → i.zero = some z0 → z0.cells = (f z).toArray) (n : Nat) (K : Int) (hK : K = (n : Int)) (hn : n * b ≤ 140737488355328) (W : World) :
    (Instr.makeSlice sl (.int .i64 K) (.int .i64 K)).run P W = .ok (.slice (some ⟨W.heap.size, 0, none⟩) n n) (W.alloc (.cells (fl f (List.replicate n z)).toArray t)) := by
  obtain ⟨i0, z0, hi0, hz0, hz1, hz2, hz3⟩ := D.info
  subst hK
  have hnm := le_maxLen D.wide hn
  unfold maxLen at hnm
  have hb : (i0.bytes : Int) * (n : Int) ≤ 281474976710656 := by
    rw [hz2, ← Int.natCast_mul, Nat.mul_comm]
    omega
  have := run_make (P := P) W sl t i0 z0 D.und hi0 hz0 .i64 .i64 n n (by omega) (by omega) hb (by omega)
  rw [this, hz1, Int.toNat_natCast, made_row D.len D.pos z z0.cells (hz i0 z0 hi0 hz0) n]
theorem Try.infoPt : (Try.prog.info? 51).map (fun i => (i.zero, i.size, i.bytes)) = some (some (ptV ⟨0, 0, false⟩), 3, 24) := by kernel_rfl
theorem Try.rowPt : RowT Try.prog 51 49 3 24 ptC := row_of (fun _ => rfl) (fun a u hu => by simp only [ptC, List.mem_cons, List.not_mem_nil, or_false] at hu; rcases hu with rfl | rfl | rfl <;> rfl) Try.underlying49 (by omega) (by omega) Try.infoPt rfl
theorem zero_of {P : Program} {t : TypeId} {z : Value} {k b : Nat} (h : (P.info? t).map (fun i => (i.zero, i.size, i.bytes)) = some (some z, k, b)) : ∀ i z0, P.info? t = some i → i.zero = some z0 → z0.cells = z.cells := by
  intro i z0 h1 h2
  rw [h1] at h
  simp only [Option.map_some, Option.some.injEq, Prod.mk.injEq] at h
  rw [h2] at h
  simp only [Option.some.injEq] at h
  rw [h.1]
theorem or2_any (x y : Int) (V : World) : Calls Try.prog 23 #[.slice (some ⟨V.heap.size, 0, none⟩) 2 2] (V.alloc (.cells #[.int .i64 x, .int .i64 y] 3)) fun e w' => e = .returned (.int .i64 (if x ≠ 0 then x else y)) ∧ w' = V.alloc (.cells #[.int .i64 x, .int .i64 y] 3) := by
  have hs := (St.nil V).box #[.int .i64 x, .int .i64 y] 3
  have c0 := hs.cell 0 rfl 0
  have c1 := hs.cell 0 rfl 1
  generalize V.alloc (.cells #[.int .i64 x, .int .i64 y] 3) = W at *
  generalize V.heap.size = B at *
  simp only [List.getElem?_toArray, List.getElem?_cons_zero, List.getElem?_cons_succ] at c0 c1
  clear hs
  by_cases hx : x = 0
  · subst hx
    have hq : (if (0 : Int) ≠ 0 then (0 : Int) else y) = y := rfl
    rw [hq]
    clear hq
    by_cases hy : y = 0
    · subst hy
      go_enter Try.func23, Try.ntmps23
      go_wp2
      refine wp_loop_rounds 3 ?_
      rw [rounds_succ]
      go_wp2
      rw [rounds_succ]
      go_wp2
      rw [rounds_succ]
      go_wp2
      go_ret
      exact ⟨rfl, rfl⟩
    · have ty : (y != 0) = true := by simpa using hy
      clear hy
      go_enter Try.func23, Try.ntmps23
      go_wp2
      refine wp_loop_rounds 3 ?_
      rw [rounds_succ]
      go_wp2
      rw [rounds_succ]
      go_wp2
      go_ret
      exact ⟨rfl, rfl⟩
  · have tx : (x != 0) = true := by simpa using hx
    rw [if_pos hx]
    clear hx
    go_enter Try.func23, Try.ntmps23
    go_wp2
    refine wp_loop_rounds 3 ?_
    rw [rounds_succ]
    go_wp2
    go_ret
    exact ⟨rfl, rfl⟩
theorem buildI2 (W : World) (a b : Int) : (Instr.buildSlice 24 2 #[(0, .int .i64 a), (1, .int .i64 b)]).run Try.prog W = .ok (.slice (some ⟨W.heap.size, 0, none⟩) 2 2) (W.alloc (.cells #[.int .i64 a, .int .i64 b] 3)) := by kernel_rfl
set_option maxRecDepth 100000 in
set_option maxHeartbeats 4000000 in
theorem order1_any {W : World} {V pb n a b : Nat} {f : Nat → Pt} (hv : W.cell? ⟨V, 0, none⟩ = some (.slice (some ⟨pb, 0, none⟩) n n)) (ha : a < n) (hb : b < n)
    (hc : ∀ i, i < n → W.cell? ⟨pb, i * 3, none⟩ = some (.int .i64 (f i).nu) ∧ W.cell? ⟨pb, i * 3 + 1, none⟩ = some (.int .i64 (f i).st) ∧ W.cell? ⟨pb, i * 3 + 2, none⟩ = some (.bool (f i).ch)) (hn : (n : Int) ≤ 9223372036854775807) :
    Calls Try.prog 22 #[.int .i64 a, .int .i64 b, .pointer (some ⟨V, 0, none⟩)] W fun e w' => e = .returned (.int .i64 (ordC f a b)) ∧ Grw W w' := by
  have hcc := fun W => compareI_any (a : Int) (b : Int) W
  have hpp := fun W => pcompare_any (f a) (f b) W
  unfold ordC
  obtain ⟨a0, a1, a2⟩ := hc a ha
  obtain ⟨b0, b1, b2⟩ := hc b hb
  clear hc
  generalize cmpK (f a) (f b) = r at *
  generalize cI (a : Int) (b : Int) = s at *
  generalize f a = p at *
  generalize f b = q at *
  obtain ⟨p1, p2, p3⟩ := p
  obtain ⟨q1, q2, q3⟩ := q
  simp only at a0 a1 a2 b0 b1 b2
  unfold ptV at hpp
  simp only at hpp
  have ha1 : (a : Int) < (n : Int) := by omega
  have hb1 : (b : Int) < (n : Int) := by omega
  have ha0 : (0 : Int) ≤ (a : Int) := by omega
  have hb0 : (0 : Int) ≤ (b : Int) := by omega
  have hbs := fun W => buildI2 W r s
  have hor := fun W => or2_any r s W
  generalize (if r ≠ 0 then r else s) = z at *
  have HC : Hid (∀ W', Grw W W' → W'.cell? ⟨V, 0, none⟩ = some (.slice (some ⟨pb, 0, none⟩) n n) ∧ W'.cell? ⟨pb, a * 3, none⟩ = some (.int .i64 p1) ∧ W'.cell? ⟨pb, a * 3 + 1, none⟩ = some (.int .i64 p2) ∧ W'.cell? ⟨pb, a * 3 + 2, none⟩ = some (.bool p3) ∧ W'.cell? ⟨pb, b * 3, none⟩ = some (.int .i64 q1) ∧ W'.cell? ⟨pb, b * 3 + 1, none⟩ = some (.int .i64 q2) ∧ W'.cell? ⟨pb, b * 3 + 2, none⟩ = some (.bool q3)) := hid (fun W' hg => by
    have k : ∀ {A : Addr} {u : Value}, W.cell? A = some u → W'.cell? A = some u := fun {A u} h => by
      rw [World.cell?_of_block (hg.kept.block A.block (World.block_lt_of_cell? W _ h) (fun f => f))]; exact h
    exact ⟨k hv, k a0, k a1, k a2, k b0, k b1, k b2⟩)
  have G0 := hid (Grw.refl W).drew
  clear a0 a1 a2 b0 b1 b2 hv ha hb
  go_enter Try.func22, Try.ntmps22
  go_upto_region 1 with fail
  go_region_held3 (fun W' => W'.cell? ⟨V, 0, none⟩ = some (.slice (some ⟨pb, 0, none⟩) n n) ∧ W'.cell? ⟨pb, a * 3, none⟩ = some (.int .i64 p1) ∧ W'.cell? ⟨pb, a * 3 + 1, none⟩ = some (.int .i64 p2) ∧ W'.cell? ⟨pb, a * 3 + 2, none⟩ = some (.bool p3) ∧ W'.cell? ⟨pb, b * 3, none⟩ = some (.int .i64 q1) ∧ W'.cell? ⟨pb, b * 3 + 1, none⟩ = some (.int .i64 q2) ∧ W'.cell? ⟨pb, b * 3 + 2, none⟩ = some (.bool q3)) (first | exact HC.out _ G0.out | exact HC.out _ g3 | exact HC.out _ (g3.alloc _)) (first | (go_at_call 24; refine (hpp _).mono ?_; rintro e w3 ⟨rfl, g3'⟩; have g3 := G0.out.trans g3'; clear g3') | (go_at_call 25; refine (hcc _).mono ?_; rintro e w4 ⟨rfl, rfl⟩) | (go_at_call 23; refine (hor _).mono ?_; rintro e w5 ⟨rfl, rfl⟩) | simp only [hbs])
  all_goals go_wp2
  all_goals go_ret
  all_goals exact ⟨rfl, g3.alloc _⟩
end Go.Proofs.Ytnmlnjljmikmpaa
