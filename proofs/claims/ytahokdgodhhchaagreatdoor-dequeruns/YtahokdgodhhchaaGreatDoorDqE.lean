/- Package deque: done. -/
import Derived.Test.YtahokdgodhhchaaGreatDoorDqD
import Derived.Test.YtahokdgodhhchaaGreatDoorCt
import Derived.Deep.CutBlock
import Derived.Deep.RegionWith
import Derived.Deep.RegionHeld3
namespace Go.Proofs.YtahokdgodhhchaaGreatDoor
open Go.RowKit
set_option linter.unusedVariables false
set_option linter.unusedSimpArgs false
attribute [local go_sem ↓] Go.wp_at_zero Go.wp_at_succ

/-- An address of a list that this package cuts: none of nothing, or one without a spot. -/
def Adr (la : Option Addr) (m lc : Nat) : Prop := (la = none ∧ m = 0 ∧ lc = 0) ∨ ∃ g o, la = some ⟨g, o, none⟩
theorem cutTo {la : Option Addr} {m lc : Nat} (hA : Adr la m lc) (i : Nat) (h1 : i ≤ m) (h2 : m ≤ lc) (J : Int) (hJ : J = (i : Int)) (W : World) : (Instr.slice 24 (.slice la m lc) none (some (.int .i64 J)) none).run Tryz.prog W = .ok (.slice la i lc) W := by
  subst hJ
  rcases hA with ⟨rfl, rfl, rfl⟩ | ⟨g, o, rfl⟩
  · obtain rfl : i = 0 := by omega
    exact slice00 W
  · have e8 : (i : Int) ≤ (lc : Int) := by omega
    by_cases hl : lc = 0
    · subst hl
      obtain rfl : i = 0 := by omega
      simp only [Instr.slice, run_underlying Tryz.underlying24, Instr.sliceBounds, Instr.sliceBound, asIntOf, go_sem]
      simp [go_sem]
    · simp only [Instr.slice, run_underlying Tryz.underlying24, Instr.sliceBounds, Instr.sliceBound, asIntOf, go_sem]
      have e7 : ¬ lc < i := by omega
      simp [go_sem, e8, hl, e7]
theorem cutFrom {la : Option Addr} {m lc : Nat} (hA : Adr la m lc) (i : Nat) (h1 : i ≤ m) (h2 : m ≤ lc) (J : Int) (hJ : J = (i : Int)) : ∃ a', (∀ W, (Instr.slice 24 (.slice la m lc) (some (.int .i64 J)) none none).run Tryz.prog W = .ok (.slice a' (m - i) (lc - i)) W) ∧ Adr a' (m - i) (lc - i) ∧ ∀ {w : World} {l : List Int}, XIn w la m l → XIn w a' (m - i) (l.drop i) := by
  subst hJ
  rcases hA with ⟨rfl, rfl, rfl⟩ | ⟨g, o, rfl⟩
  · obtain rfl : i = 0 := by omega
    refine ⟨none, fun W => ?_, .inl ⟨rfl, rfl, rfl⟩, fun hX => hX⟩
    simp only [Instr.slice, run_underlying Tryz.underlying24, Instr.sliceBounds, Instr.sliceBound, asIntOf, go_sem]
    simp [go_sem]
  · have e8 : (i : Int) ≤ (m : Int) := by omega
    have e9 : (m : Int) ≤ (lc : Int) := by omega
    by_cases hl : lc - i = 0
    · refine ⟨some ⟨g, o, none⟩, fun W => ?_, .inr ⟨g, o, rfl⟩, fun hX => ⟨by rw [List.length_drop, ← hX.1], fun h0 => absurd h0 (by omega)⟩⟩
      have hl2 : lc = i := by omega
      have hm2 : m = i := by omega
      subst hl2
      subst hm2
      simp only [Instr.slice, run_underlying Tryz.underlying24, Instr.sliceBounds, Instr.sliceBound, asIntOf, go_sem]
      simp [go_sem]
    · refine ⟨some ⟨g, o + i, none⟩, fun W => ?_, .inr ⟨g, o + i, rfl⟩, fun hX => ?_⟩
      · have e5 : ¬ lc = i := by omega
        have e6 : ¬ lc ≤ i := by omega
        simp only [Instr.slice, run_underlying Tryz.underlying24, Instr.sliceBounds, Instr.sliceBound, asIntOf, go_sem]
        simp [go_sem, e8, e9, hl, e5, e6, h1, h2]
      · have := hX.part i (m - i) (by omega)
        rw [List.take_of_length_le (by rw [List.length_drop, ← hX.1]; omega)] at this
        exact this
theorem cutTo_x {la : Option Addr} {m lc : Nat} (hA : Adr la m lc) {i : Nat} (h1 : i ≤ m) {w : World} {l : List Int} (hX : XIn w la m l) : XIn w la i (l.take i) := by
  refine ⟨by rw [List.length_take, ← hX.1]; omega, fun h0 => ?_⟩
  obtain ⟨g, o, rfl⟩ := hX.addr (by omega)
  exact (hX.part 0 i (by omega)).2 h0
theorem Adr.nil {la : Option Addr} {m lc : Nat} (hA : Adr la m lc) (e : la = none) : m = 0 ∧ lc = 0 := by
  rcases hA with ⟨_, h⟩ | ⟨g, o, rfl⟩
  · exact h
  · cases e
theorem buildP3 (W : World) (a0 a1 a2 : Option Addr) (n0 n1 n2 c0 c1 c2 : Nat) : (Instr.buildSlice 121 3 #[(0, .slice a0 n0 c0), (1, .slice a1 n1 c1), (2, .slice a2 n2 c2)]).run Tryz.prog W = .ok (.slice (some ⟨W.heap.size, 0, none⟩) 3 3) (W.alloc (.cells #[.slice a0 n0 c0, .slice a1 n1 c1, .slice a2 n2 c2] 24)) := by kernel_rfl
theorem buildP2 (W : World) (a0 a1 : Option Addr) (n0 n1 c0 c1 : Nat) : (Instr.buildSlice 121 2 #[(0, .slice a0 n0 c0), (1, .slice a1 n1 c1)]).run Tryz.prog W = .ok (.slice (some ⟨W.heap.size, 0, none⟩) 2 2) (W.alloc (.cells #[.slice a0 n0 c0, .slice a1 n1 c1] 24)) := by kernel_rfl
theorem buildX2 (W : World) (x y : Int) : (Instr.buildSlice 24 2 #[(0, .int .i64 x), (1, .int .i64 y)]).run Tryz.prog W = .ok (.slice (some ⟨W.heap.size, 0, none⟩) 2 2) (W.alloc (.cells #[.int .i64 x, .int .i64 y] 2)) := by kernel_rfl
theorem XIn.one {w : World} {g : Nat} {x : Int} (h : w.heap[g]? = some (.cells #[.int .i64 x] 2 (0, 0))) : XIn w (some ⟨g, 0, none⟩) 1 [x] := by
  refine ⟨rfl, fun _ => ⟨g, 0, rfl, fun j hj => ?_⟩⟩
  obtain rfl : j = 0 := by omega
  exact cell_of_heap h
theorem St.add {o w w' : World} {its : List It} {A : It} (h : St o its w) (h2 : St w [A] w') : St o (A :: its) w' :=
  h.push A h2.same (h2.get 0 rfl) (by have := h2.nodup; simpa using this) (fun b hb => h2.high A (by simp) b hb)
/-- How done ends. -/
def LeftE (w : World) (r : List Int × List Int) (e : Ending) (w' : World) : Prop := ∃ v t, e = .returned (.tuple #[v, t]) ∧ St w [lstI t r.2, lstI v r.1] w'
theorem left_after {w W w3 : World} {v3 : Value} {r ts : List Int} (k : Kept (fun _ => False) w W) (s3 : St W [lstI v3 r] w3) (h : ts.length ≤ maxLen) : LeftE w (r, ts) (.returned (.tuple #[v3, .slice (some ⟨w3.heap.size, 0, none⟩) ts.length ts.length])) (w3.alloc (.cells (xC ts).toArray 2)) :=
  ⟨_, _, rfl, lst_new (s3.base k) ts h⟩
theorem left_before {w W0 W w3 : World} {g : Nat} {v3 : Value} {r ts : List Int} (k0 : Kept (fun _ => False) w W0) (hg : W0.heap.size = g) (k1 : Kept (fun _ => False) (W0.alloc (.cells (xC ts).toArray 2)) W) (s3 : St W [lstI v3 r] w3) (h : ts.length ≤ maxLen) : LeftE w (r, ts) (.returned (.tuple #[v3, .slice (some ⟨g, 0, none⟩) ts.length ts.length])) w3 := by
  subst hg
  exact ⟨_, _, rfl, ((((lst_new ((St.nil w).calm k0) ts h).calm k1).add s3).perm (List.Perm.swap _ _ _))⟩
theorem alloc2 (W : World) (A B : Obj) : ((W.alloc A).alloc B).heap[W.heap.size]? = some A ∧ ((W.alloc A).alloc B).heap[W.heap.size + 1]? = some B :=
  ⟨((kept_alloc (W.alloc A) B).block _ (by rw [alloc_size]; omega) (fun f => f)).trans (heap_alloc_new W A), by have := heap_alloc_new (W.alloc A) B; rw [alloc_size] at this; exact this⟩
theorem alloc3 (W : World) (A B C : Obj) : (((W.alloc A).alloc B).alloc C).heap[W.heap.size]? = some A ∧ (((W.alloc A).alloc B).alloc C).heap[W.heap.size + 1]? = some B ∧ (((W.alloc A).alloc B).alloc C).heap[W.heap.size + 1 + 1]? = some C := by
  have h2 := alloc2 (W.alloc A) B C
  rw [alloc_size] at h2
  refine ⟨?_, h2.1, h2.2⟩
  rw [(kept_alloc ((W.alloc A).alloc B) C).block _ (by rw [alloc_size, alloc_size]; omega) (fun f => f)]
  exact (alloc2 W A B).1
section
variable {w : World} {la : Option Addr} {m lc : Nat} {l : List Int} {n : Int}
theorem cat3 (hA : Adr la m lc) (hX : XIn w la m l) (hm : m ≤ 100) {i : Nat} (hi : i ≤ m) {a' : Option Addr} {k c : Nat} (hA' : Adr a' k c) (hX' : XIn w a' k (l.drop i)) (x : Int) (W : World) (gx gp : Nat) (hk : Kept (fun _ => False) w W)
    (h1 : W.heap[gx]? = some (.cells #[.int .i64 x] 2 (0, 0))) (h2 : W.heap[gp]? = some (.cells #[.slice la i lc, .slice (some ⟨gx, 0, none⟩) 1 1, .slice a' k c] 24 (0, 0))) :
    Calls Tryz.prog 54 #[.slice (some ⟨gp, 0, none⟩) 3 3] W fun e w' => ∃ v, e = .returned v ∧ St W [lstI v (l.take i ++ x :: l.drop i)] w' := by
  have hml := hX.1
  have := Concat_any W gp [⟨la, i, lc, l.take i⟩, ⟨some ⟨gx, 0, none⟩, 1, 1, [x]⟩, ⟨a', k, c, l.drop i⟩] (fun j p hj => by
      rw [show W.cell? ⟨gp, j, none⟩ = _ from cell_of_heap h2]
      match j, hj with
      | 0, hj => cases hj; rfl
      | 1, hj => cases hj; rfl
      | 2, hj => cases hj; rfl
      | j + 3, hj => simp at hj) (fun p hp => by
      simp only [List.mem_cons, List.not_mem_nil, or_false] at hp
      rcases hp with rfl | rfl | rfl
      · exact ⟨(cutTo_x hA hi hX).kept hk, fun e => ⟨by have := hA.nil e; simp only; omega, (hA.nil e).2⟩⟩
      · exact ⟨XIn.one h1, fun e => by cases e⟩
      · exact ⟨hX'.kept hk, fun e => hA'.nil e⟩) (by simp) (by
      simp only [joined, List.length_append, List.length_take, List.length_drop, List.length_cons, List.length_nil]
      omega)
  simp only [joined, List.append_nil, List.singleton_append, List.length_cons, List.length_nil] at this
  exact this
theorem cat2 (hA : Adr la m lc) (hX : XIn w la m l) (hm : m ≤ 100) {i : Nat} (hi : i ≤ m) {a' : Option Addr} {k c : Nat} {r : List Int} (hA' : Adr a' k c) (hX' : XIn w a' k r) (hr : r.length ≤ 100) (W : World) (gp : Nat) (hk : Kept (fun _ => False) w W)
    (h2 : W.heap[gp]? = some (.cells #[.slice la i lc, .slice a' k c] 24 (0, 0))) :
    Calls Tryz.prog 54 #[.slice (some ⟨gp, 0, none⟩) 2 2] W fun e w' => ∃ v, e = .returned v ∧ St W [lstI v (l.take i ++ r)] w' := by
  have hml := hX.1
  have := Concat_any W gp [⟨la, i, lc, l.take i⟩, ⟨a', k, c, r⟩] (fun j p hj => by
      rw [show W.cell? ⟨gp, j, none⟩ = _ from cell_of_heap h2]
      match j, hj with
      | 0, hj => cases hj; rfl
      | 1, hj => cases hj; rfl
      | j + 2, hj => simp at hj) (fun p hp => by
      simp only [List.mem_cons, List.not_mem_nil, or_false] at hp
      rcases hp with rfl | rfl
      · exact ⟨(cutTo_x hA hi hX).kept hk, fun e => ⟨by have := hA.nil e; simp only; omega, (hA.nil e).2⟩⟩
      · exact ⟨hX'.kept hk, fun e => hA'.nil e⟩) (by simp) (by
      simp only [joined, List.length_append, List.length_take, List.length_nil]
      omega)
  simp only [joined, List.append_nil, List.length_cons, List.length_nil] at this
  exact this
end
set_option maxRecDepth 100000 in
set_option maxHeartbeats 4000000 in
theorem done_put1 {w : World} {la : Option Addr} {m lc : Nat} {l : List Int} {n : Int} (hA : Adr la m lc) (hc : m ≤ lc) (hX : XIn w la m l) (hm : m ≤ 100) (hn : ¬ (l.length : Int) = n) (a b x y : Int) :
    Calls Tryz.prog 36 #[.slice la m lc, .int .i64 n, .agg #[.int .i64 1, .int .i64 a, .int .i64 b, .int .i64 x, .int .i64 y]] w (LeftE w (l ++ [x], [1])) := by
  have hml := hX.1
  have s1 := (St.nil w).box #[.int .i64 1, .int .i64 a, .int .i64 b, .int .i64 x, .int .i64 y] 40
  generalize hw1 : w.alloc (.cells #[.int .i64 1, .int .i64 a, .int .i64 b, .int .i64 x, .int .i64 y] 40) = w1 at *
  generalize hM : w.heap.size = M at *
  have c0 : w1.cell? ⟨M, 0, none⟩ = some (.int .i64 1) := s1.cell 0 rfl 0
  have hto := fun W => cutTo hA m (Nat.le_refl _) hc (m : Int) rfl W
  obtain ⟨a', hfr, hA', hX'⟩ := cutFrom hA m (Nat.le_refl _) hc (m : Int) rfl
  have hX2 := hX' hX
  rw [Nat.sub_self] at hA' hX2
  simp only [Nat.sub_self] at hfr
  have hcc : Hid (∀ (W : World) (gx gp : Nat), _) := hid (fun (W : World) (gx gp : Nat) => cat3 hA hX hm (i := m) (Nat.le_refl _) hA' hX2 x W gx gp)
  have hr : l.take m ++ x :: l.drop m = (l ++ [x], [1]).1 := by rw [hml, List.take_length, List.drop_length]
  have hb1 := fun W x => buildX1 W x
  have hb3 := fun W a0 a1 a2 n0 n1 n2 c0 c1 c2 => buildP3 W a0 a1 a2 n0 n1 n2 c0 c1 c2
  have t1 : ((m : Int) == n) = false := by rw [hml]; simpa using hn
  have HK := hid s1.same
  have HC : Hid (∀ W, Kept (fun _ => False) w1 W → W.cell? ⟨M, 3, none⟩ = some (.int .i64 x)) := hid (fun W k => (s1.calm k).cell 0 rfl 3)
  have HT : Hid (∀ W, Kept (fun _ => False) w1 W → Kept (fun _ => False) w W) := hid (fun W k => s1.same.trans k (fun _ _ f => f))
  have RF := hid (Kept.refl (fun _ => False) w1)
  simp only at hr
  have HR := hid hr
  clear hX hX2 hX' hn s1 hml hr
  go_enter Tryz.func36, Tryz.ntmps36
  go_upto_region 10 with (simp only [hw1, hM])
  go_region_held3 (fun W => W.cell? ⟨M, 3, none⟩ = some (.int .i64 x)) (first | exact HC.out _ RF.out.drew | exact HC.out _ (RF.out.alloc _).drew | exact HC.out _ ((RF.out.alloc _).alloc _).drew | exact HC.out _ (((RF.out.alloc _).alloc _).alloc _).drew | exact HC.out _ k3 | exact HC.out _ (k3.alloc _)) (first
    | (go_at_call 54; with_reducible refine (hcc.out _ w1.heap.size (w1.heap.size + 1) (HT.out _ ((RF.out.alloc _).alloc _).drew) (alloc2 _ _ _).1 (alloc2 _ _ _).2).mono ?_; rintro e w3 ⟨v3, rfl, s3⟩; rw [HR.out] at s3; have k3 := ((RF.out.alloc _).alloc _).drew.trans s3.same (fun _ _ f => f); have HS3 := hid s3; clear s3)
    | (go_at_call 54; with_reducible refine (hcc.out _ w1.heap.size (w1.heap.size + 1) (HT.out _ (((RF.out.alloc _).alloc _).alloc _).drew) (alloc3 _ _ _ _).1 (alloc3 _ _ _ _).2.1).mono ?_; rintro e w3 ⟨v3, rfl, s3⟩; rw [HR.out] at s3; have k3 := (((RF.out.alloc _).alloc _).alloc _).drew.trans s3.same (fun _ _ f => f); have HS3 := hid s3; clear s3)
    | (go_at_call 54; with_reducible refine (hcc.out _ w1.heap.size (w1.heap.size + 1 + 1) (HT.out _ (((RF.out.alloc _).alloc _).alloc _).drew) (alloc3 _ _ _ _).1 (alloc3 _ _ _ _).2.2).mono ?_; rintro e w3 ⟨v3, rfl, s3⟩; rw [HR.out] at s3; have k3 := (((RF.out.alloc _).alloc _).alloc _).drew.trans s3.same (fun _ _ f => f); have HS3 := hid s3; clear s3)
    | (go_at_call 54; with_reducible refine (hcc.out _ (w1.heap.size + 1) (w1.heap.size + 1 + 1) (HT.out _ (((RF.out.alloc _).alloc _).alloc _).drew) (alloc3 _ _ _ _).2.1 (alloc3 _ _ _ _).2.2).mono ?_; rintro e w3 ⟨v3, rfl, s3⟩; rw [HR.out] at s3; have k3 := (((RF.out.alloc _).alloc _).alloc _).drew.trans s3.same (fun _ _ f => f); have HS3 := hid s3; clear s3))
  all_goals go_wp2
  all_goals go_ret2
  all_goals first
    | exact left_after (HT.out _ ((RF.out.alloc _).alloc _).drew) HS3.out (ts := [1]) (by unfold maxLen; simp)
    | exact left_before (W0 := (w1.alloc _).alloc _) (ts := [1]) (HT.out _ ((RF.out.alloc _).alloc _)) (by rw [alloc_size, alloc_size]) (kept_drew _) HS3.out (by unfold maxLen; simp)
    | exact left_before (W0 := w1.alloc _) (ts := [1]) (HT.out _ (RF.out.alloc _)) (by rw [alloc_size]) (kept_alloc _ _).drew HS3.out (by unfold maxLen; simp)
    | exact left_before (W0 := w1) (ts := [1]) (HT.out _ RF.out) rfl ((kept_alloc _ _).alloc _).drew HS3.out (by unfold maxLen; simp)
set_option maxRecDepth 100000 in
set_option maxHeartbeats 4000000 in
theorem done_put2 {w : World} {la : Option Addr} {m lc : Nat} {l : List Int} {n : Int} (hA : Adr la m lc) (hc : m ≤ lc) (hX : XIn w la m l) (hm : m ≤ 100) (hn : ¬ (l.length : Int) = n) (a b x y : Int) :
    Calls Tryz.prog 36 #[.slice la m lc, .int .i64 n, .agg #[.int .i64 2, .int .i64 a, .int .i64 b, .int .i64 x, .int .i64 y]] w (LeftE w (x :: l, [1])) := by
  have hml := hX.1
  have s1 := (St.nil w).box #[.int .i64 2, .int .i64 a, .int .i64 b, .int .i64 x, .int .i64 y] 40
  generalize hw1 : w.alloc (.cells #[.int .i64 2, .int .i64 a, .int .i64 b, .int .i64 x, .int .i64 y] 40) = w1 at *
  generalize hM : w.heap.size = M at *
  have c0 : w1.cell? ⟨M, 0, none⟩ = some (.int .i64 2) := s1.cell 0 rfl 0
  have hto := fun W => cutTo hA 0 (Nat.zero_le _) hc 0 rfl W
  obtain ⟨a', hfr, hA', hX'⟩ := cutFrom hA 0 (Nat.zero_le _) hc 0 rfl
  have hX2 := hX' hX
  rw [Nat.sub_zero] at hA' hX2
  simp only [Nat.sub_zero] at hfr
  have hcc : Hid (∀ (W : World) (gx gp : Nat), _) := hid (fun (W : World) (gx gp : Nat) => cat3 hA hX hm (i := 0) (Nat.zero_le _) hA' hX2 x W gx gp)
  have hr : l.take 0 ++ x :: l.drop 0 = (x :: l, [1]).1 := by simp
  have hb1 := fun W x => buildX1 W x
  have hb3 := fun W a0 a1 a2 n0 n1 n2 c0 c1 c2 => buildP3 W a0 a1 a2 n0 n1 n2 c0 c1 c2
  have t1 : ((m : Int) == n) = false := by rw [hml]; simpa using hn
  have HK := hid s1.same
  have HC : Hid (∀ W, Kept (fun _ => False) w1 W → W.cell? ⟨M, 3, none⟩ = some (.int .i64 x)) := hid (fun W k => (s1.calm k).cell 0 rfl 3)
  have HT : Hid (∀ W, Kept (fun _ => False) w1 W → Kept (fun _ => False) w W) := hid (fun W k => s1.same.trans k (fun _ _ f => f))
  have RF := hid (Kept.refl (fun _ => False) w1)
  simp only at hr
  have HR := hid hr
  clear hX hX2 hX' hn s1 hml hr
  go_enter Tryz.func36, Tryz.ntmps36
  go_upto_region 10 with (simp only [hw1, hM])
  go_region_held3 (fun W => W.cell? ⟨M, 3, none⟩ = some (.int .i64 x)) (first | exact HC.out _ RF.out.drew | exact HC.out _ (RF.out.alloc _).drew | exact HC.out _ ((RF.out.alloc _).alloc _).drew | exact HC.out _ (((RF.out.alloc _).alloc _).alloc _).drew | exact HC.out _ k3 | exact HC.out _ (k3.alloc _)) (first
    | (go_at_call 54; with_reducible refine (hcc.out _ w1.heap.size (w1.heap.size + 1) (HT.out _ ((RF.out.alloc _).alloc _).drew) (alloc2 _ _ _).1 (alloc2 _ _ _).2).mono ?_; rintro e w3 ⟨v3, rfl, s3⟩; rw [HR.out] at s3; have k3 := ((RF.out.alloc _).alloc _).drew.trans s3.same (fun _ _ f => f); have HS3 := hid s3; clear s3)
    | (go_at_call 54; with_reducible refine (hcc.out _ w1.heap.size (w1.heap.size + 1) (HT.out _ (((RF.out.alloc _).alloc _).alloc _).drew) (alloc3 _ _ _ _).1 (alloc3 _ _ _ _).2.1).mono ?_; rintro e w3 ⟨v3, rfl, s3⟩; rw [HR.out] at s3; have k3 := (((RF.out.alloc _).alloc _).alloc _).drew.trans s3.same (fun _ _ f => f); have HS3 := hid s3; clear s3)
    | (go_at_call 54; with_reducible refine (hcc.out _ w1.heap.size (w1.heap.size + 1 + 1) (HT.out _ (((RF.out.alloc _).alloc _).alloc _).drew) (alloc3 _ _ _ _).1 (alloc3 _ _ _ _).2.2).mono ?_; rintro e w3 ⟨v3, rfl, s3⟩; rw [HR.out] at s3; have k3 := (((RF.out.alloc _).alloc _).alloc _).drew.trans s3.same (fun _ _ f => f); have HS3 := hid s3; clear s3)
    | (go_at_call 54; with_reducible refine (hcc.out _ (w1.heap.size + 1) (w1.heap.size + 1 + 1) (HT.out _ (((RF.out.alloc _).alloc _).alloc _).drew) (alloc3 _ _ _ _).2.1 (alloc3 _ _ _ _).2.2).mono ?_; rintro e w3 ⟨v3, rfl, s3⟩; rw [HR.out] at s3; have k3 := (((RF.out.alloc _).alloc _).alloc _).drew.trans s3.same (fun _ _ f => f); have HS3 := hid s3; clear s3))
  all_goals go_wp2
  all_goals go_ret2
  all_goals first
    | exact left_after (HT.out _ ((RF.out.alloc _).alloc _).drew) HS3.out (ts := [1]) (by unfold maxLen; simp)
    | exact left_before (W0 := (w1.alloc _).alloc _) (ts := [1]) (HT.out _ ((RF.out.alloc _).alloc _)) (by rw [alloc_size, alloc_size]) (kept_drew _) HS3.out (by unfold maxLen; simp)
    | exact left_before (W0 := w1.alloc _) (ts := [1]) (HT.out _ (RF.out.alloc _)) (by rw [alloc_size]) (kept_alloc _ _).drew HS3.out (by unfold maxLen; simp)
    | exact left_before (W0 := w1) (ts := [1]) (HT.out _ RF.out) rfl ((kept_alloc _ _).alloc _).drew HS3.out (by unfold maxLen; simp)
set_option maxRecDepth 100000 in
set_option maxHeartbeats 4000000 in
theorem done_take3 {w : World} {g o q lc : Nat} {l : List Int} (n : Int) (hc : q + 1 ≤ lc) (hX : XIn w (some ⟨g, o, none⟩) (q + 1) l) (hm : q + 1 ≤ 100) (a b x y : Int) :
    Calls Tryz.prog 36 #[.slice (some ⟨g, o, none⟩) (q + 1) lc, .int .i64 n, .agg #[.int .i64 3, .int .i64 a, .int .i64 b, .int .i64 x, .int .i64 y]] w (LeftE w (l.take q, [1, l.getD q 0])) := by
  have hml := hX.1
  have hA : Adr (some ⟨g, o, none⟩) (q + 1) lc := .inr ⟨g, o, rfl⟩
  have s1 := (St.nil w).box #[.int .i64 3, .int .i64 a, .int .i64 b, .int .i64 x, .int .i64 y] 40
  generalize hw1 : w.alloc (.cells #[.int .i64 3, .int .i64 a, .int .i64 b, .int .i64 x, .int .i64 y] 40) = w1 at *
  generalize hM : w.heap.size = M at *
  have c0 : w1.cell? ⟨M, 0, none⟩ = some (.int .i64 3) := s1.cell 0 rfl 0
  have hto := fun W => cutTo hA q (by omega) hc (q : Int) rfl W
  obtain ⟨a', hfr, hA', hX'⟩ := cutFrom hA (q + 1) (by omega) hc ((q + 1 : Nat) : Int) rfl
  have hX2 := hX' hX
  rw [Nat.sub_self] at hA' hX2
  simp only [Nat.sub_self] at hfr
  have hcc : Hid (∀ (W : World) (gp : Nat), _) := hid (fun (W : World) (gp : Nat) => cat2 hA hX hm (i := q) (by omega) hA' hX2 (by rw [List.length_drop]; omega) W gp)
  have hr : l.take q ++ l.drop (q + 1) = (l.take q, [1, l.getD q 0]).1 := by rw [List.drop_of_length_le (by omega), List.append_nil]
  have hb2 := fun W x y => buildX2 W x y
  have hbp := fun W a0 a1 n0 n1 c0 c1 => buildP2 W a0 a1 n0 n1 c0 c1
  have HC : Hid (∀ W, Kept (fun _ => False) w1 W → W.cell? ⟨g, o + q, none⟩ = some (.int .i64 (l.getD q 0))) := hid (fun W k => (hX.kept (s1.same.trans k (fun _ _ f => f))).cell (j := q) (by omega))
  have HT : Hid (∀ W, Kept (fun _ => False) w1 W → Kept (fun _ => False) w W) := hid (fun W k => s1.same.trans k (fun _ _ f => f))
  have RF := hid (Kept.refl (fun _ => False) w1)
  have m1 : ((q + 1 : Nat) : Int) - 1 = (q : Int) := by omega
  have m2 : (q : Int) + 1 = ((q + 1 : Nat) : Int) := by omega
  have m3 : IntKind.i64.wrap ((q + 1 : Nat) : Int) = ((q + 1 : Nat) : Int) := by rw [IntKind.wrap_i64]; omega
  have m4 : IntKind.i64.wrap ((q : Int) + 1) = ((q + 1 : Nat) : Int) := by rw [IntKind.wrap_i64]; omega
  have m5 : (((q + 1 : Nat) : Int) == 0) = false := by simp; omega
  have m6 : (q : Int) < ((q + 1 : Nat) : Int) := by omega
  have m7 : (0 : Int) < ((q + 1 : Nat) : Int) := by omega
  have m8 : (q : Int) ≤ 100 := by omega
  simp only at hr
  have HR := hid hr
  clear hX hX2 hX' s1 hml hr
  generalize l.getD q 0 = lv at *
  generalize hQ : q + 1 = Q at *
  go_enter Tryz.func36, Tryz.ntmps36
  go_upto_region 14 with (simp only [hw1, hM])
  go_region_held3 (fun W => W.cell? ⟨g, o + q, none⟩ = some (.int .i64 lv)) (first | exact HC.out _ RF.out.drew | exact HC.out _ (RF.out.alloc _).drew | exact HC.out _ ((RF.out.alloc _).alloc _).drew | exact HC.out _ k3 | exact HC.out _ (k3.alloc _)) (first
    | (go_at_call 54; with_reducible refine (hcc.out _ w1.heap.size (HT.out _ (RF.out.alloc _).drew) (heap_alloc_new _ _)).mono ?_; rintro e w3 ⟨v3, rfl, s3⟩; rw [HR.out] at s3; have k3 := (RF.out.alloc _).drew.trans s3.same (fun _ _ f => f); have HS3 := hid s3; clear s3)
    | (go_at_call 54; with_reducible refine (hcc.out _ w1.heap.size (HT.out _ ((RF.out.alloc _).alloc _).drew) (alloc2 _ _ _).1).mono ?_; rintro e w3 ⟨v3, rfl, s3⟩; rw [HR.out] at s3; have k3 := ((RF.out.alloc _).alloc _).drew.trans s3.same (fun _ _ f => f); have HS3 := hid s3; clear s3)
    | (go_at_call 54; with_reducible refine (hcc.out _ (w1.heap.size + 1) (HT.out _ ((RF.out.alloc _).alloc _).drew) (alloc2 _ _ _).2).mono ?_; rintro e w3 ⟨v3, rfl, s3⟩; rw [HR.out] at s3; have k3 := ((RF.out.alloc _).alloc _).drew.trans s3.same (fun _ _ f => f); have HS3 := hid s3; clear s3))
  all_goals go_wp2
  all_goals go_ret2
  all_goals first
    | exact left_after (HT.out _ (RF.out.alloc _).drew) HS3.out (ts := [1, lv]) (by unfold maxLen; simp)
    | exact left_before (W0 := w1.alloc _) (ts := [1, lv]) (HT.out _ (RF.out.alloc _)) (by rw [alloc_size]) (kept_drew _) HS3.out (by unfold maxLen; simp)
    | exact left_before (W0 := w1) (ts := [1, lv]) (HT.out _ RF.out) rfl (kept_alloc _ _).drew HS3.out (by unfold maxLen; simp)
set_option maxRecDepth 100000 in
set_option maxHeartbeats 4000000 in
theorem done_take4 {w : World} {g o q lc : Nat} {l : List Int} (n : Int) (hc : q + 1 ≤ lc) (hX : XIn w (some ⟨g, o, none⟩) (q + 1) l) (hm : q + 1 ≤ 100) (a b x y : Int) :
    Calls Tryz.prog 36 #[.slice (some ⟨g, o, none⟩) (q + 1) lc, .int .i64 n, .agg #[.int .i64 4, .int .i64 a, .int .i64 b, .int .i64 x, .int .i64 y]] w (LeftE w (l.drop 1, [1, l.getD 0 0])) := by
  have hml := hX.1
  obtain ⟨z, hz⟩ : ∃ z : Nat, z = 0 := ⟨0, rfl⟩
  have HZ : Hid (Value.int .i64 0 = Value.int .i64 (z : Int)) := hid (by rw [hz]; rfl)
  have hA : Adr (some ⟨g, o, none⟩) (q + 1) lc := .inr ⟨g, o, rfl⟩
  have s1 := (St.nil w).box #[.int .i64 4, .int .i64 a, .int .i64 b, .int .i64 x, .int .i64 y] 40
  generalize hw1 : w.alloc (.cells #[.int .i64 4, .int .i64 a, .int .i64 b, .int .i64 x, .int .i64 y] 40) = w1 at *
  generalize hM : w.heap.size = M at *
  have c0 : w1.cell? ⟨M, 0, none⟩ = some (.int .i64 4) := s1.cell 0 rfl 0
  have hto := fun W => cutTo hA z (by omega) hc (z : Int) rfl W
  obtain ⟨a', hfr, hA', hX'⟩ := cutFrom hA (z + 1) (by omega) hc ((z + 1 : Nat) : Int) rfl
  have hX2 := hX' hX
  have hcc : Hid (∀ (W : World) (gp : Nat), _) := hid (fun (W : World) (gp : Nat) => cat2 hA hX hm (i := z) (by omega) hA' hX2 (by rw [List.length_drop]; omega) W gp)
  have hr : l.take z ++ l.drop (z + 1) = l.drop 1 := by rw [hz]; simp
  have hb2 := fun W x y => buildX2 W x y
  have hbp := fun W a0 a1 n0 n1 c0 c1 => buildP2 W a0 a1 n0 n1 c0 c1
  have HC : Hid (∀ W, Kept (fun _ => False) w1 W → W.cell? ⟨g, o + z, none⟩ = some (.int .i64 (l.getD z 0))) := hid (fun W k => (hX.kept (s1.same.trans k (fun _ _ f => f))).cell (j := z) (by omega))
  have HT : Hid (∀ W, Kept (fun _ => False) w1 W → Kept (fun _ => False) w W) := hid (fun W k => s1.same.trans k (fun _ _ f => f))
  have RF := hid (Kept.refl (fun _ => False) w1)
  have m2 : (z : Int) + 1 = ((z + 1 : Nat) : Int) := by omega
  have m3 : IntKind.i64.wrap ((z + 1 : Nat) : Int) = ((z + 1 : Nat) : Int) := by rw [IntKind.wrap_i64]; omega
  have m4 : IntKind.i64.wrap ((z : Int) + 1) = ((z + 1 : Nat) : Int) := by rw [IntKind.wrap_i64]; omega
  have m5 : (((q + 1 : Nat) : Int) == 0) = false := by simp; omega
  have m6 : (z : Int) < ((q + 1 : Nat) : Int) := by omega
  have m8 : (z : Int) ≤ 100 := by omega
  have m9 : (0 : Int) ≤ (z : Int) := by omega
  have HR := hid hr
  have HV : Hid (LeftE w (l.drop 1, [1, l.getD 0 0]) = LeftE w (l.drop 1, [1, l.getD z 0])) := hid (by rw [hz])
  rw [HV.out]
  clear hX hX2 hX' s1 hml hr hz HV
  generalize l.getD z 0 = lv at *
  generalize hZ1 : z + 1 = Z1 at *
  generalize hk : q + 1 - Z1 = k at *
  generalize hcz : lc - Z1 = cz at *
  generalize hQ : q + 1 = Q at *
  clear hZ1 hk hcz
  go_enter Tryz.func36, Tryz.ntmps36
  go_upto_region 14 with (simp only [hw1, hM])
  rw [HZ.out]
  go_region_held3 (fun W => W.cell? ⟨g, o + z, none⟩ = some (.int .i64 lv)) (first | exact HC.out _ RF.out.drew | exact HC.out _ (RF.out.alloc _).drew | exact HC.out _ ((RF.out.alloc _).alloc _).drew | exact HC.out _ k3 | exact HC.out _ (k3.alloc _)) (first
    | (go_at_call 54; with_reducible refine (hcc.out _ w1.heap.size (HT.out _ (RF.out.alloc _).drew) (heap_alloc_new _ _)).mono ?_; rintro e w3 ⟨v3, rfl, s3⟩; rw [HR.out] at s3; have k3 := (RF.out.alloc _).drew.trans s3.same (fun _ _ f => f); have HS3 := hid s3; clear s3)
    | (go_at_call 54; with_reducible refine (hcc.out _ w1.heap.size (HT.out _ ((RF.out.alloc _).alloc _).drew) (alloc2 _ _ _).1).mono ?_; rintro e w3 ⟨v3, rfl, s3⟩; rw [HR.out] at s3; have k3 := ((RF.out.alloc _).alloc _).drew.trans s3.same (fun _ _ f => f); have HS3 := hid s3; clear s3)
    | (go_at_call 54; with_reducible refine (hcc.out _ (w1.heap.size + 1) (HT.out _ ((RF.out.alloc _).alloc _).drew) (alloc2 _ _ _).2).mono ?_; rintro e w3 ⟨v3, rfl, s3⟩; rw [HR.out] at s3; have k3 := ((RF.out.alloc _).alloc _).drew.trans s3.same (fun _ _ f => f); have HS3 := hid s3; clear s3))
  all_goals go_wp2
  all_goals go_ret2
  all_goals first
    | exact left_after (HT.out _ (RF.out.alloc _).drew) HS3.out (ts := [1, lv]) (by unfold maxLen; simp)
    | exact left_before (W0 := w1.alloc _) (ts := [1, lv]) (HT.out _ (RF.out.alloc _)) (by rw [alloc_size]) (kept_drew _) HS3.out (by unfold maxLen; simp)
    | exact left_before (W0 := w1) (ts := [1, lv]) (HT.out _ RF.out) rfl (kept_alloc _ _).drew HS3.out (by unfold maxLen; simp)
set_option maxHeartbeats 2000000 in
theorem done_full1 {w : World} {la : Option Addr} {m lc : Nat} {l : List Int} {n : Int} (hA : Adr la m lc) (hX : XIn w la m l) (hm : m ≤ 100) (hn : (l.length : Int) = n) (a b x y : Int) :
    Calls Tryz.prog 36 #[.slice la m lc, .int .i64 n, .agg #[.int .i64 1, .int .i64 a, .int .i64 b, .int .i64 x, .int .i64 y]] w (LeftE w (l, [0])) := by
  have hml := hX.1
  have s1 := (St.nil w).box #[.int .i64 1, .int .i64 a, .int .i64 b, .int .i64 x, .int .i64 y] 40
  generalize hw1 : w.alloc (.cells #[.int .i64 1, .int .i64 a, .int .i64 b, .int .i64 x, .int .i64 y] 40) = w1 at *
  generalize hM : w.heap.size = M at *
  have c0 : w1.cell? ⟨M, 0, none⟩ = some (.int .i64 1) := s1.cell 0 rfl 0
  have HK := hid s1.same
  have hcl := Clone_any la m lc l w1 (hX.kept s1.same) hA.nil (by omega)
  have hb1 := fun W => buildX1 W 0
  have t1 : ((m : Int) == n) = true := by rw [hml]; simpa using hn
  have HL := hid hml
  clear hX hn s1 hml
  go_enter Tryz.func36, Tryz.ntmps36
  go_wp2_with (first | simp only [hw1, hM] | (go_at_call 53; refine hcl.mono ?_; rintro e w3 ⟨v3, rfl, s3⟩) | simp only [hb1])
  go_ret2
  rw [HL.out] at s3
  exact left_after HK.out s3 (ts := [0]) (by unfold maxLen; simp)
set_option maxHeartbeats 2000000 in
theorem done_full2 {w : World} {la : Option Addr} {m lc : Nat} {l : List Int} {n : Int} (hA : Adr la m lc) (hX : XIn w la m l) (hm : m ≤ 100) (hn : (l.length : Int) = n) (a b x y : Int) :
    Calls Tryz.prog 36 #[.slice la m lc, .int .i64 n, .agg #[.int .i64 2, .int .i64 a, .int .i64 b, .int .i64 x, .int .i64 y]] w (LeftE w (l, [0])) := by
  have hml := hX.1
  have s1 := (St.nil w).box #[.int .i64 2, .int .i64 a, .int .i64 b, .int .i64 x, .int .i64 y] 40
  generalize hw1 : w.alloc (.cells #[.int .i64 2, .int .i64 a, .int .i64 b, .int .i64 x, .int .i64 y] 40) = w1 at *
  generalize hM : w.heap.size = M at *
  have c0 : w1.cell? ⟨M, 0, none⟩ = some (.int .i64 2) := s1.cell 0 rfl 0
  have HK := hid s1.same
  have hcl := Clone_any la m lc l w1 (hX.kept s1.same) hA.nil (by omega)
  have hb1 := fun W => buildX1 W 0
  have t1 : ((m : Int) == n) = true := by rw [hml]; simpa using hn
  have HL := hid hml
  clear hX hn s1 hml
  go_enter Tryz.func36, Tryz.ntmps36
  go_wp2_with (first | simp only [hw1, hM] | (go_at_call 53; refine hcl.mono ?_; rintro e w3 ⟨v3, rfl, s3⟩) | simp only [hb1])
  go_ret2
  rw [HL.out] at s3
  exact left_after HK.out s3 (ts := [0]) (by unfold maxLen; simp)
set_option maxHeartbeats 2000000 in
theorem done_none3 {w : World} {la : Option Addr} {m lc : Nat} {l : List Int} {n : Int} (hA : Adr la m lc) (hX : XIn w la m l) (hm : m ≤ 100) (hl : l = []) (a b x y : Int) :
    Calls Tryz.prog 36 #[.slice la m lc, .int .i64 n, .agg #[.int .i64 3, .int .i64 a, .int .i64 b, .int .i64 x, .int .i64 y]] w (LeftE w ([], [0])) := by
  have hml := hX.1
  have s1 := (St.nil w).box #[.int .i64 3, .int .i64 a, .int .i64 b, .int .i64 x, .int .i64 y] 40
  generalize hw1 : w.alloc (.cells #[.int .i64 3, .int .i64 a, .int .i64 b, .int .i64 x, .int .i64 y] 40) = w1 at *
  generalize hM : w.heap.size = M at *
  have c0 : w1.cell? ⟨M, 0, none⟩ = some (.int .i64 3) := s1.cell 0 rfl 0
  have HK := hid s1.same
  have hb1 := fun W => buildX1 W 0
  obtain rfl : m = 0 := by rw [hml, hl]; rfl
  have HS := hid s1
  clear hX hl s1 hml
  go_enter Tryz.func36, Tryz.ntmps36
  go_wp2_with (first | simp only [hw1, hM] | simp only [hb1])
  go_ret2
  exact ⟨_, _, rfl, lst_new (St.base (lst_nil (St.nil w1)) HK.out) [0] (by unfold maxLen; simp)⟩
set_option maxHeartbeats 2000000 in
theorem done_none4 {w : World} {la : Option Addr} {m lc : Nat} {l : List Int} {n : Int} (hA : Adr la m lc) (hX : XIn w la m l) (hm : m ≤ 100) (hl : l = []) (a b x y : Int) :
    Calls Tryz.prog 36 #[.slice la m lc, .int .i64 n, .agg #[.int .i64 4, .int .i64 a, .int .i64 b, .int .i64 x, .int .i64 y]] w (LeftE w ([], [0])) := by
  have hml := hX.1
  have s1 := (St.nil w).box #[.int .i64 4, .int .i64 a, .int .i64 b, .int .i64 x, .int .i64 y] 40
  generalize hw1 : w.alloc (.cells #[.int .i64 4, .int .i64 a, .int .i64 b, .int .i64 x, .int .i64 y] 40) = w1 at *
  generalize hM : w.heap.size = M at *
  have c0 : w1.cell? ⟨M, 0, none⟩ = some (.int .i64 4) := s1.cell 0 rfl 0
  have HK := hid s1.same
  have hb1 := fun W => buildX1 W 0
  obtain rfl : m = 0 := by rw [hml, hl]; rfl
  have HS := hid s1
  clear hX hl s1 hml
  go_enter Tryz.func36, Tryz.ntmps36
  go_wp2_with (first | simp only [hw1, hM] | simp only [hb1])
  go_ret2
  exact ⟨_, _, rfl, lst_new (St.base (lst_nil (St.nil w1)) HK.out) [0] (by unfold maxLen; simp)⟩
set_option maxHeartbeats 2000000 in
theorem done_size {w : World} {la : Option Addr} {m lc : Nat} {l : List Int} {n : Int} (hA : Adr la m lc) (hX : XIn w la m l) (hm : m ≤ 100) (a b x y : Int) :
    Calls Tryz.prog 36 #[.slice la m lc, .int .i64 n, .agg #[.int .i64 5, .int .i64 a, .int .i64 b, .int .i64 x, .int .i64 y]] w (LeftE w (l, [(l.length : Int)])) := by
  have hml := hX.1
  have s1 := (St.nil w).box #[.int .i64 5, .int .i64 a, .int .i64 b, .int .i64 x, .int .i64 y] 40
  generalize hw1 : w.alloc (.cells #[.int .i64 5, .int .i64 a, .int .i64 b, .int .i64 x, .int .i64 y] 40) = w1 at *
  generalize hM : w.heap.size = M at *
  have c0 : w1.cell? ⟨M, 0, none⟩ = some (.int .i64 5) := s1.cell 0 rfl 0
  have HK := hid s1.same
  have hcl := Clone_any la m lc l w1 (hX.kept s1.same) hA.nil (by omega)
  have hb1 := fun W => buildX1 W (m : Int)
  rw [← hml]
  have HL := hid hml
  clear hX s1 hml
  go_enter Tryz.func36, Tryz.ntmps36
  go_wp2_with (first | simp only [hw1, hM] | (go_at_call 53; refine hcl.mono ?_; rintro e w3 ⟨v3, rfl, s3⟩) | simp only [hb1])
  go_ret2
  rw [HL.out] at s3
  exact left_after HK.out s3 (ts := [(m : Int)]) (by unfold maxLen; simp)
theorem done_any {w : World} {la : Option Addr} {m lc : Nat} {l : List Int} (n : Int) (d : Dd) (hA : Adr la m lc) (hc : m ≤ lc) (hX : XIn w la m l) (hm : m ≤ 100) (hd : mayS d = true) :
    Calls Tryz.prog 36 #[.slice la m lc, .int .i64 n, d.val] w (LeftE w (doS l n d)) := by
  have ho := may_op hd
  have hml := hX.1
  obtain ⟨op, a, b, x, y⟩ := d
  simp only at ho
  show Calls _ _ #[_, _, .agg #[.int .i64 op, .int .i64 a, .int .i64 b, .int .i64 x, .int .i64 y]] _ _
  unfold doS
  rcases ho with rfl | rfl | rfl | rfl | rfl
  · by_cases hn : (l.length : Int) = n
    · simp only [if_pos hn, if_true]
      exact done_full1 hA hX hm hn a b x y
    · simp only [if_neg hn, if_true]
      exact done_put1 hA hc hX hm hn a b x y
  · by_cases hn : (l.length : Int) = n
    · simp only [if_pos hn, if_true, Int.reduceEq, if_false]
      exact done_full2 hA hX hm hn a b x y
    · simp only [if_neg hn, if_true, Int.reduceEq, if_false]
      exact done_put2 hA hc hX hm hn a b x y
  · by_cases hl : l = []
    · simp only [if_pos hl, if_true, Int.reduceEq, if_false]
      exact done_none3 hA hX hm hl a b x y
    · simp only [if_neg hl, if_true, Int.reduceEq, if_false]
      have h0 : 0 < m := by rw [hml]; exact List.length_pos_iff.2 hl
      obtain ⟨q, rfl⟩ : ∃ q, m = q + 1 := ⟨m - 1, by omega⟩
      obtain ⟨g, o, rfl⟩ := hX.addr (by omega)
      rw [← hml, Nat.add_sub_cancel]
      exact done_take3 n hc hX hm a b x y
  · by_cases hl : l = []
    · simp only [if_pos hl, if_true, Int.reduceEq, if_false]
      exact done_none4 hA hX hm hl a b x y
    · simp only [if_neg hl, if_true, Int.reduceEq, if_false]
      have h0 : 0 < m := by rw [hml]; exact List.length_pos_iff.2 hl
      obtain ⟨q, rfl⟩ : ∃ q, m = q + 1 := ⟨m - 1, by omega⟩
      obtain ⟨g, o, rfl⟩ := hX.addr (by omega)
      exact done_take4 n hc hX hm a b x y
  · simp only [if_true, Int.reduceEq, if_false]
    exact done_size hA hX hm a b x y
end Go.Proofs.YtahokdgodhhchaaGreatDoor
