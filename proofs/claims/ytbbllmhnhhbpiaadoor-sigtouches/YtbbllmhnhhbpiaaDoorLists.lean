/- Lists of int: those that came in, those of the call's own; SameInts. -/
import Derived.Test.YtbbllmhnhhbpiaaDoorBits
import Derived.Laws.AppendOwnNone
import Derived.Maps.AppendAt
import Derived.BigQuiet
import Derived.Deep.QuietTactic
import Derived.OpenShut
import Derived.SizedLaws
namespace Go.Proofs.YtbbllmhnhhbpiaaDoor
open Go.RowKit Go.ChangeShapes Go.WideShapes Go.ChangeAt
set_option linter.unusedVariables false
set_option linter.unusedSimpArgs false

/-- A list of int64 that came in: nil, or a row of cells. -/
def ListAt (w : World) (la : Option Addr) (ll lc : Nat) (zs : List Int) : Prop :=
  (la = none ∧ ll = 0 ∧ lc = 0 ∧ zs = []) ∨
  ∃ a, la = some a ∧ ll = zs.length ∧ ll ≤ lc ∧ lc * 8 ≤ 140737488351232 ∧ ∀ j, j < ll → w.cell? (a.add j) = some (.int .i64 (zs.getD j 0))

theorem ListAt.below {B : Nat} {w w' : World} {la : Option Addr} {ll lc : Nat} {zs : List Int} (h : ListAt w la ll lc zs) (k : Below B w w') (hB : w.heap.size ≤ B) : ListAt w' la ll lc zs := by
  rcases h with h | ⟨a, h1, h2, h3, h4, h5⟩
  · exact .inl h
  · refine .inr ⟨a, h1, h2, h3, h4, fun j hj => ?_⟩
    have := World.block_lt_of_cell? w _ (h5 j hj)
    rw [k.cell (p := a.add j) (Nat.lt_of_lt_of_le this hB)]
    exact h5 j hj
section
variable {H : Type} {enc : TypeId × Value → H} {w : World}
theorem Tryd.cells3 : Tryd.prog.cellsOf 3 = 1 := by kernel_rfl
theorem Tryd.bytes3 : Tryd.prog.bytesOf 3 = 8 := by kernel_rfl
theorem open_list {fuel : Nat} {v : Value} {x : DataW H × List MemPlace} (h : DataW.trod enc Tryd.prog w 0 (fun _ => true) true fuel 27 [v] = some x) (hz : ∀ n ∈ x.1.weights Tryd.prog 27, n ≤ reachBytes) :
    ∃ la ll lc zs, v = .slice la ll lc ∧ ListAt w la ll lc zs := by
  rcases open_ints Tryd.underlying27 Tryd.underlying3 Tryd.cells3 h with ⟨hcs, _⟩ | ⟨a, len, cap, zs, hcs, _, hl, hm, hzl, hx, hcell, _⟩
  · simp only [List.cons.injEq, and_true] at hcs
    exact ⟨_, _, _, [], hcs, .inl ⟨rfl, rfl, rfl, rfl⟩⟩
  · simp only [List.cons.injEq, and_true] at hcs
    simp only [if_true] at hzl
    have hr : cap * 8 ≤ 140737488351232 := by
      have := hz ((zs.take len).length * 8 + (zs.drop len).length * 8) (by
        rw [hx]
        simp [DataW.weights, Tryd.underlying27, Tryd.bytes3, lits, Nat.add_mul])
      simp only [List.length_take, List.length_drop, reachBytes] at this
      omega
    refine ⟨_, _, _, zs.take len, hcs, .inr ⟨a, rfl, by simp; omega, hl, hr, fun j hj => ?_⟩⟩
    have := hcell j (by omega)
    simpa [hj] using this

end

theorem list_ints {w : World} {la : Option Addr} {ll lc : Nat} {zs : List Int} (h : ListAt w la ll lc zs) : IntsIn w la ll zs ∧ ll = zs.length ∧ ll * 8 ≤ 140737488351232 := by
  rcases h with ⟨rfl, rfl, rfl, rfl⟩ | ⟨a, rfl, h1, h2, h3, h4⟩
  · exact ⟨⟨rfl, fun h => by omega⟩, rfl, by omega⟩
  · refine ⟨⟨h1, fun h0 => ?_⟩, h1, by omega⟩
    obtain ⟨g, o, spot⟩ := a
    have hs := World.cell?_spot (h4 0 h0)
    have : spot = none := by simpa [Addr.add] using hs
    subst this
    refine ⟨g, o, rfl, fun j hj => ?_⟩
    have := h4 j hj
    have ea : (⟨g, o, none⟩ : Addr).add j = ⟨g, o + j, none⟩ := by unfold Addr.add; split <;> simp_all
    rwa [ea] at this

theorem grownBy_refl (w : World) (row : Option Nat) : w.grownBy w row := ⟨rfl, rfl, rfl, Nat.le_refl _, fun _ _ _ => rfl⟩

theorem ints_one (xs : List Int) : ∀ u ∈ xs.map (Value.int .i64), u.oneCell' = true := by
  intro u h
  obtain ⟨x, _, rfl⟩ := List.mem_map.1 h
  rfl

/-- An append of a list that came in, nil or not, onto a slice of the call's own. -/
theorem wpList_append_list {P : Program} (w : World) {ops : Array Oper} {rest : List Oper} {o : Oper} {a : Act} {Q : Exit → Act → World → Prop} (hgd : o.guard = none) (s x : Operand) (t : TypeId)
    (ho : o.op = .call { callee := .builtin .append, args := #[s, x], argTypes := #[t, t] })
    (base : Nat) (i : TypeInfo) (z : Value) (ht : P.underlying t = some (.slice 3)) (hi : P.info? 3 = some i) (hz : i.zero = some z)
    (hsize : i.size = 1) (hby : i.bytes = 8) (hzs : z.cells.size = 1)
    (v : Value) (n : Nat) (xs : List Value) (hs : a.eval s = v) (hown : w.ownsRow base 3 1 v n xs)
    (la : Option Addr) (m c : Nat) (zs : List Int) (hx : a.eval x = .slice la m c) (hl : ListAt w la m c zs)
    (hsm : n + m ≤ 17592186044416) (hbase : base ≤ w.heap.size)
    (h : ∀ v' w', w'.ownsRow base 3 1 v' (n + m) (xs ++ zs.map (Value.int .i64)) → w.grownBy w' v.ownBlock → wpList P ops Q rest (a.put o.dst v') w') :
    wpList P ops Q (o :: rest) a w := by
  rcases hl with ⟨rfl, rfl, rfl, rfl⟩ | ⟨ad, rfl, h1, h2, h3, h4⟩
  · exact wpList_append_own_none hgd s x t ho base 3 i 1 ht hi v n xs hs hown hx (h v w (by simpa using hown) (grownBy_refl _ _))
  · refine wpList_append_own_at w hgd s x t ho base 3 i z 1 8 ht hi hz hsize hby hzs (by omega) v n xs hs hown ad m c (zs.map (Value.int .i64)) hx (by simp; omega) ?_ (ints_one zs) (by unfold maxLen; omega) (by omega) hbase (fun v' w' a1 a2 _ _ => h v' w' a1 a2)
    intro j u hu
    have hj : j < m := by
      have := (List.getElem?_eq_some_iff.1 hu).1
      simp at this; omega
    rw [h4 j hj]
    simp [show j < zs.length by omega] at hu
    simp [show j < zs.length by omega, hu]

theorem owned_cap {w : World} {base g n cap : Nat} {e : TypeId} {size : Nat} {xs : List Value} (h : w.ownsRow base e size (.slice (some ⟨g, 0, none⟩) n cap) n xs) : n ≤ cap ∧ base ≤ g ∧ g < w.heap.size := by
  rcases h.2 with ⟨h1, _⟩ | ⟨g', c', cur, h1, hb, hg, hc, _⟩
  · cases h1
  · simp only [Value.slice.injEq, Option.some.injEq, Addr.mk.injEq, and_true, true_and] at h1
    obtain ⟨rfl, rfl⟩ := h1
    exact ⟨hc, hb, lt_of_heap hg⟩
theorem ownsRow_kept {w w' : World} {base n : Nat} {v : Value} {e : TypeId} {size : Nat} {xs : List Value} {F : Nat → Prop} (h : w.ownsRow base e size v n xs) (k : Kept F w w') (hf : ∀ g, base ≤ g → ¬ F g) : w'.ownsRow base e size v n xs := by
  refine ⟨h.1, ?_⟩
  rcases h.2 with hc | ⟨g, cap, cur, rfl, hg, hh, r⟩
  · exact .inl hc
  · exact .inr ⟨g, cap, cur, rfl, hg, (k.block g (lt_of_heap hh) (hf g hg)).trans hh, r⟩
theorem owned_set {w : World} {base g n cap : Nat} {ys : List Int} (h : w.ownsRow base 3 1 (.slice (some ⟨g, 0, none⟩) n cap) n (ys.map (Value.int .i64))) (j : Nat) (X : Int) :
    (w.setCell ⟨g, j, none⟩ (.int .i64 X)).ownsRow base 3 1 (.slice (some ⟨g, 0, none⟩) n cap) n ((ys.set j X).map (Value.int .i64)) := by
  have := (h.stored j (.int .i64 X)).1
  rwa [← List.map_set] at this
theorem owned_cell {w : World} {base g n cap : Nat} {ys : List Int} (h : w.ownsRow base 3 1 (.slice (some ⟨g, 0, none⟩) n cap) n (ys.map (Value.int .i64))) {j : Nat} (hj : j < n) : w.cell? ⟨g, j, none⟩ = some (.int .i64 (ys.getD j 0)) := by
  have hl := h.1
  rw [h.cellAt j (by omega)]
  simp at hl
  simp [show j < ys.length by omega]
theorem owned_shape {w : World} {base n : Nat} {v : Value} {e : TypeId} {size : Nat} {xs : List Value} (h : w.ownsRow base e size v n xs) : ∃ ga ca, v = .slice ga n ca ∧ (0 < n → ∃ g, ga = some ⟨g, 0, none⟩ ∧ base ≤ g ∧ g < w.heap.size) := by
  rcases h.2 with ⟨h1, h0⟩ | ⟨g, c3, _, h1, hb, hg, _⟩
  · exact ⟨none, 0, by rw [h1, h0], fun h => by omega⟩
  · exact ⟨_, _, h1, fun _ => ⟨g, rfl, hb, lt_of_heap hg⟩⟩
theorem owned_ints {w : World} {base n ca : Nat} {ga : Option Addr} {ys : List Int} (h : w.ownsRow base 3 1 (.slice ga n ca) n (ys.map (Value.int .i64))) : IntsIn w ga n ys := by
  have hl := h.1
  simp at hl
  refine ⟨hl.symm, fun h0 => ?_⟩
  obtain ⟨g, c, he, _, _⟩ := h.form h0
  simp only [Value.slice.injEq] at he
  obtain ⟨rfl, _⟩ := he
  exact ⟨g, 0, rfl, fun j hj => by rw [Nat.zero_add]; exact owned_cell h hj⟩
theorem ownsRow_drewN {w : World} {base n : Nat} {v : Value} {e : TypeId} {size : Nat} {xs : List Value} (h : w.ownsRow base e size v n xs) (k : Nat) : (w.drewN k).ownsRow base e size v n xs := h
theorem Kept.drewN {F : Nat → Prop} {a w : World} (h : Kept F a w) (k : Nat) : Kept F a (w.drewN k) := ⟨h.os, h.tape, h.output, h.size, h.block⟩

set_option maxRecDepth 100000 in
set_option maxHeartbeats 1000000 in
theorem sameInts_true (la lb : Option Addr) (n ca cb : Nat) (zs : List Int) (w : World) (ha : IntsIn w la n zs) (hb : IntsIn w lb n zs) (hn : n ≤ 17592186044416) :
    Calls Tryd.prog 32 #[.slice la n ca, .slice lb n cb] w fun e w' => e = .returned (.bool true) ∧ ∃ k, w' = w.drewN k := by
  obtain ⟨_, ha⟩ := ha
  obtain ⟨_, hb⟩ := hb
  have hnn : ((n : Int) != (n : Int)) = false := by simp
  go_enter Tryd.func32, Tryd.ntmps32
  go_wp2
  go_loopw [5] (fun i wr => ∃ j q : Nat, i = .int .i64 j ∧ j ≤ n ∧ wr = w.drewN q) (fun i _ => n - (intOf i).toNat)
  case atStart => exact ⟨0, 0, rfl, Nat.zero_le _, rfl⟩
  case round =>
    obtain ⟨j, q, rfl, hj, rfl⟩ := hrel
    by_cases hlt : j < n
    · obtain ⟨g, o, rfl, hga⟩ := ha (by omega)
      obtain ⟨g2, o2, rfl, hgb⟩ := hb (by omega)
      have c1 : w.cell? ⟨g, o + j, none⟩ = some (.int .i64 (zs.getD j 0)) := hga j hlt
      have c2 : w.cell? ⟨g2, o2 + j, none⟩ = some (.int .i64 (zs.getD j 0)) := hgb j hlt
      generalize zs.getD j 0 = z at c1 c2
      clear hga hgb ha hb
      have h0 : (0 : Int) ≤ (j : Int) := Int.natCast_nonneg _
      have h1 : (j : Int) < (n : Int) := by omega
      have hzz : (z != z) = false := by simp
      go_wp2_with fail
      go_quiet (fail)
      go_wp2
      go_roundw
      case rel => exact ⟨j + 1, _, by go_num, by omega, rfl⟩
      case measure => simp [intOf]; omega
    · go_wp2
      go_ret
      exact ⟨rfl, q, rfl⟩

end Go.Proofs.YtbbllmhnhhbpiaaDoor
