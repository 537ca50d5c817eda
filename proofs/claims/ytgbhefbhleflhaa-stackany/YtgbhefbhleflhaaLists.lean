/- Lists of int: those that came in, those of the call's own; Same. -/
import Derived.Test.YtgbhefbhleflhaaRefC
import Derived.OpenShut
import Derived.SizedLaws
namespace Go.Proofs.Ytgbhefbhleflhaa
open Go.RowKit Go.ChangeShapes Go.WideShapes Go.ChangeAt
set_option linter.unusedVariables false
set_option linter.unusedSimpArgs false

theorem Kept.cell {F : Nat → Prop} {a w : World} (h : Kept F a w) {p : Addr} {u : Value} (hc : a.cell? p = some u) (hf : ¬ F p.block) : w.cell? p = some u :=
  (World.cell?_of_block (h.block p.block (World.block_lt_of_cell? a p hc) hf)).trans hc

/-- A list of int in memory, of n elements. -/
def IntsIn (w : World) (la : Option Addr) (n : Nat) (zs : List Int) : Prop :=
  n = zs.length ∧ (0 < n → ∃ g o, la = some ⟨g, o, none⟩ ∧ ∀ j, j < n → w.cell? ⟨g, o + j, none⟩ = some (.int .i64 (zs.getD j 0)))
theorem IntsIn.drew {w : World} {la : Option Addr} {n : Nat} {zs : List Int} (h : IntsIn w la n zs) : IntsIn w.drew la n zs := h
/-- It stays where its block isn't touched. -/
theorem IntsIn.kept {w w' : World} {la : Option Addr} {n : Nat} {zs : List Int} (h : IntsIn w la n zs) (k : Kept (fun _ => False) w w') : IntsIn w' la n zs := by
  refine ⟨h.1, fun hn => ?_⟩
  obtain ⟨g, o, hla, hc⟩ := h.2 hn
  exact ⟨g, o, hla, fun j hj => k.cell (hc j hj) (fun f => f)⟩

theorem IntsIn.below {w w' : World} {la : Option Addr} {n : Nat} {zs : List Int} {B : Nat} (h : IntsIn w la n zs) (k : Below B w w') (hB : w.heap.size ≤ B) : IntsIn w' la n zs := by
  refine ⟨h.1, fun hn => ?_⟩
  obtain ⟨g, o, hla, hc⟩ := h.2 hn
  exact ⟨g, o, hla, fun j hj => (k.cell (Nat.lt_of_lt_of_le (World.block_lt_of_cell? w _ (hc j hj)) hB)).trans (hc j hj)⟩

/-- A list of int64 that came in: nil, or a row of cells. -/
def ListAt (w : World) (la : Option Addr) (ll lc : Nat) (zs : List Int) : Prop :=
  (la = none ∧ ll = 0 ∧ lc = 0 ∧ zs = []) ∨
  ∃ a, la = some a ∧ ll = zs.length ∧ ll ≤ lc ∧ lc * 8 ≤ 140737488351232 ∧ ∀ j, j < ll → w.cell? (a.add j) = some (.int .i64 (zs.getD j 0))

theorem ListAt.below {B : Nat} {w w' : World} {la : Option Addr} {ll lc : Nat} {zs : List Int} (h : ListAt w la ll lc zs) (k : Below B w w') (hB : w.heap.size ≤ B) : ListAt w' la ll lc zs := by
  rcases h with h | ⟨a, h1, h2, h3, h4, h5⟩
  · exact .inl h
  · refine .inr ⟨a, h1, h2, h3, h4, fun j hj => ?_⟩
    have := World.block_lt_of_cell? w _ (h5 j hj)
    rw [k.cell (p := a.add j) (Nat.lt_of_lt_of_le this hB)]
    exact h5 j hj
section
variable {H : Type} {enc : TypeId × Value → H} {w : World}
theorem Try.cells3 : Try.prog.cellsOf 3 = 1 := by kernel_rfl
theorem Try.bytes3 : Try.prog.bytesOf 3 = 8 := by kernel_rfl
theorem open_list {fuel : Nat} {v : Value} {x : DataW H × List MemPlace} (h : DataW.trod enc Try.prog w 0 (fun _ => true) true fuel 37 [v] = some x) (hz : ∀ n ∈ x.1.weights Try.prog 37, n ≤ reachBytes) :
    ∃ la ll lc zs, v = .slice la ll lc ∧ ListAt w la ll lc zs := by
  rcases open_ints Try.underlying37 Try.underlying3 Try.cells3 h with ⟨hcs, _⟩ | ⟨a, len, cap, zs, hcs, _, hl, hm, hzl, hx, hcell, _⟩
  · simp only [List.cons.injEq, and_true] at hcs
    exact ⟨_, _, _, [], hcs, .inl ⟨rfl, rfl, rfl, rfl⟩⟩
  · simp only [List.cons.injEq, and_true] at hcs
    simp only [if_true] at hzl
    have hr : cap * 8 ≤ 140737488351232 := by
      have := hz ((zs.take len).length * 8 + (zs.drop len).length * 8) (by
        rw [hx]
        simp [DataW.weights, Try.underlying37, Try.bytes3, lits, Nat.add_mul])
      simp only [List.length_take, List.length_drop, reachBytes] at this
      omega
    refine ⟨_, _, _, zs.take len, hcs, .inr ⟨a, rfl, by simp; omega, hl, hr, fun j hj => ?_⟩⟩
    have := hcell j (by omega)
    simpa [hj] using this

end

theorem list_ints {w : World} {la : Option Addr} {ll lc : Nat} {zs : List Int} (h : ListAt w la ll lc zs) : IntsIn w la ll zs ∧ ll = zs.length ∧ ll * 8 ≤ 140737488351232 := by
  rcases h with ⟨rfl, rfl, rfl, rfl⟩ | ⟨a, rfl, h1, h2, h3, h4⟩
  · exact ⟨⟨rfl, fun h => by omega⟩, rfl, by omega⟩
  · refine ⟨⟨h1, fun h0 => ?_⟩, h1, by omega⟩
    obtain ⟨g, o, spot⟩ := a
    have hs := World.cell?_spot (h4 0 h0)
    have : spot = none := by simpa [Addr.add] using hs
    subst this
    refine ⟨g, o, rfl, fun j hj => ?_⟩
    have := h4 j hj
    have ea : (⟨g, o, none⟩ : Addr).add j = ⟨g, o + j, none⟩ := by unfold Addr.add; split <;> simp_all
    rwa [ea] at this

theorem ints_one (xs : List Int) : ∀ u ∈ xs.map (Value.int .i64), u.oneCell' = true := by
  intro u h
  obtain ⟨x, _, rfl⟩ := List.mem_map.1 h
  rfl
theorem owned_set {w : World} {base g n cap : Nat} {ys : List Int} (h : w.ownsRow base 3 1 (.slice (some ⟨g, 0, none⟩) n cap) n (ys.map (Value.int .i64))) (j : Nat) (X : Int) :
    (w.setCell ⟨g, j, none⟩ (.int .i64 X)).ownsRow base 3 1 (.slice (some ⟨g, 0, none⟩) n cap) n ((ys.set j X).map (Value.int .i64)) := by
  have := (h.stored j (.int .i64 X)).1
  rwa [← List.map_set] at this
theorem owned_cell {w : World} {base g n cap : Nat} {ys : List Int} (h : w.ownsRow base 3 1 (.slice (some ⟨g, 0, none⟩) n cap) n (ys.map (Value.int .i64))) {j : Nat} (hj : j < n) : w.cell? ⟨g, j, none⟩ = some (.int .i64 (ys.getD j 0)) := by
  have hl := h.1
  rw [h.cellAt j (by omega)]
  simp at hl
  simp [show j < ys.length by omega]
theorem owned_shape {w : World} {base n : Nat} {v : Value} {e : TypeId} {size : Nat} {xs : List Value} (h : w.ownsRow base e size v n xs) : ∃ ga ca, v = .slice ga n ca ∧ (0 < n → ∃ g, ga = some ⟨g, 0, none⟩ ∧ base ≤ g ∧ g < w.heap.size) := by
  rcases h.2 with ⟨h1, h0⟩ | ⟨g, c3, _, h1, hb, hg, _⟩
  · exact ⟨none, 0, by rw [h1, h0], fun h => by omega⟩
  · exact ⟨_, _, h1, fun _ => ⟨g, rfl, hb, lt_of_heap hg⟩⟩
theorem owned_ints {w : World} {base n ca : Nat} {ga : Option Addr} {ys : List Int} (h : w.ownsRow base 3 1 (.slice ga n ca) n (ys.map (Value.int .i64))) : IntsIn w ga n ys := by
  have hl := h.1
  simp at hl
  refine ⟨hl.symm, fun h0 => ?_⟩
  obtain ⟨g, c, he, _, _⟩ := h.form h0
  simp only [Value.slice.injEq] at he
  obtain ⟨rfl, _⟩ := he
  exact ⟨g, 0, rfl, fun j hj => by rw [Nat.zero_add]; exact owned_cell h hj⟩
set_option maxRecDepth 100000 in
set_option maxHeartbeats 1000000 in
theorem sameInts_true (la lb : Option Addr) (n ca cb : Nat) (zs : List Int) (w : World) (ha : IntsIn w la n zs) (hb : IntsIn w lb n zs) (hn : n ≤ 17592186044416) :
    Calls Try.prog 14 #[.slice la n ca, .slice lb n cb] w fun e w' => e = .returned (.bool true) ∧ ∃ k, w' = w.drewN k := by
  obtain ⟨_, ha⟩ := ha
  obtain ⟨_, hb⟩ := hb
  have hnn : ((n : Int) != (n : Int)) = false := by simp
  go_enter Try.func14, Try.ntmps14
  go_wp2
  go_loopw [5] (fun i wr => ∃ j q : Nat, i = .int .i64 j ∧ j ≤ n ∧ wr = w.drewN q) (fun i _ => n - (intOf i).toNat)
  case atStart => exact ⟨0, 0, rfl, Nat.zero_le _, rfl⟩
  case round =>
    obtain ⟨j, q, rfl, hj, rfl⟩ := hrel
    by_cases hlt : j < n
    · obtain ⟨g, o, rfl, hga⟩ := ha (by omega)
      obtain ⟨g2, o2, rfl, hgb⟩ := hb (by omega)
      have c1 : w.cell? ⟨g, o + j, none⟩ = some (.int .i64 (zs.getD j 0)) := hga j hlt
      have c2 : w.cell? ⟨g2, o2 + j, none⟩ = some (.int .i64 (zs.getD j 0)) := hgb j hlt
      generalize zs.getD j 0 = z at c1 c2
      clear hga hgb ha hb
      have h0 : (0 : Int) ≤ (j : Int) := Int.natCast_nonneg _
      have h1 : (j : Int) < (n : Int) := by omega
      have hzz : (z != z) = false := by simp
      go_wp2_with fail
      go_quiet (fail)
      go_wp2
      go_roundw
      case rel => exact ⟨j + 1, _, by go_num, by omega, rfl⟩
      case measure => simp [intOf]; omega
    · go_wp2
      go_ret
      exact ⟨rfl, q, rfl⟩

end Go.Proofs.Ytgbhefbhleflhaa
