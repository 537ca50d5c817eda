/- Lists of int64 in memory. -/
import Derived.Test.YtbpilhjomfkpaaaGreatDoorRfL
import Derived.Test.YtbpilhjomfkpaaaGreatDoorRest
import Derived.Test.YtbpilhjomfkpaaaGreatDoorProg
import Derived.Laws.AppendOwnNone
import Derived.Deep.AppendLies
import Derived.Maps.AppendAt
import Derived.Deep.Slices
import Derived.Lib.SliceRun
import Derived.Deep.DrawnRows
namespace Go.Proofs.YtbpilhjomfkpaaaGreatDoor
open Go.RowKit
set_option linter.unusedVariables false
set_option linter.unusedSimpArgs false
attribute [local go_sem ↓] Go.wp_at_zero Go.wp_at_succ

def xC (zs : List Int) : List Value := zs.map (Value.int .i64)
theorem xC_length (zs : List Int) : (xC zs).length = zs.length := by simp [xC]
theorem xC_append (a b : List Int) : xC (a ++ b) = xC a ++ xC b := by simp [xC]
theorem xC_one (zs : List Int) : ∀ u ∈ xC zs, u.oneCell' = true := by
  intro u hu
  obtain ⟨z, _, rfl⟩ := List.mem_map.1 hu
  rfl
theorem xC_at (zs : List Int) (j : Nat) (hj : j < zs.length) : (xC zs)[j]? = some (.int .i64 (zs.getD j 0)) := by
  simp [xC, List.getD_eq_getElem?_getD, hj]
/-- A list of int64 in memory. -/
def XIn (w : World) (la : Option Addr) (n : Nat) (zs : List Int) : Prop :=
  n = zs.length ∧ (0 < n → ∃ g o, la = some ⟨g, o, none⟩ ∧ ∀ j, j < n → w.cell? ⟨g, o + j, none⟩ = some (.int .i64 (zs.getD j 0)))
theorem XIn.kept {w w' : World} {la : Option Addr} {n : Nat} {zs : List Int} (h : XIn w la n zs) (k : Kept (fun _ => False) w w') : XIn w' la n zs := by
  refine ⟨h.1, fun h0 => ?_⟩
  obtain ⟨g, o, rfl, hc⟩ := h.2 h0
  refine ⟨g, o, rfl, fun j hj => ?_⟩
  have := hc j hj
  rw [World.cell?_of_block (k.block g (World.block_lt_of_cell? w _ this) (fun f => f))]
  exact this
theorem XIn.addr {w : World} {la : Option Addr} {n : Nat} {zs : List Int} (h : XIn w la n zs) (hn : 0 < n) : ∃ g o, la = some ⟨g, o, none⟩ := by
  obtain ⟨g, o, rfl, _⟩ := h.2 hn
  exact ⟨g, o, rfl⟩
theorem XIn.cell {w : World} {g o n : Nat} {zs : List Int} (h : XIn w (some ⟨g, o, none⟩) n zs) {j : Nat} (hj : j < n) : w.cell? ⟨g, o + j, none⟩ = some (.int .i64 (zs.getD j 0)) := by
  obtain ⟨g', o', e, hc⟩ := h.2 (by omega)
  simp only [Option.some.injEq, Addr.mk.injEq, and_true] at e
  obtain ⟨rfl, rfl⟩ := e
  exact hc j hj
theorem own_xin {w : World} {base t : Nat} {v : Value} {zs : List Int} (h : w.ownsRow base t 1 v zs.length (xC zs)) : ∃ la lc, v = .slice la zs.length lc ∧ XIn w la zs.length zs ∧ zs.length ≤ lc ∧ (la = none → zs.length = 0 ∧ lc = 0) := by
  rcases h.2 with ⟨rfl, hn⟩ | ⟨g, cap, cur, rfl, _, _, hc, _⟩
  · exact ⟨none, 0, by rw [hn], ⟨rfl, fun h0 => by omega⟩, by omega, fun _ => ⟨hn, rfl⟩⟩
  · refine ⟨_, _, rfl, ⟨rfl, fun _ => ⟨g, 0, rfl, fun j hj => ?_⟩⟩, by omega, fun e => by cases e⟩
    rw [Nat.zero_add, h.cellAt j (by simpa [xC] using hj)]
    exact xC_at zs j hj
theorem Tryz.infoX : (Tryz.prog.info? 2).map (fun i => (i.zero, i.size, i.bytes)) = some (some (.int .i64 0), 1, 8) := by kernel_rfl
theorem grownBy_reflX (w : World) (row : Option Nat) : w.grownBy w row := ⟨rfl, rfl, rfl, Nat.le_refl _, fun _ _ _ => rfl⟩
/-- An append of a list of int64, nil or not, onto a row of the call's own. -/
theorem wpList_append_x {ops : Array Oper} {rest : List Oper} {o : Oper} {a : Act} {Q : Exit → Act → World → Prop} (w : World) (hgd : o.guard = none) (s x : Operand)
    (ho : o.op = .call { callee := .builtin .append, args := #[s, x], argTypes := #[24, 24] })
    (base : Nat) (v : Value) (n : Nat) (xs : List Value) (hs : a.eval s = v) (hown : w.ownsRow base 2 1 v n xs)
    (la : Option Addr) (m c : Nat) (zs : List Int) (hx : a.eval x = .slice la m c) (hl : XIn w la m zs) (h0 : la = none → m = 0 ∧ c = 0)
    (hsm : (n + m) * 8 ≤ 140737488355328) (hbase : base ≤ w.heap.size)
    (h : ∀ v' w', w'.ownsRow base 2 1 v' (n + m) (xs ++ xC zs) → w.grownBy w' v.ownBlock → wpList Tryz.prog ops Q rest (a.put o.dst v') w') :
    wpList Tryz.prog ops Q (o :: rest) a w := by
  obtain ⟨i0, hi0, hz0, hz1, hz2⟩ := info_parts Tryz.infoX
  cases la with
  | none =>
    obtain ⟨rfl, rfl⟩ := h0 rfl
    obtain rfl : zs = [] := List.length_eq_zero_iff.1 hl.1.symm
    exact wpList_append_own_none hgd s x 24 ho base 2 i0 1 Tryz.underlying24 hi0 v n xs hs hown hx (h v w (by simpa [xC] using hown) (grownBy_reflX _ _))
  | some ad =>
    refine wpList_append_own_at w hgd s x 24 ho base 2 i0 _ 1 8 Tryz.underlying24 hi0 hz0 hz1 hz2 rfl (by omega) v n xs hs hown ad m c (xC zs) hx (by rw [xC_length, ← hl.1, Nat.mul_one]) ?_ (xC_one zs) (by unfold maxLen; omega) (by omega) hbase (fun v' w' a1 a2 _ _ => h v' w' a1 a2)
    intro j u hu
    have hj := (List.getElem?_eq_some_iff.1 hu).1
    rw [xC_length, ← hl.1] at hj
    obtain ⟨g, off, e, hc⟩ := hl.2 (by omega)
    simp only [Option.some.injEq] at e
    subst e
    rw [Addr.add_lit, hc j hj]
    rw [xC_at zs j (by rw [← hl.1]; exact hj)] at hu
    exact hu
theorem buildX0 (W : World) : (Instr.buildSlice 24 0 #[]).run Tryz.prog W = .ok (.slice (some ⟨W.heap.size, 0, none⟩) 0 0) (W.alloc (.cells #[] 2)) := by kernel_rfl
theorem buildX1 (W : World) (x : Int) : (Instr.buildSlice 24 1 #[(0, .int .i64 x)]).run Tryz.prog W = .ok (.slice (some ⟨W.heap.size, 0, none⟩) 1 1) (W.alloc (.cells #[.int .i64 x] 2)) := by kernel_rfl
theorem owns_new (w : World) (zs : List Int) (hm : zs.length ≤ maxLen) : (w.alloc (.cells (xC zs).toArray 2)).ownsRow w.heap.size 2 1 (.slice (some ⟨w.heap.size, 0, none⟩) zs.length zs.length) zs.length (xC zs) :=
  ⟨by simp [xC], .inr ⟨w.heap.size, zs.length, (xC zs).toArray, rfl, Nat.le_refl _, heap_alloc_new w _, Nat.le_refl _, hm, by simp [xC], by rw [Nat.mul_one]; exact List.take_of_length_le (by simp [xC])⟩⟩
theorem St.new64 {o w : World} {its : List It} (h : St o its w) (zs : List Int) (hm : zs.length ≤ maxLen) : St o (ownI 2 1 (.slice (some ⟨w.heap.size, 0, none⟩) zs.length zs.length) zs.length (xC zs) :: its) (w.alloc (.cells (xC zs).toArray 2)) :=
  h.own (kept_alloc w _) (owns_new w zs hm)
theorem makeX (k : Nat) (K : Int) (hK : K = (k : Int)) (hk : k * 8 ≤ 140737488355328) (W : World) : (Instr.makeSlice 24 (.int .i64 K) (.int .i64 K)).run Tryz.prog W = .ok (.slice (some ⟨W.heap.size, 0, none⟩) k k) (W.alloc (.cells (xC (List.replicate k 0)).toArray 2)) := by
  obtain ⟨i0, hi0, hz0, hz1, hz2⟩ := info_parts Tryz.infoX
  subst hK
  have := run_make (P := Tryz.prog) W 24 2 i0 _ Tryz.underlying24 hi0 hz0 .i64 .i64 k k (by omega) (by omega) (by rw [hz2]; omega) (by omega)
  rw [this, hz1, Int.toNat_natCast, made_one rfl]
  simp [xC]
theorem XIn.part {w : World} {g o n : Nat} {zs : List Int} (h : XIn w (some ⟨g, o, none⟩) n zs) (i k : Nat) (hk : i + k ≤ n) : XIn w (some ⟨g, o + i, none⟩) k ((zs.drop i).take k) := by
  refine ⟨by rw [List.length_take, List.length_drop, ← h.1]; omega, fun h0 => ⟨g, o + i, rfl, fun j hj => ?_⟩⟩
  have := h.cell (j := i + j) (by omega)
  rw [Nat.add_assoc, this]
  have hz := h.1
  congr 2
  simp only [List.getD_eq_getElem?_getD]
  rw [List.getElem?_take_of_lt hj, List.getElem?_drop]
theorem slicePart (g o n lc i k : Nat) (hk : 0 < k) (h1 : i + k ≤ n) (h2 : n ≤ lc) (J K : Int) (hJ : J = (i : Int)) (hK : K = ((i + k : Nat) : Int)) (W : World) : (Instr.slice 24 (.slice (some ⟨g, o, none⟩) n lc) (some (.int .i64 J)) (some (.int .i64 K)) none).run Tryz.prog W = .ok (.slice (some ⟨g, o + i, none⟩) k (lc - i)) W := by
  subst hJ hK
  have e3 : (0 : Int) ≤ (i : Int) := by omega
  have e5 : ¬ lc - i = 0 := by omega
  have e6 : ((i : Int) + (k : Int)).toNat - i = k := by omega
  have e8 : (0 : Int) ≤ (i : Int) + (k : Int) ∧ (i : Int) + (k : Int) ≤ (lc : Int) := by omega
  have e9 : i ≤ ((i : Int) + (k : Int)).toNat := by omega
  have e7 : ¬ lc = i := by omega
  simp only [Instr.slice, run_underlying Tryz.underlying24, Instr.sliceBounds, Instr.sliceBound, asIntOf, go_sem]
  simp [go_sem, e3, e5, e6, e7, e8, e9]
theorem xC_set (zs : List Int) (k : Nat) (x : Int) : (xC zs).set k (.int .i64 x) = xC (zs.set k x) := by simp [xC]
abbrev rowI (g n cap : Nat) (zs : List Int) : It := ownI 2 1 (.slice (some ⟨g, 0, none⟩) n cap) n (xC zs)
section
variable {o w : World} {R : List It} {g n cap : Nat} {zs : List Int}
theorem row_len (h : St o (rowI g n cap zs :: R) w) : n = zs.length := by
  have := h.ownCap 0 rfl
  rw [xC_length] at this
  omega
theorem row_cell (h : St o (rowI g n cap zs :: R) w) {j : Nat} (hj : j < n) : w.cell? ⟨g, j, none⟩ = some (.int .i64 (zs.getD j 0)) := by
  rw [h.ownCell 0 rfl j (by omega)]
  exact xC_at zs j (by have := row_len h; omega)
theorem row_frozen (h : St o (rowI g n cap zs :: R) w) (j : Nat) : w.frozen? ⟨g, j, none⟩ = false := h.ownFrozen 0 rfl j
theorem row_set (h : St o (rowI g n cap zs :: R) w) {j : Nat} (hj : j < n) (x : Int) : St o (rowI g n cap (zs.set j x) :: R) (w.setCell ⟨g, j, none⟩ (.int .i64 x)) := by
  have := h.ownSet 0 rfl j (by omega) (.int .i64 x)
  rw [xC_set] at this
  exact this
theorem getD_set_same (zs : List Int) {k : Nat} (hk : k < zs.length) (x : Int) : (zs.set k x).getD k 0 = x := by simp [List.getD_eq_getElem?_getD, hk]
end
end Go.Proofs.YtbpilhjomfkpaaaGreatDoor
