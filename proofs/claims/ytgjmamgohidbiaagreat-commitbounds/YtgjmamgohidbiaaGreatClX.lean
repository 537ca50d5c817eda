/- Rows of numbers: what is not there; Fill. -/
import Derived.Test.YtgjmamgohidbiaaGreatCl
import Derived.Laws.CopyOwn
namespace Go.Proofs.YtgjmamgohidbiaaGreat
open Go.RowKit
set_option linter.unusedVariables false
set_option linter.unusedSimpArgs false
attribute [local go_sem ↓] Go.wp_at_zero Go.wp_at_succ

/-- A list of numbers in memory. -/
def NumsIn (w : World) (la : Option Addr) (n : Nat) (zs : List Int) : Prop :=
  n = zs.length ∧ (0 < n → ∃ g o, la = some ⟨g, o, none⟩ ∧ ∀ j, j < n → w.cell? ⟨g, o + j, none⟩ = some (.int .i64 (zs.getD j 0)))
theorem NumsIn.drew {w : World} {la : Option Addr} {n : Nat} {zs : List Int} (h : NumsIn w la n zs) : NumsIn w.drew la n zs := h
theorem NumsIn.kept {w w' : World} {la : Option Addr} {n : Nat} {zs : List Int} (h : NumsIn w la n zs) (k : Kept (fun _ => False) w w') : NumsIn w' la n zs := by
  refine ⟨h.1, fun h0 => ?_⟩
  obtain ⟨g, o, rfl, hc⟩ := h.2 h0
  refine ⟨g, o, rfl, fun j hj => ?_⟩
  have := hc j hj
  rw [World.cell?_of_block (k.block g (World.block_lt_of_cell? w _ this) (fun f => f))]
  exact this
def fillErr (xs zs : List Int) : Int := if xs.length < zs.length then 3 else 0
def fillRow (xs zs : List Int) : List Int := if xs.length < zs.length then xs else zs ++ xs.drop zs.length
theorem fillRow_length (xs zs : List Int) : (fillRow xs zs).length = xs.length := by
  unfold fillRow; split
  · rfl
  · simp; omega
theorem Kept.setRow {F : Nat → Prop} {a w : World} (h : Kept F a w) {c : Nat} (cs : Array Value) (hc : F c) : Kept F a (w.setRow c cs) :=
  ⟨h.os, h.tape, h.output, by simpa [World.setRow] using h.size, fun k hk hf => (setRow_other w c k cs (fun e => hf (e ▸ hc))).trans (h.block k hk hf)⟩

section
variable {o w : World} {its : List It} {r c : Nat} {mo : Option Nat} {kind : Int} {xs : List Int}
set_option maxRecDepth 100000 in
theorem clHas_out (k : Int) (h : ClRow w r c mo kind xs) (hk : ¬ (0 ≤ k ∧ k < xs.length)) :
    Calls Tryz.prog 155 #[.pointer (some ⟨r, 0, none⟩), .int .i64 k] w fun e w' => e = .returned (.bool false) ∧ w' = w := by
  have c2 : w.cell? ⟨r, 2, none⟩ = some (.slice (some ⟨c, 0, none⟩) xs.length xs.length) := cell_of_heap h.row
  clear h
  by_cases h0 : k < 0
  · go_enter Tryz.func155, Tryz.ntmps155
    go_wp2
    go_ret
    exact ⟨rfl, rfl⟩
  · have h1 : (0 : Int) ≤ k := by omega
    have h2 : ¬ k < (xs.length : Int) := by omega
    clear hk h0
    go_enter Tryz.func155, Tryz.ntmps155
    go_wp2
    go_ret
    exact ⟨rfl, rfl⟩
set_option maxRecDepth 100000 in
theorem clStore_out (k x : Int) (h : ClRow w r c mo kind xs) (hk : ¬ (0 ≤ k ∧ k < xs.length)) :
    Calls Tryz.prog 129 #[.pointer (some ⟨r, 0, none⟩), .int .i64 k, .int .i64 x] w fun e w' => e = .returned (.int .i64 2) ∧ w' = w := by
  have hH := clHas_out k h hk
  clear h hk
  go_enter Tryz.func129, Tryz.ntmps129
  go_wp2_with fail
  refine hH.mono ?_
  rintro e w1 ⟨rfl, rfl⟩
  go_wp2
  go_ret
  exact ⟨rfl, rfl⟩
theorem ClRow.laid {ys : List Int} (h : ClRow w r c mo kind xs) (hl : ys.length = xs.length) : ClRow (w.setRow c (clCells ys).toArray) r c mo kind ys := by
  refine ⟨?_, setRow_heap w c _ _ _ _ h.cells, by rw [hl]; exact h.small, h.rc⟩
  rw [setRow_other w c r _ h.rc, hl]
  exact h.row
theorem St.clLaid {ys : List Int} (h : St o its w) (j : Nat) (hj : its[j]? = some (clRowI r c mo kind xs)) (hl : ys.length = xs.length) : St o (its.set j (clRowI r c mo kind ys)) (w.setRow c (clCells ys).toArray) := by
  have p : ClRow w r c mo kind xs := h.get j hj
  exact h.set j hj ((Kept.refl _ w).setRow _ (by simp [clRowI])) (p.laid hl) (by simp [clRowI, p.rc]) (fun b hb => .inl hb)
end
end Go.Proofs.YtgjmamgohidbiaaGreat
