/- Rows of numbers: what is not there; Fill. -/
import Derived.Test.YtajfjkhbimehbaaGreatCl
import Derived.Laws.CopyOwn
namespace Go.Proofs.YtajfjkhbimehbaaGreat
open Go.RowKit
set_option linter.unusedVariables false
set_option linter.unusedSimpArgs false
attribute [local go_sem ↓] Go.wp_at_zero Go.wp_at_succ

/-- A list of numbers in memory. -/
def NumsIn (w : World) (la : Option Addr) (n : Nat) (zs : List Int) : Prop :=
  n = zs.length ∧ (0 < n → ∃ g o, la = some ⟨g, o, none⟩ ∧ ∀ j, j < n → w.cell? ⟨g, o + j, none⟩ = some (.int .i64 (zs.getD j 0)))
theorem NumsIn.drew {w : World} {la : Option Addr} {n : Nat} {zs : List Int} (h : NumsIn w la n zs) : NumsIn w.drew la n zs := h
theorem NumsIn.kept {w w' : World} {la : Option Addr} {n : Nat} {zs : List Int} (h : NumsIn w la n zs) (k : Kept (fun _ => False) w w') : NumsIn w' la n zs := by
  refine ⟨h.1, fun h0 => ?_⟩
  obtain ⟨g, o, rfl, hc⟩ := h.2 h0
  refine ⟨g, o, rfl, fun j hj => ?_⟩
  have := hc j hj
  rw [World.cell?_of_block (k.block g (World.block_lt_of_cell? w _ this) (fun f => f))]
  exact this
def fillErr (xs zs : List Int) : Int := if xs.length < zs.length then 3 else 0
def fillRow (xs zs : List Int) : List Int := if xs.length < zs.length then xs else zs ++ xs.drop zs.length
theorem fillRow_length (xs zs : List Int) : (fillRow xs zs).length = xs.length := by
  unfold fillRow; split
  · rfl
  · simp; omega
theorem Kept.setRow {F : Nat → Prop} {a w : World} (h : Kept F a w) {c : Nat} (cs : Array Value) (hc : F c) : Kept F a (w.setRow c cs) :=
  ⟨h.os, h.tape, h.output, by simpa [World.setRow] using h.size, fun k hk hf => (setRow_other w c k cs (fun e => hf (e ▸ hc))).trans (h.block k hk hf)⟩

section
variable {o w : World} {its : List It} {r c : Nat} {mo : Option Nat} {kind : Int} {xs : List Int}
set_option maxRecDepth 100000 in
theorem clHas_out (k : Int) (h : ClRow w r c mo kind xs) (hk : ¬ (0 ≤ k ∧ k < xs.length)) :
    Calls Tryz.prog 110 #[.pointer (some ⟨r, 0, none⟩), .int .i64 k] w fun e w' => e = .returned (.bool false) ∧ w' = w := by
  have c2 : w.cell? ⟨r, 2, none⟩ = some (.slice (some ⟨c, 0, none⟩) xs.length xs.length) := cell_of_heap h.row
  clear h
  by_cases h0 : k < 0
  · go_enter Tryz.func110, Tryz.ntmps110
    go_wp2
    go_ret
    exact ⟨rfl, rfl⟩
  · have h1 : (0 : Int) ≤ k := by omega
    have h2 : ¬ k < (xs.length : Int) := by omega
    clear hk h0
    go_enter Tryz.func110, Tryz.ntmps110
    go_wp2
    go_ret
    exact ⟨rfl, rfl⟩
set_option maxRecDepth 100000 in
theorem clLoad_out (k : Int) (h : ClRow w r c mo kind xs) (hk : ¬ (0 ≤ k ∧ k < xs.length)) :
    Calls Tryz.prog 122 #[.pointer (some ⟨r, 0, none⟩), .int .i64 k] w fun e w' => e = .returned (.tuple #[.int .i64 0, .int .i64 2]) ∧ w' = w := by
  have hH := clHas_out k h hk
  clear h hk
  go_enter Tryz.func122, Tryz.ntmps122
  go_wp2_with fail
  refine hH.mono ?_
  rintro e w1 ⟨rfl, rfl⟩
  go_wp2
  go_ret2
  exact ⟨rfl, rfl⟩
set_option maxRecDepth 100000 in
theorem clStore_out (k x : Int) (h : ClRow w r c mo kind xs) (hk : ¬ (0 ≤ k ∧ k < xs.length)) :
    Calls Tryz.prog 84 #[.pointer (some ⟨r, 0, none⟩), .int .i64 k, .int .i64 x] w fun e w' => e = .returned (.int .i64 2) ∧ w' = w := by
  have hH := clHas_out k h hk
  clear h hk
  go_enter Tryz.func84, Tryz.ntmps84
  go_wp2_with fail
  refine hH.mono ?_
  rintro e w1 ⟨rfl, rfl⟩
  go_wp2
  go_ret
  exact ⟨rfl, rfl⟩
theorem ClRow.laid {ys : List Int} (h : ClRow w r c mo kind xs) (hl : ys.length = xs.length) : ClRow (w.setRow c (clCells ys).toArray) r c mo kind ys := by
  refine ⟨?_, setRow_heap w c _ _ _ _ h.cells, by rw [hl]; exact h.small, h.rc⟩
  rw [setRow_other w c r _ h.rc, hl]
  exact h.row
theorem St.clLaid {ys : List Int} (h : St o its w) (j : Nat) (hj : its[j]? = some (clRowI r c mo kind xs)) (hl : ys.length = xs.length) : St o (its.set j (clRowI r c mo kind ys)) (w.setRow c (clCells ys).toArray) := by
  have p : ClRow w r c mo kind xs := h.get j hj
  exact h.set j hj ((Kept.refl _ w).setRow _ (by simp [clRowI])) (p.laid hl) (by simp [clRowI, p.rc]) (fun b hb => .inl hb)
set_option maxRecDepth 100000 in
set_option maxHeartbeats 1000000 in
theorem clFill_st {zs : List Int} {la : Option Addr} {n lc : Nat} (h : St o its w) (j : Nat) (hj : its[j]? = some (clRowI r c mo kind xs)) (hl : NumsIn w la n zs) (hn : n ≤ 17592186044416) :
    Calls Tryz.prog 31 #[.pointer (some ⟨r, 0, none⟩), .slice la n lc] w fun e w' => e = .returned (.int .i64 (fillErr xs zs)) ∧ St o (its.set j (clRowI r c mo kind (fillRow xs zs))) w' := by
  have hr : ClRow w r c mo kind xs := h.get j hj
  have c2 : w.cell? ⟨r, 2, none⟩ = some (.slice (some ⟨c, 0, none⟩) xs.length xs.length) := cell_of_heap hr.row
  obtain ⟨hnz, hl⟩ := hl
  have hsm := hr.small
  by_cases hgt : xs.length < n
  · have e1 : fillErr xs zs = 3 := by simp [fillErr, ← hnz, hgt]
    have e2 : fillRow xs zs = xs := by simp [fillRow, ← hnz, hgt]
    rw [e1, e2, set_back hj]
    clear e1 e2 hnz hl hr
    have h1 : (xs.length : Int) < (n : Int) := by omega
    go_enter Tryz.func31, Tryz.ntmps31
    go_wp2
    go_ret
    exact ⟨rfl, h⟩
  · have e1 : fillErr xs zs = 0 := by simp [fillErr, ← hnz, hgt]
    have e2 : fillRow xs zs = zs ++ xs.drop zs.length := by simp [fillRow, ← hnz, hgt]
    rw [e1, e2]
    clear e1 e2
    have h1 : ¬ (xs.length : Int) < (n : Int) := by omega
    have hsz : (Tryz.prog.info? 2).map (·.size) = some 1 := by
      obtain ⟨i0, hi0, hz0, hz1, hz2⟩ := info_parts Tryz.infoCl
      rw [hi0]; simp [hz1]
    by_cases h0 : n = 0
    · subst h0
      have : zs = [] := List.length_eq_zero_iff.1 hnz.symm
      subst this
      clear hr hl hnz
      have hcp : (Builtin.copy_ #[24, 24] 3 #[.slice (some ⟨c, 0, none⟩) xs.length xs.length, .slice la 0 lc]).run Tryz.prog w = .ok (goInt 0) w := run_copy_none w 24 24 3 2 _ _ _ _ _ _ Tryz.underlying24 hsz (by simp)
      go_enter Tryz.func31, Tryz.ntmps31
      go_wp2
      go_ret
      exact ⟨rfl, by simpa [set_back hj] using h⟩
    · obtain ⟨g, o', rfl, hg⟩ := hl (by omega)
      have hcc := hr.cells
      have HN : Hid (n = zs.length) := hnz
      have hsrc : ∀ j v, (clCells zs)[j]? = some v → w.cell? ((⟨g, o', none⟩ : Addr).add j) = some v := by
        intro j v hv
        have hj : j < n := by
          have := (List.getElem?_eq_some_iff.1 hv).1
          rw [clCells_length] at this; omega
        rw [Addr.add_lit, hg j hj, ← hv, clCells_at zs j (by omega), List.getD_eq_getElem?_getD, List.getElem?_eq_getElem (by omega)]
        rfl
      have hlen : (clCells zs).length = Nat.min n xs.length := by
        rw [clCells_length, ← hnz]; exact (Nat.min_eq_left (by omega)).symm
      have hfit : 0 + (clCells zs).length ≤ (clCells xs).toArray.size := by simp [clCells_length]; omega
      have hcur : ((clCells xs).toArray.toList.take 0 ++ (clCells zs ++ (clCells xs).toArray.toList.drop (0 + (clCells zs).length))).toArray = (clCells (zs ++ xs.drop zs.length)).toArray := by simp [clCells]
      have HE : Hid (St o (its.set j (clRowI r c mo kind (zs ++ xs.drop zs.length))) (w.setRow c (clCells (zs ++ xs.drop zs.length)).toArray)) := h.clLaid j hj (by simp; omega)
      clear hr hg hnz h
      have hcp : (Builtin.copy_ #[24, 24] 3 #[.slice (some ⟨c, 0, none⟩) xs.length xs.length, .slice (some ⟨g, o', none⟩) n lc]).run Tryz.prog w = .ok (goInt (clCells zs).length) (w.setRow c (clCells (zs ++ xs.drop zs.length)).toArray) := by
        rw [← hcur]
        simpa using run_copy_row (P := Tryz.prog) w 24 24 3 2 c 0 xs.length xs.length ⟨g, o', none⟩ n lc (clCells xs).toArray 2 (clCells zs) Tryz.underlying24 hsz hcc hlen hsrc hfit (clCells_one zs)
      clear hcc hsrc hlen hfit hcur
      generalize (clCells (zs ++ xs.drop zs.length)).toArray = CC at *
      go_enter Tryz.func31, Tryz.ntmps31
      go_wp2
      go_ret
      exact ⟨rfl, HE.out⟩
end
end Go.Proofs.YtajfjkhbimehbaaGreat
