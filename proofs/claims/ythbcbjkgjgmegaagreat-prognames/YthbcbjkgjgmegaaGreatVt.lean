/- Victims, lists of them in memory, and those that came in. -/
import Derived.Test.YthbcbjkgjgmegaaGreatCk
import Derived.ProofKit
import Derived.Deep.Slices
import Derived.OpenShut
import Derived.SizedLaws
import Derived.Laws.AppendOwnNone
import Derived.Deep.RegionHeld3
import Derived.Deep.DrawnRows
import Derived.Defers
import Derived.Recover
import Derived.ChangeKeysEq
import Derived.Maps.AppendAt
import Derived.BigQuiet
import Derived.BigRegion
namespace Go.Proofs.YthbcbjkgjgmegaaGreat
open Go.RowKit Go.ChangeShapes Go.WideShapes Go.Deep
set_option linter.unusedVariables false
set_option linter.unusedSimpArgs false
attribute [local go_sem ↓] Go.wp_at_zero Go.wp_at_succ

structure Vt where
  so : Int
  ge : Int
  sp : Int
  th : Int
def Vt.zero : Vt := ⟨0, 0, 0, 0⟩
def Vt.val (t : Vt) : Value := .agg #[.int .i64 t.so, .int .i64 t.ge, .int .i64 t.sp, .int .i64 t.th]
def Vt.cells (t : Vt) : List Value := [.int .i64 t.so, .int .i64 t.ge, .int .i64 t.sp, .int .i64 t.th]
def Vt.eq (a b : Vt) : Bool := (a.so == b.so) && (a.ge == b.ge) && (a.sp == b.sp) && (a.th == b.th)
theorem Vt.eq_iff (a b : Vt) : a.eq b = true ↔ a = b := by
  cases a; cases b; simp [Vt.eq, and_assoc]
theorem Vt.eq_ne {a b : Vt} (h : a ≠ b) : a.eq b = false := by
  cases hb : a.eq b
  · rfl
  · exact absurd ((Vt.eq_iff a b).1 hb) h
def vtCells : List Vt → List Value
  | [] => []
  | t :: l => t.cells ++ vtCells l
theorem vtCells_length (l : List Vt) : (vtCells l).length = l.length * 4 := by
  induction l with
  | nil => rfl
  | cons t l ih => simp [vtCells, Vt.cells, ih]; omega
theorem vtCells_at (l : List Vt) : ∀ k (hk : k < l.length), (vtCells l)[k * 4]? = some (.int .i64 l[k].so) ∧ (vtCells l)[k * 4 + 1]? = some (.int .i64 l[k].ge) ∧ (vtCells l)[k * 4 + 2]? = some (.int .i64 l[k].sp) ∧ (vtCells l)[k * 4 + 3]? = some (.int .i64 l[k].th) := by
  induction l with
  | nil => intro k hk; simp at hk
  | cons t l ih =>
    intro k hk
    cases k with
    | zero => simp [vtCells, Vt.cells]
    | succ k =>
      have := ih k (by simpa using hk)
      have e : ∀ i, (vtCells (t :: l))[(k + 1) * 4 + i]? = (vtCells l)[k * 4 + i]? := fun i => by
        rw [show (k + 1) * 4 + i = 4 + (k * 4 + i) by omega]
        simp only [vtCells]
        rw [List.getElem?_append_right (by simp [Vt.cells])]
        simp [Vt.cells]
      have e0 := e 0
      simp only [Nat.add_zero] at e0
      rw [e0, e 1, e 2, e 3]
      simpa using this
theorem vtCells_one (l : List Vt) : ∀ u ∈ vtCells l, u.oneCell' = true := by
  induction l with
  | nil => intro u h; cases h
  | cons t l ih =>
    intro u h
    simp only [vtCells, List.mem_append] at h
    rcases h with h | h
    · simp only [Vt.cells, List.mem_cons, List.not_mem_nil, or_false] at h
      rcases h with h | h | h | h <;> subst h <;> rfl
    · exact ih u h
theorem Tryz.infoVt : (Tryz.prog.info? 374).map (fun i => (i.zero, i.size, i.bytes)) = some (some (.agg #[.int .i64 0, .int .i64 0, .int .i64 0, .int .i64 0]), 4, 32) := by kernel_rfl

theorem vtCells_append (l k : List Vt) : vtCells (l ++ k) = vtCells l ++ vtCells k := by
  induction l with
  | nil => rfl
  | cons t l ih => simp [vtCells, ih]

/-- A list of victims in memory. -/
def VIn (w : World) (la : Option Addr) (n : Nat) (zs : List Vt) : Prop :=
  n = zs.length ∧ (0 < n → ∃ g o, la = some ⟨g, o, none⟩ ∧ ∀ j u, (vtCells zs)[j]? = some u → w.cell? ⟨g, o + j, none⟩ = some u)
theorem VIn.drew {w : World} {la : Option Addr} {n : Nat} {zs : List Vt} (h : VIn w la n zs) : VIn w.drew la n zs := h
theorem VIn.kept {w w' : World} {la : Option Addr} {n : Nat} {zs : List Vt} (h : VIn w la n zs) (k : Kept (fun _ => False) w w') : VIn w' la n zs := by
  refine ⟨h.1, fun h0 => ?_⟩
  obtain ⟨g, o, rfl, hc⟩ := h.2 h0
  refine ⟨g, o, rfl, fun j u hj => ?_⟩
  have := hc j u hj
  rw [World.cell?_of_block (k.block g (World.block_lt_of_cell? w _ this) (fun f => f))]
  exact this
theorem VIn.cells {w : World} {g o n : Nat} {zs : List Vt} (h : VIn w (some ⟨g, o, none⟩) n zs) {j : Nat} (hj : j < zs.length) :
    w.cell? ⟨g, o + j * 4, none⟩ = some (.int .i64 zs[j].so) ∧ w.cell? ⟨g, o + j * 4 + 1, none⟩ = some (.int .i64 zs[j].ge) ∧ w.cell? ⟨g, o + j * 4 + 2, none⟩ = some (.int .i64 zs[j].sp) ∧ w.cell? ⟨g, o + j * 4 + 3, none⟩ = some (.int .i64 zs[j].th) := by
  obtain ⟨g', o', e, hc⟩ := h.2 (by have := h.1; omega)
  simp only [Option.some.injEq, Addr.mk.injEq, and_true] at e
  obtain ⟨rfl, rfl⟩ := e
  obtain ⟨h0, h1, h2, h3⟩ := vtCells_at zs j hj
  exact ⟨hc _ _ h0, by simpa [Nat.add_assoc] using hc _ _ h1, by simpa [Nat.add_assoc] using hc _ _ h2, by simpa [Nat.add_assoc] using hc _ _ h3⟩

section
variable {H : Type} {enc : TypeId × Value → H} {w : World}
theorem Tryz.cellsV_int : Tryz.prog.cellsOf 3 = 1 := by kernel_rfl
theorem Tryz.cellsVt : Tryz.prog.cellsOf 374 = 4 := by kernel_rfl
theorem Tryz.bytesVt : Tryz.prog.bytesOf 374 = 32 := by kernel_rfl
set_option maxRecDepth 100000 in
theorem open_vic {fuel : Nat} {cs : List Value} {x : DataW H × List MemPlace} (h : DataW.trod enc Tryz.prog w 0 (fun _ => true) true fuel 374 cs = some x) :
    ∃ t : Vt, cs = t.cells := by
  obtain ⟨xs, n, _, rfl, hl, hlen, hf⟩ := DataW.trod_struct Tryz.underlying374 h
  rw [Tryz.cellsVt] at hl
  match cs, hl with
  | [v0, v1, v2, v3], _ =>
    match xs, hlen with
    | [y0, y1, y2, y3], _ =>
      have g0 := hf 0 _ rfl
      have g1 := hf 1 _ rfl
      have g2 := hf 2 _ rfl
      have g3 := hf 3 _ rfl
      simp [Tryz.cellsV_int] at g0 g1 g2 g3
      obtain ⟨b0, e0, _, _⟩ := DataW.trod_int Tryz.underlying3 g0
      obtain ⟨b1, e1, _, _⟩ := DataW.trod_int Tryz.underlying3 g1
      obtain ⟨b2, e2, _, _⟩ := DataW.trod_int Tryz.underlying3 g2
      obtain ⟨b3, e3, _, _⟩ := DataW.trod_int Tryz.underlying3 g3
      simp only [List.cons.injEq, and_true] at e0 e1 e2 e3
      subst e0 e1 e2 e3
      exact ⟨⟨b0, b1, b2, b3⟩, rfl⟩

/-- A list of cells that is cut into rows of four. -/
theorem vt_join (n : Nat) (f : Nat → Vt) : ∃ zs : List Vt, zs.length = n ∧ ∀ i (h : i < zs.length), zs[i] = f i := ⟨(List.range n).map f, by simp, fun i h => by simp⟩
theorem vt_any {w : World} {b off : Nat} {zs : List Vt} (h : ∀ i (hi : i < zs.length), ∀ j u, zs[i].cells[j]? = some u → w.cell? ⟨b, off + i * 4 + j, none⟩ = some u) : ∀ j u, (vtCells zs)[j]? = some u → w.cell? ⟨b, off + j, none⟩ = some u := by
  induction zs generalizing off with
  | nil => intro j u hu; simp [vtCells] at hu
  | cons t l ih =>
    intro j u hu
    simp only [vtCells] at hu
    by_cases hj : j < 4
    · rw [List.getElem?_append_left (by simpa [Vt.cells] using hj)] at hu
      have := h 0 (by simp) j u (by simpa using hu)
      simpa using this
    · rw [List.getElem?_append_right (by simp [Vt.cells]; omega)] at hu
      simp only [Vt.cells, List.length_cons, List.length_nil] at hu
      have := ih (off := off + 4) (fun i hi j u e => by
        have := h (i + 1) (by simpa using hi) j u (by simpa using e)
        rw [show off + (i + 1) * 4 + j = off + 4 + i * 4 + j by omega] at this
        exact this) (j - 4) u hu
      rwa [show off + 4 + (j - 4) = off + j by omega] at this

set_option maxRecDepth 100000 in
theorem open_vics {fuel : Nat} {v : Value} {x : DataW H × List MemPlace} (h : DataW.trod enc Tryz.prog w 0 (fun _ => true) true fuel 367 [v] = some x) (hz : ∀ n ∈ x.1.weights Tryz.prog 367, n ≤ reachBytes) :
    ∃ la ll lc zs, v = .slice la ll lc ∧ VIn w la ll zs ∧ ll ≤ lc ∧ lc * 32 ≤ 140737488351232 ∧ (la = none → ll = 0 ∧ lc = 0) := by
  rcases open_slice Tryz.underlying367 h with ⟨hcs, _⟩ | ⟨a', len, cap, m, n, D, Pl, hcs, _, hl, hm, hmm, hx, hcell⟩
  · simp only [List.cons.injEq, and_true] at hcs
    exact ⟨_, _, _, [], hcs, ⟨rfl, fun h => by omega⟩, by omega, by omega, fun _ => ⟨rfl, rfl⟩⟩
  · simp only [List.cons.injEq, and_true] at hcs
    simp only [if_true] at hmm
    subst hmm
    subst hx
    have hreach : m * 32 ≤ 140737488351232 := by
      have := hz ((len + (m - len)) * 32) (by
        simp [DataW.weights, Tryz.underlying367, Tryz.bytesVt])
      simp only [reachBytes] at this
      omega
    by_cases h0 : len = 0
    · subst h0
      exact ⟨_, _, _, [], hcs, ⟨rfl, fun h => by omega⟩, by omega, by omega, fun h => by cases h⟩
    obtain ⟨cs0, hc0, _⟩ := hcell 0 (by omega)
    rw [Tryz.cellsVt] at hc0
    have hs := (World.cells?_some hc0)
    obtain ⟨b, off, spot⟩ := a'
    have h00 := hs.2.2 0 (by omega)
    rw [List.getElem?_eq_getElem (by omega)] at h00
    have hspot : spot = none := by simpa [Addr.add] using World.cell?_spot h00
    subst hspot
    have hall : ∀ i, i < len → ∃ t : Vt, ∀ j u, t.cells[j]? = some u → w.cell? ⟨b, off + i * 4 + j, none⟩ = some u := by
      intro i hi
      obtain ⟨cs, hc, ht⟩ := hcell i (by omega)
      rw [Tryz.cellsVt] at hc
      obtain ⟨t, rfl⟩ := open_vic ht
      have hcc := (World.cells?_some hc).2.2
      have eadd : ∀ j, ((⟨b, off, none⟩ : Addr).add (i * 4)).add j = ⟨b, off + i * 4 + j, none⟩ := by
        intro j
        unfold Addr.add
        split <;> split <;> simp_all
      refine ⟨t, fun j u hu => ?_⟩
      have hj : j < 4 := by
        have := (List.getElem?_eq_some_iff.1 hu).1
        simpa [Vt.cells] using this
      have := hcc j hj
      rw [eadd] at this
      rw [this, hu]
    obtain ⟨f, hff⟩ := @choose_lt Vt ⟨.zero⟩ len (fun i t => ∀ j u, t.cells[j]? = some u → w.cell? ⟨b, off + i * 4 + j, none⟩ = some u) hall
    obtain ⟨zs, hz1, hz2⟩ := vt_join len f
    refine ⟨_, _, _, zs, hcs, ⟨hz1.symm, fun _ => ⟨b, off, rfl, vt_any fun i hi j u e => ?_⟩⟩, by omega, by omega, fun h => by cases h⟩
    rw [hz2 i hi] at e
    exact hff i (by omega) j u e
end

end Go.Proofs.YthbcbjkgjgmegaaGreat
