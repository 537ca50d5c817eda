/- A config, an event, a list of numbers that came in. Pairs that came in. -/
import Derived.Test.YtgjmamgohidbiaaGreatSpE
import Derived.ProofKit
import Derived.Deep.Slices
import Derived.OpenShut
import Derived.SizedLaws
import Derived.Test.YtgjmamgohidbiaaGreatCmN
namespace Go.Proofs.YtgjmamgohidbiaaGreat
open Go.RowKit Go.ChangeShapes Go.WideShapes Go.Deep
set_option linter.unusedVariables false
set_option linter.unusedSimpArgs false
section
variable {H : Type} {enc : TypeId × Value → H} {w : World}

theorem Tryz.cellsA_int : Tryz.prog.cellsOf 3 = 1 := by kernel_rfl
theorem Tryz.cellsA_i64 : Tryz.prog.cellsOf 2 = 1 := by kernel_rfl
theorem Tryz.cellsA_bool : Tryz.prog.cellsOf 4 = 1 := by kernel_rfl
theorem Tryz.cellsA_errno : Tryz.prog.cellsOf 27 = 1 := by kernel_rfl
theorem Tryz.cellsA_cfg : Tryz.prog.cellsOf 23 = 6 := by kernel_rfl
set_option maxRecDepth 100000 in
theorem arg_cfg {b0 : Nat} {v : Value} {d : DataW H} {p : List MemPlace} (hv : Value.okWide Tryz.prog w .any b0 23 v) (h : DataW.Trod enc Tryz.prog w 0 (fun _ => true) true 23 v d p) : ∃ c : Cfg, v = c.val := by
  obtain ⟨cs, rfl, hsz⟩ := okWide_struct Tryz.underlying23 hv
  obtain ⟨fuel, h⟩ := h
  rw [Tryz.cellsA_cfg] at hsz
  simp only [Value.cells] at h
  obtain ⟨l⟩ := cs
  simp only [List.size_toArray] at hsz
  obtain ⟨xs, n, _, _, hl, hlen, hf⟩ := DataW.trod_struct Tryz.underlying23 h
  match l, hsz with
  | [v0, v1, v2, v3, v4, v5], _ =>
    match xs, hlen with
    | [y0, y1, y2, y3, y4, y5], _ =>
      have g0 := hf 0 _ rfl
      have g1 := hf 1 _ rfl
      have g2 := hf 2 _ rfl
      have g3 := hf 3 _ rfl
      have g4 := hf 4 _ rfl
      have g5 := hf 5 _ rfl
      simp [Tryz.cellsA_int] at g0 g1 g2 g3 g4 g5
      obtain ⟨b0, e0, _, _⟩ := DataW.trod_int Tryz.underlying3 g0
      obtain ⟨b1, e1, _, _⟩ := DataW.trod_int Tryz.underlying3 g1
      obtain ⟨b2, e2, _, _⟩ := DataW.trod_int Tryz.underlying3 g2
      obtain ⟨b3, e3, _, _⟩ := DataW.trod_int Tryz.underlying3 g3
      obtain ⟨b4, e4, _, _⟩ := DataW.trod_int Tryz.underlying3 g4
      obtain ⟨b5, e5, _, _⟩ := DataW.trod_int Tryz.underlying3 g5
      simp only [List.cons.injEq, and_true] at e0 e1 e2 e3 e4 e5
      subst e0 e1 e2 e3 e4 e5
      exact ⟨⟨b0, b1, b2, b3, b4, b5⟩, rfl⟩
theorem Tryz.cellsA_evt : Tryz.prog.cellsOf 282 = 10 := by kernel_rfl
set_option maxRecDepth 100000 in
theorem arg_evt {b0 : Nat} {v : Value} {d : DataW H} {p : List MemPlace} (hv : Value.okWide Tryz.prog w .any b0 282 v) (h : DataW.Trod enc Tryz.prog w 0 (fun _ => true) true 282 v d p) : ∃ c : Ev, v = c.val := by
  obtain ⟨cs, rfl, hsz⟩ := okWide_struct Tryz.underlying282 hv
  obtain ⟨fuel, h⟩ := h
  rw [Tryz.cellsA_evt] at hsz
  simp only [Value.cells] at h
  obtain ⟨l⟩ := cs
  simp only [List.size_toArray] at hsz
  obtain ⟨xs, n, _, _, hl, hlen, hf⟩ := DataW.trod_struct Tryz.underlying282 h
  match l, hsz with
  | [v0, v1, v2, v3, v4, v5, v6, v7, v8, v9], _ =>
    match xs, hlen with
    | [y0, y1, y2, y3, y4, y5, y6, y7, y8, y9], _ =>
      have g0 := hf 0 _ rfl
      have g1 := hf 1 _ rfl
      have g2 := hf 2 _ rfl
      have g3 := hf 3 _ rfl
      have g4 := hf 4 _ rfl
      have g5 := hf 5 _ rfl
      have g6 := hf 6 _ rfl
      have g7 := hf 7 _ rfl
      have g8 := hf 8 _ rfl
      have g9 := hf 9 _ rfl
      simp [Tryz.cellsA_bool, Tryz.cellsA_errno, Tryz.cellsA_i64, Tryz.cellsA_int] at g0 g1 g2 g3 g4 g5 g6 g7 g8 g9
      obtain ⟨b0, e0, _, _⟩ := DataW.trod_int Tryz.underlying3 g0
      obtain ⟨b1, e1, _, _⟩ := DataW.trod_int Tryz.underlying3 g1
      obtain ⟨b2, e2, _, _⟩ := DataW.trod_int Tryz.underlying3 g2
      obtain ⟨b3, e3, _, _⟩ := DataW.trod_int Tryz.underlying3 g3
      obtain ⟨b4, e4, _, _⟩ := DataW.trod_int Tryz.underlying3 g4
      obtain ⟨b5, e5, _, _⟩ := DataW.trod_int Tryz.underlying2 g5
      obtain ⟨b6, e6, _⟩ := DataW.trod_bool Tryz.underlying4 g6
      obtain ⟨b7, e7, _, _⟩ := DataW.trod_int Tryz.underlying3 g7
      obtain ⟨b8, e8, _, _⟩ := DataW.trod_int Tryz.underlying27 g8
      obtain ⟨b9, e9, _, _⟩ := DataW.trod_int Tryz.underlying3 g9
      simp only [List.cons.injEq, and_true] at e0 e1 e2 e3 e4 e5 e6 e7 e8 e9
      subst e0 e1 e2 e3 e4 e5 e6 e7 e8 e9
      exact ⟨⟨b0, b1, b2, b3, b4, b5, b6, b7, b8, b9⟩, rfl⟩
theorem Tryz.bytes_i64 : Tryz.prog.bytesOf 2 = 8 := by kernel_rfl
set_option maxRecDepth 100000 in
theorem arg_nums {b0 : Nat} {v : Value} {d : DataW H} {p : List MemPlace} (h : DataW.Trod enc Tryz.prog w 0 (fun _ => true) true 90 v d p) (hv : Value.okWide Tryz.prog w .any b0 90 v) (hz : ∀ n ∈ d.weights Tryz.prog 90, n ≤ reachBytes) :
    ∃ la ll lc zs, v = .slice la ll lc ∧ NumsIn w la ll zs ∧ ll ≤ lc ∧ lc * 8 ≤ 140737488351232 := by
  obtain ⟨a, len, cap, rfl⟩ := okWide_slice Tryz.underlying90 hv
  obtain ⟨fuel, h⟩ := h
  simp only [Value.cells] at h
  rcases open_ints Tryz.underlying90 Tryz.underlying2 Tryz.cellsA_i64 h with ⟨hcs, _⟩ | ⟨a, len, cap, zs, hcs, _, hl, hm, hzl, hx, hcell, _⟩
  · simp only [List.cons.injEq, and_true] at hcs
    exact ⟨_, _, _, [], hcs, ⟨rfl, fun h => by omega⟩, by omega, by omega⟩
  · simp only [List.cons.injEq, and_true] at hcs
    simp only [if_true] at hzl
    have hr : cap * 8 ≤ 140737488351232 := by
      have := hz ((zs.take len).length * 8 + (zs.drop len).length * 8) (by
        simp only [Prod.mk.injEq] at hx
        rw [hx.1]
        simp [DataW.weights, Tryz.underlying90, Tryz.bytes_i64, lits, Nat.add_mul])
      simp only [List.length_take, List.length_drop, reachBytes] at this
      omega
    refine ⟨_, _, _, zs.take len, hcs, ⟨by simp; omega, fun h0 => ?_⟩, hl, hr⟩
    have hp : a.spot = none := by simpa [Addr.add] using World.cell?_spot (hcell 0 (by omega))
    obtain ⟨g, of, s⟩ := a
    simp only at hp
    subst hp
    refine ⟨g, of, rfl, fun j hj => ?_⟩
    have := hcell j (by omega)
    rw [Addr.add_lit] at this
    simpa [hj] using this
end
end Go.Proofs.YtgjmamgohidbiaaGreat

namespace Go.Proofs.YtgjmamgohidbiaaGreat
open Go.RowKit Go.ChangeShapes Go.WideShapes Go.Deep
set_option linter.unusedVariables false
set_option linter.unusedSimpArgs false
def Pr.cells (t : Pr) : List Value := [.int .i64 t.ce, .int .i64 t.x]
section
variable {H : Type} {enc : TypeId × Value → H} {w : World}
theorem Tryz.cellsP_int : Tryz.prog.cellsOf 3 = 1 := by kernel_rfl
theorem Tryz.cellsP_i64 : Tryz.prog.cellsOf 2 = 1 := by kernel_rfl
theorem Tryz.cellsPr : Tryz.prog.cellsOf 59 = 2 := by kernel_rfl
theorem Tryz.bytesPr : Tryz.prog.bytesOf 59 = 16 := by kernel_rfl
set_option maxRecDepth 100000 in
theorem open_pr {fuel : Nat} {cs : List Value} {x : DataW H × List MemPlace} (h : DataW.trod enc Tryz.prog w 0 (fun _ => true) true fuel 59 cs = some x) :
    ∃ t : Pr, cs = t.cells := by
  obtain ⟨xs, n, _, rfl, hl, hlen, hf⟩ := DataW.trod_struct Tryz.underlying59 h
  rw [Tryz.cellsPr] at hl
  match cs, hl with
  | [v0, v1], _ =>
    match xs, hlen with
    | [y0, y1], _ =>
      have g0 := hf 0 _ rfl
      have g1 := hf 1 _ rfl
      simp [Tryz.cellsP_int, Tryz.cellsP_i64] at g0 g1
      obtain ⟨b0, e0, _, _⟩ := DataW.trod_int Tryz.underlying3 g0
      obtain ⟨b1, e1, _, _⟩ := DataW.trod_int Tryz.underlying2 g1
      simp only [List.cons.injEq, and_true] at e0 e1
      subst e0 e1
      exact ⟨⟨b0, b1⟩, rfl⟩

/-- A list of cells that is cut into rows of two. -/
theorem pr_join (n : Nat) (f : Nat → Pr) : ∃ zs : List Pr, zs.length = n ∧ ∀ i (h : i < zs.length), zs[i] = f i := ⟨(List.range n).map f, by simp, fun i h => by simp⟩
theorem pr_any {w : World} {b off : Nat} {zs : List Pr} (h : ∀ i (hi : i < zs.length), ∀ j u, zs[i].cells[j]? = some u → w.cell? ⟨b, off + i * 2 + j, none⟩ = some u) : ∀ j u, (prCells zs)[j]? = some u → w.cell? ⟨b, off + j, none⟩ = some u := by
  induction zs generalizing off with
  | nil => intro j u hu; simp [prCells] at hu
  | cons t l ih =>
    intro j u hu
    rw [show prCells (t :: l) = t.cells ++ prCells l from rfl] at hu
    by_cases hj : j < 2
    · rw [List.getElem?_append_left (by simpa [Pr.cells] using hj)] at hu
      have := h 0 (by simp) j u (by simpa using hu)
      simpa using this
    · rw [List.getElem?_append_right (by simp [Pr.cells]; omega)] at hu
      simp only [Pr.cells, List.length_cons, List.length_nil] at hu
      have := ih (off := off + 2) (fun i hi j u e => by
        have := h (i + 1) (by simpa using hi) j u (by simpa using e)
        rw [show off + (i + 1) * 2 + j = off + 2 + i * 2 + j by omega] at this
        exact this) (j - 2) u hu
      rwa [show off + 2 + (j - 2) = off + j by omega] at this

set_option maxRecDepth 100000 in
theorem open_prs {fuel : Nat} {v : Value} {x : DataW H × List MemPlace} (h : DataW.trod enc Tryz.prog w 0 (fun _ => true) true fuel 45 [v] = some x) (hz : ∀ n ∈ x.1.weights Tryz.prog 45, n ≤ reachBytes) :
    ∃ la ll lc zs, v = .slice la ll lc ∧ PIn w la ll zs ∧ ll ≤ lc ∧ lc * 16 ≤ 140737488351232 ∧ (la = none → ll = 0 ∧ lc = 0) := by
  rcases open_slice Tryz.underlying45 h with ⟨hcs, _⟩ | ⟨a', len, cap, m, n, D, Pl, hcs, _, hl, hm, hmm, hx, hcell⟩
  · simp only [List.cons.injEq, and_true] at hcs
    exact ⟨_, _, _, [], hcs, ⟨rfl, fun h => by omega⟩, by omega, by omega, fun _ => ⟨rfl, rfl⟩⟩
  · simp only [List.cons.injEq, and_true] at hcs
    simp only [if_true] at hmm
    subst hmm
    subst hx
    have hreach : m * 16 ≤ 140737488351232 := by
      have := hz ((len + (m - len)) * 16) (by
        simp [DataW.weights, Tryz.underlying45, Tryz.bytesPr])
      simp only [reachBytes] at this
      omega
    by_cases h0 : len = 0
    · subst h0
      exact ⟨_, _, _, [], hcs, ⟨rfl, fun h => by omega⟩, by omega, by omega, fun h => by cases h⟩
    obtain ⟨cs0, hc0, _⟩ := hcell 0 (by omega)
    rw [Tryz.cellsPr] at hc0
    have hs := (World.cells?_some hc0)
    obtain ⟨b, off, spot⟩ := a'
    have h00 := hs.2.2 0 (by omega)
    rw [List.getElem?_eq_getElem (by omega)] at h00
    have hspot : spot = none := by simpa [Addr.add] using World.cell?_spot h00
    subst hspot
    have hall : ∀ i, i < len → ∃ t : Pr, ∀ j u, t.cells[j]? = some u → w.cell? ⟨b, off + i * 2 + j, none⟩ = some u := by
      intro i hi
      obtain ⟨cs, hc, ht⟩ := hcell i (by omega)
      rw [Tryz.cellsPr] at hc
      obtain ⟨t, rfl⟩ := open_pr ht
      have hcc := (World.cells?_some hc).2.2
      have eadd : ∀ j, ((⟨b, off, none⟩ : Addr).add (i * 2)).add j = ⟨b, off + i * 2 + j, none⟩ := by
        intro j
        unfold Addr.add
        split <;> split <;> simp_all
      refine ⟨t, fun j u hu => ?_⟩
      have hj : j < 2 := by
        have := (List.getElem?_eq_some_iff.1 hu).1
        simpa [Pr.cells] using this
      have := hcc j hj
      rw [eadd] at this
      rw [this, hu]
    obtain ⟨f, hff⟩ := @choose_lt Pr ⟨Pr.zero⟩ len (fun i t => ∀ j u, t.cells[j]? = some u → w.cell? ⟨b, off + i * 2 + j, none⟩ = some u) hall
    obtain ⟨zs, hz1, hz2⟩ := pr_join len f
    refine ⟨_, _, _, zs, hcs, ⟨hz1.symm, fun _ => ⟨b, off, rfl, pr_any fun i hi j u e => ?_⟩⟩, by omega, by omega, fun h => by cases h⟩
    rw [hz2 i hi] at e
    exact hff i (by omega) j u e
end
section
variable {H : Type} {enc : TypeId × Value → H} {w : World}
set_option maxRecDepth 100000 in
theorem arg_prs {b0 : Nat} {v : Value} {d : DataW H} {p : List MemPlace} (h : DataW.Trod enc Tryz.prog w 0 (fun _ => true) true 45 v d p) (hv : Value.okWide Tryz.prog w .any b0 45 v) (hz : ∀ n ∈ d.weights Tryz.prog 45, n ≤ reachBytes) :
    ∃ la ll lc zs, v = .slice la ll lc ∧ PIn w la ll zs ∧ ll ≤ lc ∧ lc * 16 ≤ 140737488351232 ∧ (la = none → ll = 0 ∧ lc = 0) := by
  obtain ⟨a, len, cap, rfl⟩ := okWide_slice Tryz.underlying45 hv
  obtain ⟨fuel, h⟩ := h
  simp only [Value.cells] at h
  exact open_prs h hz
end
end Go.Proofs.YtgjmamgohidbiaaGreat
