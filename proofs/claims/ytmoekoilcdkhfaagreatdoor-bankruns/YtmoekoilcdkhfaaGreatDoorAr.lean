/- A deed, a list of int64 that came in. -/
import Derived.Test.YtmoekoilcdkhfaaGreatDoorBkA
import Derived.ProofKit
import Derived.Deep.Slices
import Derived.OpenShut
import Derived.SizedLaws
namespace Go.Proofs.YtmoekoilcdkhfaaGreatDoor
open Go.RowKit Go.ChangeShapes Go.WideShapes Go.Deep
set_option linter.unusedVariables false
set_option linter.unusedSimpArgs false
section
variable {H : Type} {enc : TypeId × Value → H} {w : World}

theorem Tryz.cellsA_int : Tryz.prog.cellsOf 3 = 1 := by kernel_rfl
theorem Tryz.cellsA_i64 : Tryz.prog.cellsOf 2 = 1 := by kernel_rfl
theorem Tryz.cellsA_deed : Tryz.prog.cellsOf 40 = 5 := by kernel_rfl
set_option maxRecDepth 100000 in
theorem arg_deed {b0 : Nat} {v : Value} {d : DataW H} {p : List MemPlace} (hv : Value.okWide Tryz.prog w .any b0 40 v) (h : DataW.Trod enc Tryz.prog w 0 (fun _ => true) true 40 v d p) : ∃ c : Dd, v = c.val := by
  obtain ⟨cs, rfl, hsz⟩ := okWide_struct Tryz.underlying40 hv
  obtain ⟨fuel, h⟩ := h
  rw [Tryz.cellsA_deed] at hsz
  simp only [Value.cells] at h
  obtain ⟨l⟩ := cs
  simp only [List.size_toArray] at hsz
  obtain ⟨xs, n, _, _, hl, hlen, hf⟩ := DataW.trod_struct Tryz.underlying40 h
  match l, hsz with
  | [v0, v1, v2, v3, v4], _ =>
    match xs, hlen with
    | [y0, y1, y2, y3, y4], _ =>
      have g0 := hf 0 _ rfl
      have g1 := hf 1 _ rfl
      have g2 := hf 2 _ rfl
      have g3 := hf 3 _ rfl
      have g4 := hf 4 _ rfl
      simp [Tryz.cellsA_int, Tryz.cellsA_i64] at g0 g1 g2 g3 g4
      obtain ⟨b0, e0, _, _⟩ := DataW.trod_int Tryz.underlying3 g0
      obtain ⟨b1, e1, _, _⟩ := DataW.trod_int Tryz.underlying3 g1
      obtain ⟨b2, e2, _, _⟩ := DataW.trod_int Tryz.underlying3 g2
      obtain ⟨b3, e3, _, _⟩ := DataW.trod_int Tryz.underlying2 g3
      obtain ⟨b4, e4, _, _⟩ := DataW.trod_int Tryz.underlying2 g4
      simp only [List.cons.injEq, and_true] at e0 e1 e2 e3 e4
      subst e0 e1 e2 e3 e4
      exact ⟨⟨b0, b1, b2, b3, b4⟩, rfl⟩
theorem Tryz.bytes_i64 : Tryz.prog.bytesOf 2 = 8 := by kernel_rfl
/-- A list of int64 that came in. -/
def CameX (w : World) (la : Option Addr) (n lc : Nat) (zs : List Int) : Prop := XIn w la n zs ∧ n ≤ lc ∧ lc * 8 ≤ 140737488351232 ∧ (la = none → n = 0 ∧ lc = 0)
theorem CameX.kept {w w' : World} {la : Option Addr} {n lc : Nat} {zs : List Int} (h : CameX w la n lc zs) (k : Kept (fun _ => False) w w') : CameX w' la n lc zs := ⟨h.1.kept k, h.2⟩
set_option maxRecDepth 100000 in
theorem arg_x {b0 : Nat} {v : Value} {d : DataW H} {p : List MemPlace} (h : DataW.Trod enc Tryz.prog w 0 (fun _ => true) true 24 v d p) (hv : Value.okWide Tryz.prog w .any b0 24 v) (hz : ∀ n ∈ d.weights Tryz.prog 24, n ≤ reachBytes) :
    ∃ la ll lc zs, v = .slice la ll lc ∧ CameX w la ll lc zs := by
  obtain ⟨a, len, cap, rfl⟩ := okWide_slice Tryz.underlying24 hv
  obtain ⟨fuel, h⟩ := h
  simp only [Value.cells] at h
  rcases open_ints Tryz.underlying24 Tryz.underlying2 Tryz.cellsA_i64 h with ⟨hcs, _⟩ | ⟨a, len, cap, zs, hcs, _, hl, hm, hzl, hx, hcell, _⟩
  · simp only [List.cons.injEq, and_true] at hcs
    exact ⟨_, _, _, [], hcs, ⟨rfl, fun h => by omega⟩, by omega, by omega, fun _ => ⟨rfl, rfl⟩⟩
  · simp only [List.cons.injEq, and_true] at hcs
    simp only [if_true] at hzl
    have hr : cap * 8 ≤ 140737488351232 := by
      have := hz ((zs.take len).length * 8 + (zs.drop len).length * 8) (by
        simp only [Prod.mk.injEq] at hx
        rw [hx.1]
        simp [DataW.weights, Tryz.underlying24, Tryz.bytes_i64, lits, Nat.add_mul])
      simp only [List.length_take, List.length_drop, reachBytes] at this
      omega
    refine ⟨_, _, _, zs.take len, hcs, ⟨by simp; omega, fun h0 => ?_⟩, hl, hr, fun e => by cases e⟩
    have hp : a.spot = none := by simpa [Addr.add] using World.cell?_spot (hcell 0 (by omega))
    obtain ⟨g, of, s⟩ := a
    simp only at hp
    subst hp
    refine ⟨g, of, rfl, fun j hj => ?_⟩
    have := hcell j (by omega)
    rw [Addr.add_lit] at this
    simpa [hj] using this
end
end Go.Proofs.YtmoekoilcdkhfaaGreatDoor
