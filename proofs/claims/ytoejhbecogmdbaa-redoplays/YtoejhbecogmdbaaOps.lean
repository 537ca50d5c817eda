/- The steps of a script as they lie in memory when they come in, and how they are read. -/
import Derived.Test.YtoejhbecogmdbaaProg
import Derived.Test.YtoejhbecogmdbaaKit
import Derived.ProofKit
import Derived.Deep.Slices
import Derived.OpenShut
import Derived.SizedLaws
namespace Go.Proofs.Ytoejhbecogmdbaa
open Go.RowKit Go.ChangeShapes Go.WideShapes Go.Deep
set_option linter.unusedVariables false
set_option linter.unusedSimpArgs false

/-- One step of a script. -/
structure OpD where
  other : Bool
  kind : Int
  k : Int
  v : Int

structure OpAt (w : World) (b off : Nat) (o : OpD) : Prop where
  c0 : w.cell? ⟨b, off, none⟩ = some (.bool o.other)
  c1 : w.cell? ⟨b, off + 1, none⟩ = some (.int .i64 o.kind)
  c2 : w.cell? ⟨b, off + 2, none⟩ = some (.int .i64 o.k)
  c3 : w.cell? ⟨b, off + 3, none⟩ = some (.int .i64 o.v)
  wf : (Lit.int .i64 o.k).wf = true

/-- A script that came in. -/
def ScriptAt (w : World) (a : Option Addr) (len : Nat) (f : Nat → OpD) : Prop :=
  len = 0 ∨ ∃ b off, a = some ⟨b, off, none⟩ ∧ ∀ i, i < len → OpAt w b (off + i * 4) (f i)

theorem OpAt.below {B : Nat} {w w' : World} {b off : Nat} {o : OpD} (h : OpAt w b off o) (k : Below B w w') (hB : w.heap.size ≤ B) : OpAt w' b off o := by
  have hb : b < B := Nat.lt_of_lt_of_le (World.block_lt_of_cell? w _ h.c0) hB
  exact ⟨(k.cell hb).trans h.c0, (k.cell hb).trans h.c1, (k.cell hb).trans h.c2, (k.cell hb).trans h.c3, h.wf⟩
theorem OpAt.kept {w w' : World} {b off : Nat} {o : OpD} (h : OpAt w b off o) (k : Kept (fun _ => False) w w') : OpAt w' b off o := h.below (k.below (Nat.le_refl _) (fun _ _ f => f)) (Nat.le_refl _)

section
variable {H : Type} {enc : TypeId × Value → H} {w : World}

theorem Try.cellsOp : Try.prog.cellsOf 32 = 4 := by kernel_rfl
theorem Try.bytesOp : Try.prog.bytesOf 32 = 32 := by kernel_rfl
theorem Try.cells_bool : Try.prog.cellsOf 4 = 1 := by kernel_rfl
theorem Try.cells_int : Try.prog.cellsOf 3 = 1 := by kernel_rfl
theorem Try.cells_i64 : Try.prog.cellsOf 2 = 1 := by kernel_rfl

def OpD.zero : OpD := ⟨false, 0, 0, 0⟩

set_option maxRecDepth 100000 in
theorem open_op {fuel : Nat} {cs : List Value} {x : DataW H × List MemPlace} (h : DataW.trod enc Try.prog w 0 (fun _ => true) true fuel 32 cs = some x) :
    ∃ o : OpD, (Lit.int .i64 o.k).wf = true ∧ cs = [.bool o.other, .int .i64 o.kind, .int .i64 o.k, .int .i64 o.v] := by
  obtain ⟨xs, n, _, rfl, hl, hlen, hf⟩ := DataW.trod_struct Try.underlying32 h
  rw [Try.cellsOp] at hl
  match cs, hl with
  | [v0, v1, v2, v3], _ =>
    match xs, hlen with
    | [y0, y1, y2, y3], _ =>
      have g0 := hf 0 _ rfl
      have g1 := hf 1 _ rfl
      have g2 := hf 2 _ rfl
      have g3 := hf 3 _ rfl
      simp [Try.cells_bool, Try.cells_int, Try.cells_i64] at g0 g1 g2 g3
      obtain ⟨b0, e0, _⟩ := DataW.trod_bool Try.underlying4 g0
      obtain ⟨b1, e1, _, _⟩ := DataW.trod_int Try.underlying3 g1
      obtain ⟨b2, e2, _, wf2⟩ := DataW.trod_int Try.underlying3 g2
      obtain ⟨b3, e3, _, _⟩ := DataW.trod_int Try.underlying2 g3
      simp only [List.cons.injEq, and_true] at e0 e1 e2 e3
      subst e0 e1 e2 e3
      exact ⟨⟨b0, b1, b2, b3⟩, wf2, rfl⟩

set_option maxRecDepth 100000 in
/-- What is known of a list that came in: it is empty, or its reading has so many parts; so many bytes, if the reach holds. -/
theorem open_script {a : Option Addr} {len cap : Nat} {d : DataW H} {p : List MemPlace} (h : DataW.Trod enc Try.prog w 0 (fun _ => true) true 22 (.slice a len cap) d p) :
    ∃ f : Nat → OpD, ScriptAt w a len f ∧ (len = 0 ∨ ∃ es sp, d = .slice es sp ∧ es.length = len) ∧ ((∀ n ∈ d.weights Try.prog 22, n ≤ reachBytes) → len * 32 ≤ 140737488351232) := by
  obtain ⟨fuel, hf⟩ := h
  by_cases h0 : len = 0
  · exact ⟨fun _ => .zero, .inl h0, .inl h0, fun _ => by omega⟩
  rcases open_slice Try.underlying22 hf with ⟨hcs, _⟩ | ⟨a', len', cap', m, n, D, Pl, hcs, _, hl, hm, hmm, hx, hcell⟩
  · simp [Value.cells] at hcs
    omega
  · simp [Value.cells] at hcs
    obtain ⟨rfl, rfl, rfl⟩ := hcs
    simp only [if_true] at hmm
    subst hmm
    simp only [Prod.mk.injEq] at hx
    obtain ⟨hd, _⟩ := hx
    have hsl : ∃ es sp, d = .slice es sp ∧ es.length = len := ⟨_, _, hd, by simp⟩
    have hreach : (∀ n ∈ d.weights Try.prog 22, n ≤ reachBytes) → len * 32 ≤ 140737488351232 := by
      intro hz
      have := hz ((len + (m - len)) * 32) (by
        rw [hd]
        simp [DataW.weights, Try.underlying22, Try.bytesOp])
      simp only [reachBytes] at this
      omega
    obtain ⟨cs0, hc0, _⟩ := hcell 0 (by omega)
    rw [Try.cellsOp] at hc0
    have hs := (World.cells?_some hc0)
    obtain ⟨b, off, spot⟩ := a'
    have h00 := hs.2.2 0 (by omega)
    rw [List.getElem?_eq_getElem (by omega)] at h00
    have hspot : spot = none := by simpa [Addr.add] using World.cell?_spot h00
    subst hspot
    have hall : ∀ i, i < len → ∃ o : OpD, OpAt w b (off + i * 4) o := by
      intro i hi
      obtain ⟨cs, hc, ht⟩ := hcell i (by omega)
      rw [Try.cellsOp] at hc
      obtain ⟨o, hwf, rfl⟩ := open_op ht
      have hcc := (World.cells?_some hc).2.2
      have eadd : ∀ j, ((⟨b, off, none⟩ : Addr).add (i * 4)).add j = ⟨b, off + i * 4 + j, none⟩ := by
        intro j
        unfold Addr.add
        split <;> split <;> simp_all
      have c0 := hcc 0 (by omega)
      have c1 := hcc 1 (by omega)
      have c2 := hcc 2 (by omega)
      have c3 := hcc 3 (by omega)
      rw [eadd] at c0 c1 c2 c3
      exact ⟨o, c0, c1, c2, c3, hwf⟩
    obtain ⟨f, hff⟩ := @choose_lt OpD ⟨.zero⟩ len (fun i o => OpAt w b (off + i * 4) o) hall
    exact ⟨f, .inr ⟨b, off, rfl, hff⟩, .inr hsl, hreach⟩
end
end Go.Proofs.Ytoejhbecogmdbaa
