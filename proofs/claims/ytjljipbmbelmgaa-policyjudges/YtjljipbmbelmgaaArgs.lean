/- A config, an event, a list of numbers that came in. -/
import Derived.Test.YtjljipbmbelmgaaVt
import Derived.ProofKit
import Derived.Deep.Slices
import Derived.OpenShut
import Derived.SizedLaws
namespace Go.Proofs.Ytjljipbmbelmgaa
open Go.RowKit Go.ChangeShapes Go.WideShapes Go.Deep
set_option linter.unusedVariables false
set_option linter.unusedSimpArgs false
section
variable {H : Type} {enc : TypeId × Value → H} {w : World}

theorem Try.cellsA_int : Try.prog.cellsOf 3 = 1 := by kernel_rfl
theorem Try.cellsA_i64 : Try.prog.cellsOf 2 = 1 := by kernel_rfl
theorem Try.cellsA_bool : Try.prog.cellsOf 4 = 1 := by kernel_rfl
theorem Try.cellsA_errno : Try.prog.cellsOf 27 = 1 := by kernel_rfl
theorem Try.cellsA_cfg : Try.prog.cellsOf 23 = 6 := by kernel_rfl
set_option maxRecDepth 100000 in
theorem arg_cfg {b0 : Nat} {v : Value} {d : DataW H} {p : List MemPlace} (hv : Value.okWide Try.prog w .any b0 23 v) (h : DataW.Trod enc Try.prog w 0 (fun _ => true) true 23 v d p) : ∃ c : Cfg, v = c.val := by
  obtain ⟨cs, rfl, hsz⟩ := okWide_struct Try.underlying23 hv
  obtain ⟨fuel, h⟩ := h
  rw [Try.cellsA_cfg] at hsz
  simp only [Value.cells] at h
  obtain ⟨l⟩ := cs
  simp only [List.size_toArray] at hsz
  obtain ⟨xs, n, _, _, hl, hlen, hf⟩ := DataW.trod_struct Try.underlying23 h
  match l, hsz with
  | [v0, v1, v2, v3, v4, v5], _ =>
    match xs, hlen with
    | [y0, y1, y2, y3, y4, y5], _ =>
      have g0 := hf 0 _ rfl
      have g1 := hf 1 _ rfl
      have g2 := hf 2 _ rfl
      have g3 := hf 3 _ rfl
      have g4 := hf 4 _ rfl
      have g5 := hf 5 _ rfl
      simp [Try.cellsA_int] at g0 g1 g2 g3 g4 g5
      obtain ⟨b0, e0, _, _⟩ := DataW.trod_int Try.underlying3 g0
      obtain ⟨b1, e1, _, _⟩ := DataW.trod_int Try.underlying3 g1
      obtain ⟨b2, e2, _, _⟩ := DataW.trod_int Try.underlying3 g2
      obtain ⟨b3, e3, _, _⟩ := DataW.trod_int Try.underlying3 g3
      obtain ⟨b4, e4, _, _⟩ := DataW.trod_int Try.underlying3 g4
      obtain ⟨b5, e5, _, _⟩ := DataW.trod_int Try.underlying3 g5
      simp only [List.cons.injEq, and_true] at e0 e1 e2 e3 e4 e5
      subst e0 e1 e2 e3 e4 e5
      exact ⟨⟨b0, b1, b2, b3, b4, b5⟩, rfl⟩
theorem Try.bytes_i64 : Try.prog.bytesOf 2 = 8 := by kernel_rfl
end
end Go.Proofs.Ytjljipbmbelmgaa
