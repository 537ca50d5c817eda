/- A victim, a list of victims that came in. -/
import Derived.Test.YtjljipbmbelmgaaArgs
namespace Go.Proofs.Ytjljipbmbelmgaa
open Go.RowKit Go.ChangeShapes Go.WideShapes Go.Deep
set_option linter.unusedVariables false
set_option linter.unusedSimpArgs false
section
variable {H : Type} {enc : TypeId × Value → H} {w : World}
theorem arg_vics {b0 : Nat} {v : Value} {d : DataW H} {p : List MemPlace} (h : DataW.Trod enc Try.prog w 0 (fun _ => true) true 24 v d p) (hv : Value.okWide Try.prog w .any b0 24 v) (hz : ∀ n ∈ d.weights Try.prog 24, n ≤ reachBytes) :
    ∃ la ll lc zs, v = .slice la ll lc ∧ VIn w la ll zs ∧ ll ≤ lc ∧ lc * 32 ≤ 140737488351232 ∧ (la = none → ll = 0 ∧ lc = 0) := by
  obtain ⟨a, len, cap, rfl⟩ := okWide_slice Try.underlying24 hv
  obtain ⟨fuel, h⟩ := h
  simp only [Value.cells] at h
  exact open_vics h hz
theorem arg_vic {b0 : Nat} {v : Value} {d : DataW H} {p : List MemPlace} (hv : Value.okWide Try.prog w .any b0 46 v) (h : DataW.Trod enc Try.prog w 0 (fun _ => true) true 46 v d p) : ∃ t : Vt, v = t.val := by
  obtain ⟨cs, rfl, hsz⟩ := okWide_struct Try.underlying46 hv
  obtain ⟨fuel, h⟩ := h
  simp only [Value.cells] at h
  obtain ⟨l⟩ := cs
  obtain ⟨t, e⟩ := open_vic h
  simp only at e
  subst e
  exact ⟨t, rfl⟩
end
end Go.Proofs.Ytjljipbmbelmgaa
