/- A list of Booleans that came in. -/
import Derived.Test.YtgjmamgohidbiaaGreatPArg
namespace Go.Proofs.YtgjmamgohidbiaaGreat
open Go.RowKit Go.ChangeShapes Go.WideShapes Go.Deep
set_option linter.unusedVariables false
set_option linter.unusedSimpArgs false
def BIn (w : World) (la : Option Addr) (n : Nat) (f : Nat → Bool) : Prop := n = 0 ∨ ∃ b off, la = some ⟨b, off, none⟩ ∧ ∀ i, i < n → w.cell? ⟨b, off + i, none⟩ = some (.bool (f i))
theorem BIn.kept {w w' : World} {la : Option Addr} {n : Nat} {f : Nat → Bool} (h : BIn w la n f) (k : Kept (fun _ => False) w w') : BIn w' la n f := by
  rcases h with h | ⟨b, off, e, h⟩
  · exact .inl h
  · exact .inr ⟨b, off, e, fun i hi => k.cell (h i hi) (fun e => e)⟩
section
variable {H : Type} {enc : TypeId × Value → H} {w : World}
theorem Tryz.cellsB : Tryz.prog.cellsOf 4 = 1 := by kernel_rfl
theorem Tryz.bytesB : Tryz.prog.bytesOf 4 = 1 := by kernel_rfl
set_option maxRecDepth 100000 in
theorem open_bools {fuel : Nat} {v : Value} {x : DataW H × List MemPlace} (h : DataW.trod enc Tryz.prog w 0 (fun _ => true) true fuel 126 [v] = some x) (hz : ∀ n ∈ x.1.weights Tryz.prog 126, n ≤ reachBytes) :
    ∃ la ll lc f, v = .slice la ll lc ∧ BIn w la ll f ∧ ll ≤ lc ∧ lc * 1 ≤ 140737488351232 ∧ (la = none → ll = 0 ∧ lc = 0) := by
  rcases open_slice Tryz.underlying126 h with ⟨hcs, _⟩ | ⟨a', len, cap, m, n, D, Pl, hcs, _, hl, hm, hmm, hx, hcell⟩
  · simp only [List.cons.injEq, and_true] at hcs
    exact ⟨_, _, _, fun _ => false, hcs, .inl rfl, by omega, by omega, fun _ => ⟨rfl, rfl⟩⟩
  · simp only [List.cons.injEq, and_true] at hcs
    simp only [if_true] at hmm
    subst hmm
    subst hx
    have hreach : m * 1 ≤ 140737488351232 := by
      have := hz ((len + (m - len)) * 1) (by
        simp [DataW.weights, Tryz.underlying126, Tryz.bytesB])
      simp only [reachBytes] at this
      omega
    by_cases h0 : len = 0
    · subst h0
      exact ⟨_, _, _, fun _ => false, hcs, .inl rfl, by omega, by omega, fun h => by cases h⟩
    obtain ⟨cs0, hc0, _⟩ := hcell 0 (by omega)
    rw [Tryz.cellsB] at hc0
    have hs := (World.cells?_some hc0)
    obtain ⟨b, off, spot⟩ := a'
    have h00 := hs.2.2 0 (by omega)
    rw [List.getElem?_eq_getElem (by omega)] at h00
    have hspot : spot = none := by simpa [Addr.add] using World.cell?_spot h00
    subst hspot
    have hall : ∀ i, i < len → ∃ t : Bool, w.cell? ⟨b, off + i, none⟩ = some (.bool t) := by
      intro i hi
      obtain ⟨cs, hc, ht⟩ := hcell i (by omega)
      rw [Tryz.cellsB] at hc
      obtain ⟨t, e0, _⟩ := DataW.trod_bool Tryz.underlying4 ht
      subst e0
      have hcc := (World.cells?_some hc).2.2 0 (by omega)
      refine ⟨t, ?_⟩
      have eadd : ((⟨b, off, none⟩ : Addr).add (i * 1)).add 0 = ⟨b, off + i, none⟩ := by
        unfold Addr.add
        split <;> split <;> simp_all
      rw [eadd] at hcc
      simpa using hcc
    obtain ⟨f, hff⟩ := @choose_lt Bool ⟨false⟩ len (fun i t => w.cell? ⟨b, off + i, none⟩ = some (.bool t)) hall
    exact ⟨_, _, _, f, hcs, .inr ⟨b, off, rfl, hff⟩, by omega, by omega, fun h => by cases h⟩
set_option maxRecDepth 100000 in
theorem arg_bools {b0 : Nat} {v : Value} {d : DataW H} {p : List MemPlace} (h : DataW.Trod enc Tryz.prog w 0 (fun _ => true) true 126 v d p) (hv : Value.okWide Tryz.prog w .any b0 126 v) (hz : ∀ n ∈ d.weights Tryz.prog 126, n ≤ reachBytes) :
    ∃ la ll lc f, v = .slice la ll lc ∧ BIn w la ll f ∧ ll ≤ lc ∧ lc * 1 ≤ 140737488351232 ∧ (la = none → ll = 0 ∧ lc = 0) := by
  obtain ⟨a, len, cap, rfl⟩ := okWide_slice Tryz.underlying126 hv
  obtain ⟨fuel, h⟩ := h
  simp only [Value.cells] at h
  exact open_bools h hz
end
end Go.Proofs.YtgjmamgohidbiaaGreat
