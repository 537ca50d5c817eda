/- A word that came in is a number below 2^64. -/
import Derived.Test.YtbbllmhnhhbpiaaDoorSg
import Derived.ProofKit
namespace Go.Proofs.YtbbllmhnhhbpiaaDoor
theorem wf_nat {a : Int} (h : (Lit.int .u64 a).wf = true) : ∃ n : Nat, a = (n : Int) ∧ n < 18446744073709551616 := by
  have h2 : 0 ≤ a ∧ a < 18446744073709551616 := by
    simp only [Lit.wf, decide_eq_true_eq, Bool.and_eq_true] at h
    have m0 : IntKind.u64.min = 0 := by decide
    have m1 : IntKind.u64.max = 18446744073709551615 := by decide
    rw [m0, m1] at h
    omega
  exact ⟨a.toNat, by omega, by omega⟩
end Go.Proofs.YtbbllmhnhhbpiaaDoor
