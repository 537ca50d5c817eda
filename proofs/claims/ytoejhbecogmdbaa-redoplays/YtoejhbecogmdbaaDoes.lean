/- A step of the script over a log and the document's: all kinds but the list of keys. -/
import Derived.Test.YtoejhbecogmdbaaUp
import Derived.Deep.Cut
namespace Go.Proofs.Ytoejhbecogmdbaa
open Go.RowKit
set_option linter.unusedVariables false
set_option linter.unusedSimpArgs false

abbrev logA (p : Nat) (most : Int) (v : Value) (bm : Nat) (ps : List (Value × Value)) : It := logI Try.prog 70 76 2 3 OKi p most v bm ps
/-- A log and the document's, alike. -/
def Both (o : World) (its : List It) (i j p q : Nat) (most : Int) (bm : Nat) (w : World) : Prop :=
  ∃ v kv vv ps, St o ((its.set i (logA p most v bm ps)).set j (refI q most kv vv ps)) w
theorem both_back {o w : World} {its : List It} {i j p q : Nat} {most : Int} {v : Value} {bm : Nat} {kv vv : Value} {ps : List (Value × Value)} (hi : its[i]? = some (logA p most v bm ps)) (hj : its[j]? = some (refI q most kv vv ps)) (h : St o its w) : Both o its i j p q most bm w :=
  ⟨v, kv, vv, ps, by rw [set_back hi, set_back hj]; exact h⟩

section
variable {o w : World} {its : List It} {i j p q : Nat} {most : Int} {v : Value} {bm : Nat} {kv vv : Value} {ps : List (Value × Value)}
set_option maxRecDepth 100000 in
set_option maxHeartbeats 2000000 in
theorem does_put (hS : St o its w) (hi : its[i]? = some (logA p most v bm ps)) (hj : its[j]? = some (refI q most kv vv ps)) (hij : i ≠ j) (other : Bool) (k x : Int) (hwf : (Lit.int .i64 k).wf = true) :
    Calls Try.prog 8 #[.pointer (some ⟨p, 0, none⟩), .pointer (some ⟨q, 0, none⟩), .agg #[.bool other, .int .i64 1, .int .i64 k, .int .i64 x]] w fun e w' => e = .returned (.bool true) ∧ Both o its i j p q most bm w' := by
  have hS0 := hS.box #[.bool other, .int .i64 1, .int .i64 k, .int .i64 x] 32
  clear hS
  go_enter Try.func8, Try.ntmps8
  go_upto_region 1 with fail
  generalize w.alloc (.cells #[.bool other, .int .i64 1, .int .i64 k, .int .i64 x] 32) = W0 at *
  generalize w.heap.size = B at *
  have a1 : W0.cell? ⟨B, 1, none⟩ = some (.int .i64 1) := hS0.cell 0 rfl 1
  have a2 : W0.cell? ⟨B, 2, none⟩ = some (.int .i64 k) := hS0.cell 0 rfl 2
  have a3 : W0.cell? ⟨B, 3, none⟩ = some (.int .i64 x) := hS0.cell 0 rfl 3
  rcases there_or ps (.int .i64 k) with ⟨a, u, ha⟩ | hn
  · skip
    go_wp2_with fail
    refine (putA_old (hS0.get (i + 1) hi) ha x).mono ?_
    rintro e w1 ⟨rfl, hT⟩
    obtain ⟨v1, hS1⟩ := hS0.turn (i + 1) hi hT
    simp only [List.set_cons_succ] at hS1
    clear hT hS0
    have b2 : w1.cell? ⟨B, 2, none⟩ = some (.int .i64 k) := hS1.cell 0 rfl 2
    have b3 : w1.cell? ⟨B, 3, none⟩ = some (.int .i64 x) := hS1.cell 0 rfl 3
    go_wp2_with fail
    refine (putR_old (hS1.get (j + 1) (set_other hj hij)) ha x).mono ?_
    rintro e w2 ⟨rfl, hT⟩
    obtain ⟨kv1, vv1, hS2⟩ := hS1.rturn (j + 1) (set_other hj hij) hT
    simp only [List.set_cons_succ] at hS2
    have HR := hS2.pop
    clear hT hS1 hS2 ha
    go_wp2
    go_ret
    exact ⟨rfl, v1, kv1, vv1, _, HR⟩
  · have hfit := (show LogA W0 p most v bm ps from hS0.get (i + 1) hi).fits
    by_cases hf : (ps.length : Int) = most
    · skip
      go_wp2_with fail
      refine (putA_full (hS0.get (i + 1) hi) hwf hn hf x).mono ?_
      rintro e w1 ⟨rfl, hT⟩
      have hS1 := hS0.calm hT
      clear hT hS0
      have b2 : w1.cell? ⟨B, 2, none⟩ = some (.int .i64 k) := hS1.cell 0 rfl 2
      have b3 : w1.cell? ⟨B, 3, none⟩ = some (.int .i64 x) := hS1.cell 0 rfl 3
      go_wp2_with fail
      refine (putR_full (hS1.get (j + 1) hj) hn hf x).mono ?_
      rintro e w2 ⟨rfl, hT⟩
      have HR := both_back hi hj (hS1.calm hT).pop
      clear hT hS1 hn hf hfit
      go_wp2
      go_ret
      exact ⟨rfl, HR⟩
    · have hlt : (ps.length : Int) < most := by omega
      go_wp2_with fail
      refine (putA_new (hS0.get (i + 1) hi) hwf hn hlt x).mono ?_
      rintro e w1 ⟨rfl, hT⟩
      obtain ⟨v1, hS1⟩ := hS0.turn (i + 1) hi hT
      simp only [List.set_cons_succ] at hS1
      clear hT hS0
      have b2 : w1.cell? ⟨B, 2, none⟩ = some (.int .i64 k) := hS1.cell 0 rfl 2
      have b3 : w1.cell? ⟨B, 3, none⟩ = some (.int .i64 x) := hS1.cell 0 rfl 3
      go_wp2_with fail
      refine (putR_new (hS1.get (j + 1) (set_other hj hij)) hwf hn hlt x).mono ?_
      rintro e w2 ⟨rfl, hT⟩
      obtain ⟨kv1, vv1, hS2⟩ := hS1.rturn (j + 1) (set_other hj hij) hT
      simp only [List.set_cons_succ] at hS2
      have HR := hS2.pop
      clear hT hS1 hS2 hn hf hfit hlt
      go_wp2
      go_ret
      exact ⟨rfl, v1, kv1, vv1, _, HR⟩
set_option maxRecDepth 100000 in
set_option maxHeartbeats 2000000 in
theorem does_get (hS : St o its w) (hi : its[i]? = some (logA p most v bm ps)) (hj : its[j]? = some (refI q most kv vv ps)) (hij : i ≠ j) (other : Bool) (k x : Int) (hwf : (Lit.int .i64 k).wf = true) :
    Calls Try.prog 8 #[.pointer (some ⟨p, 0, none⟩), .pointer (some ⟨q, 0, none⟩), .agg #[.bool other, .int .i64 2, .int .i64 k, .int .i64 x]] w fun e w' => e = .returned (.bool true) ∧ Both o its i j p q most bm w' := by
  have hS0 := hS.box #[.bool other, .int .i64 2, .int .i64 k, .int .i64 x] 32
  clear hS
  go_enter Try.func8, Try.ntmps8
  go_upto_region 1 with fail
  generalize w.alloc (.cells #[.bool other, .int .i64 2, .int .i64 k, .int .i64 x] 32) = W0 at *
  generalize w.heap.size = B at *
  have a1 : W0.cell? ⟨B, 1, none⟩ = some (.int .i64 2) := hS0.cell 0 rfl 1
  have a2 : W0.cell? ⟨B, 2, none⟩ = some (.int .i64 k) := hS0.cell 0 rfl 2
  have a3 : W0.cell? ⟨B, 3, none⟩ = some (.int .i64 x) := hS0.cell 0 rfl 3
  rcases there_or ps (.int .i64 k) with ⟨a, u, ha⟩ | hn
  · obtain ⟨y, hy⟩ := (show RefAt W0 q most kv vv ps from hS0.get (j + 1) hj).vals _ (List.mem_of_getElem? ha)
    simp only at hy
    subst hy
    go_wp2_with fail
    refine (getA_at (hS0.get (i + 1) hi) ha).mono ?_
    rintro e w1 ⟨rfl, hT⟩
    have hS1 := hS0.calm hT
    clear hT hS0
    have b2 : w1.cell? ⟨B, 2, none⟩ = some (.int .i64 k) := hS1.cell 0 rfl 2
    have b3 : w1.cell? ⟨B, 3, none⟩ = some (.int .i64 x) := hS1.cell 0 rfl 3
    go_wp2_with fail
    refine (getR_at (hS1.get (j + 1) hj) ha).mono ?_
    rintro e w2 ⟨rfl, rfl⟩
    have HR := both_back hi hj hS1.pop
    clear hS1 ha
    go_wp2
    go_ret
    exact ⟨rfl, HR⟩
  · skip
    go_wp2_with fail
    refine (getA_no (hS0.get (i + 1) hi) hwf hn).mono ?_
    rintro e w1 ⟨rfl, hT⟩
    have hS1 := hS0.calm hT
    clear hT hS0
    have b2 : w1.cell? ⟨B, 2, none⟩ = some (.int .i64 k) := hS1.cell 0 rfl 2
    have b3 : w1.cell? ⟨B, 3, none⟩ = some (.int .i64 x) := hS1.cell 0 rfl 3
    go_wp2_with fail
    refine (getR_no (hS1.get (j + 1) hj) hn).mono ?_
    rintro e w2 ⟨rfl, rfl⟩
    have HR := both_back hi hj hS1.pop
    clear hS1 hn
    go_wp2
    go_ret
    exact ⟨rfl, HR⟩
set_option maxRecDepth 100000 in
set_option maxHeartbeats 2000000 in
theorem does_at (hS : St o its w) (hi : its[i]? = some (logA p most v bm ps)) (hj : its[j]? = some (refI q most kv vv ps)) (hij : i ≠ j) (other : Bool) (k x : Int) :
    Calls Try.prog 8 #[.pointer (some ⟨p, 0, none⟩), .pointer (some ⟨q, 0, none⟩), .agg #[.bool other, .int .i64 3, .int .i64 k, .int .i64 x]] w fun e w' => e = .returned (.bool true) ∧ Both o its i j p q most bm w' := by
  have hS0 := hS.box #[.bool other, .int .i64 3, .int .i64 k, .int .i64 x] 32
  clear hS
  go_enter Try.func8, Try.ntmps8
  go_upto_region 1 with fail
  generalize w.alloc (.cells #[.bool other, .int .i64 3, .int .i64 k, .int .i64 x] 32) = W0 at *
  generalize w.heap.size = B at *
  have a1 : W0.cell? ⟨B, 1, none⟩ = some (.int .i64 3) := hS0.cell 0 rfl 1
  have a2 : W0.cell? ⟨B, 2, none⟩ = some (.int .i64 k) := hS0.cell 0 rfl 2
  have a3 : W0.cell? ⟨B, 3, none⟩ = some (.int .i64 x) := hS0.cell 0 rfl 3
  by_cases hk : 0 ≤ k ∧ k < ps.length
  · obtain ⟨n, rfl⟩ := Int.eq_ofNat_of_zero_le hk.1
    have hx : ps[n]? = some ps[n] := List.getElem?_eq_getElem (by omega)
    obtain ⟨kc, hkc, hwf⟩ := (show RefAt W0 q most kv vv ps from hS0.get (j + 1) hj).keys _ (List.mem_of_getElem? hx)
    obtain ⟨y, hy⟩ := (show RefAt W0 q most kv vv ps from hS0.get (j + 1) hj).vals _ (List.mem_of_getElem? hx)
    have hx : ps[n]? = some (.int .i64 kc, .int .i64 y) := by rw [hx, ← hkc, ← hy]
    clear hkc hy
    go_wp2_with fail
    refine (atA_ok (hS0.get (i + 1) hi) hx ⟨kc, rfl, hwf⟩).mono ?_
    rintro e w1 ⟨rfl, hT⟩
    have hS1 := hS0.calm hT
    clear hT hS0
    have b2 : w1.cell? ⟨B, 2, none⟩ = some (.int .i64 (n : Int)) := hS1.cell 0 rfl 2
    have b3 : w1.cell? ⟨B, 3, none⟩ = some (.int .i64 x) := hS1.cell 0 rfl 3
    go_wp2_with fail
    refine (atR_ok (hS1.get (j + 1) hj) hx).mono ?_
    rintro e w2 ⟨rfl, hT⟩
    have HR := both_back hi hj (hS1.calm hT).pop
    clear hT hS1 hx
    go_wp2
    go_ret
    exact ⟨rfl, HR⟩
  · skip
    go_wp2_with fail
    refine (atA_no (hS0.get (i + 1) hi) hk).mono ?_
    rintro e w1 ⟨rfl, hT⟩
    have hS1 := hS0.calm hT
    clear hT hS0
    have b2 : w1.cell? ⟨B, 2, none⟩ = some (.int .i64 k) := hS1.cell 0 rfl 2
    have b3 : w1.cell? ⟨B, 3, none⟩ = some (.int .i64 x) := hS1.cell 0 rfl 3
    go_wp2_with fail
    refine (atR_no (hS1.get (j + 1) hj) hk).mono ?_
    rintro e w2 ⟨rfl, rfl⟩
    have HR := both_back hi hj hS1.pop
    clear hS1 hk
    go_wp2
    go_ret
    exact ⟨rfl, HR⟩
set_option maxRecDepth 100000 in
set_option maxHeartbeats 2000000 in
theorem does_drop (hS : St o its w) (hi : its[i]? = some (logA p most v bm ps)) (hj : its[j]? = some (refI q most kv vv ps)) (hij : i ≠ j) (other : Bool) (k x : Int) (hwf : (Lit.int .i64 k).wf = true) :
    Calls Try.prog 8 #[.pointer (some ⟨p, 0, none⟩), .pointer (some ⟨q, 0, none⟩), .agg #[.bool other, .int .i64 4, .int .i64 k, .int .i64 x]] w fun e w' => e = .returned (.bool true) ∧ Both o its i j p q most bm w' := by
  have hS0 := hS.box #[.bool other, .int .i64 4, .int .i64 k, .int .i64 x] 32
  clear hS
  go_enter Try.func8, Try.ntmps8
  go_upto_region 1 with fail
  generalize w.alloc (.cells #[.bool other, .int .i64 4, .int .i64 k, .int .i64 x] 32) = W0 at *
  generalize w.heap.size = B at *
  have a1 : W0.cell? ⟨B, 1, none⟩ = some (.int .i64 4) := hS0.cell 0 rfl 1
  have a2 : W0.cell? ⟨B, 2, none⟩ = some (.int .i64 k) := hS0.cell 0 rfl 2
  have a3 : W0.cell? ⟨B, 3, none⟩ = some (.int .i64 x) := hS0.cell 0 rfl 3
  rcases there_or ps (.int .i64 k) with ⟨a, u, ha⟩ | hn
  · skip
    go_wp2_with fail
    refine (dropA_at (hS0.get (i + 1) hi) ha).mono ?_
    rintro e w1 ⟨rfl, hT⟩
    obtain ⟨v1, hS1⟩ := hS0.turn (i + 1) hi hT
    simp only [List.set_cons_succ] at hS1
    clear hT hS0
    have b2 : w1.cell? ⟨B, 2, none⟩ = some (.int .i64 k) := hS1.cell 0 rfl 2
    have b3 : w1.cell? ⟨B, 3, none⟩ = some (.int .i64 x) := hS1.cell 0 rfl 3
    go_wp2_with fail
    refine (dropR_at (hS1.get (j + 1) (set_other hj hij)) ha).mono ?_
    rintro e w2 ⟨rfl, hT⟩
    obtain ⟨kv1, vv1, hS2⟩ := hS1.rturn (j + 1) (set_other hj hij) hT
    simp only [List.set_cons_succ] at hS2
    have HR := hS2.pop
    clear hT hS1 hS2 ha
    go_wp2
    go_ret
    exact ⟨rfl, v1, kv1, vv1, _, HR⟩
  · skip
    go_wp2_with fail
    refine (dropA_no (hS0.get (i + 1) hi) hwf hn).mono ?_
    rintro e w1 ⟨rfl, hT⟩
    have hS1 := hS0.calm hT
    clear hT hS0
    have b2 : w1.cell? ⟨B, 2, none⟩ = some (.int .i64 k) := hS1.cell 0 rfl 2
    have b3 : w1.cell? ⟨B, 3, none⟩ = some (.int .i64 x) := hS1.cell 0 rfl 3
    go_wp2_with fail
    refine (dropR_no (hS1.get (j + 1) hj) hn).mono ?_
    rintro e w2 ⟨rfl, rfl⟩
    have HR := both_back hi hj hS1.pop
    clear hS1 hn
    go_wp2
    go_ret
    exact ⟨rfl, HR⟩
set_option maxRecDepth 100000 in
set_option maxHeartbeats 2000000 in
theorem does_clear (hS : St o its w) (hi : its[i]? = some (logA p most v bm ps)) (hj : its[j]? = some (refI q most kv vv ps)) (hij : i ≠ j) (other : Bool) (k x : Int) :
    Calls Try.prog 8 #[.pointer (some ⟨p, 0, none⟩), .pointer (some ⟨q, 0, none⟩), .agg #[.bool other, .int .i64 5, .int .i64 k, .int .i64 x]] w fun e w' => e = .returned (.bool true) ∧ Both o its i j p q most bm w' := by
  have hS0 := hS.box #[.bool other, .int .i64 5, .int .i64 k, .int .i64 x] 32
  clear hS
  go_enter Try.func8, Try.ntmps8
  go_upto_region 1 with fail
  generalize w.alloc (.cells #[.bool other, .int .i64 5, .int .i64 k, .int .i64 x] 32) = W0 at *
  generalize w.heap.size = B at *
  have a1 : W0.cell? ⟨B, 1, none⟩ = some (.int .i64 5) := hS0.cell 0 rfl 1
  have a2 : W0.cell? ⟨B, 2, none⟩ = some (.int .i64 k) := hS0.cell 0 rfl 2
  have a3 : W0.cell? ⟨B, 3, none⟩ = some (.int .i64 x) := hS0.cell 0 rfl 3
  go_wp2_with fail
  refine (clearA_any (hS0.get (i + 1) hi)).mono ?_
  rintro e w1 ⟨rfl, hT⟩
  obtain ⟨v1, hS1⟩ := hS0.turn (i + 1) hi hT
  simp only [List.set_cons_succ] at hS1
  clear hT hS0
  have b2 : w1.cell? ⟨B, 2, none⟩ = some (.int .i64 k) := hS1.cell 0 rfl 2
  have b3 : w1.cell? ⟨B, 3, none⟩ = some (.int .i64 x) := hS1.cell 0 rfl 3
  go_wp2_with fail
  refine (clearR_any (hS1.get (j + 1) (set_other hj hij))).mono ?_
  rintro e w2 ⟨rfl, hT⟩
  obtain ⟨kv1, vv1, hS2⟩ := hS1.rturn (j + 1) (set_other hj hij) hT
  simp only [List.set_cons_succ] at hS2
  have HR := hS2.pop
  clear hT hS1 hS2 
  go_wp2
  go_ret
  exact ⟨rfl, v1, kv1, vv1, _, HR⟩
set_option maxRecDepth 100000 in
set_option maxHeartbeats 2000000 in
theorem does_none (hS : St o its w) (hi : its[i]? = some (logA p most v bm ps)) (hj : its[j]? = some (refI q most kv vv ps)) (hij : i ≠ j) (other : Bool) (kind : Int) (k x : Int) (h1 : kind < 1 ∨ 6 < kind) :
    Calls Try.prog 8 #[.pointer (some ⟨p, 0, none⟩), .pointer (some ⟨q, 0, none⟩), .agg #[.bool other, .int .i64 kind, .int .i64 k, .int .i64 x]] w fun e w' => e = .returned (.bool true) ∧ Both o its i j p q most bm w' := by
  have hS0 := hS.box #[.bool other, .int .i64 kind, .int .i64 k, .int .i64 x] 32
  clear hS
  go_enter Try.func8, Try.ntmps8
  go_upto_region 1 with fail
  generalize w.alloc (.cells #[.bool other, .int .i64 kind, .int .i64 k, .int .i64 x] 32) = W0 at *
  generalize w.heap.size = B at *
  have a1 : W0.cell? ⟨B, 1, none⟩ = some (.int .i64 kind) := hS0.cell 0 rfl 1
  have a2 : W0.cell? ⟨B, 2, none⟩ = some (.int .i64 k) := hS0.cell 0 rfl 2
  have a3 : W0.cell? ⟨B, 3, none⟩ = some (.int .i64 x) := hS0.cell 0 rfl 3
  have n1 : (kind == 1) = false := by simp; omega
  have n2 : (kind == 2) = false := by simp; omega
  have n3 : (kind == 3) = false := by simp; omega
  have n4 : (kind == 4) = false := by simp; omega
  have n5 : (kind == 5) = false := by simp; omega
  have n6 : (kind == 6) = false := by simp; omega
  have HR := both_back hi hj hS0.pop
  clear hS0 h1
  go_wp2
  go_ret
  exact ⟨rfl, HR⟩
end
end Go.Proofs.Ytoejhbecogmdbaa
