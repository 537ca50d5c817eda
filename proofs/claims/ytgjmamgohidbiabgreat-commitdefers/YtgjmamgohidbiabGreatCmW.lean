/- Configs and writes by raw numbers. -/
import Derived.Test.YtgjmamgohidbiabGreatCmV
namespace Go.Proofs.YtgjmamgohidbiabGreat
open Go.RowKit
set_option linter.unusedVariables false
set_option linter.unusedSimpArgs false
attribute [local go_sem ↓] Go.wp_at_zero Go.wp_at_succ

theorem and127 (z : Int) : bits .and .i64 z 127 = z % 128 := and_mask z 7 (by decide)
theorem and63 (z : Int) : bits .and .i64 z 63 = z % 64 := and_mask z 6 (by decide)
/-- One of 64 cells and 8 slots. -/
def cfgOf (tag bits bias most : Int) : Cfg := ⟨64, 8, 1 + bits % 128, 1 + (tag % 4) % 3, bias % 8, most % 64⟩
theorem cfgOf_fits (tag bits bias most : Int) : (cfgOf tag bits bias most).fits = true := by
  simp only [Cfg.fits, cfgOf, Bool.and_eq_true, inR_iff]
  omega
theorem cfgOf_live (tag bits bias most : Int) : LiveOk (cfgOf tag bits bias most) := ⟨cfgOf_fits .., rfl, rfl, rfl⟩
set_option maxRecDepth 100000 in
set_option maxHeartbeats 1000000 in
theorem config_any (tag bits bias most : Int) (w : World) : Calls Tryz.prog 5 #[.int .i64 tag, .int .i64 bits, .int .i64 bias, .int .i64 most] w fun e w' => e = .returned (cfgOf tag bits bias most).val ∧ Kept (fun _ => False) w w' := by
  have m1 := and127 bits
  have m2 := and3 tag
  have m3 := and7 bias
  have m4 := and63 most
  have b1 : 0 ≤ bits % 128 ∧ bits % 128 < 128 := by omega
  have b2 : 0 ≤ tag % 4 ∧ tag % 4 < 4 := by omega
  have b3 : 0 ≤ bias % 8 ∧ bias % 8 < 8 := by omega
  have b4 : 0 ≤ most % 64 ∧ most % 64 < 64 := by omega
  unfold cfgOf Cfg.val
  simp only
  generalize bits % 128 = x1 at *
  generalize tag % 4 = x2 at *
  generalize bias % 8 = x3 at *
  generalize most % 64 = x4 at *
  obtain ⟨b11, b12⟩ := b1
  obtain ⟨b21, b22⟩ := b2
  have h3 : Int.tmod x2 3 = x2 % 3 := Int.tmod_eq_emod_of_nonneg b21
  have b5 : 0 ≤ x2 % 3 ∧ x2 % 3 < 3 := by omega
  obtain ⟨b51, b52⟩ := b5
  generalize x2 % 3 = x5 at *
  have k0 := kept_alloc w (.cells #[.int .i64 64, .int .i64 8, .int .i64 (1 + x1), .int .i64 (1 + x5), .int .i64 x3, .int .i64 x4] 24)
  go_enter Tryz.func5, Tryz.ntmps5
  have hw := heap_alloc_new w (.cells #[.int .i64 64, .int .i64 8, .int .i64 (1 + x1), .int .i64 (1 + x5), .int .i64 x3, .int .i64 x4] 24)
  go_wp2_with (simp only [m1, m2, m3, m4])
  exact bodyPost_ret (v := .agg #[.int .i64 64, .int .i64 8, .int .i64 (1 + x1), .int .i64 (1 + x5), .int .i64 x3, .int .i64 x4]) (by simp [results, Tryz.results5, go_sem]) rfl ⟨rfl, k0⟩

/-- Unlike cells of a space of 64. -/
structure WPart (ps : List Pr) : Prop where
  n : ps.length ≤ 16
  r : ∀ p, p ∈ ps → 0 ≤ p.ce ∧ p.ce < 64
  u : (cesOf ps).Nodup
theorem WPart.nil : WPart [] := ⟨by simp, fun p h => absurd h (List.not_mem_nil), List.nodup_nil⟩
theorem WPart.push {ps : List Pr} (h : WPart ps) (hn : ps.length < 16) {k : Nat} (hk : k < 64) (hc : (cesOf ps).contains (k : Int) = false) (x : Int) : WPart (ps ++ [⟨k, x⟩]) := by
  refine ⟨by simp; omega, fun p hp => ?_, ?_⟩
  · rcases List.mem_append.1 hp with hp | hp
    · exact h.r p hp
    · simp at hp
      subst hp
      exact ⟨by simp, by simp; omega⟩
  · unfold cesOf
    rw [List.map_append, List.nodup_append]
    refine ⟨h.u, by simp, ?_⟩
    intro a ha b hb e
    simp at hb
    subst hb
    subst e
    have := List.contains_iff_mem.2 ha
    rw [show (List.map Pr.ce ps) = cesOf ps from rfl, hc] at this
    cases this
theorem cesOf_nodup_twice {zs : List Int} (h : zs.Nodup) : twiceB zs = false := by
  unfold twiceB
  rw [List.any_eq_false]
  intro i hi
  simp only [List.mem_range] at hi
  rw [Bool.not_eq_true, ← Bool.not_eq_true, List.contains_iff_mem]
  intro hm
  rw [List.getD_eq_getElem?_getD, List.getElem?_eq_getElem hi, Option.getD_some] at hm
  obtain ⟨j, hj, e⟩ := List.getElem_of_mem hm
  have hj2 : j < i := by simp at hj; omega
  rw [List.getElem_take] at e
  have hp := List.pairwise_iff_getElem.1 h j i (by omega) hi hj2
  exact hp e
theorem WPart.ck {ps : List Pr} (h : WPart ps) (h1 : ps ≠ []) (tag bits bias most : Int) : ckE (cfgOf tag bits bias most) (0 : Nat) 1 5 ps = 0 := by
  have ho : outC 64 (cesOf ps) = false := by
    unfold outC
    rw [List.any_eq_false]
    intro c hc
    obtain ⟨p, hp, rfl⟩ := List.mem_map.1 hc
    have := h.r p hp
    simp [inC]
    omega
  have ht := cesOf_nodup_twice h.u
  have hn := h.n
  unfold ckE
  rw [if_neg (by decide), if_neg (by decide), if_neg h1, if_neg (by omega), if_neg (by simp [inC, cfgOf])]
  unfold cellsE
  rw [show (cfgOf tag bits bias most).ce = 64 from rfl, ho, ht]
  rfl
def hasL (ps : List Pr) : List Value := (List.range 64).map fun k => .bool ((cesOf ps).contains ((k : Nat) : Int))
theorem hasL_at (ps : List Pr) {k : Nat} (hk : k < 64) : (hasL ps)[k]? = some (.bool ((cesOf ps).contains (k : Int))) := by simp [hasL, hk]
theorem hasL_set (ps : List Pr) {k : Nat} (hk : k < 64) (x : Int) : (hasL ps).set k (.bool true) = hasL (ps ++ [⟨k, x⟩]) := by
  apply List.ext_getElem?
  intro j
  rw [List.getElem?_set]
  by_cases hj : j < 64
  · by_cases e : k = j
    · subst e
      simp [hasL, hk, cesOf]
    · have e' : ¬ ((j : Nat) : Int) = (k : Int) := by omega
      simp [hasL, hj, e, cesOf, e']
  · by_cases e : k = j
    · omega
    · simp [hasL, hj, e]
end Go.Proofs.YtgjmamgohidbiabGreat
