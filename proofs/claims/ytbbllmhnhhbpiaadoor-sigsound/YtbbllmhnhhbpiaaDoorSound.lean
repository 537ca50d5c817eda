/- Signatures of cells that may be: what they have; numbers cut down to a byte. -/
import Derived.Test.YtbbllmhnhhbpiaaDoorFacts
namespace Go.Proofs.YtbbllmhnhhbpiaaDoor
open Go.RowKit
set_option linter.unusedVariables false
set_option linter.unusedSimpArgs false

theorem and_mask (z : Int) (k : Nat) (hk : k < 63) : bits .and .i64 z ((2 ^ k - 1 : Nat) : Int) = z % ((2 ^ k : Nat) : Int) := by
  show IntKind.i64.wrap ((BitVec.ofInt 64 z &&& BitVec.ofInt 64 ((2 ^ k - 1 : Nat) : Int)).toNat : Int) = _
  have hp : 2 ^ k < 2 ^ 63 := Nat.pow_lt_pow_right (by decide) hk
  have h2 : (BitVec.ofInt 64 ((2 ^ k - 1 : Nat) : Int)).toNat = 2 ^ k - 1 := by
    rw [BitVec.ofInt_natCast, BitVec.toNat_ofNat]; exact Nat.mod_eq_of_lt (by omega)
  rw [BitVec.toNat_and, h2, Nat.and_two_pow_sub_one_eq_mod, BitVec.toNat_ofInt]
  have hpos : 0 < 2 ^ k := Nat.two_pow_pos k
  have hz0 : 0 ≤ z % ((2 ^ k : Nat) : Int) := Int.emod_nonneg _ (by omega)
  have hz1 : z % ((2 ^ k : Nat) : Int) < ((2 ^ k : Nat) : Int) := Int.emod_lt_of_pos _ (by omega)
  have hd : ((2 ^ k : Nat) : Int) ∣ ((2 ^ 64 : Nat) : Int) := Int.natCast_dvd_natCast.2 (Nat.pow_dvd_pow 2 (by omega))
  have e : (((z % ((2 ^ 64 : Nat) : Int)).toNat % 2 ^ k : Nat) : Int) = z % ((2 ^ k : Nat) : Int) := by
    rw [Int.natCast_emod, Int.toNat_of_nonneg (Int.emod_nonneg _ (by decide)), Int.emod_emod_of_dvd _ hd]
  have e2 : (((z % (2 ^ 64 : Nat)).toNat % 2 ^ k : Nat) : Int) = z % ((2 ^ k : Nat) : Int) := e
  rw [e2, IntKind.wrap_i64]
  generalize z % ((2 ^ k : Nat) : Int) = r at hz0 hz1
  generalize 2 ^ k = P at *
  omega
theorem and255 (z : Int) : bits .and .i64 z 255 = z % 256 := and_mask z 8 (by decide)
theorem and127 (z : Int) : bits .and .i64 z 127 = z % 128 := and_mask z 7 (by decide)

/-- Has cell z this bit? -/
def hit (n z : Int) (k : Nat) : Bool := decide (k = (hash1 z n).toNat) || decide (k = (hash2 z n).toNat)
theorem ofGo_valid (n : Int) (hn : 1 ≤ n ∧ n ≤ 128) (l : List Int) (h : ∀ z ∈ l, 0 ≤ z ∧ z < 256) (s : Sg) (hs : s.ok) : ∃ t : Sg, ofGo n l s = (t, 0) ∧ t.ok ∧ ∀ k, k < 128 → t.has k = (s.has k || l.any fun z => hit n z k) := by
  induction l generalizing s with
  | nil => exact ⟨s, rfl, hs, fun k hk => by simp⟩
  | cons c l ih =>
    have hc := h c (List.mem_cons_self ..)
    have hE : hashE c n = 0 := by unfold hashE; rw [if_pos hn, if_pos hc]
    obtain ⟨h1, h2, e1, e2, l1, l2, t1, t2⟩ := hash_in hE
    obtain ⟨t, e, ht, hk⟩ := ih (fun x hx => h x (List.mem_cons_of_mem _ hx)) ((s.put h1).put h2) (Sg.ok_put (Sg.ok_put hs l1) l2)
    refine ⟨t, ?_, ht, fun k hk2 => ?_⟩
    · unfold ofGo
      rw [if_pos hE, t1, t2]
      exact e
    · rw [hk k hk2, Sg.has_put l2 k hk2, Sg.has_put l1 k hk2, List.any_cons]
      have : hit n c k = (decide (k = h1) || decide (k = h2)) := by unfold hit; rw [t1, t2]
      rw [this]
      simp [Bool.or_assoc]

/-- All that SigSound asks, of any cells that may be. -/
theorem sound_facts (n : Int) (hn : 1 ≤ n ∧ n ≤ 128) (xs ys : List Int) (c : Int) (hx : ∀ z ∈ xs, 0 ≤ z ∧ z < 256) (hy : ∀ z ∈ ys, 0 ≤ z ∧ z < 256) (hc : 0 ≤ c ∧ c < 256) :
    ∃ f s t o : Sg, ofR xs n = (f, 0) ∧ ofR (xs ++ [c]) n = (s, 0) ∧ ofR (ys ++ [c]) n = (t, 0) ∧ fromGo [hash1 c n, hash2 c n] Sg.zero = (o, 0) ∧ f.ok ∧ s.ok ∧ t.ok ∧ o.ok ∧
      (!((s.meet t).same Sg.zero)) = true ∧ ((f.join s).same s) = true ∧ ((o.join s).same s) = true ∧ f.join o = s ∧ hashE c n = 0 ∧ 0 ≤ hash1 c n ∧ hash1 c n < n ∧ 0 ≤ hash2 c n ∧ hash2 c n < n := by
  have hE : hashE c n = 0 := by unfold hashE; rw [if_pos hn, if_pos hc]
  have e1 : hash1 c n = hv c 40503 n := by unfold hash1; rw [if_pos hn, if_pos hc]
  have e2 : hash2 c n = hv c 30011 n := by unfold hash2; rw [if_pos hn, if_pos hc]
  have r1 := hv_range c 40503 n hn.1
  have r2 := hv_range c 30011 n hn.1
  rw [← e1] at r1
  rw [← e2] at r2
  have vx : ∀ z ∈ xs ++ [c], 0 ≤ z ∧ z < 256 := fun z hz => by
    rcases List.mem_append.1 hz with h | h
    · exact hx z h
    · rw [List.mem_singleton.1 h]; exact hc
  have vy : ∀ z ∈ ys ++ [c], 0 ≤ z ∧ z < 256 := fun z hz => by
    rcases List.mem_append.1 hz with h | h
    · exact hy z h
    · rw [List.mem_singleton.1 h]; exact hc
  obtain ⟨f, ef, of_, kf⟩ := ofGo_valid n hn xs hx Sg.zero Sg.ok_zero
  obtain ⟨s, es, os, ks⟩ := ofGo_valid n hn _ vx Sg.zero Sg.ok_zero
  obtain ⟨t, et, ot, kt⟩ := ofGo_valid n hn _ vy Sg.zero Sg.ok_zero
  obtain ⟨h1, h2, q1, q2, l1, l2, t1, t2⟩ := hash_in hE
  obtain ⟨o, eo, oo, ko⟩ := fromGo_puts [h1, h2] (fun b hb => by
    simp only [List.mem_cons, List.not_mem_nil, or_false] at hb
    rcases hb with rfl | rfl <;> assumption) Sg.zero Sg.ok_zero
  have hko : ∀ k, k < 128 → o.has k = hit n c k := fun k hk => by
    rw [ko k hk, Sg.has_zero, Bool.false_or]
    unfold hit
    rw [t1, t2]
    simp [List.contains_cons]
  have hks : ∀ k, k < 128 → s.has k = (f.has k || o.has k) := fun k hk => by
    rw [ks k hk, kf k hk, hko k hk, List.any_append]
    simp [Sg.has_zero]
  have hkt : ∀ k, k < 128 → o.has k = true → t.has k = true := fun k hk h => by
    rw [kt k hk, List.any_append]
    rw [hko k hk] at h
    simp [h]
  have o1 : o.has h1 = true := by
    rw [hko h1 l1]; unfold hit; rw [t1]; simp
  refine ⟨f, s, t, o, ?_, ?_, ?_, ?_, of_, os, ot, oo, ?_, ?_, ?_, ?_, hE, r1.1, r1.2, r2.1, r2.2⟩
  · unfold ofR; rw [if_pos hn]; exact ef
  · unfold ofR; rw [if_pos hn]; exact es
  · unfold ofR; rw [if_pos hn]; exact et
  · rw [q1, q2]; exact eo
  · exact meets_yes (j := h1) (by rw [hks h1 l1, o1, hkt h1 l1 o1]; simp)
  · exact within_yes of_ os fun k hk => by rw [hks k hk]; cases f.has k <;> cases o.has k <;> rfl
  · exact within_yes oo os fun k hk => by rw [hks k hk]; cases f.has k <;> cases o.has k <;> rfl
  · exact Sg.ext' (Sg.ok_join of_ oo) os fun k hk => by rw [Sg.has_join, hks k hk]
end Go.Proofs.YtbbllmhnhhbpiaaDoor
