/- One slot's life: what each call answers and leaves. -/
import Derived.Test.YthaajlelaoimaaaUp
namespace Go.Proofs.Ythaajlelaoimaaa
open Go.RowKit
set_option linter.unusedVariables false
set_option linter.unusedSimpArgs false

theorem one_E (p : HOp) (h : Hd) (hp : p.pre = 0) : p.E [h] 0 = if p.ok h then 0 else p.ref := by
  simp [HOp.E, hp, headAt]
theorem one_H (p : HOp) (h : Hd) (hp : p.pre = 0) : p.H [h] 0 = if p.ok h then [p.nw h] else [h] := by
  simp [HOp.H, hp, headAt]
/-- By whom a slot may be doomed. -/
def Dm (dm : Bool) (wy : Int) : Prop := (dm = false ∧ wy = 0) ∨ (dm = true ∧ 1 ≤ wy)
theorem live_ok {g p k : Int} {dm : Bool} {wy : Int} (h0 : 0 ≤ g) (h1 : g ≤ 4) (hp : 1 ≤ p) (hk : 1 ≤ k) (hd : Dm dm wy) : HsOk [⟨g, 2, p, k, dm, wy⟩] 4 :=
  ok_one ⟨h0, by simpa using h1, .inr (.inr ⟨rfl, hp, hk, hd⟩)⟩
theorem isTh_of {k : Int} (h0 : 1 ≤ k) (h1 : k ≤ 8) : isTh k = true := by
  simp only [isTh, Bool.and_eq_true, decide_eq_true_eq]; exact ⟨h0, h1⟩
section
variable {o w : World} {ex : List It} {t r c q f : Nat} {ws : List Int}
theorem life_claim {g k : Int} (h : TSt o ex t r c q f 1 [⟨g - 1, 0, 0, 0, false, 0⟩] ws w) (h0 : 1 ≤ g) (h1 : g ≤ 4) (hk0 : 1 ≤ k) (hk1 : k ≤ 8) :
    Calls Try.prog 21 #[.pointer (some ⟨t, 0, none⟩), .int .i64 0, .int .i64 k] w fun e w' => e = .returned (.tuple #[.int .i64 g, .int .i64 0]) ∧ TSt o ex t r c q f 1 [⟨g, 1, 0, k, false, 0⟩] ws w' := by
  have ht := isTh_of hk0 hk1
  have hp : (claimOp k).pre = 0 := by simp [claimOp, ht]
  refine (TSt.claim h (N := 4) (ok_one ⟨by show 0 ≤ g - 1; omega, by show g - 1 ≤ 4; omega, .inl ⟨rfl, rfl, rfl, rfl, rfl⟩⟩) (by omega) 0 k).mono ?_
  rintro e w' ⟨he, hS⟩
  have e1 : (claimOp k).E [⟨g - 1, 0, 0, 0, false, 0⟩] 0 = 0 := by rw [one_E _ _ hp]; rfl
  have e2 : (claimOp k).H [⟨g - 1, 0, 0, 0, false, 0⟩] 0 = [⟨g, 1, 0, k, false, 0⟩] := by
    rw [one_H _ _ hp]
    simp [claimOp]
  have e3 : claimR [⟨g - 1, 0, 0, 0, false, 0⟩] 0 k = g := by
    rw [claimR_eq 0 ht, e1]
    simp [nowAt, headAt]
  rw [e1, e3] at he
  rw [e2] at hS
  exact ⟨he, hS⟩
theorem life_ready {g k p : Int} (h : TSt o ex t r c q f 1 [⟨g, 1, 0, k, false, 0⟩] ws w) (h0 : 1 ≤ g) (h1 : g ≤ 4) (hk0 : 1 ≤ k) (hp0 : 1 ≤ p) :
    Calls Try.prog 22 #[.pointer (some ⟨t, 0, none⟩), .int .i64 0, .int .i64 g, .int .i64 p] w fun e w' => e = .returned (.int .i64 0) ∧ TSt o ex t r c q f 1 [⟨g, 2, p, k, false, 0⟩] ws w' := by
  have hp : (readyOp g p).pre = 0 := by simp [readyOp]; omega
  refine (TSt.ready h (N := 4) (ok_one ⟨by show 0 ≤ g; omega, by show g ≤ 4; omega, .inr (.inl ⟨rfl, rfl, hk0, rfl, rfl⟩)⟩) 0 g p).mono ?_
  rintro e w' ⟨he, hS⟩
  have e1 : (readyOp g p).E [⟨g, 1, 0, k, false, 0⟩] 0 = 0 := by rw [one_E _ _ hp]; simp [readyOp]
  have e2 : (readyOp g p).H [⟨g, 1, 0, k, false, 0⟩] 0 = [⟨g, 2, p, k, false, 0⟩] := by rw [one_H _ _ hp]; simp [readyOp]
  rw [e1] at he
  rw [e2] at hS
  exact ⟨he, hS⟩
theorem life_look {g p k : Int} {dm : Bool} {wy : Int} (h : TSt o ex t r c q f 1 [⟨g, 2, p, k, dm, wy⟩] ws w) :
    Calls Try.prog 26 #[.pointer (some ⟨t, 0, none⟩), .int .i64 0] w fun e w' => e = .returned (.tuple #[.agg #[.int .i64 g, .int .i64 2, .int .i64 p, .int .i64 k, .bool dm, .int .i64 wy], .int .i64 0]) ∧ TSt o ex t r c q f 1 [⟨g, 2, p, k, dm, wy⟩] ws w' := h.look 0
theorem life_doom {g p k : Int} {dm : Bool} {wy : Int} (h : TSt o ex t r c q f 1 [⟨g, 2, p, k, dm, wy⟩] ws w) (h0 : 1 ≤ g) (h1 : g ≤ 4) (hp0 : 1 ≤ p) (hk0 : 1 ≤ k) (hd : Dm dm wy) (x b : Int) (hb0 : 1 ≤ b) (hb1 : b ≤ 8) :
    Calls Try.prog 23 #[.pointer (some ⟨t, 0, none⟩), .int .i64 0, .int .i64 x, .int .i64 b] w fun e w' => e = .returned (.int .i64 (if x = g then 0 else 4)) ∧ TSt o ex t r c q f 1 [⟨g, 2, p, k, if x = g then true else dm, if x = g then (if dm then wy else b) else wy⟩] ws w' := by
  have ht := isTh_of hb0 hb1
  have hp : (doomOp x b).pre = 0 := by simp [doomOp, ht]
  refine (TSt.doom h (live_ok (by omega) h1 hp0 hk0 hd) 0 x b).mono ?_
  rintro e w' ⟨he, hS⟩
  by_cases hx : x = g
  · subst hx
    have e1 : (doomOp x b).E [⟨x, 2, p, k, dm, wy⟩] 0 = 0 := by rw [one_E _ _ hp]; simp [doomOp]
    have e2 : (doomOp x b).H [⟨x, 2, p, k, dm, wy⟩] 0 = [⟨x, 2, p, k, true, if dm then wy else b⟩] := by rw [one_H _ _ hp]; cases dm <;> simp [doomOp]
    rw [e1] at he
    rw [e2] at hS
    simpa using ⟨he, hS⟩
  · have hx' : (g == x) = false := by simp; omega
    have e1 : (doomOp x b).E [⟨g, 2, p, k, dm, wy⟩] 0 = 4 := by rw [one_E _ _ hp]; simp [doomOp, hx']
    have e2 : (doomOp x b).H [⟨g, 2, p, k, dm, wy⟩] 0 = [⟨g, 2, p, k, dm, wy⟩] := by rw [one_H _ _ hp]; simp [doomOp, hx']
    rw [e1] at he
    rw [e2] at hS
    simpa [hx] using ⟨he, hS⟩
theorem life_over {g : Int} (h : TSt o ex t r c q f 1 [⟨g, 0, 0, 0, false, 0⟩] ws w) (h0 : 1 ≤ g) (h1 : g ≤ 4) (b : Int) (hb0 : 1 ≤ b) (hb1 : b ≤ 8) :
    Calls Try.prog 23 #[.pointer (some ⟨t, 0, none⟩), .int .i64 0, .int .i64 g, .int .i64 b] w fun e w' => e = .returned (.int .i64 4) ∧ TSt o ex t r c q f 1 [⟨g, 0, 0, 0, false, 0⟩] ws w' := by
  have ht := isTh_of hb0 hb1
  have hp : (doomOp g b).pre = 0 := by simp [doomOp, ht]
  refine (TSt.doom h (N := 4) (ok_one ⟨by show 0 ≤ g; omega, by show g ≤ 4; omega, .inl ⟨rfl, rfl, rfl, rfl, rfl⟩⟩) 0 g b).mono ?_
  rintro e w' ⟨he, hS⟩
  have e1 : (doomOp g b).E [⟨g, 0, 0, 0, false, 0⟩] 0 = 4 := by rw [one_E _ _ hp]; simp [doomOp]
  have e2 : (doomOp g b).H [⟨g, 0, 0, 0, false, 0⟩] 0 = [⟨g, 0, 0, 0, false, 0⟩] := by rw [one_H _ _ hp]; simp [doomOp]
  rw [e1] at he
  rw [e2] at hS
  exact ⟨he, hS⟩
theorem life_keep {g p k : Int} {dm : Bool} {wy : Int} (h : TSt o ex t r c q f 1 [⟨g, 2, p, k, dm, wy⟩] ws w) (h0 : 1 ≤ g) (h1 : g ≤ 4) (hp0 : 1 ≤ p) (hk0 : 1 ≤ k) (hd : Dm dm wy) (x : Int) (hx : x ≠ g) :
    Calls Try.prog 24 #[.pointer (some ⟨t, 0, none⟩), .int .i64 0, .int .i64 x] w fun e w' => e = .returned (.int .i64 4) ∧ TSt o ex t r c q f 1 [⟨g, 2, p, k, dm, wy⟩] ws w' := by
  have hp : (freeOp x).pre = 0 := rfl
  refine (TSt.free h (live_ok (by omega) h1 hp0 hk0 hd) 0 x).mono ?_
  rintro e w' ⟨he, hS⟩
  have hx' : (g == x) = false := by simp; omega
  have e1 : (freeOp x).E [⟨g, 2, p, k, dm, wy⟩] 0 = 4 := by rw [one_E _ _ hp]; simp [freeOp, hx']
  have e2 : (freeOp x).H [⟨g, 2, p, k, dm, wy⟩] 0 = [⟨g, 2, p, k, dm, wy⟩] := by rw [one_H _ _ hp]; simp [freeOp, hx']
  rw [e1] at he
  rw [e2] at hS
  exact ⟨he, hS⟩
theorem life_free {g p k : Int} {dm : Bool} {wy : Int} (h : TSt o ex t r c q f 1 [⟨g, 2, p, k, dm, wy⟩] ws w) (h0 : 1 ≤ g) (h1 : g ≤ 4) (hp0 : 1 ≤ p) (hk0 : 1 ≤ k) (hd : Dm dm wy) :
    Calls Try.prog 24 #[.pointer (some ⟨t, 0, none⟩), .int .i64 0, .int .i64 g] w fun e w' => e = .returned (.int .i64 0) ∧ TSt o ex t r c q f 1 [⟨g, 0, 0, 0, false, 0⟩] ws w' := by
  have hp : (freeOp g).pre = 0 := rfl
  refine (TSt.free h (live_ok (by omega) h1 hp0 hk0 hd) 0 g).mono ?_
  rintro e w' ⟨he, hS⟩
  have e1 : (freeOp g).E [⟨g, 2, p, k, dm, wy⟩] 0 = 0 := by rw [one_E _ _ hp]; simp [freeOp]
  have e2 : (freeOp g).H [⟨g, 2, p, k, dm, wy⟩] 0 = [⟨g, 0, 0, 0, false, 0⟩] := by rw [one_H _ _ hp]; simp [freeOp]
  rw [e1] at he
  rw [e2] at hS
  exact ⟨he, hS⟩
end
end Go.Proofs.Ythaajlelaoimaaa
