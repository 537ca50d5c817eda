/- Package opaque: points and how they compare. -/
import Derived.Test.YtnmlnjljmikmpaaOo
import Derived.Test.YtnmlnjljmikmpaaGz
import Derived.Test.YtnmlnjljmikmpaaHc
import Derived.Sort.Grow
import Derived.Deep.RegionHeld3
namespace Go.Proofs.Ytnmlnjljmikmpaa
open Go.RowKit Go.Shelf
set_option linter.unusedVariables false
set_option linter.unusedSimpArgs false
attribute [local go_sem ↓] Go.wp_at_zero Go.wp_at_succ

/-- Draws and new blocks alone. -/
def Grw (a w : World) : Prop := ∃ q os, w = Sort.grow (a.drewN q) os
theorem Grw.refl (w : World) : Grw w w := ⟨0, #[], by rw [Sort.grow_empty]; rfl⟩
theorem Grw.alloc {a w : World} (h : Grw a w) (o : Obj) : Grw a (w.alloc o) := by
  obtain ⟨q, os, rfl⟩ := h
  exact ⟨q, os ++ #[o], by rw [Sort.alloc_eq_grow, Sort.grow_grow]⟩
theorem Grw.drew {a w : World} (h : Grw a w) : Grw a w.drew := by
  obtain ⟨q, os, rfl⟩ := h
  exact ⟨q + 1, os, rfl⟩
theorem Grw.trans {a b c : World} (h : Grw a b) (k : Grw b c) : Grw a c := by
  obtain ⟨q, os, rfl⟩ := h
  obtain ⟨r, os', rfl⟩ := k
  refine ⟨q + r, os ++ os', ?_⟩
  rw [← Sort.grow_grow]
  simp [Sort.grow, World.drewN, Nat.add_assoc]
theorem Grw.kept {a w : World} (h : Grw a w) : Kept (fun _ => False) a w := by
  obtain ⟨q, os, rfl⟩ := h
  exact ⟨rfl, rfl, rfl, by simp [Sort.grow, World.drewN], fun k hk _ => by simp [Sort.grow, World.drewN, Array.getElem?_append_left hk]⟩
def ptC (p : Pt) : List Value := [.int .i64 p.nu, .int .i64 p.st, .bool p.ch]
abbrev ptV (p : Pt) : Value := .agg #[.int .i64 p.nu, .int .i64 p.st, .bool p.ch]
theorem compareI_any (x y : Int) (w : World) : Calls Try.prog 25 #[.int .i64 x, .int .i64 y] w fun e w' => e = .returned (.int .i64 (cI x y)) ∧ w' = w := by
  have hn : ∀ (z : Int) (W : World), Calls Try.prog 46 #[.int .i64 z] W fun e w' => e = .returned (.bool false) ∧ w' = W := by
    intro z W
    go_enter Try.func46, Try.ntmps46
    go_wp2
    go_ret
    exact ⟨rfl, rfl⟩
  unfold cI
  by_cases h1 : x < y
  · simp only [if_pos h1]
    go_enter Try.func25, Try.ntmps25
    go_wp2_with (go_at_call 46; refine (hn _ _).mono ?_; rintro e w' ⟨rfl, rfl⟩)
    go_ret
    exact ⟨rfl, rfl⟩
  · by_cases h2 : y < x
    · simp only [if_neg h1, if_pos h2]
      go_enter Try.func25, Try.ntmps25
      go_wp2_with (go_at_call 46; refine (hn _ _).mono ?_; rintro e w' ⟨rfl, rfl⟩)
      go_ret
      exact ⟨rfl, rfl⟩
    · simp only [if_neg h1, if_neg h2]
      go_enter Try.func25, Try.ntmps25
      go_wp2_with (go_at_call 46; refine (hn _ _).mono ?_; rintro e w' ⟨rfl, rfl⟩)
      go_ret
      exact ⟨rfl, rfl⟩
theorem pcompare_any (p o : Pt) (W : World) : Calls Try.prog 24 #[ptV p, ptV o] W fun e w' => e = .returned (.int .i64 (cmpK p o)) ∧ Grw W w' := by
  obtain ⟨a, b, c⟩ := p
  obtain ⟨x, y, z⟩ := o
  unfold ptV cmpK
  simp only
  have h1 := fun W => compareI_any a x W
  have h2 := fun W => compareI_any b y W
  generalize cI a x = r1 at *
  generalize cI b y = r2 at *
  by_cases h : a = x
  · subst h
    have tn : (a != a) = false := by simp
    cases c <;> cases z
    all_goals
      simp only [ne_eq, not_true_eq_false, if_false, Bool.false_eq_true, false_and, and_false, true_and, and_true, if_true, reduceCtorEq]
      go_enter Try.func24, Try.ntmps24
      go_wp2_with (go_at_call 25; refine (h2 _).mono ?_; rintro e w' ⟨rfl, rfl⟩)
      go_ret
      exact ⟨rfl, by repeat (first | exact Grw.refl _ | apply Grw.alloc | apply Grw.drew)⟩
  · have tn : (a != x) = true := by simp [h]
    simp only [ne_eq, h, not_false_eq_true, if_true]
    clear h
    go_enter Try.func24, Try.ntmps24
    go_wp2_with (go_at_call 25; refine (h1 _).mono ?_; rintro e w' ⟨rfl, rfl⟩)
    go_ret
    exact ⟨rfl, by repeat (first | exact Grw.refl _ | apply Grw.alloc | apply Grw.drew)⟩
end Go.Proofs.Ytnmlnjljmikmpaa
