/- Which configs may be: by the code and by the document. -/
import Derived.Test.YthbcbjkgjgmegaaGreatSmall
import Derived.Deep.Cut
namespace Go.Proofs.YthbcbjkgjgmegaaGreat
open Go.RowKit
set_option linter.unusedVariables false
set_option linter.unusedSimpArgs false
attribute [local go_sem ↓] Go.wp_at_zero Go.wp_at_succ

/-- What a config says. -/
structure Cfg where
  ce : Int
  sl : Int
  bi : Int
  ta : Int
  ba : Int
  de : Int
def Cfg.val (c : Cfg) : Value := .agg #[.int .i64 c.ce, .int .i64 c.sl, .int .i64 c.bi, .int .i64 c.ta, .int .i64 c.ba, .int .i64 c.de]
def inR (n a b : Int) : Bool := decide (a ≤ n) && decide (n ≤ b)
def Cfg.fits (c : Cfg) : Bool := inR c.ce 1 256 && (inR c.sl 1 8 && (inR c.bi 1 128 && (inR c.ta 1 3 && (inR c.ba 0 8 && inR c.de 0 64))))
theorem inR_iff (n a b : Int) : inR n a b = true ↔ a ≤ n ∧ n ≤ b := by simp [inR]
theorem Cfg.fits_cells {c : Cfg} (h : c.fits = true) : 1 ≤ c.ce ∧ c.ce ≤ 256 ∧ 1 ≤ c.sl ∧ c.sl ≤ 8 := by
  simp only [Cfg.fits, Bool.and_eq_true, inR_iff] at h
  omega

set_option maxRecDepth 100000 in
theorem within_any (n a b : Int) (w : World) : Calls Tryz.prog 80 #[.int .i64 n, .int .i64 a, .int .i64 b] w fun e w' => e = .returned (.bool (inR n a b)) ∧ w' = w := by
  unfold inR
  cases h1 : decide (a ≤ n) <;> cases h2 : decide (n ≤ b)
  all_goals
    go_enter Tryz.func80, Tryz.ntmps80
    go_wp2
    go_ret
    first | exact ⟨rfl, rfl⟩ | simp_all

set_option maxRecDepth 100000 in
set_option maxHeartbeats 1000000 in
theorem check_any (c : Cfg) (w : World) : Calls Tryz.prog 32 #[c.val] w fun e w' => e = .returned (.int .i64 (if c.fits then 0 else 1)) ∧ Kept (fun _ => False) w w' := by
  obtain ⟨ce, sl, bi, ta, ba, de⟩ := c
  unfold Cfg.val Cfg.fits
  simp only
  have h1 : ∀ w, Calls Tryz.prog 80 #[.int .i64 ce, .int .i64 1, .int .i64 256] w fun e w' => e = .returned (.bool (inR ce 1 256)) ∧ w' = w := fun w => within_any ce 1 256 w
  have h2 : ∀ w, Calls Tryz.prog 80 #[.int .i64 sl, .int .i64 1, .int .i64 8] w fun e w' => e = .returned (.bool (inR sl 1 8)) ∧ w' = w := fun w => within_any sl 1 8 w
  have h3 : ∀ w, Calls Tryz.prog 80 #[.int .i64 bi, .int .i64 1, .int .i64 128] w fun e w' => e = .returned (.bool (inR bi 1 128)) ∧ w' = w := fun w => within_any bi 1 128 w
  have h4 : ∀ w, Calls Tryz.prog 80 #[.int .i64 ta, .int .i64 1, .int .i64 3] w fun e w' => e = .returned (.bool (inR ta 1 3)) ∧ w' = w := fun w => within_any ta 1 3 w
  have h5 : ∀ w, Calls Tryz.prog 80 #[.int .i64 ba, .int .i64 0, .int .i64 8] w fun e w' => e = .returned (.bool (inR ba 0 8)) ∧ w' = w := fun w => within_any ba 0 8 w
  have h6 : ∀ w, Calls Tryz.prog 80 #[.int .i64 de, .int .i64 0, .int .i64 64] w fun e w' => e = .returned (.bool (inR de 0 64)) ∧ w' = w := fun w => within_any de 0 64 w
  generalize inR ce 1 256 = b1 at *
  generalize inR sl 1 8 = b2 at *
  generalize inR bi 1 128 = b3 at *
  generalize inR ta 1 3 = b4 at *
  generalize inR ba 0 8 = b5 at *
  generalize inR de 0 64 = b6 at *
  have k0 := kept_alloc w (.cells #[.int .i64 ce, .int .i64 sl, .int .i64 bi, .int .i64 ta, .int .i64 ba, .int .i64 de] 24)
  have hh := heap_alloc_new w (.cells #[.int .i64 ce, .int .i64 sl, .int .i64 bi, .int .i64 ta, .int .i64 ba, .int .i64 de] 24)
  go_enter Tryz.func32, Tryz.ntmps32
  go_upto_region 1 with fail
  generalize w.alloc (.cells #[.int .i64 ce, .int .i64 sl, .int .i64 bi, .int .i64 ta, .int .i64 ba, .int .i64 de] 24) = W0 at *
  generalize w.heap.size = B at *
  have c0 : W0.cell? ⟨B, 0, none⟩ = some (.int .i64 ce) := cell_of_heap hh
  have c1 : W0.cell? ⟨B, 1, none⟩ = some (.int .i64 sl) := cell_of_heap hh
  have c2 : W0.cell? ⟨B, 2, none⟩ = some (.int .i64 bi) := cell_of_heap hh
  have c3 : W0.cell? ⟨B, 3, none⟩ = some (.int .i64 ta) := cell_of_heap hh
  have c4 : W0.cell? ⟨B, 4, none⟩ = some (.int .i64 ba) := cell_of_heap hh
  have c5 : W0.cell? ⟨B, 5, none⟩ = some (.int .i64 de) := cell_of_heap hh
  clear hh
  cases b1 with
  | false =>
    go_wp2_with (first | (go_at_call_of 80 ce; refine (h1 _).mono ?_; rintro e w' ⟨rfl, rfl⟩) | (go_at_call_of 80 sl; refine (h2 _).mono ?_; rintro e w' ⟨rfl, rfl⟩) | (go_at_call_of 80 bi; refine (h3 _).mono ?_; rintro e w' ⟨rfl, rfl⟩) | (go_at_call_of 80 ta; refine (h4 _).mono ?_; rintro e w' ⟨rfl, rfl⟩) | (go_at_call_of 80 ba; refine (h5 _).mono ?_; rintro e w' ⟨rfl, rfl⟩) | (go_at_call_of 80 de; refine (h6 _).mono ?_; rintro e w' ⟨rfl, rfl⟩))
    go_ret
    exact ⟨rfl, k0⟩
  | true =>
    cases b2 with
    | false =>
      go_wp2_with (first | (go_at_call_of 80 ce; refine (h1 _).mono ?_; rintro e w' ⟨rfl, rfl⟩) | (go_at_call_of 80 sl; refine (h2 _).mono ?_; rintro e w' ⟨rfl, rfl⟩) | (go_at_call_of 80 bi; refine (h3 _).mono ?_; rintro e w' ⟨rfl, rfl⟩) | (go_at_call_of 80 ta; refine (h4 _).mono ?_; rintro e w' ⟨rfl, rfl⟩) | (go_at_call_of 80 ba; refine (h5 _).mono ?_; rintro e w' ⟨rfl, rfl⟩) | (go_at_call_of 80 de; refine (h6 _).mono ?_; rintro e w' ⟨rfl, rfl⟩))
      go_ret
      exact ⟨rfl, k0⟩
    | true =>
      cases b3 with
      | false =>
        go_wp2_with (first | (go_at_call_of 80 ce; refine (h1 _).mono ?_; rintro e w' ⟨rfl, rfl⟩) | (go_at_call_of 80 sl; refine (h2 _).mono ?_; rintro e w' ⟨rfl, rfl⟩) | (go_at_call_of 80 bi; refine (h3 _).mono ?_; rintro e w' ⟨rfl, rfl⟩) | (go_at_call_of 80 ta; refine (h4 _).mono ?_; rintro e w' ⟨rfl, rfl⟩) | (go_at_call_of 80 ba; refine (h5 _).mono ?_; rintro e w' ⟨rfl, rfl⟩) | (go_at_call_of 80 de; refine (h6 _).mono ?_; rintro e w' ⟨rfl, rfl⟩))
        go_ret
        exact ⟨rfl, k0⟩
      | true =>
        cases b4 with
        | false =>
          go_wp2_with (first | (go_at_call_of 80 ce; refine (h1 _).mono ?_; rintro e w' ⟨rfl, rfl⟩) | (go_at_call_of 80 sl; refine (h2 _).mono ?_; rintro e w' ⟨rfl, rfl⟩) | (go_at_call_of 80 bi; refine (h3 _).mono ?_; rintro e w' ⟨rfl, rfl⟩) | (go_at_call_of 80 ta; refine (h4 _).mono ?_; rintro e w' ⟨rfl, rfl⟩) | (go_at_call_of 80 ba; refine (h5 _).mono ?_; rintro e w' ⟨rfl, rfl⟩) | (go_at_call_of 80 de; refine (h6 _).mono ?_; rintro e w' ⟨rfl, rfl⟩))
          go_ret
          exact ⟨rfl, k0⟩
        | true =>
          cases b5 with
          | false =>
            go_wp2_with (first | (go_at_call_of 80 ce; refine (h1 _).mono ?_; rintro e w' ⟨rfl, rfl⟩) | (go_at_call_of 80 sl; refine (h2 _).mono ?_; rintro e w' ⟨rfl, rfl⟩) | (go_at_call_of 80 bi; refine (h3 _).mono ?_; rintro e w' ⟨rfl, rfl⟩) | (go_at_call_of 80 ta; refine (h4 _).mono ?_; rintro e w' ⟨rfl, rfl⟩) | (go_at_call_of 80 ba; refine (h5 _).mono ?_; rintro e w' ⟨rfl, rfl⟩) | (go_at_call_of 80 de; refine (h6 _).mono ?_; rintro e w' ⟨rfl, rfl⟩))
            go_ret
            exact ⟨rfl, k0⟩
          | true =>
            cases b6 with
            | false =>
              go_wp2_with (first | (go_at_call_of 80 ce; refine (h1 _).mono ?_; rintro e w' ⟨rfl, rfl⟩) | (go_at_call_of 80 sl; refine (h2 _).mono ?_; rintro e w' ⟨rfl, rfl⟩) | (go_at_call_of 80 bi; refine (h3 _).mono ?_; rintro e w' ⟨rfl, rfl⟩) | (go_at_call_of 80 ta; refine (h4 _).mono ?_; rintro e w' ⟨rfl, rfl⟩) | (go_at_call_of 80 ba; refine (h5 _).mono ?_; rintro e w' ⟨rfl, rfl⟩) | (go_at_call_of 80 de; refine (h6 _).mono ?_; rintro e w' ⟨rfl, rfl⟩))
              go_ret
              exact ⟨rfl, k0⟩
            | true =>
              go_wp2_with (first | (go_at_call_of 80 ce; refine (h1 _).mono ?_; rintro e w' ⟨rfl, rfl⟩) | (go_at_call_of 80 sl; refine (h2 _).mono ?_; rintro e w' ⟨rfl, rfl⟩) | (go_at_call_of 80 bi; refine (h3 _).mono ?_; rintro e w' ⟨rfl, rfl⟩) | (go_at_call_of 80 ta; refine (h4 _).mono ?_; rintro e w' ⟨rfl, rfl⟩) | (go_at_call_of 80 ba; refine (h5 _).mono ?_; rintro e w' ⟨rfl, rfl⟩) | (go_at_call_of 80 de; refine (h6 _).mono ?_; rintro e w' ⟨rfl, rfl⟩))
              go_ret
              exact ⟨rfl, k0⟩

set_option maxRecDepth 100000 in
theorem in_any (n a b : Int) (w : World) : Calls Tryz.prog 121 #[.int .i64 n, .int .i64 a, .int .i64 b] w fun e w' => e = .returned (.bool (inR n a b)) ∧ w' = w := by
  unfold inR
  cases h1 : decide (a ≤ n) <;> cases h2 : decide (n ≤ b)
  all_goals
    go_enter Tryz.func121, Tryz.ntmps121
    go_wp2
    go_ret
    first | exact ⟨rfl, rfl⟩ | simp_all

set_option maxRecDepth 100000 in
set_option maxHeartbeats 1000000 in
theorem refCheck_any (c : Cfg) (w : World) : Calls Tryz.prog 87 #[c.val] w fun e w' => e = .returned (.int .i64 (if c.fits then 0 else 1)) ∧ Kept (fun _ => False) w w' := by
  obtain ⟨ce, sl, bi, ta, ba, de⟩ := c
  unfold Cfg.val Cfg.fits
  simp only
  have h1 : ∀ w, Calls Tryz.prog 121 #[.int .i64 ce, .int .i64 1, .int .i64 256] w fun e w' => e = .returned (.bool (inR ce 1 256)) ∧ w' = w := fun w => in_any ce 1 256 w
  have h2 : ∀ w, Calls Tryz.prog 121 #[.int .i64 sl, .int .i64 1, .int .i64 8] w fun e w' => e = .returned (.bool (inR sl 1 8)) ∧ w' = w := fun w => in_any sl 1 8 w
  have h3 : ∀ w, Calls Tryz.prog 121 #[.int .i64 bi, .int .i64 1, .int .i64 128] w fun e w' => e = .returned (.bool (inR bi 1 128)) ∧ w' = w := fun w => in_any bi 1 128 w
  have h4 : ∀ w, Calls Tryz.prog 121 #[.int .i64 ta, .int .i64 1, .int .i64 3] w fun e w' => e = .returned (.bool (inR ta 1 3)) ∧ w' = w := fun w => in_any ta 1 3 w
  have h5 : ∀ w, Calls Tryz.prog 121 #[.int .i64 ba, .int .i64 0, .int .i64 8] w fun e w' => e = .returned (.bool (inR ba 0 8)) ∧ w' = w := fun w => in_any ba 0 8 w
  have h6 : ∀ w, Calls Tryz.prog 121 #[.int .i64 de, .int .i64 0, .int .i64 64] w fun e w' => e = .returned (.bool (inR de 0 64)) ∧ w' = w := fun w => in_any de 0 64 w
  generalize inR ce 1 256 = b1 at *
  generalize inR sl 1 8 = b2 at *
  generalize inR bi 1 128 = b3 at *
  generalize inR ta 1 3 = b4 at *
  generalize inR ba 0 8 = b5 at *
  generalize inR de 0 64 = b6 at *
  have k0 := kept_alloc w (.cells #[.int .i64 ce, .int .i64 sl, .int .i64 bi, .int .i64 ta, .int .i64 ba, .int .i64 de] 24)
  have hh := heap_alloc_new w (.cells #[.int .i64 ce, .int .i64 sl, .int .i64 bi, .int .i64 ta, .int .i64 ba, .int .i64 de] 24)
  go_enter Tryz.func87, Tryz.ntmps87
  go_upto_region 1 with fail
  generalize w.alloc (.cells #[.int .i64 ce, .int .i64 sl, .int .i64 bi, .int .i64 ta, .int .i64 ba, .int .i64 de] 24) = W0 at *
  generalize w.heap.size = B at *
  have c0 : W0.cell? ⟨B, 0, none⟩ = some (.int .i64 ce) := cell_of_heap hh
  have c1 : W0.cell? ⟨B, 1, none⟩ = some (.int .i64 sl) := cell_of_heap hh
  have c2 : W0.cell? ⟨B, 2, none⟩ = some (.int .i64 bi) := cell_of_heap hh
  have c3 : W0.cell? ⟨B, 3, none⟩ = some (.int .i64 ta) := cell_of_heap hh
  have c4 : W0.cell? ⟨B, 4, none⟩ = some (.int .i64 ba) := cell_of_heap hh
  have c5 : W0.cell? ⟨B, 5, none⟩ = some (.int .i64 de) := cell_of_heap hh
  clear hh
  cases b1 with
  | false =>
    go_wp2_with (first | (go_at_call_of 121 ce; refine (h1 _).mono ?_; rintro e w' ⟨rfl, rfl⟩) | (go_at_call_of 121 sl; refine (h2 _).mono ?_; rintro e w' ⟨rfl, rfl⟩) | (go_at_call_of 121 bi; refine (h3 _).mono ?_; rintro e w' ⟨rfl, rfl⟩) | (go_at_call_of 121 ta; refine (h4 _).mono ?_; rintro e w' ⟨rfl, rfl⟩) | (go_at_call_of 121 ba; refine (h5 _).mono ?_; rintro e w' ⟨rfl, rfl⟩) | (go_at_call_of 121 de; refine (h6 _).mono ?_; rintro e w' ⟨rfl, rfl⟩))
    go_ret
    exact ⟨rfl, k0⟩
  | true =>
    cases b2 with
    | false =>
      go_wp2_with (first | (go_at_call_of 121 ce; refine (h1 _).mono ?_; rintro e w' ⟨rfl, rfl⟩) | (go_at_call_of 121 sl; refine (h2 _).mono ?_; rintro e w' ⟨rfl, rfl⟩) | (go_at_call_of 121 bi; refine (h3 _).mono ?_; rintro e w' ⟨rfl, rfl⟩) | (go_at_call_of 121 ta; refine (h4 _).mono ?_; rintro e w' ⟨rfl, rfl⟩) | (go_at_call_of 121 ba; refine (h5 _).mono ?_; rintro e w' ⟨rfl, rfl⟩) | (go_at_call_of 121 de; refine (h6 _).mono ?_; rintro e w' ⟨rfl, rfl⟩))
      go_ret
      exact ⟨rfl, k0⟩
    | true =>
      cases b3 with
      | false =>
        go_wp2_with (first | (go_at_call_of 121 ce; refine (h1 _).mono ?_; rintro e w' ⟨rfl, rfl⟩) | (go_at_call_of 121 sl; refine (h2 _).mono ?_; rintro e w' ⟨rfl, rfl⟩) | (go_at_call_of 121 bi; refine (h3 _).mono ?_; rintro e w' ⟨rfl, rfl⟩) | (go_at_call_of 121 ta; refine (h4 _).mono ?_; rintro e w' ⟨rfl, rfl⟩) | (go_at_call_of 121 ba; refine (h5 _).mono ?_; rintro e w' ⟨rfl, rfl⟩) | (go_at_call_of 121 de; refine (h6 _).mono ?_; rintro e w' ⟨rfl, rfl⟩))
        go_ret
        exact ⟨rfl, k0⟩
      | true =>
        cases b4 with
        | false =>
          go_wp2_with (first | (go_at_call_of 121 ce; refine (h1 _).mono ?_; rintro e w' ⟨rfl, rfl⟩) | (go_at_call_of 121 sl; refine (h2 _).mono ?_; rintro e w' ⟨rfl, rfl⟩) | (go_at_call_of 121 bi; refine (h3 _).mono ?_; rintro e w' ⟨rfl, rfl⟩) | (go_at_call_of 121 ta; refine (h4 _).mono ?_; rintro e w' ⟨rfl, rfl⟩) | (go_at_call_of 121 ba; refine (h5 _).mono ?_; rintro e w' ⟨rfl, rfl⟩) | (go_at_call_of 121 de; refine (h6 _).mono ?_; rintro e w' ⟨rfl, rfl⟩))
          go_ret
          exact ⟨rfl, k0⟩
        | true =>
          cases b5 with
          | false =>
            go_wp2_with (first | (go_at_call_of 121 ce; refine (h1 _).mono ?_; rintro e w' ⟨rfl, rfl⟩) | (go_at_call_of 121 sl; refine (h2 _).mono ?_; rintro e w' ⟨rfl, rfl⟩) | (go_at_call_of 121 bi; refine (h3 _).mono ?_; rintro e w' ⟨rfl, rfl⟩) | (go_at_call_of 121 ta; refine (h4 _).mono ?_; rintro e w' ⟨rfl, rfl⟩) | (go_at_call_of 121 ba; refine (h5 _).mono ?_; rintro e w' ⟨rfl, rfl⟩) | (go_at_call_of 121 de; refine (h6 _).mono ?_; rintro e w' ⟨rfl, rfl⟩))
            go_ret
            exact ⟨rfl, k0⟩
          | true =>
            cases b6 with
            | false =>
              go_wp2_with (first | (go_at_call_of 121 ce; refine (h1 _).mono ?_; rintro e w' ⟨rfl, rfl⟩) | (go_at_call_of 121 sl; refine (h2 _).mono ?_; rintro e w' ⟨rfl, rfl⟩) | (go_at_call_of 121 bi; refine (h3 _).mono ?_; rintro e w' ⟨rfl, rfl⟩) | (go_at_call_of 121 ta; refine (h4 _).mono ?_; rintro e w' ⟨rfl, rfl⟩) | (go_at_call_of 121 ba; refine (h5 _).mono ?_; rintro e w' ⟨rfl, rfl⟩) | (go_at_call_of 121 de; refine (h6 _).mono ?_; rintro e w' ⟨rfl, rfl⟩))
              go_ret
              exact ⟨rfl, k0⟩
            | true =>
              go_wp2_with (first | (go_at_call_of 121 ce; refine (h1 _).mono ?_; rintro e w' ⟨rfl, rfl⟩) | (go_at_call_of 121 sl; refine (h2 _).mono ?_; rintro e w' ⟨rfl, rfl⟩) | (go_at_call_of 121 bi; refine (h3 _).mono ?_; rintro e w' ⟨rfl, rfl⟩) | (go_at_call_of 121 ta; refine (h4 _).mono ?_; rintro e w' ⟨rfl, rfl⟩) | (go_at_call_of 121 ba; refine (h5 _).mono ?_; rintro e w' ⟨rfl, rfl⟩) | (go_at_call_of 121 de; refine (h6 _).mono ?_; rintro e w' ⟨rfl, rfl⟩))
              go_ret
              exact ⟨rfl, k0⟩

end Go.Proofs.YthbcbjkgjgmegaaGreat
