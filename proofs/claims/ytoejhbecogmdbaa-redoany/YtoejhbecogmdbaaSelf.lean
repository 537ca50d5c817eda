/- Keys: which may be, what is asked of their types; sameAsItself. -/
import Derived.Test.YtoejhbecogmdbaaProg
import Derived.Test.YtoejhbecogmdbaaLog
import Derived.Defers
import Derived.Recover
import Derived.ChangeKeysEq
import Derived.DeepKeys4
namespace Go.Proofs.Ytoejhbecogmdbaa
open Go.RowKit
open Go.Maps (Keyed)
set_option linter.unusedVariables false
set_option linter.unusedSimpArgs false
attribute [local go_sem ↓] Go.wp_at_zero Go.wp_at_succ

/-- Keys that are numbers. -/
def OKi (v : Value) : Prop := ∃ k : Int, v = .int .i64 k ∧ (Lit.int .i64 k).wf = true
/-- Keys that are a text and a number. -/
def OKk (v : Value) : Prop := ∃ (s : ByteArray) (n : Int), v = .agg #[.string s, .int .i64 n] ∧ s.size ≤ maxLen ∧ (Lit.int .i64 n).wf = true

theorem lawI : Keyed Try.prog 3 := Go.Maps.int_keyed Try.underlying3
theorem okI : ∀ k, OKi k → ∃ l, keyOf Try.prog 3 k = some l := by
  rintro k ⟨a, rfl, h⟩
  exact ⟨_, Go.Maps.keyOf_int_mk Try.underlying3 h⟩
theorem lawK : Keyed Try.prog 49 := Keyed.of_law (deep_law_laid (by kernel_rfl) (m := 5) (by decide) (Nat.lt_of_lt_of_eq (by decide : 49 < 110) (by kernel_rfl)) (by kernel_rfl) (by kernel_rfl))
theorem litsK (d : Nat) (s : ByteArray) (n : Int) (h1 : s.size ≤ maxLen) (h2 : (Lit.int .i64 n).wf = true) : ∃ l, Try.prog.keyLits (d + 2) 49 [.string s, .int .i64 n] = some l := by
  have a4 : Try.prog.cellsOf 49 = 2 := by kernel_rfl
  have a5 : Try.prog.cellsOf 9 = 1 := by kernel_rfl
  have a6 : Try.prog.cellsOf 3 = 1 := by kernel_rfl
  simp [Program.keyLits, Try.underlying49, a4, a5, a6, Try.underlying9, Try.underlying3, h1, h2]
theorem okK : ∀ k, OKk k → ∃ l, keyOf Try.prog 49 k = some l := by
  rintro k ⟨s, n, rfl, h1, h2⟩
  have a1 : Try.prog.keyType 49 = true := by kernel_rfl
  have a2 : (Value.agg #[.string s, .int .i64 n]).formed Try.prog 49 = true := by kernel_rfl
  have a3 : Try.prog.types.size = 110 := by kernel_rfl
  obtain ⟨l, hl⟩ := litsK 109 s n h1 h2
  refine ⟨.string (keyBytes l), ?_⟩
  unfold keyOf
  rw [Try.underlying49, a3]
  simp only [a1, a2, Bool.and_self, if_true]
  rw [show (Value.agg #[.string s, .int .i64 n]).cells.toList = [.string s, .int .i64 n] from rfl, show 110 + 1 = 109 + 2 from rfl, hl]
  rfl
theorem zero3 (w : World) : (zeroValue 3).run Try.prog w = .ok (.int .i64 0) w := by kernel_rfl

theorem catchI_idle (p : Addr) (w : World) :
    CallsD Try.prog 43 #[.pointer (some p)] .returning w fun e u' w' => e = .returned (.tuple #[]) ∧ u' = .returning ∧ w' = w := by
  refine callsD_of_wpS Try.func43 rfl fun c₀ cs hu => ?_
  apply wpS_seq
  apply wpS_region
  simp [wpOpsS, go_sem, recoverD, hu, Try.ntmps43, Exit.thenS]
  refine wpS_cond (t := false) (by simp [Act.eval, Array.replicate]) ?_
  simp only [Bool.false_eq_true, if_false]
  refine wpS_of_wp (wp_skip ?_)
  cases c₀
  simp_all [bodyPostS, results, Try.results43]
theorem catchK_idle (p : Addr) (w : World) :
    CallsD Try.prog 42 #[.pointer (some p)] .returning w fun e u' w' => e = .returned (.tuple #[]) ∧ u' = .returning ∧ w' = w := by
  refine callsD_of_wpS Try.func42 rfl fun c₀ cs hu => ?_
  apply wpS_seq
  apply wpS_region
  simp [wpOpsS, go_sem, recoverD, hu, Try.ntmps42, Exit.thenS]
  refine wpS_cond (t := false) (by simp [Act.eval, Array.replicate]) ?_
  simp only [Bool.false_eq_true, if_false]
  refine wpS_of_wp (wp_skip ?_)
  cases c₀
  simp_all [bodyPostS, results, Try.results42]
set_option maxRecDepth 100000 in
theorem sameI_any (k : Int) (w : World) :
    Calls Try.prog 37 #[.int .i64 k] w fun e w' => e = .returned (.bool true) ∧ Kept (fun _ => False) w w' := by
  have hmf : ∀ (fn : Fn) (first cap : Array Value) (w : World), (Instr.makeFunc fn first cap).run Try.prog w = .ok (.func fn first cap) w := fun _ _ _ _ => rfl
  go_enter_defers Try.func37, Try.ntmps37
  go_wp2
  refine leaves_cons (f := 43) (args := #[.pointer (some ⟨w.heap.size, 0, none⟩)]) (by simp) (by simp [go_sem]) ?_
  refine (catchI_idle ⟨w.heap.size, 0, none⟩ _).mono ?_
  rintro e q' w'' ⟨rfl, rfl, rfl⟩
  simp [Leaves, settle, results, Try.results37, go_sem]
  exact ((Kept.refl _ w).alloc _)

def keq (s1 s2 : ByteArray) (n1 n2 : Int) : Bool := s1.toList == s2.toList && n1 == n2
set_option maxRecDepth 100000 in
theorem eqK (d : Nat) (s1 s2 : ByteArray) (n1 n2 : Int) (w : World) : (Op.equalIn (d + 2) 49 (.agg #[.string s1, .int .i64 n1]) (.agg #[.string s2, .int .i64 n2])).run Try.prog w = .ok (keq s1 s2 n1 n2) w := by
  rw [run_equalIn_struct w (d + 1) 49 _ _ (by kernel_rfl) (by kernel_rfl)]
  have hi : ∀ (x y : Int) (w : World), (Op.equalIn (d + 1) 3 (.int .i64 x) (.int .i64 y)).run Try.prog w = .ok (x == y) w := fun x y w => run_equalIn_int w d 3 .i64 .i64 x y Try.underlying3
  have hs : ∀ (x y : ByteArray) (w : World), (Op.equalIn (d + 1) 9 (.string x) (.string y)).run Try.prog w = .ok (x.toList == y.toList) w := fun x y w => run_equalIn_string w d 9 x y Try.underlying9
  have p0 : ∀ (s : ByteArray) (n : Int) w, (part 9 #[.string s, .int .i64 n] 0).run Try.prog w = .ok (.string s) w := fun s n w => run_part_plain (P := Try.prog) w (by kernel_rfl) rfl
  have p1 : ∀ (s : ByteArray) (n : Int) w, (part 3 #[.string s, .int .i64 n] 1).run Try.prog w = .ok (.int .i64 n) w := fun s n w => run_part_plain (P := Try.prog) w (by kernel_rfl) rfl
  unfold keq
  cases h1 : (s1.toList == s2.toList) <;> cases h2 : (n1 == n2) <;> simp [Program.fieldsOf, Try.underlying49, Op.eqFields, Sem.run_bind, p0, p1, hs, hi, h1, h2]
theorem keq_self (s : ByteArray) (n : Int) : keq s s n n = true := by simp [keq]
set_option maxRecDepth 100000 in
theorem sameK_any (s : ByteArray) (n : Int) (w : World) :
    Calls Try.prog 36 #[.agg #[.string s, .int .i64 n]] w fun e w' => e = .returned (.bool true) ∧ Kept (fun _ => False) w w' := by
  have hmf : ∀ (fn : Fn) (first cap : Array Value) (w : World), (Instr.makeFunc fn first cap).run Try.prog w = .ok (.func fn first cap) w := fun _ _ _ _ => rfl
  go_enter_defers Try.func36, Try.ntmps36
  go_wp2
  refine leaves_cons (f := 42) (args := #[.pointer (some ⟨w.heap.size + 1, 0, none⟩)]) (by simp) (by simp [go_sem]) ?_
  refine (catchK_idle ⟨w.heap.size + 1, 0, none⟩ _).mono ?_
  rintro e q' w'' ⟨rfl, rfl, rfl⟩
  simp [Leaves, settle, results, Try.results36, go_sem]
  exact (((Kept.refl _ w).alloc _).alloc _)
end Go.Proofs.Ytoejhbecogmdbaa
