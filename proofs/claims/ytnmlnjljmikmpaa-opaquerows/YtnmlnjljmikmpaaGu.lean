/- Lists of structs as they lie in memory when they come in, and how they are read. -/
import Derived.Test.YtnmlnjljmikmpaaProg
import Derived.Test.YtnmlnjljmikmpaaGm
import Derived.ProofKit
import Derived.Deep.Slices
import Derived.OpenShut
import Derived.SizedLaws
import Derived.WideKeyPair
namespace Go.Proofs.Ytnmlnjljmikmpaa
open Go.RowKit Go.ChangeShapes Go.WideShapes Go.Deep
set_option linter.unusedVariables false
set_option linter.unusedSimpArgs false

theorem wf_word {a : Int} (h : (Lit.int .u64 a).wf = true) : ∃ n : Nat, a = (n : Int) ∧ n < 18446744073709551616 := by
  have h2 : 0 ≤ a ∧ a < 18446744073709551616 := by
    simp only [Lit.wf, decide_eq_true_eq, Bool.and_eq_true] at h
    have m0 : IntKind.u64.min = 0 := by decide
    have m1 : IntKind.u64.max = 18446744073709551615 := by decide
    rw [m0, m1] at h
    omega
  exact ⟨a.toNat, by omega, by omega⟩
section
variable {H : Type} {enc : TypeId × Value → H} {w : World}
theorem mem_weightsAll {P : Program} {e : TypeId} {d : DataW H} {n : Nat} : ∀ {l : List (DataW H)}, d ∈ l → n ∈ d.weights P e → n ∈ DataW.weightsAll P e l := by
  intro l
  induction l with
  | nil => intro h; cases h
  | cons x r ih =>
    intro h hn
    simp only [DataW.weightsAll, List.mem_append]
    cases List.mem_cons.1 h with
    | inl e => subst e; exact .inl hn
    | inr e => exact .inr (ih e hn)
theorem Try.cells_int : Try.prog.cellsOf 3 = 1 := by kernel_rfl
theorem Try.cells_i64 : Try.prog.cellsOf 2 = 1 := by kernel_rfl
theorem Try.cells_bool : Try.prog.cellsOf 4 = 1 := by kernel_rfl
theorem Try.cells_errno : Try.prog.cellsOf 29 = 1 := by kernel_rfl
end

/-- One of them. -/
structure EiD where
  kd : Int
  st : Int
  th : Int
  sp : Int
  ce : Int
  x : Int
  ow : Bool
  ga : Int
  e : Int
  by_ : Int
structure EiAt (w : World) (b off : Nat) (o : EiD) : Prop where
  c0 : w.cell? ⟨b, off, none⟩ = some (.int .i64 o.kd)
  c1 : w.cell? ⟨b, off + 1, none⟩ = some (.int .i64 o.st)
  c2 : w.cell? ⟨b, off + 2, none⟩ = some (.int .i64 o.th)
  c3 : w.cell? ⟨b, off + 3, none⟩ = some (.int .i64 o.sp)
  c4 : w.cell? ⟨b, off + 4, none⟩ = some (.int .i64 o.ce)
  c5 : w.cell? ⟨b, off + 5, none⟩ = some (.int .i64 o.x)
  c6 : w.cell? ⟨b, off + 6, none⟩ = some (.bool o.ow)
  c7 : w.cell? ⟨b, off + 7, none⟩ = some (.int .i64 o.ga)
  c8 : w.cell? ⟨b, off + 8, none⟩ = some (.int .i64 o.e)
  c9 : w.cell? ⟨b, off + 9, none⟩ = some (.int .i64 o.by_)
/-- A list of them that came in. -/
def EisAt (w : World) (a : Option Addr) (len : Nat) (f : Nat → EiD) : Prop :=
  len = 0 ∨ ∃ b off, a = some ⟨b, off, none⟩ ∧ ∀ i, i < len → EiAt w b (off + i * 10) (f i)
theorem EiAt.kept {w w' : World} {b off : Nat} {o : EiD} (h : EiAt w b off o) (k : Kept (fun _ => False) w w') : EiAt w' b off o := by
  have hb : b < w.heap.size := World.block_lt_of_cell? w _ h.c0
  have e : ∀ j, w'.cell? ⟨b, j, none⟩ = w.cell? ⟨b, j, none⟩ := fun j => World.cell?_of_block (k.block b hb (fun f => f))
  exact ⟨(e _).trans h.c0, (e _).trans h.c1, (e _).trans h.c2, (e _).trans h.c3, (e _).trans h.c4, (e _).trans h.c5, (e _).trans h.c6, (e _).trans h.c7, (e _).trans h.c8, (e _).trans h.c9⟩
def EiD.zero : EiD := ⟨0, 0, 0, 0, 0, 0, false, 0, 0, 0⟩
section
variable {H : Type} {enc : TypeId × Value → H} {w : World}
end
theorem rin_of {α : Type} {f : α → List Value} {k : Nat} {w : World} {g o n : Nat} {xs : List α} (hk : ∀ a, (f a).length = k) (hk0 : 0 < k) (hn : n = xs.length) (h : ∀ (i : Nat) x, xs[i]? = some x → ∀ (c : Nat) u, (f x)[c]? = some u → w.cell? ⟨g, o + i * k + c, none⟩ = some u) : RIn f w (some ⟨g, o, none⟩) n xs := by
  refine ⟨hn, fun _ => ⟨g, o, rfl, fun j u hj => ?_⟩⟩
  have hlt := (List.getElem?_eq_some_iff.1 hj).1
  rw [fl_length hk] at hlt
  have hm := Nat.mod_lt j hk0
  have hd : j / k < xs.length := Nat.div_lt_of_lt_mul (by rw [Nat.mul_comm]; exact hlt)
  have hx : xs[j / k]? = some xs[j / k] := List.getElem?_eq_getElem hd
  have e : j = j / k * k + j % k := by rw [Nat.mul_comm]; exact (Nat.div_add_mod j k).symm
  rw [e, fl_at hk xs (j / k) (j % k) _ hm hx] at hj
  have := h _ _ hx _ _ hj
  rw [Nat.add_assoc, ← e] at this
  exact this
def EiD.ev (d : EiD) : Ev := ⟨d.kd, d.st, d.th, d.sp, d.ce, d.x, d.ow, d.ga, d.e, d.by_⟩
def evs (f : Nat → EiD) (n : Nat) : List Ev := (List.range n).map fun i => (f i).ev
theorem evs_len (f : Nat → EiD) (n : Nat) : (evs f n).length = n := by simp [evs]
theorem evs_rin {w : World} {la : Option Addr} {n : Nat} {f : Nat → EiD} (h : EisAt w la n f) : RIn eC w la n (evs f n) := by
  rcases h with rfl | ⟨b, off, rfl, h⟩
  · exact RIn.nil _ _
  · refine rin_of (k := 10) (fun _ => rfl) (by omega) (evs_len f n).symm (fun i x hx c u hu => ?_)
    have hi := (List.getElem?_eq_some_iff.1 hx).1
    rw [evs_len] at hi
    have e : x = (f i).ev := by
      simp only [evs, List.getElem?_map, List.getElem?_range hi, Option.map_some, Option.some.injEq] at hx
      exact hx.symm
    subst e
    have hc := (List.getElem?_eq_some_iff.1 hu).1
    have a := h i hi
    have hc' : c < 10 := hc
    match c, hu, hc' with
    | 0, hu, _ => cases hu; exact a.c0
    | 1, hu, _ => cases hu; exact a.c1
    | 2, hu, _ => cases hu; exact a.c2
    | 3, hu, _ => cases hu; exact a.c3
    | 4, hu, _ => cases hu; exact a.c4
    | 5, hu, _ => cases hu; exact a.c5
    | 6, hu, _ => cases hu; exact a.c6
    | 7, hu, _ => cases hu; exact a.c7
    | 8, hu, _ => cases hu; exact a.c8
    | 9, hu, _ => cases hu; exact a.c9
theorem wf_i64r {a : Int} (h : (Lit.int .i64 a).wf = true) : -9223372036854775808 ≤ a ∧ a ≤ 9223372036854775807 := by
  simp only [Lit.wf, decide_eq_true_eq, Bool.and_eq_true] at h
  have m0 : IntKind.i64.min = -9223372036854775808 := by decide
  have m1 : IntKind.i64.max = 9223372036854775807 := by decide
  rw [m0, m1] at h
  omega
end Go.Proofs.Ytnmlnjljmikmpaa
