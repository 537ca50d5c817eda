/- The steps of a script as they lie in memory when they come in, and how they are read. -/
import Derived.Test.YtajfjkhbimehbaaGreatProg
import Derived.Test.YtajfjkhbimehbaaGreatClX
import Derived.ProofKit
import Derived.Deep.Slices
import Derived.OpenShut
import Derived.SizedLaws
import Derived.WideKeyPair
namespace Go.Proofs.YtajfjkhbimehbaaGreat
open Go.RowKit Go.ChangeShapes Go.WideShapes Go.Deep
set_option linter.unusedVariables false
set_option linter.unusedSimpArgs false

/-- One step of a script. -/
structure OpD where
  kind : Int
  m : Int
  i : Int
  n : Int
  x : Int
  f_sl : Int
  f_gn : Int
  f_sn : Int
  f_s0 : Int
  f_s1 : Int

structure OpAt (w : World) (b off : Nat) (o : OpD) : Prop where
  c0 : w.cell? ⟨b, off, none⟩ = some (.int .i64 o.kind)
  c1 : w.cell? ⟨b, off + 1, none⟩ = some (.int .i64 o.m)
  c2 : w.cell? ⟨b, off + 2, none⟩ = some (.int .i64 o.i)
  c3 : w.cell? ⟨b, off + 3, none⟩ = some (.int .i64 o.n)
  c4 : w.cell? ⟨b, off + 4, none⟩ = some (.int .i64 o.x)
  c5 : w.cell? ⟨b, off + 5, none⟩ = some (.int .i64 o.f_sl)
  c6 : w.cell? ⟨b, off + 6, none⟩ = some (.int .i64 o.f_gn)
  c7 : w.cell? ⟨b, off + 7, none⟩ = some (.int .i64 o.f_sn)
  c8 : w.cell? ⟨b, off + 8, none⟩ = some (.int .u64 o.f_s0)
  c9 : w.cell? ⟨b, off + 9, none⟩ = some (.int .u64 o.f_s1)
  wa : (Lit.int .u64 o.f_s0).wf = true
  wb : (Lit.int .u64 o.f_s1).wf = true

/-- A script that came in. -/
def ScriptAt (w : World) (a : Option Addr) (len : Nat) (f : Nat → OpD) : Prop :=
  len = 0 ∨ ∃ b off, a = some ⟨b, off, none⟩ ∧ ∀ i, i < len → OpAt w b (off + i * 10) (f i)

theorem OpAt.kept {w w' : World} {b off : Nat} {o : OpD} (h : OpAt w b off o) (k : Kept (fun _ => False) w w') : OpAt w' b off o := by
  have hb : b < w.heap.size := World.block_lt_of_cell? w _ h.c0
  have e : ∀ j, w'.cell? ⟨b, j, none⟩ = w.cell? ⟨b, j, none⟩ := fun j => World.cell?_of_block (k.block b hb (fun f => f))
  exact ⟨(e _).trans h.c0, (e _).trans h.c1, (e _).trans h.c2, (e _).trans h.c3, (e _).trans h.c4, (e _).trans h.c5, (e _).trans h.c6, (e _).trans h.c7, (e _).trans h.c8, (e _).trans h.c9, h.wa, h.wb⟩

section
variable {H : Type} {enc : TypeId × Value → H} {w : World}

theorem mem_weightsAll {P : Program} {e : TypeId} {d : DataW H} {n : Nat} : ∀ {l : List (DataW H)}, d ∈ l → n ∈ d.weights P e → n ∈ DataW.weightsAll P e l := by
  intro l
  induction l with
  | nil => intro h; cases h
  | cons x r ih =>
    intro h hn
    simp only [DataW.weightsAll, List.mem_append]
    cases List.mem_cons.1 h with
    | inl e => subst e; exact .inl hn
    | inr e => exact .inr (ih e hn)
theorem Tryz.cellsOp : Tryz.prog.cellsOf 52 = 10 := by kernel_rfl
theorem Tryz.bytesOp : Tryz.prog.bytesOf 52 = 80 := by kernel_rfl
theorem Tryz.cells_int : Tryz.prog.cellsOf 3 = 1 := by kernel_rfl
theorem Tryz.cells_i64 : Tryz.prog.cellsOf 2 = 1 := by kernel_rfl
theorem Tryz.cells_u64 : Tryz.prog.cellsOf 46 = 1 := by kernel_rfl
theorem Tryz.cells_f : Tryz.prog.cellsOf 50 = 5 := by kernel_rfl
theorem Tryz.cells_sig : Tryz.prog.cellsOf 48 = 2 := by kernel_rfl
theorem wf_word {a : Int} (h : (Lit.int .u64 a).wf = true) : ∃ n : Nat, a = (n : Int) ∧ n < 18446744073709551616 := by
  have h2 : 0 ≤ a ∧ a < 18446744073709551616 := by
    simp only [Lit.wf, decide_eq_true_eq, Bool.and_eq_true] at h
    have m0 : IntKind.u64.min = 0 := by decide
    have m1 : IntKind.u64.max = 18446744073709551615 := by decide
    rw [m0, m1] at h
    omega
  exact ⟨a.toNat, by omega, by omega⟩
theorem open_sig {fuel : Nat} {v0 v1 : Value} {x : DataW H × List MemPlace} (h : DataW.trod enc Tryz.prog w 0 (fun _ => true) true fuel 48 [v0, v1] = some x) : ∃ (b0 b1 : Int), v0 = .int .u64 b0 ∧ v1 = .int .u64 b1 ∧ (Lit.int .u64 b0).wf = true ∧ (Lit.int .u64 b1).wf = true := by
  obtain ⟨xs, m, _, _, _, hlen, hf⟩ := DataW.trod_array Tryz.underlying48 h
  match xs, hlen with
  | [y0, y1], _ =>
    have g0 := hf 0 (by omega)
    have g1 := hf 1 (by omega)
    simp [Tryz.cells_u64] at g0 g1
    obtain ⟨b0, e0, _, w0⟩ := DataW.trod_int Tryz.underlying46 g0
    obtain ⟨b1, e1, _, w1⟩ := DataW.trod_int Tryz.underlying46 g1
    simp only [List.cons.injEq, and_true] at e0 e1
    exact ⟨b0, b1, e0, e1, w0, w1⟩
set_option maxRecDepth 100000 in
theorem open_f {fuel : Nat} {cs : List Value} {x : DataW H × List MemPlace} (h : DataW.trod enc Tryz.prog w 0 (fun _ => true) true fuel 50 cs = some x) :
    ∃ (b0 b1 b2 b3 b4 : Int), cs = [.int .i64 b0, .int .i64 b1, .int .i64 b2, .int .u64 b3, .int .u64 b4] ∧ (Lit.int .u64 b3).wf = true ∧ (Lit.int .u64 b4).wf = true := by
  obtain ⟨xs, n, _, rfl, hl, hlen, hf⟩ := DataW.trod_struct Tryz.underlying50 h
  rw [Tryz.cells_f] at hl
  match cs, hl with
  | [v0, v1, v2, v3, v4], _ =>
    match xs, hlen with
    | [y0, y1, y2, y3], _ =>
      have g0 := hf 0 _ rfl
      have g1 := hf 1 _ rfl
      have g2 := hf 2 _ rfl
      have g3 := hf 3 _ rfl
      simp [Tryz.cells_int, Tryz.cells_sig] at g0 g1 g2 g3
      obtain ⟨b0, e0, _, _⟩ := DataW.trod_int Tryz.underlying3 g0
      obtain ⟨b1, e1, _, _⟩ := DataW.trod_int Tryz.underlying3 g1
      obtain ⟨b2, e2, _, _⟩ := DataW.trod_int Tryz.underlying3 g2
      obtain ⟨b3, b4, e3, e4, w3, w4⟩ := open_sig g3
      simp only [List.cons.injEq, and_true] at e0 e1 e2
      subst e0 e1 e2 e3 e4
      exact ⟨b0, b1, b2, b3, b4, rfl, w3, w4⟩

def OpD.zero : OpD := ⟨0, 0, 0, 0, 0, 0, 0, 0, 0, 0⟩

set_option maxRecDepth 100000 in
theorem open_op {fuel : Nat} {cs : List Value} {x : DataW H × List MemPlace} (h : DataW.trod enc Tryz.prog w 0 (fun _ => true) true fuel 52 cs = some x) (hz : ∀ n ∈ x.1.weights Tryz.prog 52, n ≤ reachBytes) :
    ∃ o : OpD, cs = [.int .i64 o.kind, .int .i64 o.m, .int .i64 o.i, .int .i64 o.n, .int .i64 o.x, .int .i64 o.f_sl, .int .i64 o.f_gn, .int .i64 o.f_sn, .int .u64 o.f_s0, .int .u64 o.f_s1] ∧ (Lit.int .u64 o.f_s0).wf = true ∧ (Lit.int .u64 o.f_s1).wf = true := by
  obtain ⟨xs, n, _, rfl, hl, hlen, hf⟩ := DataW.trod_struct Tryz.underlying52 h
  rw [Tryz.cellsOp] at hl
  match cs, hl with
  | [v0, v1, v2, v3, v4, v5, v6, v7, v8, v9], _ =>
    match xs, hlen with
    | [y0, y1, y2, y3, y4, y5], _ =>
      have g0 := hf 0 _ rfl
      have g1 := hf 1 _ rfl
      have g2 := hf 2 _ rfl
      have g3 := hf 3 _ rfl
      have g4 := hf 4 _ rfl
      have g5 := hf 5 _ rfl
      simp [Tryz.cells_int, Tryz.cells_i64, Tryz.cells_u64, Tryz.cells_f] at g0 g1 g2 g3 g4 g5
      obtain ⟨b0, e0, _, _⟩ := DataW.trod_int Tryz.underlying3 g0
      simp only [List.cons.injEq, and_true] at e0
      subst e0
      obtain ⟨b1, e1, _, _⟩ := DataW.trod_int Tryz.underlying3 g1
      simp only [List.cons.injEq, and_true] at e1
      subst e1
      obtain ⟨b2, e2, _, _⟩ := DataW.trod_int Tryz.underlying3 g2
      simp only [List.cons.injEq, and_true] at e2
      subst e2
      obtain ⟨b3, e3, _, _⟩ := DataW.trod_int Tryz.underlying3 g3
      simp only [List.cons.injEq, and_true] at e3
      subst e3
      obtain ⟨b4, e4, _, _⟩ := DataW.trod_int Tryz.underlying2 g4
      simp only [List.cons.injEq, and_true] at e4
      subst e4
      obtain ⟨b5_0, b5_1, b5_2, b5_3, b5_4, e5, w3, w4⟩ := open_f g5
      simp only [List.cons.injEq, and_true] at e5
      obtain ⟨rfl, rfl, rfl, rfl, rfl⟩ := e5
      exact ⟨⟨b0, b1, b2, b3, b4, b5_0, b5_1, b5_2, b5_3, b5_4⟩, rfl, w3, w4⟩

set_option maxRecDepth 100000 in
/-- What is known of a list of steps that came in. -/
theorem open_script {a : Option Addr} {len cap : Nat} {d : DataW H} {p : List MemPlace} (h : DataW.Trod enc Tryz.prog w 0 (fun _ => true) true 25 (.slice a len cap) d p) (hz : ∀ n ∈ d.weights Tryz.prog 25, n ≤ reachBytes) :
    ∃ f : Nat → OpD, ScriptAt w a len f ∧ (len = 0 ∨ ∃ es sp, d = .slice es sp ∧ es.length = len) ∧ len * 80 ≤ 140737488351232 := by
  obtain ⟨fuel, hf⟩ := h
  by_cases h0 : len = 0
  · exact ⟨fun _ => .zero, .inl h0, .inl h0, by omega⟩
  rcases open_slice Tryz.underlying25 hf with ⟨hcs, _⟩ | ⟨a', len', cap', m, n, D, Pl, hcs, _, hl, hm, hmm, hx, hcell⟩
  · simp [Value.cells] at hcs
    omega
  · simp [Value.cells] at hcs
    obtain ⟨rfl, rfl, rfl⟩ := hcs
    simp only [if_true] at hmm
    subst hmm
    simp only [Prod.mk.injEq] at hx
    obtain ⟨hd, _⟩ := hx
    have hmem : ∀ i, i < len → ∀ k ∈ (D i).weights Tryz.prog 52, k ≤ reachBytes := by
      intro i hi k hk
      refine hz k ?_
      rw [hd]
      simp only [DataW.weights, Tryz.underlying25, List.mem_cons, List.mem_append]
      exact .inr (.inl (mem_weightsAll (List.mem_map.2 ⟨i, by simpa using hi, rfl⟩) hk))
    have hsl : ∃ es sp, d = .slice es sp ∧ es.length = len := ⟨_, _, hd, by simp⟩
    have hreach : len * 80 ≤ 140737488351232 := by
      have := hz ((len + (m - len)) * 80) (by
        rw [hd]
        simp [DataW.weights, Tryz.underlying25, Tryz.bytesOp])
      simp only [reachBytes] at this
      omega
    obtain ⟨cs0, hc0, _⟩ := hcell 0 (by omega)
    rw [Tryz.cellsOp] at hc0
    have hs := (World.cells?_some hc0)
    obtain ⟨b, off, spot⟩ := a'
    have h00 := hs.2.2 0 (by omega)
    rw [List.getElem?_eq_getElem (by omega)] at h00
    have hspot : spot = none := by simpa [Addr.add] using World.cell?_spot h00
    subst hspot
    have hall : ∀ i, i < len → ∃ o : OpD, OpAt w b (off + i * 10) o := by
      intro i hi
      obtain ⟨cs, hc, ht⟩ := hcell i (by omega)
      rw [Tryz.cellsOp] at hc
      obtain ⟨o, rfl, w3, w4⟩ := open_op ht (hmem i hi)
      have hcc := (World.cells?_some hc).2.2
      have eadd : ∀ j, ((⟨b, off, none⟩ : Addr).add (i * 10)).add j = ⟨b, off + i * 10 + j, none⟩ := by
        intro j
        unfold Addr.add
        split <;> split <;> simp_all
      have c0 := hcc 0 (by omega)
      have c1 := hcc 1 (by omega)
      have c2 := hcc 2 (by omega)
      have c3 := hcc 3 (by omega)
      have c4 := hcc 4 (by omega)
      have c5 := hcc 5 (by omega)
      have c6 := hcc 6 (by omega)
      have c7 := hcc 7 (by omega)
      have c8 := hcc 8 (by omega)
      have c9 := hcc 9 (by omega)
      rw [eadd] at c0 c1 c2 c3 c4 c5 c6 c7 c8 c9
      exact ⟨o, c0, c1, c2, c3, c4, c5, c6, c7, c8, c9, w3, w4⟩
    obtain ⟨f, hff⟩ := @choose_lt OpD ⟨.zero⟩ len (fun i o => OpAt w b (off + i * 10) o) hall
    exact ⟨f, .inr ⟨b, off, rfl, hff⟩, .inr hsl, hreach⟩
end
end Go.Proofs.YtajfjkhbimehbaaGreat
