/- Lists of structs as they lie in memory when they come in, and how they are read. -/
import Derived.Test.YtmoekoilcdkhfabGreatDoorProg
import Derived.Test.YtmoekoilcdkhfabGreatDoorBkA
import Derived.ProofKit
import Derived.Deep.Slices
import Derived.OpenShut
import Derived.SizedLaws
import Derived.WideKeyPair
namespace Go.Proofs.YtmoekoilcdkhfabGreatDoor
open Go.RowKit Go.ChangeShapes Go.WideShapes Go.Deep
set_option linter.unusedVariables false
set_option linter.unusedSimpArgs false

theorem wf_word {a : Int} (h : (Lit.int .u64 a).wf = true) : ∃ n : Nat, a = (n : Int) ∧ n < 18446744073709551616 := by
  have h2 : 0 ≤ a ∧ a < 18446744073709551616 := by
    simp only [Lit.wf, decide_eq_true_eq, Bool.and_eq_true] at h
    have m0 : IntKind.u64.min = 0 := by decide
    have m1 : IntKind.u64.max = 18446744073709551615 := by decide
    rw [m0, m1] at h
    omega
  exact ⟨a.toNat, by omega, by omega⟩
section
variable {H : Type} {enc : TypeId × Value → H} {w : World}
theorem mem_weightsAll {P : Program} {e : TypeId} {d : DataW H} {n : Nat} : ∀ {l : List (DataW H)}, d ∈ l → n ∈ d.weights P e → n ∈ DataW.weightsAll P e l := by
  intro l
  induction l with
  | nil => intro h; cases h
  | cons x r ih =>
    intro h hn
    simp only [DataW.weightsAll, List.mem_append]
    cases List.mem_cons.1 h with
    | inl e => subst e; exact .inl hn
    | inr e => exact .inr (ih e hn)
theorem Tryz.cells_int : Tryz.prog.cellsOf 3 = 1 := by kernel_rfl
theorem Tryz.cells_i64 : Tryz.prog.cellsOf 2 = 1 := by kernel_rfl
end

/-- One of them. -/
structure DeD where
  op : Int
  a : Int
  b : Int
  x : Int
  y : Int
structure DeAt (w : World) (b off : Nat) (o : DeD) : Prop where
  c0 : w.cell? ⟨b, off, none⟩ = some (.int .i64 o.op)
  c1 : w.cell? ⟨b, off + 1, none⟩ = some (.int .i64 o.a)
  c2 : w.cell? ⟨b, off + 2, none⟩ = some (.int .i64 o.b)
  c3 : w.cell? ⟨b, off + 3, none⟩ = some (.int .i64 o.x)
  c4 : w.cell? ⟨b, off + 4, none⟩ = some (.int .i64 o.y)
/-- A list of them that came in. -/
def DesAt (w : World) (a : Option Addr) (len : Nat) (f : Nat → DeD) : Prop :=
  len = 0 ∨ ∃ b off, a = some ⟨b, off, none⟩ ∧ ∀ i, i < len → DeAt w b (off + i * 5) (f i)
theorem DeAt.kept {w w' : World} {b off : Nat} {o : DeD} (h : DeAt w b off o) (k : Kept (fun _ => False) w w') : DeAt w' b off o := by
  have hb : b < w.heap.size := World.block_lt_of_cell? w _ h.c0
  have e : ∀ j, w'.cell? ⟨b, j, none⟩ = w.cell? ⟨b, j, none⟩ := fun j => World.cell?_of_block (k.block b hb (fun f => f))
  exact ⟨(e _).trans h.c0, (e _).trans h.c1, (e _).trans h.c2, (e _).trans h.c3, (e _).trans h.c4⟩
def DeD.zero : DeD := ⟨0, 0, 0, 0, 0⟩
section
variable {H : Type} {enc : TypeId × Value → H} {w : World}
theorem Tryz.cells_De : Tryz.prog.cellsOf 33 = 5 := by kernel_rfl
theorem Tryz.bytes_De : Tryz.prog.bytesOf 33 = 40 := by kernel_rfl
set_option maxRecDepth 100000 in
theorem open_De {fuel : Nat} {cs : List Value} {x : DataW H × List MemPlace} (h : DataW.trod enc Tryz.prog w 0 (fun _ => true) true fuel 33 cs = some x) (hz : ∀ n ∈ x.1.weights Tryz.prog 33, n ≤ reachBytes) :
    ∃ o : DeD, cs = [.int .i64 o.op, .int .i64 o.a, .int .i64 o.b, .int .i64 o.x, .int .i64 o.y] := by
  obtain ⟨xs, n, _, rfl, hl, hlen, hf⟩ := DataW.trod_struct Tryz.underlying33 h
  rw [Tryz.cells_De] at hl
  match cs, hl with
  | [v0, v1, v2, v3, v4], _ =>
    match xs, hlen with
    | [y0, y1, y2, y3, y4], _ =>
      have g0 := hf 0 _ rfl
      have g1 := hf 1 _ rfl
      have g2 := hf 2 _ rfl
      have g3 := hf 3 _ rfl
      have g4 := hf 4 _ rfl
      simp [Tryz.cells_int, Tryz.cells_i64] at g0 g1 g2 g3 g4
      obtain ⟨b0, e0, _, _⟩ := DataW.trod_int Tryz.underlying3 g0
      simp only [List.cons.injEq, and_true] at e0
      subst e0
      obtain ⟨b1, e1, _, _⟩ := DataW.trod_int Tryz.underlying3 g1
      simp only [List.cons.injEq, and_true] at e1
      subst e1
      obtain ⟨b2, e2, _, _⟩ := DataW.trod_int Tryz.underlying3 g2
      simp only [List.cons.injEq, and_true] at e2
      subst e2
      obtain ⟨b3, e3, _, _⟩ := DataW.trod_int Tryz.underlying2 g3
      simp only [List.cons.injEq, and_true] at e3
      subst e3
      obtain ⟨b4, e4, _, _⟩ := DataW.trod_int Tryz.underlying2 g4
      simp only [List.cons.injEq, and_true] at e4
      subst e4
      exact ⟨⟨b0, b1, b2, b3, b4⟩, rfl⟩
set_option maxRecDepth 100000 in
theorem open_Des {a : Option Addr} {len cap : Nat} {d : DataW H} {pl : List MemPlace} (h : DataW.Trod enc Tryz.prog w 0 (fun _ => true) true 23 (.slice a len cap) d pl) (hz : ∀ n ∈ d.weights Tryz.prog 23, n ≤ reachBytes) :
    ∃ f : Nat → DeD, DesAt w a len f ∧ len * 40 ≤ 140737488351232 := by
  obtain ⟨fuel, hf⟩ := h
  by_cases h0 : len = 0
  · exact ⟨fun _ => .zero, .inl h0, by omega⟩
  rcases open_slice Tryz.underlying23 hf with ⟨hcs, _⟩ | ⟨a', len', cap', m, n, D, Pl, hcs, _, hl, hm, hmm, hx, hcell⟩
  · simp [Value.cells] at hcs
    omega
  · simp [Value.cells] at hcs
    obtain ⟨rfl, rfl, rfl⟩ := hcs
    simp only [if_true] at hmm
    subst hmm
    simp only [Prod.mk.injEq] at hx
    obtain ⟨hd, _⟩ := hx
    have hmem : ∀ i, i < len → ∀ k ∈ (D i).weights Tryz.prog 33, k ≤ reachBytes := by
      intro i hi k hk
      refine hz k ?_
      rw [hd]
      simp only [DataW.weights, Tryz.underlying23, List.mem_cons, List.mem_append]
      exact .inr (.inl (mem_weightsAll (List.mem_map.2 ⟨i, by simpa using hi, rfl⟩) hk))
    have hreach : len * 40 ≤ 140737488351232 := by
      have := hz ((len + (m - len)) * 40) (by
        rw [hd]
        simp [DataW.weights, Tryz.underlying23, Tryz.bytes_De])
      simp only [reachBytes] at this
      omega
    obtain ⟨cs0, hc0, _⟩ := hcell 0 (by omega)
    rw [Tryz.cells_De] at hc0
    have hs := (World.cells?_some hc0)
    obtain ⟨b, off, spot⟩ := a'
    have h00 := hs.2.2 0 (by omega)
    rw [List.getElem?_eq_getElem (by omega)] at h00
    have hspot : spot = none := by simpa [Addr.add] using World.cell?_spot h00
    subst hspot
    have hall : ∀ i, i < len → ∃ o : DeD, DeAt w b (off + i * 5) o := by
      intro i hi
      obtain ⟨cs, hc, ht⟩ := hcell i (by omega)
      rw [Tryz.cells_De] at hc
      obtain ⟨o, rfl⟩ := open_De ht (hmem i hi)
      have hcc := (World.cells?_some hc).2.2
      have eadd : ∀ j, ((⟨b, off, none⟩ : Addr).add (i * 5)).add j = ⟨b, off + i * 5 + j, none⟩ := by
        intro j
        unfold Addr.add
        split <;> split <;> simp_all
      have c0 := hcc 0 (by omega)
      have c1 := hcc 1 (by omega)
      have c2 := hcc 2 (by omega)
      have c3 := hcc 3 (by omega)
      have c4 := hcc 4 (by omega)
      rw [eadd] at c0 c1 c2 c3 c4
      exact ⟨o, c0, c1, c2, c3, c4⟩
    obtain ⟨f, hff⟩ := @choose_lt DeD ⟨.zero⟩ len (fun i o => DeAt w b (off + i * 5) o) hall
    exact ⟨f, .inr ⟨b, off, rfl, hff⟩, hreach⟩
set_option maxRecDepth 100000 in
theorem arg_Des {b0 : Nat} {v : Value} {d : DataW H} {pl : List MemPlace} (h : DataW.Trod enc Tryz.prog w 0 (fun _ => true) true 23 v d pl) (hv : Value.okWide Tryz.prog w .any b0 23 v) (hz : ∀ n ∈ d.weights Tryz.prog 23, n ≤ reachBytes) :
    ∃ la ll lc f, v = .slice la ll lc ∧ DesAt w la ll f ∧ ll * 40 ≤ 140737488351232 := by
  obtain ⟨a, len, cap, rfl⟩ := okWide_slice Tryz.underlying23 hv
  obtain ⟨f, h1, h2⟩ := open_Des h hz
  exact ⟨a, len, cap, f, rfl, h1, h2⟩
end
end Go.Proofs.YtmoekoilcdkhfabGreatDoor
