/- Lists of structs as they lie in memory when they come in, and how they are read. -/
import Derived.Test.YtnmlnjljmikmpaaProg
import Derived.Test.YtnmlnjljmikmpaaGu
import Derived.ProofKit
import Derived.Deep.Slices
import Derived.OpenShut
import Derived.SizedLaws
import Derived.WideKeyPair
namespace Go.Proofs.Ytnmlnjljmikmpaa
open Go.RowKit Go.ChangeShapes Go.WideShapes Go.Deep
set_option linter.unusedVariables false
set_option linter.unusedSimpArgs false


/-- One of them. -/
structure MiD where
  st : Int
  wr : Bool
  ce : Int
  x : Int
  ow : Bool
  ga : Int
structure MiAt (w : World) (b off : Nat) (o : MiD) : Prop where
  c0 : w.cell? ⟨b, off, none⟩ = some (.int .i64 o.st)
  c1 : w.cell? ⟨b, off + 1, none⟩ = some (.bool o.wr)
  c2 : w.cell? ⟨b, off + 2, none⟩ = some (.int .i64 o.ce)
  c3 : w.cell? ⟨b, off + 3, none⟩ = some (.int .i64 o.x)
  c4 : w.cell? ⟨b, off + 4, none⟩ = some (.bool o.ow)
  c5 : w.cell? ⟨b, off + 5, none⟩ = some (.int .i64 o.ga)
  r_ce : (-9223372036854775808 ≤ o.ce ∧ o.ce ≤ 9223372036854775807)
/-- A list of them that came in. -/
def MisAt (w : World) (a : Option Addr) (len : Nat) (f : Nat → MiD) : Prop :=
  len = 0 ∨ ∃ b off, a = some ⟨b, off, none⟩ ∧ ∀ i, i < len → MiAt w b (off + i * 6) (f i)
theorem MiAt.kept {w w' : World} {b off : Nat} {o : MiD} (h : MiAt w b off o) (k : Kept (fun _ => False) w w') : MiAt w' b off o := by
  have hb : b < w.heap.size := World.block_lt_of_cell? w _ h.c0
  have e : ∀ j, w'.cell? ⟨b, j, none⟩ = w.cell? ⟨b, j, none⟩ := fun j => World.cell?_of_block (k.block b hb (fun f => f))
  exact ⟨(e _).trans h.c0, (e _).trans h.c1, (e _).trans h.c2, (e _).trans h.c3, (e _).trans h.c4, (e _).trans h.c5, h.r_ce⟩
def MiD.zero : MiD := ⟨0, false, 0, 0, false, 0⟩
section
variable {H : Type} {enc : TypeId × Value → H} {w : World}
theorem Try.cells_Mi : Try.prog.cellsOf 46 = 6 := by kernel_rfl
theorem Try.bytes_Mi : Try.prog.bytesOf 46 = 48 := by kernel_rfl
set_option maxRecDepth 100000 in
theorem open_Mi {fuel : Nat} {cs : List Value} {x : DataW H × List MemPlace} (h : DataW.trod enc Try.prog w 0 (fun _ => true) true fuel 46 cs = some x) (hz : ∀ n ∈ x.1.weights Try.prog 46, n ≤ reachBytes) :
    ∃ o : MiD, cs = [.int .i64 o.st, .bool o.wr, .int .i64 o.ce, .int .i64 o.x, .bool o.ow, .int .i64 o.ga] ∧ (-9223372036854775808 ≤ o.ce ∧ o.ce ≤ 9223372036854775807) := by
  obtain ⟨xs, n, _, rfl, hl, hlen, hf⟩ := DataW.trod_struct Try.underlying46 h
  rw [Try.cells_Mi] at hl
  match cs, hl with
  | [v0, v1, v2, v3, v4, v5], _ =>
    match xs, hlen with
    | [y0, y1, y2, y3, y4, y5], _ =>
      have g0 := hf 0 _ rfl
      have g1 := hf 1 _ rfl
      have g2 := hf 2 _ rfl
      have g3 := hf 3 _ rfl
      have g4 := hf 4 _ rfl
      have g5 := hf 5 _ rfl
      simp [Try.cells_int, Try.cells_i64, Try.cells_bool, Try.cells_int] at g0 g1 g2 g3 g4 g5
      obtain ⟨b0, e0, _, _⟩ := DataW.trod_int Try.underlying3 g0
      simp only [List.cons.injEq, and_true] at e0
      subst e0
      obtain ⟨b1, e1, _⟩ := DataW.trod_bool Try.underlying4 g1
      simp only [List.cons.injEq, and_true] at e1
      subst e1
      obtain ⟨b2, e2, _, w2⟩ := DataW.trod_int Try.underlying3 g2
      simp only [List.cons.injEq, and_true] at e2
      subst e2
      obtain ⟨b3, e3, _, _⟩ := DataW.trod_int Try.underlying2 g3
      simp only [List.cons.injEq, and_true] at e3
      subst e3
      obtain ⟨b4, e4, _⟩ := DataW.trod_bool Try.underlying4 g4
      simp only [List.cons.injEq, and_true] at e4
      subst e4
      obtain ⟨b5, e5, _, _⟩ := DataW.trod_int Try.underlying3 g5
      simp only [List.cons.injEq, and_true] at e5
      subst e5
      exact ⟨⟨b0, b1, b2, b3, b4, b5⟩, rfl, wf_i64r w2⟩
set_option maxRecDepth 100000 in
theorem open_Mis {a : Option Addr} {len cap : Nat} {d : DataW H} {pl : List MemPlace} (h : DataW.Trod enc Try.prog w 0 (fun _ => true) true 42 (.slice a len cap) d pl) (hz : ∀ n ∈ d.weights Try.prog 42, n ≤ reachBytes) :
    ∃ f : Nat → MiD, MisAt w a len f ∧ len * 48 ≤ 140737488351232 := by
  obtain ⟨fuel, hf⟩ := h
  by_cases h0 : len = 0
  · exact ⟨fun _ => .zero, .inl h0, by omega⟩
  rcases open_slice Try.underlying42 hf with ⟨hcs, _⟩ | ⟨a', len', cap', m, n, D, Pl, hcs, _, hl, hm, hmm, hx, hcell⟩
  · simp [Value.cells] at hcs
    omega
  · simp [Value.cells] at hcs
    obtain ⟨rfl, rfl, rfl⟩ := hcs
    simp only [if_true] at hmm
    subst hmm
    simp only [Prod.mk.injEq] at hx
    obtain ⟨hd, _⟩ := hx
    have hmem : ∀ i, i < len → ∀ k ∈ (D i).weights Try.prog 46, k ≤ reachBytes := by
      intro i hi k hk
      refine hz k ?_
      rw [hd]
      simp only [DataW.weights, Try.underlying42, List.mem_cons, List.mem_append]
      exact .inr (.inl (mem_weightsAll (List.mem_map.2 ⟨i, by simpa using hi, rfl⟩) hk))
    have hreach : len * 48 ≤ 140737488351232 := by
      have := hz ((len + (m - len)) * 48) (by
        rw [hd]
        simp [DataW.weights, Try.underlying42, Try.bytes_Mi])
      simp only [reachBytes] at this
      omega
    obtain ⟨cs0, hc0, _⟩ := hcell 0 (by omega)
    rw [Try.cells_Mi] at hc0
    have hs := (World.cells?_some hc0)
    obtain ⟨b, off, spot⟩ := a'
    have h00 := hs.2.2 0 (by omega)
    rw [List.getElem?_eq_getElem (by omega)] at h00
    have hspot : spot = none := by simpa [Addr.add] using World.cell?_spot h00
    subst hspot
    have hall : ∀ i, i < len → ∃ o : MiD, MiAt w b (off + i * 6) o := by
      intro i hi
      obtain ⟨cs, hc, ht⟩ := hcell i (by omega)
      rw [Try.cells_Mi] at hc
      obtain ⟨o, rfl, r0⟩ := open_Mi ht (hmem i hi)
      have hcc := (World.cells?_some hc).2.2
      have eadd : ∀ j, ((⟨b, off, none⟩ : Addr).add (i * 6)).add j = ⟨b, off + i * 6 + j, none⟩ := by
        intro j
        unfold Addr.add
        split <;> split <;> simp_all
      have c0 := hcc 0 (by omega)
      have c1 := hcc 1 (by omega)
      have c2 := hcc 2 (by omega)
      have c3 := hcc 3 (by omega)
      have c4 := hcc 4 (by omega)
      have c5 := hcc 5 (by omega)
      rw [eadd] at c0 c1 c2 c3 c4 c5
      exact ⟨o, c0, c1, c2, c3, c4, c5, r0⟩
    obtain ⟨f, hff⟩ := @choose_lt MiD ⟨.zero⟩ len (fun i o => MiAt w b (off + i * 6) o) hall
    exact ⟨f, .inr ⟨b, off, rfl, hff⟩, hreach⟩
set_option maxRecDepth 100000 in
theorem arg_Mis {b0 : Nat} {v : Value} {d : DataW H} {pl : List MemPlace} (h : DataW.Trod enc Try.prog w 0 (fun _ => true) true 42 v d pl) (hv : Value.okWide Try.prog w .any b0 42 v) (hz : ∀ n ∈ d.weights Try.prog 42, n ≤ reachBytes) :
    ∃ la ll lc f, v = .slice la ll lc ∧ MisAt w la ll f ∧ ll * 48 ≤ 140737488351232 := by
  obtain ⟨a, len, cap, rfl⟩ := okWide_slice Try.underlying42 hv
  obtain ⟨f, h1, h2⟩ := open_Mis h hz
  exact ⟨a, len, cap, f, rfl, h1, h2⟩
end
def MiD.mv (d : MiD) : Mv := ⟨d.st, d.wr, d.ce, d.x, d.ow, d.ga⟩
def mvs (f : Nat → MiD) (n : Nat) : List Mv := (List.range n).map fun i => (f i).mv
theorem mvs_len (f : Nat → MiD) (n : Nat) : (mvs f n).length = n := by simp [mvs]
/-- Moves that came in: their cells' numbers are an int's. -/
def MvIn (w : World) (la : Option Addr) (n : Nat) (ms : List Mv) : Prop := RIn mC w la n ms ∧ ∀ x ∈ ms, -9223372036854775808 ≤ x.ce ∧ x.ce ≤ 9223372036854775807
theorem MvIn.kept {w w' : World} {la : Option Addr} {n : Nat} {ms : List Mv} (h : MvIn w la n ms) (k : Kept (fun _ => False) w w') : MvIn w' la n ms := ⟨h.1.kept k, h.2⟩
theorem mvs_in {w : World} {la : Option Addr} {n : Nat} {f : Nat → MiD} (h : MisAt w la n f) : MvIn w la n (mvs f n) := by
  rcases h with rfl | ⟨b, off, rfl, h⟩
  · exact ⟨RIn.nil _ _, fun x hx => by simp [mvs] at hx⟩
  · refine ⟨rin_of (k := 6) (fun _ => rfl) (by omega) (mvs_len f n).symm (fun i x hx c u hu => ?_), fun x hx => ?_⟩
    · have hi := (List.getElem?_eq_some_iff.1 hx).1
      rw [mvs_len] at hi
      have e : x = (f i).mv := by
        simp only [mvs, List.getElem?_map, List.getElem?_range hi, Option.map_some, Option.some.injEq] at hx
        exact hx.symm
      subst e
      have hc' : c < 6 := (List.getElem?_eq_some_iff.1 hu).1
      have a := h i hi
      match c, hu, hc' with
      | 0, hu, _ => cases hu; exact a.c0
      | 1, hu, _ => cases hu; exact a.c1
      | 2, hu, _ => cases hu; exact a.c2
      | 3, hu, _ => cases hu; exact a.c3
      | 4, hu, _ => cases hu; exact a.c4
      | 5, hu, _ => cases hu; exact a.c5
    · obtain ⟨i, hi, rfl⟩ := List.mem_map.1 hx
      exact (h i (List.mem_range.1 hi)).r_ce
theorem Try.cells_mvs : Try.prog.cellsOf 42 = 1 := by kernel_rfl
theorem open_mvs {H : Type} {enc : TypeId × Value → H} {w : World} {fuel : Nat} {v : Value} {x : DataW H × List MemPlace} (h : DataW.trod enc Try.prog w 0 (fun _ => true) true fuel 42 [v] = some x) (hz : ∀ n ∈ x.1.weights Try.prog 42, n ≤ reachBytes) :
    ∃ la ll lc zs, v = .slice la ll lc ∧ MvIn w la ll zs ∧ (ll ≤ lc ∧ ll * 48 ≤ 140737488351232 ∧ (la = none → ll = 0 ∧ lc = 0)) := by
  have hk : ∃ la ll lc, v = .slice la ll lc ∧ ll ≤ lc ∧ (la = none → ll = 0 ∧ lc = 0) := by
    rcases open_slice Try.underlying42 h with ⟨e, _⟩ | ⟨a, len, cap, m, n, D, Pl, e, _, hl, hm, _⟩
    · simp only [List.cons.injEq, and_true] at e
      exact ⟨none, 0, 0, e, Nat.le_refl _, fun _ => ⟨rfl, rfl⟩⟩
    · simp only [List.cons.injEq, and_true] at e
      exact ⟨some a, len, cap, e, hl, fun e => by cases e⟩
  obtain ⟨la, ll, lc, rfl, h1, h2⟩ := hk
  obtain ⟨f, h3, h4⟩ := open_Mis (d := x.1) (pl := x.2) ⟨fuel, h⟩ hz
  exact ⟨la, ll, lc, _, rfl, mvs_in h3, h1, h4, h2⟩
end Go.Proofs.Ytnmlnjljmikmpaa
