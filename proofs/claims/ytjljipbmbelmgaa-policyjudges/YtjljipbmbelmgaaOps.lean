/- The steps of a script as they lie in memory when they come in, and how they are read. -/
import Derived.Test.YtjljipbmbelmgaaProg
import Derived.Test.YtjljipbmbelmgaaVt
import Derived.ProofKit
import Derived.Deep.Slices
import Derived.OpenShut
import Derived.SizedLaws
namespace Go.Proofs.Ytjljipbmbelmgaa
open Go.RowKit Go.ChangeShapes Go.WideShapes Go.Deep
set_option linter.unusedVariables false
set_option linter.unusedSimpArgs false

/-- One step of a script. -/
structure OpD where
  other : Bool
  reset : Bool
  stamp : Int
  la_v : Option Addr
  ll_v : Nat
  lc_v : Nat
  zs_v : List Vt

structure OpAt (w : World) (b off : Nat) (o : OpD) : Prop where
  c0 : w.cell? ⟨b, off, none⟩ = some (.bool o.other)
  c1 : w.cell? ⟨b, off + 1, none⟩ = some (.bool o.reset)
  c2 : w.cell? ⟨b, off + 2, none⟩ = some (.int .i64 o.stamp)
  c3 : w.cell? ⟨b, off + 3, none⟩ = some (.slice o.la_v o.ll_v o.lc_v)
  list_v : VIn w o.la_v o.ll_v o.zs_v
  reach_v : o.ll_v ≤ o.lc_v ∧ o.lc_v * 32 ≤ 140737488351232 ∧ (o.la_v = none → o.ll_v = 0 ∧ o.lc_v = 0)

/-- A script that came in. -/
def ScriptAt (w : World) (a : Option Addr) (len : Nat) (f : Nat → OpD) : Prop :=
  len = 0 ∨ ∃ b off, a = some ⟨b, off, none⟩ ∧ ∀ i, i < len → OpAt w b (off + i * 4) (f i)

theorem OpAt.kept {w w' : World} {b off : Nat} {o : OpD} (h : OpAt w b off o) (k : Kept (fun _ => False) w w') : OpAt w' b off o := by
  have hb : b < w.heap.size := World.block_lt_of_cell? w _ h.c0
  have e : ∀ j, w'.cell? ⟨b, j, none⟩ = w.cell? ⟨b, j, none⟩ := fun j => World.cell?_of_block (k.block b hb (fun f => f))
  exact ⟨(e _).trans h.c0, (e _).trans h.c1, (e _).trans h.c2, (e _).trans h.c3, h.list_v.kept k, h.reach_v⟩

section
variable {H : Type} {enc : TypeId × Value → H} {w : World}

theorem mem_weightsAll {P : Program} {e : TypeId} {d : DataW H} {n : Nat} : ∀ {l : List (DataW H)}, d ∈ l → n ∈ d.weights P e → n ∈ DataW.weightsAll P e l := by
  intro l
  induction l with
  | nil => intro h; cases h
  | cons x r ih =>
    intro h hn
    simp only [DataW.weightsAll, List.mem_append]
    cases List.mem_cons.1 h with
    | inl e => subst e; exact .inl hn
    | inr e => exact .inr (ih e hn)
theorem Try.cellsOp : Try.prog.cellsOf 41 = 4 := by kernel_rfl
theorem Try.bytesOp : Try.prog.bytesOf 41 = 40 := by kernel_rfl
theorem Try.cells_bool : Try.prog.cellsOf 4 = 1 := by kernel_rfl
theorem Try.cells_int : Try.prog.cellsOf 3 = 1 := by kernel_rfl
theorem Try.cells_ints : Try.prog.cellsOf 24 = 1 := by kernel_rfl

def OpD.zero : OpD := ⟨false, false, 0, none, 0, 0, []⟩

set_option maxRecDepth 100000 in
theorem open_op {fuel : Nat} {cs : List Value} {x : DataW H × List MemPlace} (h : DataW.trod enc Try.prog w 0 (fun _ => true) true fuel 41 cs = some x) (hz : ∀ n ∈ x.1.weights Try.prog 41, n ≤ reachBytes) :
    ∃ o : OpD, cs = [.bool o.other, .bool o.reset, .int .i64 o.stamp, .slice o.la_v o.ll_v o.lc_v] ∧ VIn w o.la_v o.ll_v o.zs_v ∧ o.ll_v ≤ o.lc_v ∧ o.lc_v * 32 ≤ 140737488351232 ∧ (o.la_v = none → o.ll_v = 0 ∧ o.lc_v = 0) := by
  obtain ⟨xs, n, _, rfl, hl, hlen, hf⟩ := DataW.trod_struct Try.underlying41 h
  rw [Try.cellsOp] at hl
  match cs, hl with
  | [v0, v1, v2, v3], _ =>
    match xs, hlen with
    | [y0, y1, y2, y3], _ =>
      have g0 := hf 0 _ rfl
      have g1 := hf 1 _ rfl
      have g2 := hf 2 _ rfl
      have g3 := hf 3 _ rfl
      simp [Try.cells_bool, Try.cells_int, Try.cells_ints] at g0 g1 g2 g3
      obtain ⟨b0, e0, _⟩ := DataW.trod_bool Try.underlying4 g0
      simp only [List.cons.injEq, and_true] at e0
      subst e0
      obtain ⟨b1, e1, _⟩ := DataW.trod_bool Try.underlying4 g1
      simp only [List.cons.injEq, and_true] at e1
      subst e1
      obtain ⟨b2, e2, _, _⟩ := DataW.trod_int Try.underlying3 g2
      simp only [List.cons.injEq, and_true] at e2
      subst e2
      obtain ⟨la3, ll3, lc3, zs3, e3, hL3, hR3, hS3⟩ := open_vics g3 (fun n hn => hz n (by
        simp only [DataW.weights, Try.underlying41]
        simp [DataW.weightsEach, hn]))
      subst e3
      exact ⟨⟨b0, b1, b2, la3, ll3, lc3, zs3⟩, rfl, hL3, hR3, hS3⟩

set_option maxRecDepth 100000 in
/-- What is known of a list of steps that came in. -/
theorem open_script {a : Option Addr} {len cap : Nat} {d : DataW H} {p : List MemPlace} (h : DataW.Trod enc Try.prog w 0 (fun _ => true) true 32 (.slice a len cap) d p) (hz : ∀ n ∈ d.weights Try.prog 32, n ≤ reachBytes) :
    ∃ f : Nat → OpD, ScriptAt w a len f ∧ (len = 0 ∨ ∃ es sp, d = .slice es sp ∧ es.length = len) ∧ len * 40 ≤ 140737488351232 := by
  obtain ⟨fuel, hf⟩ := h
  by_cases h0 : len = 0
  · exact ⟨fun _ => .zero, .inl h0, .inl h0, by omega⟩
  rcases open_slice Try.underlying32 hf with ⟨hcs, _⟩ | ⟨a', len', cap', m, n, D, Pl, hcs, _, hl, hm, hmm, hx, hcell⟩
  · simp [Value.cells] at hcs
    omega
  · simp [Value.cells] at hcs
    obtain ⟨rfl, rfl, rfl⟩ := hcs
    simp only [if_true] at hmm
    subst hmm
    simp only [Prod.mk.injEq] at hx
    obtain ⟨hd, _⟩ := hx
    have hmem : ∀ i, i < len → ∀ k ∈ (D i).weights Try.prog 41, k ≤ reachBytes := by
      intro i hi k hk
      refine hz k ?_
      rw [hd]
      simp only [DataW.weights, Try.underlying32, List.mem_cons, List.mem_append]
      exact .inr (.inl (mem_weightsAll (List.mem_map.2 ⟨i, by simpa using hi, rfl⟩) hk))
    have hsl : ∃ es sp, d = .slice es sp ∧ es.length = len := ⟨_, _, hd, by simp⟩
    have hreach : len * 40 ≤ 140737488351232 := by
      have := hz ((len + (m - len)) * 40) (by
        rw [hd]
        simp [DataW.weights, Try.underlying32, Try.bytesOp])
      simp only [reachBytes] at this
      omega
    obtain ⟨cs0, hc0, _⟩ := hcell 0 (by omega)
    rw [Try.cellsOp] at hc0
    have hs := (World.cells?_some hc0)
    obtain ⟨b, off, spot⟩ := a'
    have h00 := hs.2.2 0 (by omega)
    rw [List.getElem?_eq_getElem (by omega)] at h00
    have hspot : spot = none := by simpa [Addr.add] using World.cell?_spot h00
    subst hspot
    have hall : ∀ i, i < len → ∃ o : OpD, OpAt w b (off + i * 4) o := by
      intro i hi
      obtain ⟨cs, hc, ht⟩ := hcell i (by omega)
      rw [Try.cellsOp] at hc
      obtain ⟨o, rfl, hL0, hR0, hS0⟩ := open_op ht (hmem i hi)
      have hcc := (World.cells?_some hc).2.2
      have eadd : ∀ j, ((⟨b, off, none⟩ : Addr).add (i * 4)).add j = ⟨b, off + i * 4 + j, none⟩ := by
        intro j
        unfold Addr.add
        split <;> split <;> simp_all
      have c0 := hcc 0 (by omega)
      have c1 := hcc 1 (by omega)
      have c2 := hcc 2 (by omega)
      have c3 := hcc 3 (by omega)
      rw [eadd] at c0 c1 c2 c3
      exact ⟨o, c0, c1, c2, c3, hL0, ⟨hR0, hS0⟩⟩
    obtain ⟨f, hff⟩ := @choose_lt OpD ⟨.zero⟩ len (fun i o => OpAt w b (off + i * 4) o) hall
    exact ⟨f, .inr ⟨b, off, rfl, hff⟩, .inr hsl, hreach⟩
end
end Go.Proofs.Ytjljipbmbelmgaa
