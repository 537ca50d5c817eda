/- The steps of a script as they lie in memory when they come in, and how they are read. -/
import Derived.Test.YtajfjkhbimehbaaProg
import Derived.Test.YtajfjkhbimehbaaClX
import Derived.ProofKit
import Derived.Deep.Slices
import Derived.OpenShut
import Derived.SizedLaws
namespace Go.Proofs.Ytajfjkhbimehbaa
open Go.RowKit Go.ChangeShapes Go.WideShapes Go.Deep
set_option linter.unusedVariables false
set_option linter.unusedSimpArgs false

/-- One step of a script. -/
structure OpD where
  take : Bool
  give : Bool
  la_cells : Option Addr
  ll_cells : Nat
  lc_cells : Nat
  zs_cells : List Int
  x : Int

structure OpAt (w : World) (b off : Nat) (o : OpD) : Prop where
  c0 : w.cell? ⟨b, off, none⟩ = some (.bool o.take)
  c1 : w.cell? ⟨b, off + 1, none⟩ = some (.bool o.give)
  c2 : w.cell? ⟨b, off + 2, none⟩ = some (.slice o.la_cells o.ll_cells o.lc_cells)
  c3 : w.cell? ⟨b, off + 3, none⟩ = some (.int .i64 o.x)
  list_cells : NumsIn w o.la_cells o.ll_cells o.zs_cells
  reach_cells : o.ll_cells ≤ o.lc_cells ∧ o.lc_cells * 8 ≤ 140737488351232 ∧ (o.la_cells = none → o.ll_cells = 0 ∧ o.lc_cells = 0)

/-- A script that came in. -/
def ScriptAt (w : World) (a : Option Addr) (len : Nat) (f : Nat → OpD) : Prop :=
  len = 0 ∨ ∃ b off, a = some ⟨b, off, none⟩ ∧ ∀ i, i < len → OpAt w b (off + i * 4) (f i)

theorem OpAt.kept {w w' : World} {b off : Nat} {o : OpD} (h : OpAt w b off o) (k : Kept (fun _ => False) w w') : OpAt w' b off o := by
  have hb : b < w.heap.size := World.block_lt_of_cell? w _ h.c0
  have e : ∀ j, w'.cell? ⟨b, j, none⟩ = w.cell? ⟨b, j, none⟩ := fun j => World.cell?_of_block (k.block b hb (fun f => f))
  exact ⟨(e _).trans h.c0, (e _).trans h.c1, (e _).trans h.c2, (e _).trans h.c3, h.list_cells.kept k, h.reach_cells⟩

section
variable {H : Type} {enc : TypeId × Value → H} {w : World}

theorem mem_weightsAll {P : Program} {e : TypeId} {d : DataW H} {n : Nat} : ∀ {l : List (DataW H)}, d ∈ l → n ∈ d.weights P e → n ∈ DataW.weightsAll P e l := by
  intro l
  induction l with
  | nil => intro h; cases h
  | cons x r ih =>
    intro h hn
    simp only [DataW.weightsAll, List.mem_append]
    cases List.mem_cons.1 h with
    | inl e => subst e; exact .inl hn
    | inr e => exact .inr (ih e hn)
theorem Try.cellsOp : Try.prog.cellsOf 84 = 4 := by kernel_rfl
theorem Try.bytesOp : Try.prog.bytesOf 84 = 40 := by kernel_rfl
theorem Try.cells_bool : Try.prog.cellsOf 4 = 1 := by kernel_rfl
theorem Try.cells_i64 : Try.prog.cellsOf 2 = 1 := by kernel_rfl
theorem Try.cells_ints : Try.prog.cellsOf 23 = 1 := by kernel_rfl
theorem Try.cells_num : Try.prog.cellsOf 3 = 1 := by kernel_rfl
theorem Try.bytes_num : Try.prog.bytesOf 3 = 8 := by kernel_rfl
theorem open_nums {fuel : Nat} {v : Value} {x : DataW H × List MemPlace} (h : DataW.trod enc Try.prog w 0 (fun _ => true) true fuel 23 [v] = some x) (hz : ∀ n ∈ x.1.weights Try.prog 23, n ≤ reachBytes) :
    ∃ la ll lc zs, v = .slice la ll lc ∧ NumsIn w la ll zs ∧ ll ≤ lc ∧ lc * 8 ≤ 140737488351232 ∧ (la = none → ll = 0 ∧ lc = 0) := by
  rcases open_ints Try.underlying23 Try.underlying3 Try.cells_num h with ⟨hcs, _⟩ | ⟨a, len, cap, zs, hcs, _, hl, hm, hzl, hx, hcell, _⟩
  · simp only [List.cons.injEq, and_true] at hcs
    exact ⟨_, _, _, [], hcs, ⟨rfl, fun h => by omega⟩, by omega, by omega, fun _ => ⟨rfl, rfl⟩⟩
  · simp only [List.cons.injEq, and_true] at hcs
    simp only [if_true] at hzl
    have hr : cap * 8 ≤ 140737488351232 := by
      have := hz ((zs.take len).length * 8 + (zs.drop len).length * 8) (by
        rw [hx]
        simp [DataW.weights, Try.underlying23, Try.bytes_num, lits, Nat.add_mul])
      simp only [List.length_take, List.length_drop, reachBytes] at this
      omega
    refine ⟨_, _, _, zs.take len, hcs, ⟨by simp; omega, fun h0 => ?_⟩, hl, hr, fun h => by cases h⟩
    have hp : a.spot = none := by simpa [Addr.add] using World.cell?_spot (hcell 0 (by omega))
    obtain ⟨g, of, s⟩ := a
    simp only at hp
    subst hp
    refine ⟨g, of, rfl, fun j hj => ?_⟩
    have := hcell j (by omega)
    rw [Addr.add_lit] at this
    simpa [hj] using this

def OpD.zero : OpD := ⟨false, false, none, 0, 0, [], 0⟩

set_option maxRecDepth 100000 in
theorem open_op {fuel : Nat} {cs : List Value} {x : DataW H × List MemPlace} (h : DataW.trod enc Try.prog w 0 (fun _ => true) true fuel 84 cs = some x) (hz : ∀ n ∈ x.1.weights Try.prog 84, n ≤ reachBytes) :
    ∃ o : OpD, cs = [.bool o.take, .bool o.give, .slice o.la_cells o.ll_cells o.lc_cells, .int .i64 o.x] ∧ NumsIn w o.la_cells o.ll_cells o.zs_cells ∧ o.ll_cells ≤ o.lc_cells ∧ o.lc_cells * 8 ≤ 140737488351232 ∧ (o.la_cells = none → o.ll_cells = 0 ∧ o.lc_cells = 0) := by
  obtain ⟨xs, n, _, rfl, hl, hlen, hf⟩ := DataW.trod_struct Try.underlying84 h
  rw [Try.cellsOp] at hl
  match cs, hl with
  | [v0, v1, v2, v3], _ =>
    match xs, hlen with
    | [y0, y1, y2, y3], _ =>
      have g0 := hf 0 _ rfl
      have g1 := hf 1 _ rfl
      have g2 := hf 2 _ rfl
      have g3 := hf 3 _ rfl
      simp [Try.cells_bool, Try.cells_i64, Try.cells_ints] at g0 g1 g2 g3
      obtain ⟨b0, e0, _⟩ := DataW.trod_bool Try.underlying4 g0
      simp only [List.cons.injEq, and_true] at e0
      subst e0
      obtain ⟨b1, e1, _⟩ := DataW.trod_bool Try.underlying4 g1
      simp only [List.cons.injEq, and_true] at e1
      subst e1
      obtain ⟨la2, ll2, lc2, zs2, e2, hL2, hR2, hS2⟩ := open_nums g2 (fun n hn => hz n (by
        simp only [DataW.weights, Try.underlying84]
        simp [DataW.weightsEach, hn]))
      subst e2
      obtain ⟨b3, e3, _, _⟩ := DataW.trod_int Try.underlying2 g3
      simp only [List.cons.injEq, and_true] at e3
      subst e3
      exact ⟨⟨b0, b1, la2, ll2, lc2, zs2, b3⟩, rfl, hL2, hR2, hS2⟩

set_option maxRecDepth 100000 in
/-- What is known of a list of steps that came in. -/
theorem open_script {a : Option Addr} {len cap : Nat} {d : DataW H} {p : List MemPlace} (h : DataW.Trod enc Try.prog w 0 (fun _ => true) true 80 (.slice a len cap) d p) (hz : ∀ n ∈ d.weights Try.prog 80, n ≤ reachBytes) :
    ∃ f : Nat → OpD, ScriptAt w a len f ∧ (len = 0 ∨ ∃ es sp, d = .slice es sp ∧ es.length = len) ∧ len * 40 ≤ 140737488351232 := by
  obtain ⟨fuel, hf⟩ := h
  by_cases h0 : len = 0
  · exact ⟨fun _ => .zero, .inl h0, .inl h0, by omega⟩
  rcases open_slice Try.underlying80 hf with ⟨hcs, _⟩ | ⟨a', len', cap', m, n, D, Pl, hcs, _, hl, hm, hmm, hx, hcell⟩
  · simp [Value.cells] at hcs
    omega
  · simp [Value.cells] at hcs
    obtain ⟨rfl, rfl, rfl⟩ := hcs
    simp only [if_true] at hmm
    subst hmm
    simp only [Prod.mk.injEq] at hx
    obtain ⟨hd, _⟩ := hx
    have hmem : ∀ i, i < len → ∀ k ∈ (D i).weights Try.prog 84, k ≤ reachBytes := by
      intro i hi k hk
      refine hz k ?_
      rw [hd]
      simp only [DataW.weights, Try.underlying80, List.mem_cons, List.mem_append]
      exact .inr (.inl (mem_weightsAll (List.mem_map.2 ⟨i, by simpa using hi, rfl⟩) hk))
    have hsl : ∃ es sp, d = .slice es sp ∧ es.length = len := ⟨_, _, hd, by simp⟩
    have hreach : len * 40 ≤ 140737488351232 := by
      have := hz ((len + (m - len)) * 40) (by
        rw [hd]
        simp [DataW.weights, Try.underlying80, Try.bytesOp])
      simp only [reachBytes] at this
      omega
    obtain ⟨cs0, hc0, _⟩ := hcell 0 (by omega)
    rw [Try.cellsOp] at hc0
    have hs := (World.cells?_some hc0)
    obtain ⟨b, off, spot⟩ := a'
    have h00 := hs.2.2 0 (by omega)
    rw [List.getElem?_eq_getElem (by omega)] at h00
    have hspot : spot = none := by simpa [Addr.add] using World.cell?_spot h00
    subst hspot
    have hall : ∀ i, i < len → ∃ o : OpD, OpAt w b (off + i * 4) o := by
      intro i hi
      obtain ⟨cs, hc, ht⟩ := hcell i (by omega)
      rw [Try.cellsOp] at hc
      obtain ⟨o, rfl, hL0, hR0, hS0⟩ := open_op ht (hmem i hi)
      have hcc := (World.cells?_some hc).2.2
      have eadd : ∀ j, ((⟨b, off, none⟩ : Addr).add (i * 4)).add j = ⟨b, off + i * 4 + j, none⟩ := by
        intro j
        unfold Addr.add
        split <;> split <;> simp_all
      have c0 := hcc 0 (by omega)
      have c1 := hcc 1 (by omega)
      have c2 := hcc 2 (by omega)
      have c3 := hcc 3 (by omega)
      rw [eadd] at c0 c1 c2 c3
      exact ⟨o, c0, c1, c2, c3, hL0, ⟨hR0, hS0⟩⟩
    obtain ⟨f, hff⟩ := @choose_lt OpD ⟨.zero⟩ len (fun i o => OpAt w b (off + i * 4) o) hall
    exact ⟨f, .inr ⟨b, off, rfl, hff⟩, .inr hsl, hreach⟩
end
end Go.Proofs.Ytajfjkhbimehbaa
