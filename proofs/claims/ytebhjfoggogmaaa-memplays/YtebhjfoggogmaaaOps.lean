/- The steps of a script as they lie in memory when they come in, and how they are read. -/
import Derived.Test.YtebhjfoggogmaaaProg
import Derived.Test.YtebhjfoggogmaaaModel
import Derived.ProofKit
import Derived.Deep.Slices
import Derived.SizedLaws
namespace Go.Proofs.Ytebhjfoggogmaaa
open Go.RowKit Go.ChangeShapes Go.WideShapes Go.Deep
set_option linter.unusedVariables false
set_option linter.unusedSimpArgs false

/-- One step of a script. -/
structure OpD where
  other : Bool
  kind : Int
  i : Int
  x : Int
  old : Int
  la : Option Addr
  ll : Nat
  lc : Nat
  zs : List Int

/-- A list of int64 that came in: nil, or a row of cells. -/
def ListAt (w : World) (la : Option Addr) (ll lc : Nat) (zs : List Int) : Prop :=
  (la = none ∧ ll = 0 ∧ lc = 0 ∧ zs = []) ∨
  ∃ a, la = some a ∧ ll = zs.length ∧ ll ≤ lc ∧ lc * 8 ≤ 140737488351232 ∧ ∀ j, j < ll → w.cell? (a.add j) = some (.int .i64 (zs.getD j 0))

structure OpAt (w : World) (b off : Nat) (o : OpD) : Prop where
  c0 : w.cell? ⟨b, off, none⟩ = some (.bool o.other)
  c1 : w.cell? ⟨b, off + 1, none⟩ = some (.int .i64 o.kind)
  c2 : w.cell? ⟨b, off + 2, none⟩ = some (.int .i64 o.i)
  c3 : w.cell? ⟨b, off + 3, none⟩ = some (.int .i64 o.x)
  c4 : w.cell? ⟨b, off + 4, none⟩ = some (.int .i64 o.old)
  c5 : w.cell? ⟨b, off + 5, none⟩ = some (.slice o.la o.ll o.lc)
  list : ListAt w o.la o.ll o.lc o.zs

/-- A script that came in. -/
def ScriptAt (w : World) (a : Option Addr) (len : Nat) (f : Nat → OpD) : Prop :=
  len = 0 ∨ ∃ b off, a = some ⟨b, off, none⟩ ∧ len * 64 ≤ 140737488351232 ∧ ∀ i, i < len → OpAt w b (off + i * 6) (f i)

theorem ListAt.below {B : Nat} {w w' : World} {la : Option Addr} {ll lc : Nat} {zs : List Int} (h : ListAt w la ll lc zs) (k : Below B w w') (hB : w.heap.size ≤ B) : ListAt w' la ll lc zs := by
  rcases h with h | ⟨a, h1, h2, h3, h4, h5⟩
  · exact .inl h
  · refine .inr ⟨a, h1, h2, h3, h4, fun j hj => ?_⟩
    have := World.block_lt_of_cell? w _ (h5 j hj)
    rw [k.cell (p := a.add j) (Nat.lt_of_lt_of_le this hB)]
    exact h5 j hj
theorem OpAt.below {B : Nat} {w w' : World} {b off : Nat} {o : OpD} (h : OpAt w b off o) (k : Below B w w') (hB : w.heap.size ≤ B) : OpAt w' b off o := by
  have hb : b < B := Nat.lt_of_lt_of_le (World.block_lt_of_cell? w _ h.c0) hB
  exact ⟨(k.cell hb).trans h.c0, (k.cell hb).trans h.c1, (k.cell hb).trans h.c2, (k.cell hb).trans h.c3, (k.cell hb).trans h.c4, (k.cell hb).trans h.c5, h.list.below k hB⟩

section
variable {H : Type} {enc : TypeId × Value → H} {w : World}

theorem mem_weightsAll {P : Program} {e : TypeId} {d : DataW H} {n : Nat} : ∀ {l : List (DataW H)}, d ∈ l → n ∈ d.weights P e → n ∈ DataW.weightsAll P e l := by
  intro l
  induction l with
  | nil => intro h; cases h
  | cons x r ih =>
    intro h hn
    simp only [DataW.weightsAll, List.mem_append]
    cases List.mem_cons.1 h with
    | inl e => subst e; exact .inl hn
    | inr e => exact .inr (ih e hn)

theorem Try.cells39 : Try.prog.cellsOf 39 = 6 := by kernel_rfl
theorem Try.cells2 : Try.prog.cellsOf 2 = 1 := by kernel_rfl
theorem Try.cells3 : Try.prog.cellsOf 3 = 1 := by kernel_rfl
theorem Try.cells4 : Try.prog.cellsOf 4 = 1 := by kernel_rfl
theorem Try.cells37 : Try.prog.cellsOf 37 = 1 := by kernel_rfl
theorem Try.bytes39 : Try.prog.bytesOf 39 = 64 := by kernel_rfl
theorem Try.bytes2 : Try.prog.bytesOf 2 = 8 := by kernel_rfl

theorem open_list {fuel : Nat} {v : Value} {x : DataW H × List MemPlace} (h : DataW.trod enc Try.prog w 0 (fun _ => true) true fuel 37 [v] = some x) (hz : ∀ n ∈ x.1.weights Try.prog 37, n ≤ reachBytes) :
    ∃ la ll lc zs, v = .slice la ll lc ∧ ListAt w la ll lc zs := by
  rcases open_ints Try.underlying37 Try.underlying2 Try.cells2 h with ⟨hcs, _⟩ | ⟨a, len, cap, zs, hcs, _, hl, hm, hzl, hx, hcell, _⟩
  · simp only [List.cons.injEq, and_true] at hcs
    exact ⟨_, _, _, [], hcs, .inl ⟨rfl, rfl, rfl, rfl⟩⟩
  · simp only [List.cons.injEq, and_true] at hcs
    simp only [if_true] at hzl
    have hr : cap * 8 ≤ 140737488351232 := by
      have := hz ((zs.take len).length * 8 + (zs.drop len).length * 8) (by
        rw [hx]
        simp [DataW.weights, Try.underlying37, Try.bytes2, lits, Nat.add_mul])
      simp only [List.length_take, List.length_drop, reachBytes] at this
      omega
    refine ⟨_, _, _, zs.take len, hcs, .inr ⟨a, rfl, by simp; omega, hl, hr, fun j hj => ?_⟩⟩
    have := hcell j (by omega)
    simpa [hj] using this

def OpD.zero : OpD := ⟨false, 0, 0, 0, 0, none, 0, 0, []⟩

theorem open_op {fuel : Nat} {cs : List Value} {x : DataW H × List MemPlace} (h : DataW.trod enc Try.prog w 0 (fun _ => true) true fuel 39 cs = some x) (hz : ∀ n ∈ x.1.weights Try.prog 39, n ≤ reachBytes) :
    ∃ o : OpD, cs = [.bool o.other, .int .i64 o.kind, .int .i64 o.i, .int .i64 o.x, .int .i64 o.old, .slice o.la o.ll o.lc] ∧ ListAt w o.la o.ll o.lc o.zs := by
  obtain ⟨xs, n, _, rfl, hl, hlen, hf⟩ := DataW.trod_struct Try.underlying39 h
  rw [Try.cells39] at hl
  match cs, hl with
  | [v0, v1, v2, v3, v4, v5], _ =>
    match xs, hlen with
    | [y0, y1, y2, y3, y4, y5], _ =>
      have g0 := hf 0 _ rfl
      have g1 := hf 1 _ rfl
      have g2 := hf 2 _ rfl
      have g3 := hf 3 _ rfl
      have g4 := hf 4 _ rfl
      have g5 := hf 5 _ rfl
      simp [Try.cells2, Try.cells3, Try.cells4, Try.cells37] at g0 g1 g2 g3 g4 g5
      obtain ⟨b0, e0, _⟩ := DataW.trod_bool Try.underlying4 g0
      obtain ⟨b1, e1, _, _⟩ := DataW.trod_int Try.underlying3 g1
      obtain ⟨b2, e2, _, _⟩ := DataW.trod_int Try.underlying3 g2
      obtain ⟨b3, e3, _, _⟩ := DataW.trod_int Try.underlying2 g3
      obtain ⟨b4, e4, _, _⟩ := DataW.trod_int Try.underlying2 g4
      obtain ⟨la, ll, lc, zs, e5, hL⟩ := open_list g5 (fun n hn => hz n (by
        simp only [DataW.weights, Try.underlying39]
        simp [DataW.weightsEach, hn]))
      simp only [List.cons.injEq, and_true] at e0 e1 e2 e3 e4
      subst e0 e1 e2 e3 e4 e5
      exact ⟨⟨b0, b1, b2, b3, b4, la, ll, lc, zs⟩, rfl, hL⟩

theorem open_script {a : Option Addr} {len cap : Nat} {d : DataW H} {p : List MemPlace} (h : DataW.Trod enc Try.prog w 0 (fun _ => true) true 23 (.slice a len cap) d p) (hz : ∀ n ∈ d.weights Try.prog 23, n ≤ reachBytes) :
    ∃ f : Nat → OpD, ScriptAt w a len f := by
  obtain ⟨fuel, hf⟩ := h
  by_cases h0 : len = 0
  · exact ⟨fun _ => .zero, .inl h0⟩
  rcases open_slice Try.underlying23 hf with ⟨hcs, _⟩ | ⟨a', len', cap', m, n, D, Pl, hcs, _, hl, hm, hmm, hx, hcell⟩
  · simp [Value.cells] at hcs
    omega
  · simp [Value.cells] at hcs
    obtain ⟨rfl, rfl, rfl⟩ := hcs
    simp only [if_true] at hmm
    subst hmm
    simp only [Prod.mk.injEq] at hx
    obtain ⟨hd, _⟩ := hx
    have hmem : ∀ i, i < len → ∀ k ∈ (D i).weights Try.prog 39, k ≤ reachBytes := by
      intro i hi k hk
      refine hz k ?_
      rw [hd]
      simp only [DataW.weights, Try.underlying23, List.mem_cons, List.mem_append]
      exact .inr (.inl (mem_weightsAll (List.mem_map.2 ⟨i, by simpa using hi, rfl⟩) hk))
    have hreach : len * 64 ≤ 140737488351232 := by
      have := hz ((len + (m - len)) * 64) (by
        rw [hd]
        simp [DataW.weights, Try.underlying23, Try.bytes39])
      simp only [reachBytes] at this
      omega
    obtain ⟨cs0, hc0, _⟩ := hcell 0 (by omega)
    rw [Try.cells39] at hc0
    have hs := (World.cells?_some hc0)
    obtain ⟨b, off, spot⟩ := a'
    have h00 := hs.2.2 0 (by omega)
    rw [List.getElem?_eq_getElem (by omega)] at h00
    have hspot : spot = none := by simpa [Addr.add] using World.cell?_spot h00
    subst hspot
    have hall : ∀ i, i < len → ∃ o : OpD, OpAt w b (off + i * 6) o := by
      intro i hi
      obtain ⟨cs, hc, ht⟩ := hcell i (by omega)
      rw [Try.cells39] at hc
      obtain ⟨o, rfl, hL⟩ := open_op ht (hmem i hi)
      have hcc := (World.cells?_some hc).2.2
      have eadd : ∀ j, ((⟨b, off, none⟩ : Addr).add (i * 6)).add j = ⟨b, off + i * 6 + j, none⟩ := by
        intro j
        unfold Addr.add
        split <;> split <;> simp_all
      have c0 := hcc 0 (by omega)
      have c1 := hcc 1 (by omega)
      have c2 := hcc 2 (by omega)
      have c3 := hcc 3 (by omega)
      have c4 := hcc 4 (by omega)
      have c5 := hcc 5 (by omega)
      rw [eadd] at c0 c1 c2 c3 c4 c5
      exact ⟨o, c0, c1, c2, c3, c4, c5, hL⟩
    obtain ⟨f, hff⟩ := @choose_lt OpD ⟨.zero⟩ len (fun i o => OpAt w b (off + i * 6) o) hall
    exact ⟨f, .inr ⟨b, off, rfl, hreach, hff⟩⟩
end
end Go.Proofs.Ytebhjfoggogmaaa
