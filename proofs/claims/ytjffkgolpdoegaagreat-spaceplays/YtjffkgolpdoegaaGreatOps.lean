/- The steps of a script as they lie in memory when they come in, and how they are read. -/
import Derived.Test.YtjffkgolpdoegaaGreatProg
import Derived.Test.YtjffkgolpdoegaaGreatClX
import Derived.ProofKit
import Derived.Deep.Slices
import Derived.OpenShut
import Derived.SizedLaws
namespace Go.Proofs.YtjffkgolpdoegaaGreat
open Go.RowKit Go.ChangeShapes Go.WideShapes Go.Deep
set_option linter.unusedVariables false
set_option linter.unusedSimpArgs false

/-- One step of a script. -/
structure OpD where
  other : Bool
  kind : Int
  i : Int
  n : Int
  x : Int
  la_l : Option Addr
  ll_l : Nat
  lc_l : Nat
  zs_l : List Int
  e_kd : Int
  e_st : Int
  e_th : Int
  e_sp : Int
  e_ce : Int
  e_x : Int
  e_ow : Bool
  e_ga : Int
  e_er : Int
  e_by : Int

structure OpAt (w : World) (b off : Nat) (o : OpD) : Prop where
  c0 : w.cell? ⟨b, off, none⟩ = some (.bool o.other)
  c1 : w.cell? ⟨b, off + 1, none⟩ = some (.int .i64 o.kind)
  c2 : w.cell? ⟨b, off + 2, none⟩ = some (.int .i64 o.i)
  c3 : w.cell? ⟨b, off + 3, none⟩ = some (.int .i64 o.n)
  c4 : w.cell? ⟨b, off + 4, none⟩ = some (.int .i64 o.x)
  c5 : w.cell? ⟨b, off + 5, none⟩ = some (.slice o.la_l o.ll_l o.lc_l)
  c6 : w.cell? ⟨b, off + 6, none⟩ = some (.int .i64 o.e_kd)
  c7 : w.cell? ⟨b, off + 7, none⟩ = some (.int .i64 o.e_st)
  c8 : w.cell? ⟨b, off + 8, none⟩ = some (.int .i64 o.e_th)
  c9 : w.cell? ⟨b, off + 9, none⟩ = some (.int .i64 o.e_sp)
  c10 : w.cell? ⟨b, off + 10, none⟩ = some (.int .i64 o.e_ce)
  c11 : w.cell? ⟨b, off + 11, none⟩ = some (.int .i64 o.e_x)
  c12 : w.cell? ⟨b, off + 12, none⟩ = some (.bool o.e_ow)
  c13 : w.cell? ⟨b, off + 13, none⟩ = some (.int .i64 o.e_ga)
  c14 : w.cell? ⟨b, off + 14, none⟩ = some (.int .i64 o.e_er)
  c15 : w.cell? ⟨b, off + 15, none⟩ = some (.int .i64 o.e_by)
  list_l : NumsIn w o.la_l o.ll_l o.zs_l
  reach_l : o.ll_l ≤ o.lc_l ∧ o.lc_l * 8 ≤ 140737488351232 ∧ (o.la_l = none → o.ll_l = 0 ∧ o.lc_l = 0)

/-- A script that came in. -/
def ScriptAt (w : World) (a : Option Addr) (len : Nat) (f : Nat → OpD) : Prop :=
  len = 0 ∨ ∃ b off, a = some ⟨b, off, none⟩ ∧ ∀ i, i < len → OpAt w b (off + i * 16) (f i)

theorem OpAt.kept {w w' : World} {b off : Nat} {o : OpD} (h : OpAt w b off o) (k : Kept (fun _ => False) w w') : OpAt w' b off o := by
  have hb : b < w.heap.size := World.block_lt_of_cell? w _ h.c0
  have e : ∀ j, w'.cell? ⟨b, j, none⟩ = w.cell? ⟨b, j, none⟩ := fun j => World.cell?_of_block (k.block b hb (fun f => f))
  exact ⟨(e _).trans h.c0, (e _).trans h.c1, (e _).trans h.c2, (e _).trans h.c3, (e _).trans h.c4, (e _).trans h.c5, (e _).trans h.c6, (e _).trans h.c7, (e _).trans h.c8, (e _).trans h.c9, (e _).trans h.c10, (e _).trans h.c11, (e _).trans h.c12, (e _).trans h.c13, (e _).trans h.c14, (e _).trans h.c15, h.list_l.kept k, h.reach_l⟩

section
variable {H : Type} {enc : TypeId × Value → H} {w : World}

theorem mem_weightsAll {P : Program} {e : TypeId} {d : DataW H} {n : Nat} : ∀ {l : List (DataW H)}, d ∈ l → n ∈ d.weights P e → n ∈ DataW.weightsAll P e l := by
  intro l
  induction l with
  | nil => intro h; cases h
  | cons x r ih =>
    intro h hn
    simp only [DataW.weightsAll, List.mem_append]
    cases List.mem_cons.1 h with
    | inl e => subst e; exact .inl hn
    | inr e => exact .inr (ih e hn)
theorem Tryz.cellsOp : Tryz.prog.cellsOf 41 = 16 := by kernel_rfl
theorem Tryz.bytesOp : Tryz.prog.bytesOf 41 = 144 := by kernel_rfl
theorem Tryz.cells_bool : Tryz.prog.cellsOf 4 = 1 := by kernel_rfl
theorem Tryz.cells_int : Tryz.prog.cellsOf 3 = 1 := by kernel_rfl
theorem Tryz.cells_i64 : Tryz.prog.cellsOf 2 = 1 := by kernel_rfl
theorem Tryz.cells_errno : Tryz.prog.cellsOf 27 = 1 := by kernel_rfl
theorem Tryz.cells_ints : Tryz.prog.cellsOf 37 = 1 := by kernel_rfl
theorem Tryz.cells_num : Tryz.prog.cellsOf 2 = 1 := by kernel_rfl
theorem Tryz.bytes_num : Tryz.prog.bytesOf 2 = 8 := by kernel_rfl
theorem open_nums {fuel : Nat} {v : Value} {x : DataW H × List MemPlace} (h : DataW.trod enc Tryz.prog w 0 (fun _ => true) true fuel 37 [v] = some x) (hz : ∀ n ∈ x.1.weights Tryz.prog 37, n ≤ reachBytes) :
    ∃ la ll lc zs, v = .slice la ll lc ∧ NumsIn w la ll zs ∧ ll ≤ lc ∧ lc * 8 ≤ 140737488351232 ∧ (la = none → ll = 0 ∧ lc = 0) := by
  rcases open_ints Tryz.underlying37 Tryz.underlying2 Tryz.cells_num h with ⟨hcs, _⟩ | ⟨a, len, cap, zs, hcs, _, hl, hm, hzl, hx, hcell, _⟩
  · simp only [List.cons.injEq, and_true] at hcs
    exact ⟨_, _, _, [], hcs, ⟨rfl, fun h => by omega⟩, by omega, by omega, fun _ => ⟨rfl, rfl⟩⟩
  · simp only [List.cons.injEq, and_true] at hcs
    simp only [if_true] at hzl
    have hr : cap * 8 ≤ 140737488351232 := by
      have := hz ((zs.take len).length * 8 + (zs.drop len).length * 8) (by
        rw [hx]
        simp [DataW.weights, Tryz.underlying37, Tryz.bytes_num, lits, Nat.add_mul])
      simp only [List.length_take, List.length_drop, reachBytes] at this
      omega
    refine ⟨_, _, _, zs.take len, hcs, ⟨by simp; omega, fun h0 => ?_⟩, hl, hr, fun h => by cases h⟩
    have hp : a.spot = none := by simpa [Addr.add] using World.cell?_spot (hcell 0 (by omega))
    obtain ⟨g, of, s⟩ := a
    simp only at hp
    subst hp
    refine ⟨g, of, rfl, fun j hj => ?_⟩
    have := hcell j (by omega)
    rw [Addr.add_lit] at this
    simpa [hj] using this
theorem Tryz.cells_e : Tryz.prog.cellsOf 39 = 10 := by kernel_rfl
set_option maxRecDepth 100000 in
theorem open_e {fuel : Nat} {cs : List Value} {x : DataW H × List MemPlace} (h : DataW.trod enc Tryz.prog w 0 (fun _ => true) true fuel 39 cs = some x) :
    ∃ (b0 : Int) (b1 : Int) (b2 : Int) (b3 : Int) (b4 : Int) (b5 : Int) (b6 : Bool) (b7 : Int) (b8 : Int) (b9 : Int), cs = [.int .i64 b0, .int .i64 b1, .int .i64 b2, .int .i64 b3, .int .i64 b4, .int .i64 b5, .bool b6, .int .i64 b7, .int .i64 b8, .int .i64 b9] := by
  obtain ⟨xs, n, _, rfl, hl, hlen, hf⟩ := DataW.trod_struct Tryz.underlying39 h
  rw [Tryz.cells_e] at hl
  match cs, hl with
  | [v0, v1, v2, v3, v4, v5, v6, v7, v8, v9], _ =>
    match xs, hlen with
    | [y0, y1, y2, y3, y4, y5, y6, y7, y8, y9], _ =>
      have g0 := hf 0 _ rfl
      have g1 := hf 1 _ rfl
      have g2 := hf 2 _ rfl
      have g3 := hf 3 _ rfl
      have g4 := hf 4 _ rfl
      have g5 := hf 5 _ rfl
      have g6 := hf 6 _ rfl
      have g7 := hf 7 _ rfl
      have g8 := hf 8 _ rfl
      have g9 := hf 9 _ rfl
      simp [Tryz.cells_bool, Tryz.cells_int, Tryz.cells_i64, Tryz.cells_errno] at g0 g1 g2 g3 g4 g5 g6 g7 g8 g9
      obtain ⟨b0, e0, _, _⟩ := DataW.trod_int Tryz.underlying3 g0
      obtain ⟨b1, e1, _, _⟩ := DataW.trod_int Tryz.underlying3 g1
      obtain ⟨b2, e2, _, _⟩ := DataW.trod_int Tryz.underlying3 g2
      obtain ⟨b3, e3, _, _⟩ := DataW.trod_int Tryz.underlying3 g3
      obtain ⟨b4, e4, _, _⟩ := DataW.trod_int Tryz.underlying3 g4
      obtain ⟨b5, e5, _, _⟩ := DataW.trod_int Tryz.underlying2 g5
      obtain ⟨b6, e6, _⟩ := DataW.trod_bool Tryz.underlying4 g6
      obtain ⟨b7, e7, _, _⟩ := DataW.trod_int Tryz.underlying3 g7
      obtain ⟨b8, e8, _, _⟩ := DataW.trod_int Tryz.underlying27 g8
      obtain ⟨b9, e9, _, _⟩ := DataW.trod_int Tryz.underlying3 g9
      simp only [List.cons.injEq, and_true] at e0 e1 e2 e3 e4 e5 e6 e7 e8 e9
      subst e0 e1 e2 e3 e4 e5 e6 e7 e8 e9
      exact ⟨b0, b1, b2, b3, b4, b5, b6, b7, b8, b9, rfl⟩

def OpD.zero : OpD := ⟨false, 0, 0, 0, 0, none, 0, 0, [], 0, 0, 0, 0, 0, 0, false, 0, 0, 0⟩

set_option maxRecDepth 100000 in
theorem open_op {fuel : Nat} {cs : List Value} {x : DataW H × List MemPlace} (h : DataW.trod enc Tryz.prog w 0 (fun _ => true) true fuel 41 cs = some x) (hz : ∀ n ∈ x.1.weights Tryz.prog 41, n ≤ reachBytes) :
    ∃ o : OpD, cs = [.bool o.other, .int .i64 o.kind, .int .i64 o.i, .int .i64 o.n, .int .i64 o.x, .slice o.la_l o.ll_l o.lc_l, .int .i64 o.e_kd, .int .i64 o.e_st, .int .i64 o.e_th, .int .i64 o.e_sp, .int .i64 o.e_ce, .int .i64 o.e_x, .bool o.e_ow, .int .i64 o.e_ga, .int .i64 o.e_er, .int .i64 o.e_by] ∧ NumsIn w o.la_l o.ll_l o.zs_l ∧ o.ll_l ≤ o.lc_l ∧ o.lc_l * 8 ≤ 140737488351232 ∧ (o.la_l = none → o.ll_l = 0 ∧ o.lc_l = 0) := by
  obtain ⟨xs, n, _, rfl, hl, hlen, hf⟩ := DataW.trod_struct Tryz.underlying41 h
  rw [Tryz.cellsOp] at hl
  match cs, hl with
  | [v0, v1, v2, v3, v4, v5, v6, v7, v8, v9, v10, v11, v12, v13, v14, v15], _ =>
    match xs, hlen with
    | [y0, y1, y2, y3, y4, y5, y6], _ =>
      have g0 := hf 0 _ rfl
      have g1 := hf 1 _ rfl
      have g2 := hf 2 _ rfl
      have g3 := hf 3 _ rfl
      have g4 := hf 4 _ rfl
      have g5 := hf 5 _ rfl
      have g6 := hf 6 _ rfl
      simp [Tryz.cells_bool, Tryz.cells_int, Tryz.cells_i64, Tryz.cells_errno, Tryz.cells_ints, Tryz.cells_e] at g0 g1 g2 g3 g4 g5 g6
      obtain ⟨b0, e0, _⟩ := DataW.trod_bool Tryz.underlying4 g0
      simp only [List.cons.injEq, and_true] at e0
      subst e0
      obtain ⟨b1, e1, _, _⟩ := DataW.trod_int Tryz.underlying3 g1
      simp only [List.cons.injEq, and_true] at e1
      subst e1
      obtain ⟨b2, e2, _, _⟩ := DataW.trod_int Tryz.underlying3 g2
      simp only [List.cons.injEq, and_true] at e2
      subst e2
      obtain ⟨b3, e3, _, _⟩ := DataW.trod_int Tryz.underlying3 g3
      simp only [List.cons.injEq, and_true] at e3
      subst e3
      obtain ⟨b4, e4, _, _⟩ := DataW.trod_int Tryz.underlying2 g4
      simp only [List.cons.injEq, and_true] at e4
      subst e4
      obtain ⟨la5, ll5, lc5, zs5, e5, hL5, hR5, hS5⟩ := open_nums g5 (fun n hn => hz n (by
        simp only [DataW.weights, Tryz.underlying41]
        simp [DataW.weightsEach, hn]))
      subst e5
      obtain ⟨b6_0, b6_1, b6_2, b6_3, b6_4, b6_5, b6_6, b6_7, b6_8, b6_9, e6⟩ := open_e g6
      simp only [List.cons.injEq, and_true] at e6
      obtain ⟨rfl, rfl, rfl, rfl, rfl, rfl, rfl, rfl, rfl, rfl⟩ := e6
      exact ⟨⟨b0, b1, b2, b3, b4, la5, ll5, lc5, zs5, b6_0, b6_1, b6_2, b6_3, b6_4, b6_5, b6_6, b6_7, b6_8, b6_9⟩, rfl, hL5, hR5, hS5⟩

set_option maxRecDepth 100000 in
/-- What is known of a list of steps that came in. -/
theorem open_script {a : Option Addr} {len cap : Nat} {d : DataW H} {p : List MemPlace} (h : DataW.Trod enc Tryz.prog w 0 (fun _ => true) true 24 (.slice a len cap) d p) (hz : ∀ n ∈ d.weights Tryz.prog 24, n ≤ reachBytes) :
    ∃ f : Nat → OpD, ScriptAt w a len f ∧ (len = 0 ∨ ∃ es sp, d = .slice es sp ∧ es.length = len) ∧ len * 144 ≤ 140737488351232 := by
  obtain ⟨fuel, hf⟩ := h
  by_cases h0 : len = 0
  · exact ⟨fun _ => .zero, .inl h0, .inl h0, by omega⟩
  rcases open_slice Tryz.underlying24 hf with ⟨hcs, _⟩ | ⟨a', len', cap', m, n, D, Pl, hcs, _, hl, hm, hmm, hx, hcell⟩
  · simp [Value.cells] at hcs
    omega
  · simp [Value.cells] at hcs
    obtain ⟨rfl, rfl, rfl⟩ := hcs
    simp only [if_true] at hmm
    subst hmm
    simp only [Prod.mk.injEq] at hx
    obtain ⟨hd, _⟩ := hx
    have hmem : ∀ i, i < len → ∀ k ∈ (D i).weights Tryz.prog 41, k ≤ reachBytes := by
      intro i hi k hk
      refine hz k ?_
      rw [hd]
      simp only [DataW.weights, Tryz.underlying24, List.mem_cons, List.mem_append]
      exact .inr (.inl (mem_weightsAll (List.mem_map.2 ⟨i, by simpa using hi, rfl⟩) hk))
    have hsl : ∃ es sp, d = .slice es sp ∧ es.length = len := ⟨_, _, hd, by simp⟩
    have hreach : len * 144 ≤ 140737488351232 := by
      have := hz ((len + (m - len)) * 144) (by
        rw [hd]
        simp [DataW.weights, Tryz.underlying24, Tryz.bytesOp])
      simp only [reachBytes] at this
      omega
    obtain ⟨cs0, hc0, _⟩ := hcell 0 (by omega)
    rw [Tryz.cellsOp] at hc0
    have hs := (World.cells?_some hc0)
    obtain ⟨b, off, spot⟩ := a'
    have h00 := hs.2.2 0 (by omega)
    rw [List.getElem?_eq_getElem (by omega)] at h00
    have hspot : spot = none := by simpa [Addr.add] using World.cell?_spot h00
    subst hspot
    have hall : ∀ i, i < len → ∃ o : OpD, OpAt w b (off + i * 16) o := by
      intro i hi
      obtain ⟨cs, hc, ht⟩ := hcell i (by omega)
      rw [Tryz.cellsOp] at hc
      obtain ⟨o, rfl, hL0, hR0, hS0⟩ := open_op ht (hmem i hi)
      have hcc := (World.cells?_some hc).2.2
      have eadd : ∀ j, ((⟨b, off, none⟩ : Addr).add (i * 16)).add j = ⟨b, off + i * 16 + j, none⟩ := by
        intro j
        unfold Addr.add
        split <;> split <;> simp_all
      have c0 := hcc 0 (by omega)
      have c1 := hcc 1 (by omega)
      have c2 := hcc 2 (by omega)
      have c3 := hcc 3 (by omega)
      have c4 := hcc 4 (by omega)
      have c5 := hcc 5 (by omega)
      have c6 := hcc 6 (by omega)
      have c7 := hcc 7 (by omega)
      have c8 := hcc 8 (by omega)
      have c9 := hcc 9 (by omega)
      have c10 := hcc 10 (by omega)
      have c11 := hcc 11 (by omega)
      have c12 := hcc 12 (by omega)
      have c13 := hcc 13 (by omega)
      have c14 := hcc 14 (by omega)
      have c15 := hcc 15 (by omega)
      rw [eadd] at c0 c1 c2 c3 c4 c5 c6 c7 c8 c9 c10 c11 c12 c13 c14 c15
      exact ⟨o, c0, c1, c2, c3, c4, c5, c6, c7, c8, c9, c10, c11, c12, c13, c14, c15, hL0, ⟨hR0, hS0⟩⟩
    obtain ⟨f, hff⟩ := @choose_lt OpD ⟨.zero⟩ len (fun i o => OpAt w b (off + i * 16) o) hall
    exact ⟨f, .inr ⟨b, off, rfl, hff⟩, .inr hsl, hreach⟩
end
end Go.Proofs.YtjffkgolpdoegaaGreat
