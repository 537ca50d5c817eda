/- Lists of structs as they lie in memory when they come in, and how they are read. -/
import Derived.Test.YtgjmamgohidbiaaGreatProg
import Derived.Test.YtgjmamgohidbiaaGreatClX
import Derived.ProofKit
import Derived.Deep.Slices
import Derived.OpenShut
import Derived.SizedLaws
import Derived.WideKeyPair
namespace Go.Proofs.YtgjmamgohidbiaaGreat
open Go.RowKit Go.ChangeShapes Go.WideShapes Go.Deep
set_option linter.unusedVariables false
set_option linter.unusedSimpArgs false

theorem wf_word {a : Int} (h : (Lit.int .u64 a).wf = true) : ∃ n : Nat, a = (n : Int) ∧ n < 18446744073709551616 := by
  have h2 : 0 ≤ a ∧ a < 18446744073709551616 := by
    simp only [Lit.wf, decide_eq_true_eq, Bool.and_eq_true] at h
    have m0 : IntKind.u64.min = 0 := by decide
    have m1 : IntKind.u64.max = 18446744073709551615 := by decide
    rw [m0, m1] at h
    omega
  exact ⟨a.toNat, by omega, by omega⟩
section
variable {H : Type} {enc : TypeId × Value → H} {w : World}
theorem mem_weightsAll {P : Program} {e : TypeId} {d : DataW H} {n : Nat} : ∀ {l : List (DataW H)}, d ∈ l → n ∈ d.weights P e → n ∈ DataW.weightsAll P e l := by
  intro l
  induction l with
  | nil => intro h; cases h
  | cons x r ih =>
    intro h hn
    simp only [DataW.weightsAll, List.mem_append]
    cases List.mem_cons.1 h with
    | inl e => subst e; exact .inl hn
    | inr e => exact .inr (ih e hn)
theorem Tryz.cells_int : Tryz.prog.cellsOf 3 = 1 := by kernel_rfl
theorem Tryz.cells_bool : Tryz.prog.cellsOf 4 = 1 := by kernel_rfl
theorem Tryz.cells_u64 : Tryz.prog.cellsOf 85 = 1 := by kernel_rfl
theorem Tryz.cells_sig : Tryz.prog.cellsOf 87 = 2 := by kernel_rfl
theorem open_sig {fuel : Nat} {v0 v1 : Value} {x : DataW H × List MemPlace} (h : DataW.trod enc Tryz.prog w 0 (fun _ => true) true fuel 87 [v0, v1] = some x) : ∃ (b0 b1 : Nat), v0 = .int .u64 b0 ∧ v1 = .int .u64 b1 ∧ b0 < 18446744073709551616 ∧ b1 < 18446744073709551616 := by
  obtain ⟨xs, m, _, _, _, hlen, hf⟩ := DataW.trod_array Tryz.underlying87 h
  match xs, hlen with
  | [y0, y1], _ =>
    have g0 := hf 0 (by omega)
    have g1 := hf 1 (by omega)
    simp [Tryz.cells_u64] at g0 g1
    obtain ⟨b0, e0, _, w0⟩ := DataW.trod_int Tryz.underlying85 g0
    obtain ⟨b1, e1, _, w1⟩ := DataW.trod_int Tryz.underlying85 g1
    simp only [List.cons.injEq, and_true] at e0 e1
    obtain ⟨n0, rfl, r0⟩ := wf_word w0
    obtain ⟨n1, rfl, r1⟩ := wf_word w1
    exact ⟨n0, n1, e0, e1, r0, r1⟩
end

/-- One of them. -/
structure SeD where
  lv : Bool
  dm : Bool
  sp : Int
  w_0 : Nat
  w_1 : Nat
structure SeAt (w : World) (b off : Nat) (o : SeD) : Prop where
  c0 : w.cell? ⟨b, off, none⟩ = some (.bool o.lv)
  c1 : w.cell? ⟨b, off + 1, none⟩ = some (.bool o.dm)
  c2 : w.cell? ⟨b, off + 2, none⟩ = some (.int .i64 o.sp)
  c3 : w.cell? ⟨b, off + 3, none⟩ = some (.int .u64 (o.w_0 : Nat))
  c4 : w.cell? ⟨b, off + 4, none⟩ = some (.int .u64 (o.w_1 : Nat))
  r_w_0 : o.w_0 < 18446744073709551616
  r_w_1 : o.w_1 < 18446744073709551616
/-- A list of them that came in. -/
def SesAt (w : World) (a : Option Addr) (len : Nat) (f : Nat → SeD) : Prop :=
  len = 0 ∨ ∃ b off, a = some ⟨b, off, none⟩ ∧ ∀ i, i < len → SeAt w b (off + i * 5) (f i)
theorem SeAt.kept {w w' : World} {b off : Nat} {o : SeD} (h : SeAt w b off o) (k : Kept (fun _ => False) w w') : SeAt w' b off o := by
  have hb : b < w.heap.size := World.block_lt_of_cell? w _ h.c0
  have e : ∀ j, w'.cell? ⟨b, j, none⟩ = w.cell? ⟨b, j, none⟩ := fun j => World.cell?_of_block (k.block b hb (fun f => f))
  exact ⟨(e _).trans h.c0, (e _).trans h.c1, (e _).trans h.c2, (e _).trans h.c3, (e _).trans h.c4, h.r_w_0, h.r_w_1⟩
def SeD.zero : SeD := ⟨false, false, 0, 0, 0⟩
section
variable {H : Type} {enc : TypeId × Value → H} {w : World}
theorem Tryz.cells_Se : Tryz.prog.cellsOf 175 = 5 := by kernel_rfl
theorem Tryz.bytes_Se : Tryz.prog.bytesOf 175 = 32 := by kernel_rfl
set_option maxRecDepth 100000 in
theorem open_Se {fuel : Nat} {cs : List Value} {x : DataW H × List MemPlace} (h : DataW.trod enc Tryz.prog w 0 (fun _ => true) true fuel 175 cs = some x) (hz : ∀ n ∈ x.1.weights Tryz.prog 175, n ≤ reachBytes) :
    ∃ o : SeD, cs = [.bool o.lv, .bool o.dm, .int .i64 o.sp, .int .u64 (o.w_0 : Nat), .int .u64 (o.w_1 : Nat)] ∧ o.w_0 < 18446744073709551616 ∧ o.w_1 < 18446744073709551616 := by
  obtain ⟨xs, n, _, rfl, hl, hlen, hf⟩ := DataW.trod_struct Tryz.underlying175 h
  rw [Tryz.cells_Se] at hl
  match cs, hl with
  | [v0, v1, v2, v3, v4], _ =>
    match xs, hlen with
    | [y0, y1, y2, y3], _ =>
      have g0 := hf 0 _ rfl
      have g1 := hf 1 _ rfl
      have g2 := hf 2 _ rfl
      have g3 := hf 3 _ rfl
      simp [Tryz.cells_int, Tryz.cells_bool, Tryz.cells_u64, Tryz.cells_sig] at g0 g1 g2 g3
      obtain ⟨b0, e0, _⟩ := DataW.trod_bool Tryz.underlying4 g0
      simp only [List.cons.injEq, and_true] at e0
      subst e0
      obtain ⟨b1, e1, _⟩ := DataW.trod_bool Tryz.underlying4 g1
      simp only [List.cons.injEq, and_true] at e1
      subst e1
      obtain ⟨b2, e2, _, _⟩ := DataW.trod_int Tryz.underlying3 g2
      simp only [List.cons.injEq, and_true] at e2
      subst e2
      obtain ⟨b3, d3, rfl, rfl, r3, q3⟩ := open_sig g3
      exact ⟨⟨b0, b1, b2, b3, d3⟩, rfl, r3, q3⟩
set_option maxRecDepth 100000 in
theorem open_Ses {a : Option Addr} {len cap : Nat} {d : DataW H} {pl : List MemPlace} (h : DataW.Trod enc Tryz.prog w 0 (fun _ => true) true 78 (.slice a len cap) d pl) (hz : ∀ n ∈ d.weights Tryz.prog 78, n ≤ reachBytes) :
    ∃ f : Nat → SeD, SesAt w a len f ∧ len * 32 ≤ 140737488351232 := by
  obtain ⟨fuel, hf⟩ := h
  by_cases h0 : len = 0
  · exact ⟨fun _ => .zero, .inl h0, by omega⟩
  rcases open_slice Tryz.underlying78 hf with ⟨hcs, _⟩ | ⟨a', len', cap', m, n, D, Pl, hcs, _, hl, hm, hmm, hx, hcell⟩
  · simp [Value.cells] at hcs
    omega
  · simp [Value.cells] at hcs
    obtain ⟨rfl, rfl, rfl⟩ := hcs
    simp only [if_true] at hmm
    subst hmm
    simp only [Prod.mk.injEq] at hx
    obtain ⟨hd, _⟩ := hx
    have hmem : ∀ i, i < len → ∀ k ∈ (D i).weights Tryz.prog 175, k ≤ reachBytes := by
      intro i hi k hk
      refine hz k ?_
      rw [hd]
      simp only [DataW.weights, Tryz.underlying78, List.mem_cons, List.mem_append]
      exact .inr (.inl (mem_weightsAll (List.mem_map.2 ⟨i, by simpa using hi, rfl⟩) hk))
    have hreach : len * 32 ≤ 140737488351232 := by
      have := hz ((len + (m - len)) * 32) (by
        rw [hd]
        simp [DataW.weights, Tryz.underlying78, Tryz.bytes_Se])
      simp only [reachBytes] at this
      omega
    obtain ⟨cs0, hc0, _⟩ := hcell 0 (by omega)
    rw [Tryz.cells_Se] at hc0
    have hs := (World.cells?_some hc0)
    obtain ⟨b, off, spot⟩ := a'
    have h00 := hs.2.2 0 (by omega)
    rw [List.getElem?_eq_getElem (by omega)] at h00
    have hspot : spot = none := by simpa [Addr.add] using World.cell?_spot h00
    subst hspot
    have hall : ∀ i, i < len → ∃ o : SeD, SeAt w b (off + i * 5) o := by
      intro i hi
      obtain ⟨cs, hc, ht⟩ := hcell i (by omega)
      rw [Tryz.cells_Se] at hc
      obtain ⟨o, rfl, r0, r1⟩ := open_Se ht (hmem i hi)
      have hcc := (World.cells?_some hc).2.2
      have eadd : ∀ j, ((⟨b, off, none⟩ : Addr).add (i * 5)).add j = ⟨b, off + i * 5 + j, none⟩ := by
        intro j
        unfold Addr.add
        split <;> split <;> simp_all
      have c0 := hcc 0 (by omega)
      have c1 := hcc 1 (by omega)
      have c2 := hcc 2 (by omega)
      have c3 := hcc 3 (by omega)
      have c4 := hcc 4 (by omega)
      rw [eadd] at c0 c1 c2 c3 c4
      exact ⟨o, c0, c1, c2, c3, c4, r0, r1⟩
    obtain ⟨f, hff⟩ := @choose_lt SeD ⟨.zero⟩ len (fun i o => SeAt w b (off + i * 5) o) hall
    exact ⟨f, .inr ⟨b, off, rfl, hff⟩, hreach⟩
set_option maxRecDepth 100000 in
theorem arg_Ses {b0 : Nat} {v : Value} {d : DataW H} {pl : List MemPlace} (h : DataW.Trod enc Tryz.prog w 0 (fun _ => true) true 78 v d pl) (hv : Value.okWide Tryz.prog w .any b0 78 v) (hz : ∀ n ∈ d.weights Tryz.prog 78, n ≤ reachBytes) :
    ∃ la ll lc f, v = .slice la ll lc ∧ SesAt w la ll f ∧ ll * 32 ≤ 140737488351232 := by
  obtain ⟨a, len, cap, rfl⟩ := okWide_slice Tryz.underlying78 hv
  obtain ⟨f, h1, h2⟩ := open_Ses h hz
  exact ⟨a, len, cap, f, rfl, h1, h2⟩
end

/-- One of them. -/
structure MvD where
  go : Bool
  kd : Int
  so : Int
  x : Nat
structure MvAt (w : World) (b off : Nat) (o : MvD) : Prop where
  c0 : w.cell? ⟨b, off, none⟩ = some (.bool o.go)
  c1 : w.cell? ⟨b, off + 1, none⟩ = some (.int .i64 o.kd)
  c2 : w.cell? ⟨b, off + 2, none⟩ = some (.int .i64 o.so)
  c3 : w.cell? ⟨b, off + 3, none⟩ = some (.int .u64 (o.x : Nat))
  r_x : o.x < 18446744073709551616
/-- A list of them that came in. -/
def MvsAt (w : World) (a : Option Addr) (len : Nat) (f : Nat → MvD) : Prop :=
  len = 0 ∨ ∃ b off, a = some ⟨b, off, none⟩ ∧ ∀ i, i < len → MvAt w b (off + i * 4) (f i)
theorem MvAt.kept {w w' : World} {b off : Nat} {o : MvD} (h : MvAt w b off o) (k : Kept (fun _ => False) w w') : MvAt w' b off o := by
  have hb : b < w.heap.size := World.block_lt_of_cell? w _ h.c0
  have e : ∀ j, w'.cell? ⟨b, j, none⟩ = w.cell? ⟨b, j, none⟩ := fun j => World.cell?_of_block (k.block b hb (fun f => f))
  exact ⟨(e _).trans h.c0, (e _).trans h.c1, (e _).trans h.c2, (e _).trans h.c3, h.r_x⟩
def MvD.zero : MvD := ⟨false, 0, 0, 0⟩
section
variable {H : Type} {enc : TypeId × Value → H} {w : World}
theorem Tryz.cells_Mv : Tryz.prog.cellsOf 115 = 4 := by kernel_rfl
theorem Tryz.bytes_Mv : Tryz.prog.bytesOf 115 = 32 := by kernel_rfl
set_option maxRecDepth 100000 in
theorem open_Mv {fuel : Nat} {cs : List Value} {x : DataW H × List MemPlace} (h : DataW.trod enc Tryz.prog w 0 (fun _ => true) true fuel 115 cs = some x) (hz : ∀ n ∈ x.1.weights Tryz.prog 115, n ≤ reachBytes) :
    ∃ o : MvD, cs = [.bool o.go, .int .i64 o.kd, .int .i64 o.so, .int .u64 (o.x : Nat)] ∧ o.x < 18446744073709551616 := by
  obtain ⟨xs, n, _, rfl, hl, hlen, hf⟩ := DataW.trod_struct Tryz.underlying115 h
  rw [Tryz.cells_Mv] at hl
  match cs, hl with
  | [v0, v1, v2, v3], _ =>
    match xs, hlen with
    | [y0, y1, y2, y3], _ =>
      have g0 := hf 0 _ rfl
      have g1 := hf 1 _ rfl
      have g2 := hf 2 _ rfl
      have g3 := hf 3 _ rfl
      simp [Tryz.cells_int, Tryz.cells_bool, Tryz.cells_u64, Tryz.cells_sig] at g0 g1 g2 g3
      obtain ⟨b0, e0, _⟩ := DataW.trod_bool Tryz.underlying4 g0
      simp only [List.cons.injEq, and_true] at e0
      subst e0
      obtain ⟨b1, e1, _, _⟩ := DataW.trod_int Tryz.underlying3 g1
      simp only [List.cons.injEq, and_true] at e1
      subst e1
      obtain ⟨b2, e2, _, _⟩ := DataW.trod_int Tryz.underlying3 g2
      simp only [List.cons.injEq, and_true] at e2
      subst e2
      obtain ⟨z3, e3, _, w3⟩ := DataW.trod_int Tryz.underlying85 g3
      obtain ⟨b3, rfl, r3⟩ := wf_word w3
      simp only [List.cons.injEq, and_true] at e3
      subst e3
      exact ⟨⟨b0, b1, b2, b3⟩, rfl, r3⟩
set_option maxRecDepth 100000 in
theorem open_Mvs {a : Option Addr} {len cap : Nat} {d : DataW H} {pl : List MemPlace} (h : DataW.Trod enc Tryz.prog w 0 (fun _ => true) true 112 (.slice a len cap) d pl) (hz : ∀ n ∈ d.weights Tryz.prog 112, n ≤ reachBytes) :
    ∃ f : Nat → MvD, MvsAt w a len f ∧ len * 32 ≤ 140737488351232 := by
  obtain ⟨fuel, hf⟩ := h
  by_cases h0 : len = 0
  · exact ⟨fun _ => .zero, .inl h0, by omega⟩
  rcases open_slice Tryz.underlying112 hf with ⟨hcs, _⟩ | ⟨a', len', cap', m, n, D, Pl, hcs, _, hl, hm, hmm, hx, hcell⟩
  · simp [Value.cells] at hcs
    omega
  · simp [Value.cells] at hcs
    obtain ⟨rfl, rfl, rfl⟩ := hcs
    simp only [if_true] at hmm
    subst hmm
    simp only [Prod.mk.injEq] at hx
    obtain ⟨hd, _⟩ := hx
    have hmem : ∀ i, i < len → ∀ k ∈ (D i).weights Tryz.prog 115, k ≤ reachBytes := by
      intro i hi k hk
      refine hz k ?_
      rw [hd]
      simp only [DataW.weights, Tryz.underlying112, List.mem_cons, List.mem_append]
      exact .inr (.inl (mem_weightsAll (List.mem_map.2 ⟨i, by simpa using hi, rfl⟩) hk))
    have hreach : len * 32 ≤ 140737488351232 := by
      have := hz ((len + (m - len)) * 32) (by
        rw [hd]
        simp [DataW.weights, Tryz.underlying112, Tryz.bytes_Mv])
      simp only [reachBytes] at this
      omega
    obtain ⟨cs0, hc0, _⟩ := hcell 0 (by omega)
    rw [Tryz.cells_Mv] at hc0
    have hs := (World.cells?_some hc0)
    obtain ⟨b, off, spot⟩ := a'
    have h00 := hs.2.2 0 (by omega)
    rw [List.getElem?_eq_getElem (by omega)] at h00
    have hspot : spot = none := by simpa [Addr.add] using World.cell?_spot h00
    subst hspot
    have hall : ∀ i, i < len → ∃ o : MvD, MvAt w b (off + i * 4) o := by
      intro i hi
      obtain ⟨cs, hc, ht⟩ := hcell i (by omega)
      rw [Tryz.cells_Mv] at hc
      obtain ⟨o, rfl, r0⟩ := open_Mv ht (hmem i hi)
      have hcc := (World.cells?_some hc).2.2
      have eadd : ∀ j, ((⟨b, off, none⟩ : Addr).add (i * 4)).add j = ⟨b, off + i * 4 + j, none⟩ := by
        intro j
        unfold Addr.add
        split <;> split <;> simp_all
      have c0 := hcc 0 (by omega)
      have c1 := hcc 1 (by omega)
      have c2 := hcc 2 (by omega)
      have c3 := hcc 3 (by omega)
      rw [eadd] at c0 c1 c2 c3
      exact ⟨o, c0, c1, c2, c3, r0⟩
    obtain ⟨f, hff⟩ := @choose_lt MvD ⟨.zero⟩ len (fun i o => MvAt w b (off + i * 4) o) hall
    exact ⟨f, .inr ⟨b, off, rfl, hff⟩, hreach⟩
set_option maxRecDepth 100000 in
theorem arg_Mvs {b0 : Nat} {v : Value} {d : DataW H} {pl : List MemPlace} (h : DataW.Trod enc Tryz.prog w 0 (fun _ => true) true 112 v d pl) (hv : Value.okWide Tryz.prog w .any b0 112 v) (hz : ∀ n ∈ d.weights Tryz.prog 112, n ≤ reachBytes) :
    ∃ la ll lc f, v = .slice la ll lc ∧ MvsAt w la ll f ∧ ll * 32 ≤ 140737488351232 := by
  obtain ⟨a, len, cap, rfl⟩ := okWide_slice Tryz.underlying112 hv
  obtain ⟨f, h1, h2⟩ := open_Mvs h hz
  exact ⟨a, len, cap, f, rfl, h1, h2⟩
end
end Go.Proofs.YtgjmamgohidbiaaGreat
