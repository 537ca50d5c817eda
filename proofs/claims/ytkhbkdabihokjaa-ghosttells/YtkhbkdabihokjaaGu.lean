/- Lists of structs as they lie in memory when they come in, and how they are read. -/
import Derived.Test.YtkhbkdabihokjaaProg
import Derived.Test.YtkhbkdabihokjaaGm
import Derived.ProofKit
import Derived.Deep.Slices
import Derived.OpenShut
import Derived.SizedLaws
import Derived.WideKeyPair
namespace Go.Proofs.Ytkhbkdabihokjaa
open Go.RowKit Go.ChangeShapes Go.WideShapes Go.Deep
set_option linter.unusedVariables false
set_option linter.unusedSimpArgs false

theorem wf_word {a : Int} (h : (Lit.int .u64 a).wf = true) : ∃ n : Nat, a = (n : Int) ∧ n < 18446744073709551616 := by
  have h2 : 0 ≤ a ∧ a < 18446744073709551616 := by
    simp only [Lit.wf, decide_eq_true_eq, Bool.and_eq_true] at h
    have m0 : IntKind.u64.min = 0 := by decide
    have m1 : IntKind.u64.max = 18446744073709551615 := by decide
    rw [m0, m1] at h
    omega
  exact ⟨a.toNat, by omega, by omega⟩
section
variable {H : Type} {enc : TypeId × Value → H} {w : World}
theorem mem_weightsAll {P : Program} {e : TypeId} {d : DataW H} {n : Nat} : ∀ {l : List (DataW H)}, d ∈ l → n ∈ d.weights P e → n ∈ DataW.weightsAll P e l := by
  intro l
  induction l with
  | nil => intro h; cases h
  | cons x r ih =>
    intro h hn
    simp only [DataW.weightsAll, List.mem_append]
    cases List.mem_cons.1 h with
    | inl e => subst e; exact .inl hn
    | inr e => exact .inr (ih e hn)
theorem Try.cells_int : Try.prog.cellsOf 3 = 1 := by kernel_rfl
theorem Try.cells_i64 : Try.prog.cellsOf 2 = 1 := by kernel_rfl
theorem Try.cells_bool : Try.prog.cellsOf 4 = 1 := by kernel_rfl
theorem Try.cells_errno : Try.prog.cellsOf 24 = 1 := by kernel_rfl
end

/-- One of them. -/
structure EiD where
  kd : Int
  st : Int
  th : Int
  sp : Int
  ce : Int
  x : Int
  ow : Bool
  ga : Int
  e : Int
  by_ : Int
structure EiAt (w : World) (b off : Nat) (o : EiD) : Prop where
  c0 : w.cell? ⟨b, off, none⟩ = some (.int .i64 o.kd)
  c1 : w.cell? ⟨b, off + 1, none⟩ = some (.int .i64 o.st)
  c2 : w.cell? ⟨b, off + 2, none⟩ = some (.int .i64 o.th)
  c3 : w.cell? ⟨b, off + 3, none⟩ = some (.int .i64 o.sp)
  c4 : w.cell? ⟨b, off + 4, none⟩ = some (.int .i64 o.ce)
  c5 : w.cell? ⟨b, off + 5, none⟩ = some (.int .i64 o.x)
  c6 : w.cell? ⟨b, off + 6, none⟩ = some (.bool o.ow)
  c7 : w.cell? ⟨b, off + 7, none⟩ = some (.int .i64 o.ga)
  c8 : w.cell? ⟨b, off + 8, none⟩ = some (.int .i64 o.e)
  c9 : w.cell? ⟨b, off + 9, none⟩ = some (.int .i64 o.by_)
/-- A list of them that came in. -/
def EisAt (w : World) (a : Option Addr) (len : Nat) (f : Nat → EiD) : Prop :=
  len = 0 ∨ ∃ b off, a = some ⟨b, off, none⟩ ∧ ∀ i, i < len → EiAt w b (off + i * 10) (f i)
theorem EiAt.kept {w w' : World} {b off : Nat} {o : EiD} (h : EiAt w b off o) (k : Kept (fun _ => False) w w') : EiAt w' b off o := by
  have hb : b < w.heap.size := World.block_lt_of_cell? w _ h.c0
  have e : ∀ j, w'.cell? ⟨b, j, none⟩ = w.cell? ⟨b, j, none⟩ := fun j => World.cell?_of_block (k.block b hb (fun f => f))
  exact ⟨(e _).trans h.c0, (e _).trans h.c1, (e _).trans h.c2, (e _).trans h.c3, (e _).trans h.c4, (e _).trans h.c5, (e _).trans h.c6, (e _).trans h.c7, (e _).trans h.c8, (e _).trans h.c9⟩
def EiD.zero : EiD := ⟨0, 0, 0, 0, 0, 0, false, 0, 0, 0⟩
section
variable {H : Type} {enc : TypeId × Value → H} {w : World}
theorem Try.cells_Ei : Try.prog.cellsOf 26 = 10 := by kernel_rfl
theorem Try.bytes_Ei : Try.prog.bytesOf 26 = 80 := by kernel_rfl
set_option maxRecDepth 100000 in
theorem open_Ei {fuel : Nat} {cs : List Value} {x : DataW H × List MemPlace} (h : DataW.trod enc Try.prog w 0 (fun _ => true) true fuel 26 cs = some x) (hz : ∀ n ∈ x.1.weights Try.prog 26, n ≤ reachBytes) :
    ∃ o : EiD, cs = [.int .i64 o.kd, .int .i64 o.st, .int .i64 o.th, .int .i64 o.sp, .int .i64 o.ce, .int .i64 o.x, .bool o.ow, .int .i64 o.ga, .int .i64 o.e, .int .i64 o.by_] := by
  obtain ⟨xs, n, _, rfl, hl, hlen, hf⟩ := DataW.trod_struct Try.underlying26 h
  rw [Try.cells_Ei] at hl
  match cs, hl with
  | [v0, v1, v2, v3, v4, v5, v6, v7, v8, v9], _ =>
    match xs, hlen with
    | [y0, y1, y2, y3, y4, y5, y6, y7, y8, y9], _ =>
      have g0 := hf 0 _ rfl
      have g1 := hf 1 _ rfl
      have g2 := hf 2 _ rfl
      have g3 := hf 3 _ rfl
      have g4 := hf 4 _ rfl
      have g5 := hf 5 _ rfl
      have g6 := hf 6 _ rfl
      have g7 := hf 7 _ rfl
      have g8 := hf 8 _ rfl
      have g9 := hf 9 _ rfl
      simp [Try.cells_int, Try.cells_i64, Try.cells_bool, Try.cells_errno] at g0 g1 g2 g3 g4 g5 g6 g7 g8 g9
      obtain ⟨b0, e0, _, _⟩ := DataW.trod_int Try.underlying3 g0
      simp only [List.cons.injEq, and_true] at e0
      subst e0
      obtain ⟨b1, e1, _, _⟩ := DataW.trod_int Try.underlying3 g1
      simp only [List.cons.injEq, and_true] at e1
      subst e1
      obtain ⟨b2, e2, _, _⟩ := DataW.trod_int Try.underlying3 g2
      simp only [List.cons.injEq, and_true] at e2
      subst e2
      obtain ⟨b3, e3, _, _⟩ := DataW.trod_int Try.underlying3 g3
      simp only [List.cons.injEq, and_true] at e3
      subst e3
      obtain ⟨b4, e4, _, _⟩ := DataW.trod_int Try.underlying3 g4
      simp only [List.cons.injEq, and_true] at e4
      subst e4
      obtain ⟨b5, e5, _, _⟩ := DataW.trod_int Try.underlying2 g5
      simp only [List.cons.injEq, and_true] at e5
      subst e5
      obtain ⟨b6, e6, _⟩ := DataW.trod_bool Try.underlying4 g6
      simp only [List.cons.injEq, and_true] at e6
      subst e6
      obtain ⟨b7, e7, _, _⟩ := DataW.trod_int Try.underlying3 g7
      simp only [List.cons.injEq, and_true] at e7
      subst e7
      obtain ⟨b8, e8, _, _⟩ := DataW.trod_int Try.underlying24 g8
      simp only [List.cons.injEq, and_true] at e8
      subst e8
      obtain ⟨b9, e9, _, _⟩ := DataW.trod_int Try.underlying3 g9
      simp only [List.cons.injEq, and_true] at e9
      subst e9
      exact ⟨⟨b0, b1, b2, b3, b4, b5, b6, b7, b8, b9⟩, rfl⟩
set_option maxRecDepth 100000 in
theorem open_Eis {a : Option Addr} {len cap : Nat} {d : DataW H} {pl : List MemPlace} (h : DataW.Trod enc Try.prog w 0 (fun _ => true) true 23 (.slice a len cap) d pl) (hz : ∀ n ∈ d.weights Try.prog 23, n ≤ reachBytes) :
    ∃ f : Nat → EiD, EisAt w a len f ∧ len * 80 ≤ 140737488351232 := by
  obtain ⟨fuel, hf⟩ := h
  by_cases h0 : len = 0
  · exact ⟨fun _ => .zero, .inl h0, by omega⟩
  rcases open_slice Try.underlying23 hf with ⟨hcs, _⟩ | ⟨a', len', cap', m, n, D, Pl, hcs, _, hl, hm, hmm, hx, hcell⟩
  · simp [Value.cells] at hcs
    omega
  · simp [Value.cells] at hcs
    obtain ⟨rfl, rfl, rfl⟩ := hcs
    simp only [if_true] at hmm
    subst hmm
    simp only [Prod.mk.injEq] at hx
    obtain ⟨hd, _⟩ := hx
    have hmem : ∀ i, i < len → ∀ k ∈ (D i).weights Try.prog 26, k ≤ reachBytes := by
      intro i hi k hk
      refine hz k ?_
      rw [hd]
      simp only [DataW.weights, Try.underlying23, List.mem_cons, List.mem_append]
      exact .inr (.inl (mem_weightsAll (List.mem_map.2 ⟨i, by simpa using hi, rfl⟩) hk))
    have hreach : len * 80 ≤ 140737488351232 := by
      have := hz ((len + (m - len)) * 80) (by
        rw [hd]
        simp [DataW.weights, Try.underlying23, Try.bytes_Ei])
      simp only [reachBytes] at this
      omega
    obtain ⟨cs0, hc0, _⟩ := hcell 0 (by omega)
    rw [Try.cells_Ei] at hc0
    have hs := (World.cells?_some hc0)
    obtain ⟨b, off, spot⟩ := a'
    have h00 := hs.2.2 0 (by omega)
    rw [List.getElem?_eq_getElem (by omega)] at h00
    have hspot : spot = none := by simpa [Addr.add] using World.cell?_spot h00
    subst hspot
    have hall : ∀ i, i < len → ∃ o : EiD, EiAt w b (off + i * 10) o := by
      intro i hi
      obtain ⟨cs, hc, ht⟩ := hcell i (by omega)
      rw [Try.cells_Ei] at hc
      obtain ⟨o, rfl⟩ := open_Ei ht (hmem i hi)
      have hcc := (World.cells?_some hc).2.2
      have eadd : ∀ j, ((⟨b, off, none⟩ : Addr).add (i * 10)).add j = ⟨b, off + i * 10 + j, none⟩ := by
        intro j
        unfold Addr.add
        split <;> split <;> simp_all
      have c0 := hcc 0 (by omega)
      have c1 := hcc 1 (by omega)
      have c2 := hcc 2 (by omega)
      have c3 := hcc 3 (by omega)
      have c4 := hcc 4 (by omega)
      have c5 := hcc 5 (by omega)
      have c6 := hcc 6 (by omega)
      have c7 := hcc 7 (by omega)
      have c8 := hcc 8 (by omega)
      have c9 := hcc 9 (by omega)
      rw [eadd] at c0 c1 c2 c3 c4 c5 c6 c7 c8 c9
      exact ⟨o, c0, c1, c2, c3, c4, c5, c6, c7, c8, c9⟩
    obtain ⟨f, hff⟩ := @choose_lt EiD ⟨.zero⟩ len (fun i o => EiAt w b (off + i * 10) o) hall
    exact ⟨f, .inr ⟨b, off, rfl, hff⟩, hreach⟩
set_option maxRecDepth 100000 in
theorem arg_Eis {b0 : Nat} {v : Value} {d : DataW H} {pl : List MemPlace} (h : DataW.Trod enc Try.prog w 0 (fun _ => true) true 23 v d pl) (hv : Value.okWide Try.prog w .any b0 23 v) (hz : ∀ n ∈ d.weights Try.prog 23, n ≤ reachBytes) :
    ∃ la ll lc f, v = .slice la ll lc ∧ EisAt w la ll f ∧ ll * 80 ≤ 140737488351232 := by
  obtain ⟨a, len, cap, rfl⟩ := okWide_slice Try.underlying23 hv
  obtain ⟨f, h1, h2⟩ := open_Eis h hz
  exact ⟨a, len, cap, f, rfl, h1, h2⟩
end
theorem rin_of {α : Type} {f : α → List Value} {k : Nat} {w : World} {g o n : Nat} {xs : List α} (hk : ∀ a, (f a).length = k) (hk0 : 0 < k) (hn : n = xs.length) (h : ∀ (i : Nat) x, xs[i]? = some x → ∀ (c : Nat) u, (f x)[c]? = some u → w.cell? ⟨g, o + i * k + c, none⟩ = some u) : RIn f w (some ⟨g, o, none⟩) n xs := by
  refine ⟨hn, fun _ => ⟨g, o, rfl, fun j u hj => ?_⟩⟩
  have hlt := (List.getElem?_eq_some_iff.1 hj).1
  rw [fl_length hk] at hlt
  have hm := Nat.mod_lt j hk0
  have hd : j / k < xs.length := Nat.div_lt_of_lt_mul (by rw [Nat.mul_comm]; exact hlt)
  have hx : xs[j / k]? = some xs[j / k] := List.getElem?_eq_getElem hd
  have e : j = j / k * k + j % k := by rw [Nat.mul_comm]; exact (Nat.div_add_mod j k).symm
  rw [e, fl_at hk xs (j / k) (j % k) _ hm hx] at hj
  have := h _ _ hx _ _ hj
  rw [Nat.add_assoc, ← e] at this
  exact this
def EiD.ev (d : EiD) : Ev := ⟨d.kd, d.st, d.th, d.sp, d.ce, d.x, d.ow, d.ga, d.e, d.by_⟩
def evs (f : Nat → EiD) (n : Nat) : List Ev := (List.range n).map fun i => (f i).ev
theorem evs_len (f : Nat → EiD) (n : Nat) : (evs f n).length = n := by simp [evs]
theorem evs_rin {w : World} {la : Option Addr} {n : Nat} {f : Nat → EiD} (h : EisAt w la n f) : RIn eC w la n (evs f n) := by
  rcases h with rfl | ⟨b, off, rfl, h⟩
  · exact RIn.nil _ _
  · refine rin_of (k := 10) (fun _ => rfl) (by omega) (evs_len f n).symm (fun i x hx c u hu => ?_)
    have hi := (List.getElem?_eq_some_iff.1 hx).1
    rw [evs_len] at hi
    have e : x = (f i).ev := by
      simp only [evs, List.getElem?_map, List.getElem?_range hi, Option.map_some, Option.some.injEq] at hx
      exact hx.symm
    subst e
    have hc := (List.getElem?_eq_some_iff.1 hu).1
    have a := h i hi
    have hc' : c < 10 := hc
    match c, hu, hc' with
    | 0, hu, _ => cases hu; exact a.c0
    | 1, hu, _ => cases hu; exact a.c1
    | 2, hu, _ => cases hu; exact a.c2
    | 3, hu, _ => cases hu; exact a.c3
    | 4, hu, _ => cases hu; exact a.c4
    | 5, hu, _ => cases hu; exact a.c5
    | 6, hu, _ => cases hu; exact a.c6
    | 7, hu, _ => cases hu; exact a.c7
    | 8, hu, _ => cases hu; exact a.c8
    | 9, hu, _ => cases hu; exact a.c9
/-- A list of events as an argument. -/
theorem arg_evs {H : Type} {enc : TypeId × Value → H} {w : World} {b0 : Nat} {v : Value} {d : DataW H} {pl : List MemPlace} (h : DataW.Trod enc Try.prog w 0 (fun _ => true) true 23 v d pl) (hv : Value.okWide Try.prog w .any b0 23 v) (hz : ∀ n ∈ d.weights Try.prog 23, n ≤ reachBytes) :
    ∃ la ll lc l, v = .slice la ll lc ∧ RIn eC w la ll l ∧ (ll ≤ lc ∧ lc ≤ maxLen ∧ ll * 80 ≤ 140737488351232 ∧ (la = none → ll = 0 ∧ lc = 0)) := by
  obtain ⟨la, ll, lc, f, rfl, h1, h2⟩ := arg_Eis h hv hz
  refine ⟨la, ll, lc, _, rfl, evs_rin h1, ?_⟩
  obtain ⟨fuel, hf⟩ := h
  rcases open_slice Try.underlying23 hf with ⟨e, _⟩ | ⟨a, len, cap, m, n, D, Pl, e, _, hl, hm, _⟩
  · simp only [Value.cells, List.cons.injEq, and_true, Value.slice.injEq] at e
    obtain ⟨rfl, rfl, rfl⟩ := e
    exact ⟨Nat.le_refl _, Nat.zero_le _, h2, fun _ => ⟨rfl, rfl⟩⟩
  · simp only [Value.cells, List.cons.injEq, and_true, Value.slice.injEq] at e
    obtain ⟨rfl, rfl, rfl⟩ := e
    exact ⟨hl, hm, h2, fun e => by cases e⟩
theorem wf_i64r {a : Int} (h : (Lit.int .i64 a).wf = true) : -9223372036854775808 ≤ a ∧ a ≤ 9223372036854775807 := by
  simp only [Lit.wf, decide_eq_true_eq, Bool.and_eq_true] at h
  have m0 : IntKind.i64.min = -9223372036854775808 := by decide
  have m1 : IntKind.i64.max = 9223372036854775807 := by decide
  rw [m0, m1] at h
  omega
end Go.Proofs.Ytkhbkdabihokjaa
