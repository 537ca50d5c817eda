/- Lists of structs as they lie in memory when they come in, and how they are read. -/
import Derived.Test.YtnmlnjljmikmpaaProg
import Derived.Test.YtnmlnjljmikmpaaHd
import Derived.Test.YtnmlnjljmikmpaaOc
import Derived.Test.YtnmlnjljmikmpaaOm
import Derived.ProofKit
import Derived.Deep.Slices
import Derived.OpenShut
import Derived.SizedLaws
import Derived.WideKeyPair
namespace Go.Proofs.Ytnmlnjljmikmpaa
open Go.RowKit Go.ChangeShapes Go.WideShapes Go.Deep
set_option linter.unusedVariables false
set_option linter.unusedSimpArgs false

structure SiD where
  th : Int
  sp : Int
  bg : Int
  en : Int
  ft : Int
  e : Int
  by_ : Int
  op : Int
  ga : Int
  la_ms : Option Addr
  ll_ms : Nat
  lc_ms : Nat
  zs_ms : List Mv
structure SiAt (w : World) (b off : Nat) (o : SiD) : Prop where
  c0 : w.cell? ⟨b, off, none⟩ = some (.int .i64 o.th)
  c1 : w.cell? ⟨b, off + 1, none⟩ = some (.int .i64 o.sp)
  c2 : w.cell? ⟨b, off + 2, none⟩ = some (.int .i64 o.bg)
  c3 : w.cell? ⟨b, off + 3, none⟩ = some (.int .i64 o.en)
  c4 : w.cell? ⟨b, off + 4, none⟩ = some (.int .i64 o.ft)
  c5 : w.cell? ⟨b, off + 5, none⟩ = some (.int .i64 o.e)
  c6 : w.cell? ⟨b, off + 6, none⟩ = some (.int .i64 o.by_)
  c7 : w.cell? ⟨b, off + 7, none⟩ = some (.int .i64 o.op)
  c8 : w.cell? ⟨b, off + 8, none⟩ = some (.int .i64 o.ga)
  c9 : w.cell? ⟨b, off + 9, none⟩ = some (.slice o.la_ms o.ll_ms o.lc_ms)
  r_bg : (-9223372036854775808 ≤ o.bg ∧ o.bg ≤ 9223372036854775807)
  r_en : (-9223372036854775808 ≤ o.en ∧ o.en ≤ 9223372036854775807)
  list_ms : MvIn w o.la_ms o.ll_ms o.zs_ms
  reach_ms : o.ll_ms ≤ o.lc_ms ∧ o.ll_ms * 48 ≤ 140737488351232 ∧ (o.la_ms = none → o.ll_ms = 0 ∧ o.lc_ms = 0)
/-- A list of them that came in. -/
def SisAt (w : World) (a : Option Addr) (len : Nat) (f : Nat → SiD) : Prop :=
  len = 0 ∨ ∃ b off, a = some ⟨b, off, none⟩ ∧ ∀ i, i < len → SiAt w b (off + i * 10) (f i)
theorem SiAt.kept {w w' : World} {b off : Nat} {o : SiD} (h : SiAt w b off o) (k : Kept (fun _ => False) w w') : SiAt w' b off o := by
  have hb : b < w.heap.size := World.block_lt_of_cell? w _ h.c0
  have e : ∀ j, w'.cell? ⟨b, j, none⟩ = w.cell? ⟨b, j, none⟩ := fun j => World.cell?_of_block (k.block b hb (fun f => f))
  exact ⟨(e _).trans h.c0, (e _).trans h.c1, (e _).trans h.c2, (e _).trans h.c3, (e _).trans h.c4, (e _).trans h.c5, (e _).trans h.c6, (e _).trans h.c7, (e _).trans h.c8, (e _).trans h.c9, h.r_bg, h.r_en, h.list_ms.kept k, h.reach_ms⟩
def SiD.zero : SiD := ⟨0, 0, 0, 0, 0, 0, 0, 0, 0, none, 0, 0, []⟩
section
variable {H : Type} {enc : TypeId × Value → H} {w : World}
theorem Try.cells_Si : Try.prog.cellsOf 44 = 10 := by kernel_rfl
theorem Try.bytes_Si : Try.prog.bytesOf 44 = 96 := by kernel_rfl
set_option maxRecDepth 100000 in
theorem open_Si {fuel : Nat} {cs : List Value} {x : DataW H × List MemPlace} (h : DataW.trod enc Try.prog w 0 (fun _ => true) true fuel 44 cs = some x) (hz : ∀ n ∈ x.1.weights Try.prog 44, n ≤ reachBytes) :
    ∃ o : SiD, cs = [.int .i64 o.th, .int .i64 o.sp, .int .i64 o.bg, .int .i64 o.en, .int .i64 o.ft, .int .i64 o.e, .int .i64 o.by_, .int .i64 o.op, .int .i64 o.ga, .slice o.la_ms o.ll_ms o.lc_ms] ∧ (-9223372036854775808 ≤ o.bg ∧ o.bg ≤ 9223372036854775807) ∧ (-9223372036854775808 ≤ o.en ∧ o.en ≤ 9223372036854775807) ∧ MvIn w o.la_ms o.ll_ms o.zs_ms ∧ (o.ll_ms ≤ o.lc_ms ∧ o.ll_ms * 48 ≤ 140737488351232 ∧ (o.la_ms = none → o.ll_ms = 0 ∧ o.lc_ms = 0)) := by
  obtain ⟨xs, n, _, rfl, hl, hlen, hf⟩ := DataW.trod_struct Try.underlying44 h
  rw [Try.cells_Si] at hl
  match cs, hl with
  | [v0, v1, v2, v3, v4, v5, v6, v7, v8, v9], _ =>
    match xs, hlen with
    | [y0, y1, y2, y3, y4, y5, y6, y7, y8, y9], _ =>
      have g0 := hf 0 _ rfl
      have g1 := hf 1 _ rfl
      have g2 := hf 2 _ rfl
      have g3 := hf 3 _ rfl
      have g4 := hf 4 _ rfl
      have g5 := hf 5 _ rfl
      have g6 := hf 6 _ rfl
      have g7 := hf 7 _ rfl
      have g8 := hf 8 _ rfl
      have g9 := hf 9 _ rfl
      simp [Try.cells_int, Try.cells_errno, Try.cells_mvs, Try.cells_int] at g0 g1 g2 g3 g4 g5 g6 g7 g8 g9
      obtain ⟨b0, e0, _, _⟩ := DataW.trod_int Try.underlying3 g0
      simp only [List.cons.injEq, and_true] at e0
      subst e0
      obtain ⟨b1, e1, _, _⟩ := DataW.trod_int Try.underlying3 g1
      simp only [List.cons.injEq, and_true] at e1
      subst e1
      obtain ⟨b2, e2, _, w2⟩ := DataW.trod_int Try.underlying3 g2
      simp only [List.cons.injEq, and_true] at e2
      subst e2
      obtain ⟨b3, e3, _, w3⟩ := DataW.trod_int Try.underlying3 g3
      simp only [List.cons.injEq, and_true] at e3
      subst e3
      obtain ⟨b4, e4, _, _⟩ := DataW.trod_int Try.underlying3 g4
      simp only [List.cons.injEq, and_true] at e4
      subst e4
      obtain ⟨b5, e5, _, _⟩ := DataW.trod_int Try.underlying29 g5
      simp only [List.cons.injEq, and_true] at e5
      subst e5
      obtain ⟨b6, e6, _, _⟩ := DataW.trod_int Try.underlying3 g6
      simp only [List.cons.injEq, and_true] at e6
      subst e6
      obtain ⟨b7, e7, _, _⟩ := DataW.trod_int Try.underlying3 g7
      simp only [List.cons.injEq, and_true] at e7
      subst e7
      obtain ⟨b8, e8, _, _⟩ := DataW.trod_int Try.underlying3 g8
      simp only [List.cons.injEq, and_true] at e8
      subst e8
      obtain ⟨la9, ll9, lc9, zs9, rfl, hL9, hR9⟩ := open_mvs g9 (fun n hn => hz n (by
        simp only [DataW.weights, Try.underlying44]
        simp [DataW.weightsEach, hn]))
      exact ⟨⟨b0, b1, b2, b3, b4, b5, b6, b7, b8, la9, ll9, lc9, zs9⟩, rfl, wf_i64r w2, wf_i64r w3, hL9, hR9⟩
set_option maxRecDepth 100000 in
theorem open_Sis {a : Option Addr} {len cap : Nat} {d : DataW H} {pl : List MemPlace} (h : DataW.Trod enc Try.prog w 0 (fun _ => true) true 23 (.slice a len cap) d pl) (hz : ∀ n ∈ d.weights Try.prog 23, n ≤ reachBytes) :
    ∃ f : Nat → SiD, SisAt w a len f ∧ len * 96 ≤ 140737488351232 := by
  obtain ⟨fuel, hf⟩ := h
  by_cases h0 : len = 0
  · exact ⟨fun _ => .zero, .inl h0, by omega⟩
  rcases open_slice Try.underlying23 hf with ⟨hcs, _⟩ | ⟨a', len', cap', m, n, D, Pl, hcs, _, hl, hm, hmm, hx, hcell⟩
  · simp [Value.cells] at hcs
    omega
  · simp [Value.cells] at hcs
    obtain ⟨rfl, rfl, rfl⟩ := hcs
    simp only [if_true] at hmm
    subst hmm
    simp only [Prod.mk.injEq] at hx
    obtain ⟨hd, _⟩ := hx
    have hmem : ∀ i, i < len → ∀ k ∈ (D i).weights Try.prog 44, k ≤ reachBytes := by
      intro i hi k hk
      refine hz k ?_
      rw [hd]
      simp only [DataW.weights, Try.underlying23, List.mem_cons, List.mem_append]
      exact .inr (.inl (mem_weightsAll (List.mem_map.2 ⟨i, by simpa using hi, rfl⟩) hk))
    have hreach : len * 96 ≤ 140737488351232 := by
      have := hz ((len + (m - len)) * 96) (by
        rw [hd]
        simp [DataW.weights, Try.underlying23, Try.bytes_Si])
      simp only [reachBytes] at this
      omega
    obtain ⟨cs0, hc0, _⟩ := hcell 0 (by omega)
    rw [Try.cells_Si] at hc0
    have hs := (World.cells?_some hc0)
    obtain ⟨b, off, spot⟩ := a'
    have h00 := hs.2.2 0 (by omega)
    rw [List.getElem?_eq_getElem (by omega)] at h00
    have hspot : spot = none := by simpa [Addr.add] using World.cell?_spot h00
    subst hspot
    have hall : ∀ i, i < len → ∃ o : SiD, SiAt w b (off + i * 10) o := by
      intro i hi
      obtain ⟨cs, hc, ht⟩ := hcell i (by omega)
      rw [Try.cells_Si] at hc
      obtain ⟨o, rfl, r0, r1, hL0, hR0⟩ := open_Si ht (hmem i hi)
      have hcc := (World.cells?_some hc).2.2
      have eadd : ∀ j, ((⟨b, off, none⟩ : Addr).add (i * 10)).add j = ⟨b, off + i * 10 + j, none⟩ := by
        intro j
        unfold Addr.add
        split <;> split <;> simp_all
      have c0 := hcc 0 (by omega)
      have c1 := hcc 1 (by omega)
      have c2 := hcc 2 (by omega)
      have c3 := hcc 3 (by omega)
      have c4 := hcc 4 (by omega)
      have c5 := hcc 5 (by omega)
      have c6 := hcc 6 (by omega)
      have c7 := hcc 7 (by omega)
      have c8 := hcc 8 (by omega)
      have c9 := hcc 9 (by omega)
      rw [eadd] at c0 c1 c2 c3 c4 c5 c6 c7 c8 c9
      exact ⟨o, c0, c1, c2, c3, c4, c5, c6, c7, c8, c9, r0, r1, hL0, hR0⟩
    obtain ⟨f, hff⟩ := @choose_lt SiD ⟨.zero⟩ len (fun i o => SiAt w b (off + i * 10) o) hall
    exact ⟨f, .inr ⟨b, off, rfl, hff⟩, hreach⟩
set_option maxRecDepth 100000 in
theorem arg_Sis {b0 : Nat} {v : Value} {d : DataW H} {pl : List MemPlace} (h : DataW.Trod enc Try.prog w 0 (fun _ => true) true 23 v d pl) (hv : Value.okWide Try.prog w .any b0 23 v) (hz : ∀ n ∈ d.weights Try.prog 23, n ≤ reachBytes) :
    ∃ la ll lc f, v = .slice la ll lc ∧ SisAt w la ll f ∧ ll * 96 ≤ 140737488351232 := by
  obtain ⟨a, len, cap, rfl⟩ := okWide_slice Try.underlying23 hv
  obtain ⟨f, h1, h2⟩ := open_Sis h hz
  exact ⟨a, len, cap, f, rfl, h1, h2⟩
end
def SiD.sm (d : SiD) : Sm := ⟨⟨d.th, d.sp, d.bg, d.en, d.ft, d.e, d.by_, d.op, d.ga, d.zs_ms⟩, d.la_ms, d.lc_ms⟩
def sms (f : Nat → SiD) (n : Nat) : List Sm := (List.range n).map fun i => (f i).sm
theorem sms_len (f : Nat → SiD) (n : Nat) : (sms f n).length = n := by simp [sms]
/-- Begins and ends are an int's. -/
def RngS (s : Sy) : Prop := minI ≤ s.en ∧ minI ≤ s.bg
theorem sms_in {w : World} {la : Option Addr} {n : Nat} {f : Nat → SiD} (h : SisAt w la n f) : LIn w la n (sms f n) ∧ ∀ m ∈ sms f n, RngS m.s := by
  rcases h with rfl | ⟨b, off, rfl, h⟩
  · exact ⟨⟨RIn.nil _ _, fun x hx => by simp [sms] at hx⟩, fun x hx => by simp [sms] at hx⟩
  · refine ⟨⟨rin_of (k := 10) (fun _ => rfl) (by omega) (sms_len f n).symm (fun i x hx c u hu => ?_), fun x hx => ?_⟩, fun x hx => ?_⟩
    · have hi := (List.getElem?_eq_some_iff.1 hx).1
      rw [sms_len] at hi
      have e : x = (f i).sm := by
        simp only [sms, List.getElem?_map, List.getElem?_range hi, Option.map_some, Option.some.injEq] at hx
        exact hx.symm
      subst e
      have hc' : c < 10 := (List.getElem?_eq_some_iff.1 hu).1
      have a := h i hi
      match c, hu, hc' with
      | 0, hu, _ => cases hu; exact a.c0
      | 1, hu, _ => cases hu; exact a.c1
      | 2, hu, _ => cases hu; exact a.c2
      | 3, hu, _ => cases hu; exact a.c3
      | 4, hu, _ => cases hu; exact a.c4
      | 5, hu, _ => cases hu; exact a.c5
      | 6, hu, _ => cases hu; exact a.c6
      | 7, hu, _ => cases hu; exact a.c7
      | 8, hu, _ => cases hu; exact a.c8
      | 9, hu, _ =>
        cases hu
        have e := a.c9
        rw [show (f i).ll_ms = (f i).zs_ms.length from a.list_ms.1.1] at e
        exact e
    · obtain ⟨i, hi, rfl⟩ := List.mem_map.1 hx
      have a := h i (List.mem_range.1 hi)
      have e : (f i).ll_ms = (f i).zs_ms.length := a.list_ms.1.1
      have r := a.reach_ms
      refine ⟨?_, ?_, a.list_ms.2⟩
      · show RIn mC w (f i).la_ms (f i).zs_ms.length (f i).zs_ms
        rw [← e]
        exact a.list_ms.1
      · show (f i).zs_ms.length ≤ _
        rw [← e]
        omega
    · obtain ⟨i, hi, rfl⟩ := List.mem_map.1 hx
      have a := h i (List.mem_range.1 hi)
      exact ⟨a.r_en.1, a.r_bg.1⟩
set_option maxRecDepth 100000 in
/-- A list of stories as an argument. -/
theorem arg_sts {H : Type} {enc : TypeId × Value → H} {w : World} {b0 : Nat} {v : Value} {d : DataW H} {pl : List MemPlace} (h : DataW.Trod enc Try.prog w 0 (fun _ => true) true 23 v d pl) (hv : Value.okWide Try.prog w .any b0 23 v) (hz : ∀ n ∈ d.weights Try.prog 23, n ≤ reachBytes) :
    ∃ la ll lc L, v = .slice la ll lc ∧ LIn w la ll L ∧ (ll ≤ 1466015503701 ∧ ∀ m ∈ L, RngS m.s) := by
  obtain ⟨la, ll, lc, f, rfl, h1, h2⟩ := arg_Sis h hv hz
  exact ⟨la, ll, lc, _, rfl, (sms_in h1).1, by omega, (sms_in h1).2⟩
theorem Try.cells_arg_li : Try.prog.cellsOf 3 = 1 := by kernel_rfl
theorem Try.bytes_arg_li : Try.prog.bytesOf 3 = 8 := by kernel_rfl
set_option maxRecDepth 100000 in
/-- A list of numbers as an argument. -/
theorem arg_li {H : Type} {enc : TypeId × Value → H} {w : World} {b0 : Nat} {v : Value} {d : DataW H} {pl : List MemPlace} (h : DataW.Trod enc Try.prog w 0 (fun _ => true) true 24 v d pl) (hv : Value.okWide Try.prog w .any b0 24 v) (hz : ∀ n ∈ d.weights Try.prog 24, n ≤ reachBytes) :
    ∃ la ll lc zs, v = .slice la ll lc ∧ RIn iC w la ll zs ∧ (ll * 8 ≤ 140737488351232 ∧ (la = none → ll = 0 ∧ lc = 0)) := by
  obtain ⟨a, len, cap, rfl⟩ := okWide_slice Try.underlying24 hv
  obtain ⟨fuel, hf⟩ := h
  rcases open_ints Try.underlying24 Try.underlying3 Try.cells_arg_li hf with ⟨hcs, _⟩ | ⟨a', len', cap', zs, hcs, _, hl, hm, hzl, hx, hcell, _⟩
  · simp [Value.cells] at hcs
    obtain ⟨rfl, rfl, rfl⟩ := hcs
    exact ⟨_, _, _, [], rfl, RIn.nil _ _, by omega, fun _ => ⟨rfl, rfl⟩⟩
  · simp [Value.cells] at hcs
    obtain ⟨rfl, rfl, rfl⟩ := hcs
    simp only [if_true] at hzl
    have hr : cap * 8 ≤ 140737488351232 := by
      have := hz ((zs.take len).length * 8 + (zs.drop len).length * 8) (by
        rw [show d = _ from congrArg Prod.fst hx]
        simp [DataW.weights, Try.underlying24, Try.bytes_arg_li, lits, Nat.add_mul])
      simp only [List.length_take, List.length_drop, reachBytes] at this
      omega
    have hlen : len = (zs.take len).length := by simp; omega
    refine ⟨_, _, _, zs.take len, rfl, ⟨hlen, fun h0 => ?_⟩, by omega, fun e => by cases e⟩
    obtain ⟨g, o, spot⟩ := a'
    have h00 := hcell 0 (by omega)
    have hsp : spot = none := by
      have := World.cell?_spot (by simpa using h00)
      simpa [Addr.add] using this
    subst hsp
    refine ⟨g, o, rfl, fun j u hj => ?_⟩
    have hjl := (List.getElem?_eq_some_iff.1 hj).1
    rw [fl_length (k := 1) (fun _ => rfl), Nat.mul_one] at hjl
    have hj2 : j < len := by omega
    have e2 := fl_at (f := iC) (k := 1) (fun _ => rfl) (zs.take len) j 0 _ (by omega) (List.getElem?_eq_getElem hjl)
    rw [Nat.mul_one, Nat.add_zero] at e2
    rw [e2] at hj
    have := hcell j (by omega)
    rw [Addr.add_lit] at this
    rw [this, ← hj]
    simp only [iC, List.getElem?_cons_zero]
    have hjz : j < zs.length := by rw [hzl]; omega
    simp [hjz]
theorem Try.cells_arg_lx : Try.prog.cellsOf 2 = 1 := by kernel_rfl
theorem Try.bytes_arg_lx : Try.prog.bytesOf 2 = 8 := by kernel_rfl
set_option maxRecDepth 100000 in
/-- A list of numbers as an argument. -/
theorem arg_lx {H : Type} {enc : TypeId × Value → H} {w : World} {b0 : Nat} {v : Value} {d : DataW H} {pl : List MemPlace} (h : DataW.Trod enc Try.prog w 0 (fun _ => true) true 28 v d pl) (hv : Value.okWide Try.prog w .any b0 28 v) (hz : ∀ n ∈ d.weights Try.prog 28, n ≤ reachBytes) :
    ∃ la ll lc zs, v = .slice la ll lc ∧ RIn iC w la ll zs ∧ (ll * 8 ≤ 140737488351232 ∧ (la = none → ll = 0 ∧ lc = 0)) := by
  obtain ⟨a, len, cap, rfl⟩ := okWide_slice Try.underlying28 hv
  obtain ⟨fuel, hf⟩ := h
  rcases open_ints Try.underlying28 Try.underlying2 Try.cells_arg_lx hf with ⟨hcs, _⟩ | ⟨a', len', cap', zs, hcs, _, hl, hm, hzl, hx, hcell, _⟩
  · simp [Value.cells] at hcs
    obtain ⟨rfl, rfl, rfl⟩ := hcs
    exact ⟨_, _, _, [], rfl, RIn.nil _ _, by omega, fun _ => ⟨rfl, rfl⟩⟩
  · simp [Value.cells] at hcs
    obtain ⟨rfl, rfl, rfl⟩ := hcs
    simp only [if_true] at hzl
    have hr : cap * 8 ≤ 140737488351232 := by
      have := hz ((zs.take len).length * 8 + (zs.drop len).length * 8) (by
        rw [show d = _ from congrArg Prod.fst hx]
        simp [DataW.weights, Try.underlying28, Try.bytes_arg_lx, lits, Nat.add_mul])
      simp only [List.length_take, List.length_drop, reachBytes] at this
      omega
    have hlen : len = (zs.take len).length := by simp; omega
    refine ⟨_, _, _, zs.take len, rfl, ⟨hlen, fun h0 => ?_⟩, by omega, fun e => by cases e⟩
    obtain ⟨g, o, spot⟩ := a'
    have h00 := hcell 0 (by omega)
    have hsp : spot = none := by
      have := World.cell?_spot (by simpa using h00)
      simpa [Addr.add] using this
    subst hsp
    refine ⟨g, o, rfl, fun j u hj => ?_⟩
    have hjl := (List.getElem?_eq_some_iff.1 hj).1
    rw [fl_length (k := 1) (fun _ => rfl), Nat.mul_one] at hjl
    have hj2 : j < len := by omega
    have e2 := fl_at (f := iC) (k := 1) (fun _ => rfl) (zs.take len) j 0 _ (by omega) (List.getElem?_eq_getElem hjl)
    rw [Nat.mul_one, Nat.add_zero] at e2
    rw [e2] at hj
    have := hcell j (by omega)
    rw [Addr.add_lit] at this
    rw [this, ← hj]
    simp only [iC, List.getElem?_cons_zero]
    have hjz : j < zs.length := by rw [hzl]; omega
    simp [hjz]
end Go.Proofs.Ytnmlnjljmikmpaa
