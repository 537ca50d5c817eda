/- A deed, lists of int64 and of entries that came in. -/
import Derived.Test.YtbpilhjomfkpaaaGreatDoorDiF
import Derived.ProofKit
import Derived.Deep.Slices
import Derived.OpenShut
import Derived.SizedLaws
import Derived.WideKeyPair
namespace Go.Proofs.YtbpilhjomfkpaaaGreatDoor
open Go.RowKit Go.ChangeShapes Go.WideShapes Go.Deep
set_option linter.unusedVariables false
set_option linter.unusedSimpArgs false
section
variable {H : Type} {enc : TypeId × Value → H} {w : World}

theorem Tryz.cellsA_int : Tryz.prog.cellsOf 3 = 1 := by kernel_rfl
theorem Tryz.cellsA_i64 : Tryz.prog.cellsOf 2 = 1 := by kernel_rfl
theorem Tryz.cellsA_deed : Tryz.prog.cellsOf 45 = 5 := by kernel_rfl
theorem i64_rng {x : Int} (h : (Lit.int .i64 x).wf = true) : -9223372036854775808 ≤ x ∧ x ≤ 9223372036854775807 := by
  have e1 : IntKind.i64.min = -9223372036854775808 := by decide
  have e2 : IntKind.i64.max = 9223372036854775807 := by decide
  simp only [Lit.wf, decide_eq_true_eq, Bool.and_eq_true] at h
  rw [e1, e2] at h
  omega
set_option maxRecDepth 100000 in
theorem arg_deed {b0 : Nat} {v : Value} {d : DataW H} {p : List MemPlace} (hv : Value.okWide Tryz.prog w .any b0 45 v) (h : DataW.Trod enc Tryz.prog w 0 (fun _ => true) true 45 v d p) : ∃ c : Dd, v = c.val ∧ Rg c.x ∧ Rg c.y := by
  obtain ⟨cs, rfl, hsz⟩ := okWide_struct Tryz.underlying45 hv
  obtain ⟨fuel, h⟩ := h
  rw [Tryz.cellsA_deed] at hsz
  simp only [Value.cells] at h
  obtain ⟨l⟩ := cs
  simp only [List.size_toArray] at hsz
  obtain ⟨xs, n, _, _, hl, hlen, hf⟩ := DataW.trod_struct Tryz.underlying45 h
  match l, hsz with
  | [v0, v1, v2, v3, v4], _ =>
    match xs, hlen with
    | [y0, y1, y2, y3, y4], _ =>
      have g0 := hf 0 _ rfl
      have g1 := hf 1 _ rfl
      have g2 := hf 2 _ rfl
      have g3 := hf 3 _ rfl
      have g4 := hf 4 _ rfl
      simp [Tryz.cellsA_int, Tryz.cellsA_i64] at g0 g1 g2 g3 g4
      obtain ⟨b0, e0, _, _⟩ := DataW.trod_int Tryz.underlying3 g0
      obtain ⟨b1, e1, _, _⟩ := DataW.trod_int Tryz.underlying3 g1
      obtain ⟨b2, e2, _, _⟩ := DataW.trod_int Tryz.underlying3 g2
      obtain ⟨b3, e3, _, wf3⟩ := DataW.trod_int Tryz.underlying2 g3
      obtain ⟨b4, e4, _, wf4⟩ := DataW.trod_int Tryz.underlying2 g4
      simp only [List.cons.injEq, and_true] at e0 e1 e2 e3 e4
      subst e0 e1 e2 e3 e4
      exact ⟨⟨b0, b1, b2, b3, b4⟩, rfl, i64_rng wf3, i64_rng wf4⟩
theorem Tryz.bytes_i64 : Tryz.prog.bytesOf 2 = 8 := by kernel_rfl
/-- A list of int64 that came in. -/
def CameX (w : World) (la : Option Addr) (n lc : Nat) (zs : List Int) : Prop := XIn w la n zs ∧ n ≤ lc ∧ lc * 8 ≤ 140737488351232 ∧ (la = none → n = 0 ∧ lc = 0) ∧ ∀ z ∈ zs, Rg z
theorem CameX.kept {w w' : World} {la : Option Addr} {n lc : Nat} {zs : List Int} (h : CameX w la n lc zs) (k : Kept (fun _ => False) w w') : CameX w' la n lc zs := ⟨h.1.kept k, h.2⟩
set_option maxRecDepth 100000 in
theorem arg_x {b0 : Nat} {v : Value} {d : DataW H} {p : List MemPlace} (h : DataW.Trod enc Tryz.prog w 0 (fun _ => true) true 24 v d p) (hv : Value.okWide Tryz.prog w .any b0 24 v) (hz : ∀ n ∈ d.weights Tryz.prog 24, n ≤ reachBytes) :
    ∃ la ll lc zs, v = .slice la ll lc ∧ CameX w la ll lc zs := by
  obtain ⟨a, len, cap, rfl⟩ := okWide_slice Tryz.underlying24 hv
  obtain ⟨fuel, h⟩ := h
  simp only [Value.cells] at h
  rcases open_ints Tryz.underlying24 Tryz.underlying2 Tryz.cellsA_i64 h with ⟨hcs, _⟩ | ⟨a, len, cap, zs, hcs, _, hl, hm, hzl, hx, hcell, hwf⟩
  · simp only [List.cons.injEq, and_true] at hcs
    exact ⟨_, _, _, [], hcs, ⟨rfl, fun h => by omega⟩, by omega, by omega, fun _ => ⟨rfl, rfl⟩, by simp⟩
  · simp only [List.cons.injEq, and_true] at hcs
    simp only [if_true] at hzl
    have hr : cap * 8 ≤ 140737488351232 := by
      have := hz ((zs.take len).length * 8 + (zs.drop len).length * 8) (by
        simp only [Prod.mk.injEq] at hx
        rw [hx.1]
        simp [DataW.weights, Tryz.underlying24, Tryz.bytes_i64, lits, Nat.add_mul])
      simp only [List.length_take, List.length_drop, reachBytes] at this
      omega
    refine ⟨_, _, _, zs.take len, hcs, ⟨by simp; omega, fun h0 => ?_⟩, hl, hr, (fun e => by cases e), fun z hz2 => i64_rng (hwf z (List.mem_of_mem_take hz2))⟩
    have hp : a.spot = none := by simpa [Addr.add] using World.cell?_spot (hcell 0 (by omega))
    obtain ⟨g, of, s⟩ := a
    simp only at hp
    subst hp
    refine ⟨g, of, rfl, fun j hj => ?_⟩
    have := hcell j (by omega)
    rw [Addr.add_lit] at this
    simpa [hj] using this
/-- A list of entries that came in. -/
def CameE (w : World) (la : Option Addr) (n lc : Nat) (zs : List Pr) : Prop := EIn w la n zs ∧ n ≤ lc ∧ n * 16 ≤ 140737488351232 ∧ (la = none → n = 0 ∧ lc = 0) ∧ ∀ p ∈ zs, Rg p.1
theorem CameE.kept {w w' : World} {la : Option Addr} {n lc : Nat} {zs : List Pr} (h : CameE w la n lc zs) (k : Kept (fun _ => False) w w') : CameE w' la n lc zs := ⟨h.1.kept k, h.2⟩
theorem Tryz.cellsA_e : Tryz.prog.cellsOf 41 = 2 := by kernel_rfl
theorem Tryz.bytesA_e : Tryz.prog.bytesOf 41 = 16 := by kernel_rfl
set_option maxRecDepth 100000 in
theorem open_entry {fuel : Nat} {cs : List Value} {x : DataW H × List MemPlace} (h : DataW.trod enc Tryz.prog w 0 (fun _ => true) true fuel 41 cs = some x) :
    ∃ o : Pr, cs = [.int .i64 o.1, .int .i64 o.2] ∧ Rg o.1 := by
  obtain ⟨xs, n, _, rfl, hl, hlen, hf⟩ := DataW.trod_struct Tryz.underlying41 h
  rw [Tryz.cellsA_e] at hl
  match cs, hl with
  | [v0, v1], _ =>
    match xs, hlen with
    | [y0, y1], _ =>
      have g0 := hf 0 _ rfl
      have g1 := hf 1 _ rfl
      simp [Tryz.cellsA_i64] at g0 g1
      obtain ⟨b0, e0, _, wf0⟩ := DataW.trod_int Tryz.underlying2 g0
      obtain ⟨b1, e1, _, _⟩ := DataW.trod_int Tryz.underlying2 g1
      simp only [List.cons.injEq, and_true] at e0 e1
      subst e0 e1
      exact ⟨(b0, b1), rfl, i64_rng wf0⟩
set_option maxRecDepth 100000 in
theorem arg_e {b0 : Nat} {v : Value} {d : DataW H} {pl : List MemPlace} (h : DataW.Trod enc Tryz.prog w 0 (fun _ => true) true 32 v d pl) (hv : Value.okWide Tryz.prog w .any b0 32 v) (hz : ∀ n ∈ d.weights Tryz.prog 32, n ≤ reachBytes) :
    ∃ la ll lc zs, v = .slice la ll lc ∧ CameE w la ll lc zs := by
  obtain ⟨a, len, cap, rfl⟩ := okWide_slice Tryz.underlying32 hv
  obtain ⟨fuel, hf⟩ := h
  rcases open_slice Tryz.underlying32 hf with ⟨hcs, _⟩ | ⟨a', len', cap', m, n, D, Pl, hcs, _, hl, hm, hmm, hx, hcell⟩
  · simp [Value.cells] at hcs
    obtain ⟨rfl, rfl, rfl⟩ := hcs
    exact ⟨_, _, _, [], rfl, ⟨rfl, fun h => by omega⟩, by omega, by omega, fun _ => ⟨rfl, rfl⟩, by simp⟩
  · simp [Value.cells] at hcs
    obtain ⟨rfl, rfl, rfl⟩ := hcs
    simp only [if_true] at hmm
    subst hmm
    simp only [Prod.mk.injEq] at hx
    obtain ⟨hd, _⟩ := hx
    have hreach : len * 16 ≤ 140737488351232 := by
      have := hz ((len + (m - len)) * 16) (by
        rw [hd]
        simp [DataW.weights, Tryz.underlying32, Tryz.bytesA_e])
      simp only [reachBytes] at this
      omega
    by_cases h0 : len = 0
    · subst h0
      exact ⟨_, _, _, [], rfl, ⟨rfl, fun h => by omega⟩, by omega, by omega, (fun e => by cases e), by simp⟩
    obtain ⟨cs0, hc0, _⟩ := hcell 0 (by omega)
    rw [Tryz.cellsA_e] at hc0
    have hs := (World.cells?_some hc0)
    obtain ⟨b, off, spot⟩ := a'
    have h00 := hs.2.2 0 (by omega)
    rw [List.getElem?_eq_getElem (by omega)] at h00
    have hspot : spot = none := by simpa [Addr.add] using World.cell?_spot h00
    subst hspot
    have hall : ∀ i, i < len → ∃ o : Pr, (w.cell? ⟨b, off + i * 2, none⟩ = some (.int .i64 o.1) ∧ w.cell? ⟨b, off + i * 2 + 1, none⟩ = some (.int .i64 o.2)) ∧ Rg o.1 := by
      intro i hi
      obtain ⟨cs, hc, ht⟩ := hcell i (by omega)
      rw [Tryz.cellsA_e] at hc
      obtain ⟨o, rfl, hr⟩ := open_entry ht
      have hcc := (World.cells?_some hc).2.2
      have eadd : ∀ j, ((⟨b, off, none⟩ : Addr).add (i * 2)).add j = ⟨b, off + i * 2 + j, none⟩ := by
        intro j
        unfold Addr.add
        split <;> split <;> simp_all
      have c0 := hcc 0 (by omega)
      have c1 := hcc 1 (by omega)
      rw [eadd] at c0 c1
      exact ⟨o, ⟨c0, c1⟩, hr⟩
    obtain ⟨f, hff⟩ := @choose_lt Pr ⟨(0, 0)⟩ len (fun i o => (w.cell? ⟨b, off + i * 2, none⟩ = some (.int .i64 o.1) ∧ w.cell? ⟨b, off + i * 2 + 1, none⟩ = some (.int .i64 o.2)) ∧ Rg o.1) hall
    have hgd : ∀ i, i < len → ((List.range len).map f).getD i (0, 0) = f i := fun i hi => by simp [List.getD_eq_getElem?_getD, hi]
    have hln : ((List.range len).map f).length = len := by simp
    refine ⟨_, _, _, (List.range len).map f, rfl, ⟨hln.symm, fun _ => ⟨b, off, rfl, fun j u hu => ?_⟩⟩, hl, hreach, (fun e => by cases e), fun p hp => ?_⟩
    · have hj := (List.getElem?_eq_some_iff.1 hu).1
      rw [eC_length, hln] at hj
      have hq : j / 2 < len := by omega
      obtain ⟨a1, a2⟩ := eC_at ((List.range len).map f) (j / 2) (by rw [hln]; exact hq)
      rw [hgd _ hq] at a1 a2
      obtain ⟨⟨f1, f2⟩, _⟩ := hff (j / 2) hq
      rcases Nat.mod_two_eq_zero_or_one j with hm2 | hm2
      · have ej : j = j / 2 * 2 := by omega
        rw [← ej] at a1 f1
        rw [a1] at hu
        rw [← hu]
        exact f1
      · have ej : j = j / 2 * 2 + 1 := by omega
        rw [← ej] at a2
        rw [Nat.add_assoc, ← ej] at f2
        rw [a2] at hu
        rw [← hu]
        exact f2
    · obtain ⟨i, hi, rfl⟩ := List.mem_map.1 hp
      exact (hff i (List.mem_range.1 hi)).2
end
end Go.Proofs.YtbpilhjomfkpaaaGreatDoor
