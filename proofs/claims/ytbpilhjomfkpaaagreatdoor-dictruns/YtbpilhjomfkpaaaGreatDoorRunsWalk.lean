/- A case as an argument. A dict in cells: what is asked of a deed, of a program, of the keys. No program is named here. DictReads, walked. DictRuns, walked. -/
import Derived.Test.YtbpilhjomfkpaaaGreatDoorAr
import Derived.Test.YtbpilhjomfkpaaaGreatDoorCoB
import Derived.Test.YtbpilhjomfkpaaaGreatDoorCpD
import Derived.WideKeyPair
import Derived.Test.YtbpilhjomfkpaaaGreatDoorRnQ
import Derived.Test.YtbpilhjomfkpaaaGreatDoorRnD
import Derived.Test.YtbpilhjomfkpaaaGreatDoorRdW
namespace Go.Proofs.YtbpilhjomfkpaaaGreatDoor
open Go.RowKit Go.ChangeShapes Go.WideShapes Go.Deep
set_option linter.unusedVariables false
set_option linter.unusedSimpArgs false

structure DeAt (w : World) (b off : Nat) (o : Dd) : Prop where
  c0 : w.cell? ⟨b, off, none⟩ = some (.int .i64 o.op)
  c1 : w.cell? ⟨b, off + 1, none⟩ = some (.int .i64 o.a)
  c2 : w.cell? ⟨b, off + 2, none⟩ = some (.int .i64 o.b)
  c3 : w.cell? ⟨b, off + 3, none⟩ = some (.int .i64 o.x)
  c4 : w.cell? ⟨b, off + 4, none⟩ = some (.int .i64 o.y)
/-- A list of deeds that came in. -/
def DesAt (w : World) (a : Option Addr) (len : Nat) (f : Nat → Dd) : Prop :=
  len = 0 ∨ ∃ b off, a = some ⟨b, off, none⟩ ∧ ∀ i, i < len → DeAt w b (off + i * 5) (f i) ∧ Rg (f i).x ∧ Rg (f i).y
theorem DeAt.kept {w w' : World} {b off : Nat} {o : Dd} (h : DeAt w b off o) (k : Kept (fun _ => False) w w') : DeAt w' b off o := by
  have hb : b < w.heap.size := World.block_lt_of_cell? w _ h.c0
  have e : ∀ j, w'.cell? ⟨b, j, none⟩ = w.cell? ⟨b, j, none⟩ := fun j => World.cell?_of_block (k.block b hb (fun f => f))
  exact ⟨(e _).trans h.c0, (e _).trans h.c1, (e _).trans h.c2, (e _).trans h.c3, (e _).trans h.c4⟩
section
variable {H : Type} {enc : TypeId × Value → H} {w : World}
set_option maxRecDepth 100000 in
theorem open_De {fuel : Nat} {cs : List Value} {x : DataW H × List MemPlace} (h : DataW.trod enc Tryz.prog w 0 (fun _ => true) true fuel 45 cs = some x) :
    ∃ o : Dd, cs = [.int .i64 o.op, .int .i64 o.a, .int .i64 o.b, .int .i64 o.x, .int .i64 o.y] ∧ Rg o.x ∧ Rg o.y := by
  obtain ⟨xs, n, _, rfl, hl, hlen, hf⟩ := DataW.trod_struct Tryz.underlying45 h
  rw [Tryz.cellsA_deed] at hl
  match cs, hl with
  | [v0, v1, v2, v3, v4], _ =>
    match xs, hlen with
    | [y0, y1, y2, y3, y4], _ =>
      have g0 := hf 0 _ rfl
      have g1 := hf 1 _ rfl
      have g2 := hf 2 _ rfl
      have g3 := hf 3 _ rfl
      have g4 := hf 4 _ rfl
      simp [Tryz.cellsA_int, Tryz.cellsA_i64] at g0 g1 g2 g3 g4
      obtain ⟨b0, e0, _, _⟩ := DataW.trod_int Tryz.underlying3 g0
      obtain ⟨b1, e1, _, _⟩ := DataW.trod_int Tryz.underlying3 g1
      obtain ⟨b2, e2, _, _⟩ := DataW.trod_int Tryz.underlying3 g2
      obtain ⟨b3, e3, _, wf3⟩ := DataW.trod_int Tryz.underlying2 g3
      obtain ⟨b4, e4, _, wf4⟩ := DataW.trod_int Tryz.underlying2 g4
      simp only [List.cons.injEq, and_true] at e0 e1 e2 e3 e4
      subst e0 e1 e2 e3 e4
      exact ⟨⟨b0, b1, b2, b3, b4⟩, rfl, i64_rng wf3, i64_rng wf4⟩
set_option maxRecDepth 100000 in
theorem open_Des {fuel : Nat} {v : Value} {x : DataW H × List MemPlace} (hf : DataW.trod enc Tryz.prog w 0 (fun _ => true) true fuel 59 [v] = some x) :
    ∃ a len cap f, v = .slice a len cap ∧ DesAt w a len f := by
  rcases open_slice Tryz.underlying59 hf with ⟨hcs, _⟩ | ⟨a', len, cap, m, n, D, Pl, hcs, _, hl, hm, hmm, hx, hcell⟩
  · simp only [List.cons.injEq, and_true] at hcs
    exact ⟨_, _, _, fun _ => ⟨0, 0, 0, 0, 0⟩, hcs, .inl rfl⟩
  · simp only [List.cons.injEq, and_true] at hcs
    have hmm2 : m = cap := by simpa using hmm
    by_cases h0 : len = 0
    · exact ⟨_, _, _, fun _ => ⟨0, 0, 0, 0, 0⟩, hcs, .inl h0⟩
    obtain ⟨cs0, hc0, _⟩ := hcell 0 (by omega)
    rw [Tryz.cellsA_deed] at hc0
    have hs := (World.cells?_some hc0)
    obtain ⟨b, off, spot⟩ := a'
    have h00 := hs.2.2 0 (by omega)
    rw [List.getElem?_eq_getElem (by omega)] at h00
    have hspot : spot = none := by simpa [Addr.add] using World.cell?_spot h00
    subst hspot
    have hall : ∀ i, i < len → ∃ o : Dd, DeAt w b (off + i * 5) o ∧ Rg o.x ∧ Rg o.y := by
      intro i hi
      obtain ⟨cs, hc, ht⟩ := hcell i (by omega)
      rw [Tryz.cellsA_deed] at hc
      obtain ⟨o, rfl, hr⟩ := open_De ht
      have hcc := (World.cells?_some hc).2.2
      have eadd : ∀ j, ((⟨b, off, none⟩ : Addr).add (i * 5)).add j = ⟨b, off + i * 5 + j, none⟩ := by
        intro j
        unfold Addr.add
        split <;> split <;> simp_all
      have c0 := hcc 0 (by omega)
      have c1 := hcc 1 (by omega)
      have c2 := hcc 2 (by omega)
      have c3 := hcc 3 (by omega)
      have c4 := hcc 4 (by omega)
      rw [eadd] at c0 c1 c2 c3 c4
      exact ⟨o, ⟨c0, c1, c2, c3, c4⟩, hr⟩
    obtain ⟨f, hff⟩ := @choose_lt Dd ⟨⟨0, 0, 0, 0, 0⟩⟩ len (fun i o => DeAt w b (off + i * 5) o ∧ Rg o.x ∧ Rg o.y) hall
    exact ⟨_, _, _, f, hcs, .inr ⟨b, off, rfl, hff⟩⟩
theorem open_Xs {fuel : Nat} {v : Value} {x : DataW H × List MemPlace} (h : DataW.trod enc Tryz.prog w 0 (fun _ => true) true fuel 24 [v] = some x) :
    ∃ la ll lc zs, v = .slice la ll lc ∧ XIn w la ll zs ∧ ll ≤ maxLen := by
  rcases open_ints Tryz.underlying24 Tryz.underlying2 Tryz.cellsA_i64 h with ⟨hcs, _⟩ | ⟨a, len, cap, zs, hcs, _, hl, hm, hzl, hx, hcell, _⟩
  · simp only [List.cons.injEq, and_true] at hcs
    exact ⟨_, _, _, [], hcs, ⟨rfl, fun h => by omega⟩, Nat.zero_le _⟩
  · simp only [List.cons.injEq, and_true] at hcs
    simp only [if_true] at hzl
    refine ⟨_, _, _, zs.take len, hcs, ⟨by simp; omega, fun h0 => ?_⟩, Nat.le_trans hl hm⟩
    have hp : a.spot = none := by simpa [Addr.add] using World.cell?_spot (hcell 0 (by omega))
    obtain ⟨g, of, s⟩ := a
    simp only at hp
    subst hp
    refine ⟨g, of, rfl, fun j hj => ?_⟩
    have := hcell j (by omega)
    rw [Addr.add_lit] at this
    simpa [hj] using this
set_option maxRecDepth 100000 in
theorem open_Es {fuel : Nat} {v : Value} {x : DataW H × List MemPlace} (hf : DataW.trod enc Tryz.prog w 0 (fun _ => true) true fuel 32 [v] = some x) :
    ∃ la ll lc zs, v = .slice la ll lc ∧ EIn w la ll zs ∧ ll ≤ maxLen ∧ ∀ p ∈ zs, Rg p.1 := by
  rcases open_slice Tryz.underlying32 hf with ⟨hcs, _⟩ | ⟨a', len, cap, m, n, D, Pl, hcs, _, hl, hm, hmm, hx, hcell⟩
  · simp only [List.cons.injEq, and_true] at hcs
    exact ⟨_, _, _, [], hcs, ⟨rfl, fun h => by omega⟩, Nat.zero_le _, by simp⟩
  · simp only [List.cons.injEq, and_true] at hcs
    simp only [if_true] at hmm
    subst hmm
    by_cases h0 : len = 0
    · subst h0
      exact ⟨_, _, _, [], hcs, ⟨rfl, fun h => by omega⟩, Nat.zero_le _, by simp⟩
    obtain ⟨cs0, hc0, _⟩ := hcell 0 (by omega)
    rw [Tryz.cellsA_e] at hc0
    have hs := (World.cells?_some hc0)
    obtain ⟨b, off, spot⟩ := a'
    have h00 := hs.2.2 0 (by omega)
    rw [List.getElem?_eq_getElem (by omega)] at h00
    have hspot : spot = none := by simpa [Addr.add] using World.cell?_spot h00
    subst hspot
    have hall : ∀ i, i < len → ∃ o : Pr, (w.cell? ⟨b, off + i * 2, none⟩ = some (.int .i64 o.1) ∧ w.cell? ⟨b, off + i * 2 + 1, none⟩ = some (.int .i64 o.2)) ∧ Rg o.1 := by
      intro i hi
      obtain ⟨cs, hc, ht⟩ := hcell i (by omega)
      rw [Tryz.cellsA_e] at hc
      obtain ⟨o, rfl, hr⟩ := open_entry2 ht
      have hcc := (World.cells?_some hc).2.2
      have eadd : ∀ j, ((⟨b, off, none⟩ : Addr).add (i * 2)).add j = ⟨b, off + i * 2 + j, none⟩ := by
        intro j
        unfold Addr.add
        split <;> split <;> simp_all
      have c0 := hcc 0 (by omega)
      have c1 := hcc 1 (by omega)
      rw [eadd] at c0 c1
      exact ⟨o, ⟨c0, c1⟩, hr.1⟩
    obtain ⟨f, hff⟩ := @choose_lt Pr ⟨(0, 0)⟩ len (fun i o => (w.cell? ⟨b, off + i * 2, none⟩ = some (.int .i64 o.1) ∧ w.cell? ⟨b, off + i * 2 + 1, none⟩ = some (.int .i64 o.2)) ∧ Rg o.1) hall
    have hgd : ∀ i, i < len → ((List.range len).map f).getD i (0, 0) = f i := fun i hi => by simp [List.getD_eq_getElem?_getD, hi]
    have hln : ((List.range len).map f).length = len := by simp
    refine ⟨_, _, _, (List.range len).map f, hcs, ⟨hln.symm, fun _ => ⟨b, off, rfl, fun j u hu => ?_⟩⟩, Nat.le_trans hl hm, fun p hp => ?_⟩
    · have hj := (List.getElem?_eq_some_iff.1 hu).1
      rw [eC_length, hln] at hj
      have hq : j / 2 < len := by omega
      obtain ⟨a1, a2⟩ := eC_at ((List.range len).map f) (j / 2) (by rw [hln]; exact hq)
      rw [hgd _ hq] at a1 a2
      obtain ⟨⟨f1, f2⟩, _⟩ := hff (j / 2) hq
      rcases Nat.mod_two_eq_zero_or_one j with hm2 | hm2
      · have ej : j = j / 2 * 2 := by omega
        rw [← ej] at a1 f1
        rw [a1] at hu
        rw [← hu]
        exact f1
      · have ej : j = j / 2 * 2 + 1 := by omega
        rw [← ej] at a2
        rw [Nat.add_assoc, ← ej] at f2
        rw [a2] at hu
        rw [← hu]
        exact f2
    · obtain ⟨i, hi, rfl⟩ := List.mem_map.1 hp
      exact (hff i (List.mem_range.1 hi)).2
theorem Tryz.cells_case : Tryz.prog.cellsOf 61 = 6 := by kernel_rfl
theorem Tryz.cells_xs : Tryz.prog.cellsOf 24 = 1 := by kernel_rfl
theorem Tryz.cells_es : Tryz.prog.cellsOf 32 = 1 := by kernel_rfl
theorem Tryz.cells_ds : Tryz.prog.cellsOf 59 = 1 := by kernel_rfl
set_option maxRecDepth 100000 in
theorem arg_case {b0 : Nat} {v : Value} {d : DataW H} {p : List MemPlace} (hv : Value.okWide Tryz.prog w .any b0 61 v) (h : DataW.Trod enc Tryz.prog w 0 (fun _ => true) true 61 v d p) :
    ∃ base n seed la ml lc l ja mj jc js da md dc f, v = .agg #[.int .i64 base, .int .i64 n, .int .i64 seed, .slice la ml lc, .slice ja mj jc, .slice da md dc] ∧ (Rg base ∧ Rg n ∧ Rg seed) ∧ (EIn w la ml l ∧ ml ≤ maxLen ∧ ∀ p ∈ l, Rg p.1) ∧ XIn w ja mj js ∧ DesAt w da md f := by
  obtain ⟨cs, rfl, hsz⟩ := okWide_struct Tryz.underlying61 hv
  obtain ⟨fuel, h⟩ := h
  rw [Tryz.cells_case] at hsz
  simp only [Value.cells] at h
  obtain ⟨l⟩ := cs
  simp only [List.size_toArray] at hsz
  obtain ⟨xs, n, _, _, hl, hlen, hf⟩ := DataW.trod_struct Tryz.underlying61 h
  match l, hsz with
  | [v0, v1, v2, v3, v4, v5], _ =>
    match xs, hlen with
    | [y0, y1, y2, y3, y4, y5], _ =>
      have g0 := hf 0 _ rfl
      have g1 := hf 1 _ rfl
      have g2 := hf 2 _ rfl
      have g3 := hf 3 _ rfl
      have g4 := hf 4 _ rfl
      have g5 := hf 5 _ rfl
      simp [Tryz.cellsA_int, Tryz.cells_xs, Tryz.cells_es, Tryz.cells_ds] at g0 g1 g2 g3 g4 g5
      obtain ⟨b0, e0, _, wf0⟩ := DataW.trod_int Tryz.underlying3 g0
      obtain ⟨b1, e1, _, wf1⟩ := DataW.trod_int Tryz.underlying3 g1
      obtain ⟨b2, e2, _, wf2⟩ := DataW.trod_int Tryz.underlying3 g2
      obtain ⟨la, ml, lc, l, rfl, hx3⟩ := open_Es g3
      obtain ⟨ja, mj, jc, js, rfl, hx4, -⟩ := open_Xs g4
      obtain ⟨da, md, dc, f, rfl, hx5⟩ := open_Des g5
      simp only [List.cons.injEq, and_true] at e0 e1 e2
      subst e0 e1 e2
      exact ⟨_, _, _, _, _, _, _, _, _, _, _, _, _, _, f, rfl, ⟨i64_rng wf0, i64_rng wf1, i64_rng wf2⟩, hx3, hx4, hx5⟩
end
end Go.Proofs.YtbpilhjomfkpaaaGreatDoor

namespace Go.Proofs.YtbpilhjomfkpaaaGreatDoor
open Go.RowKit
set_option linter.unusedVariables false
set_option linter.unusedSimpArgs false

section
variable {cells : List Int} {b n : Nat} {l : List Pr}
theorem DcIn.roomIs (h : DcIn cells b n l) : roomS (n : Int) = 1 + 3 * (n : Int) := by
  have := h.n0
  have := h.n1
  unfold roomS
  rw [if_pos (by omega)]
theorem DcIn.fits (h : DcIn cells b n l) : fitsS (b : Int) (n : Int) cells.length = true := by
  have := h.n0
  have := h.n1
  have := h.len
  unfold fitsS
  rw [h.roomIs]
  simp only [Bool.and_eq_true, decide_eq_true_eq]
  omega
theorem DcIn.ok (h : DcIn cells b n l) (d : Dd) : okS l (n : Int) d = mayS d ∧ okC (b : Int) (n : Int) d = mayS d := by
  have hl := h.room_le
  have := h.n0
  have := h.n1
  have := h.len
  have := h.top
  have hri : risesP l = true := (rises_iff l).2 h.ris
  constructor
  · unfold okS
    rw [h.roomIs, decide_eq_true (by omega), decide_eq_true (by omega), Bool.true_and, Bool.true_and, hri, Bool.true_and]
  · unfold okC fitsS
    rw [h.roomIs, decide_eq_true (by omega), decide_eq_true (by omega), decide_eq_true (by omega), Bool.true_and, Bool.true_and, Bool.true_and]
theorem DcIn.rg (h : DcIn cells b n l) (hl : ∀ p ∈ l, Rg p.1) (i : Nat) : stA ((cells.drop b).take (1 + 3 * n)) i = 1 → Rg (keyA ((cells.drop b).take (1 + 3 * n)) i) := by
  intro h1
  by_cases hi : i < n
  · have e1 : stA ((cells.drop b).take (1 + 3 * n)) i = stC cells b i := getD_part (by omega)
    have e2 : keyA ((cells.drop b).take (1 + 3 * n)) i = keyC cells b i := getD_part (by omega)
    rw [e1] at h1
    rw [e2]
    exact hl _ (h.all i hi h1)
  · exfalso
    unfold stA at h1
    rw [List.getD_eq_getElem?_getD, List.getElem?_eq_none (by rw [List.length_take]; omega)] at h1
    simp at h1
end
theorem code_le (v : Nat → Int) (op : Int) : (codeS v op).length ≤ 100 := by
  unfold codeS
  repeat' split
  all_goals simp [putC, gttC, drpC, addC, sizC]
theorem doS_keys {l : List Pr} (h : ∀ p ∈ l, Rg p.1) (n : Int) {d : Dd} (hx : Rg d.x) : ∀ p ∈ (doS l n d).1, Rg p.1 := by
  have ht : ∀ y, ∀ p ∈ turnP l d.x y, Rg p.1 := fun y p hp => by
    obtain ⟨q, hq, rfl⟩ := List.mem_map.1 hp
    split
    · exact hx
    · exact h q hq
  have hk : ∀ p ∈ lackP l d.x, Rg p.1 := fun p hp => h p (List.mem_filter.1 hp).1
  have hi : ∀ y, ∀ p ∈ insP (d.x, y) l, Rg p.1 := fun y p hp => by
    rcases List.mem_cons.1 ((insP_perm _ l).mem_iff.1 hp) with rfl | hp
    · exact hx
    · exact h p hp
  unfold doS
  split
  · exact h
  · split
    · split
      · exact ht _
      · split
        · exact hk
        · split
          · exact ht _
          · exact h
    · split
      · split
        · exact h
        · exact hi _
      · exact h
end Go.Proofs.YtbpilhjomfkpaaaGreatDoor

namespace Go.Proofs.YtbpilhjomfkpaaaGreatDoor
open Go.RowKit
set_option linter.unusedVariables false
set_option linter.unusedSimpArgs false
attribute [local go_sem ↓] Go.wp_at_zero Go.wp_at_succ

def listR (zs : List Int) (base n : Int) : List Pr :=
  if fitsS base n zs.length = true then (readS ((zs.drop base.toNat).take (1 + 3 * n.toNat)) n.toNat).getD [] else []
def codeR (zs : List Int) (base n : Int) : Int :=
  if fitsS base n zs.length = true then (match readS ((zs.drop base.toNat).take (1 + 3 * n.toNat)) n.toNat with | some _ => 0 | none => 191) else 190
theorem listR_len {zs : List Int} {base n : Int} (hz : AllR zs) : (listR zs base n).length ≤ 60 := by
  unfold listR
  by_cases h : fitsS base n zs.length = true
  · rw [if_pos h]
    have hcr : ∀ j, Rg (((zs.drop base.toNat).take (1 + 3 * n.toNat)).getD j 0) := fun j => by
      rw [List.getD_eq_getElem?_getD]
      cases he : ((zs.drop base.toNat).take (1 + 3 * n.toNat))[j]? with
      | none => exact ⟨by decide, by decide⟩
      | some u => exact hz u (List.mem_of_mem_drop (List.mem_of_mem_take (List.mem_of_getElem? he)))
    unfold fitsS at h
    simp only [Bool.and_eq_true, decide_eq_true_eq] at h
    obtain ⟨h1, h2, h3⟩ := roomS_pos h.1
    unfold readS
    cases hu : usedM ((zs.drop base.toNat).take (1 + 3 * n.toNat)) n.toNat with
    | none => simp
    | some ls =>
      obtain ⟨_, hl, _⟩ := usedM_good hcr hu
      simp only
      split
      · simp only [Option.getD_some]
        rw [(sortP_perm _).length_eq, List.length_map]
        omega
      · simp
  · rw [if_neg h]
    simp
theorem read_out {zs : List Int} {base n : Int} {w : World} {e : Ending} {w' : World} (h : ReadE zs base n w e w') : ∃ la lc, e = .returned (.tuple #[.slice la (listR zs base n).length lc, .int .i64 (codeR zs base n)]) ∧ St w [lstE (.slice la (listR zs base n).length lc) (listR zs base n)] w' := by
  unfold ReadE at h
  unfold listR codeR
  by_cases hf : fitsS base n zs.length = true
  · rw [if_pos hf] at h ⊢
    rw [if_pos hf]
    cases hr : readS ((zs.drop base.toNat).take (1 + 3 * n.toNat)) n.toNat with
    | none =>
      rw [hr] at h
      exact ⟨none, 0, h.1, e_nil ((St.nil w).calm h.2)⟩
    | some ks =>
      rw [hr] at h
      obtain ⟨v, rfl, s⟩ := h
      obtain ⟨la, lc, rfl, _⟩ := own_ein (show w'.ownsRow 0 41 2 v ks.length (eC ks) from s.get 0 rfl)
      exact ⟨la, lc, rfl, s⟩
  · rw [if_neg hf] at h ⊢
    rw [if_neg hf]
    exact ⟨none, 0, h.1, e_nil ((St.nil w).calm h.2)⟩
theorem lst_ein {o w : World} {R : List It} {la : Option Addr} {lc : Nat} {L : List Pr} (h : St o (lstE (.slice la L.length lc) L :: R) w) : EIn w la L.length L := st_ein h 0 rfl rfl
set_option maxRecDepth 100000 in
set_option maxHeartbeats 16000000 in
theorem reads_walk (la : Option Addr) (m lc : Nat) (cs : List Int) (base n : Int) (lb : Option Addr) (ml ld : Nat) (l : List Pr) (seed at_ x : Int) (w : World) (hE : Env w) (hC : CameX w la m lc cs) (hD : CameE2 w lb ml ld l) (hsd : Rg seed) (ha : Rg at_) (hx : Rg x) :
    Calls Tryz.prog 5 #[.slice la m lc, .int .i64 base, .int .i64 n, .slice lb ml ld, .int .i64 seed, .int .i64 at_, .int .i64 x] w fun e w' => e = .returned (.bool true) ∧ Kept (fun _ => False) w w' := by
  have hA := awake_any w hE
  have HC := hid hC
  have HD := hid hD
  have hm8 : m * 8 ≤ 140737488351232 := by have := hC.2; omega
  have hQ := fun W => rRoom_any n W
  have HX := hid hx
  have hAll : AllR cs := hC.2.2.2.2
  have HLn := hid (listR_len (base := base) (n := n) hAll)
  clear hE hC hD
  go_enter Tryz.func5, Tryz.ntmps5
  go_upto_region 2 with (go_at_call 9; refine hA.mono ?_; rintro e w1 ⟨rfl, k1⟩; clear hA)
  have h2 := Copied_any la m lc cs w1 (HC.out.kept k1).1 (by omega)
  go_upto_region 3 with (go_at_call 16; refine h2.mono ?_; rintro e w2 ⟨vo, rfl, s2⟩)
  have s2' := s2.base k1
  obtain ⟨lo, co, rfl⟩ := own_slice (s2.get 0 rfl : w2.ownsRow 0 2 1 vo m (xC cs))
  have hmc : m = cs.length := HC.out.1.1
  have hxo : XIn w2 lo m cs ∧ m ≤ co := by
    obtain ⟨la', lc', e, hx, hle, _⟩ := own_xin (show w2.ownsRow 0 2 1 (.slice lo m co) cs.length (xC cs) by rw [← hmc]; exact s2.get 0 rfl)
    simp only [Value.slice.injEq] at e
    obtain ⟨rfl, _, rfl⟩ := e
    rw [← hmc] at hx
    exact ⟨hx, by omega⟩
  have HXO := hid hxo
  have HS2 := hid s2'
  have h3 := (Read_any lo m co cs base n w2 hxo.1 hxo.2 (by omega) hAll).mono (fun e w' h => read_out h)
  clear h2 s2 s2' hxo hmc k1
  have HR2 : Hid (∀ W, XIn W la m cs → Calls Tryz.prog 18 #[.slice la m lc, .int .i64 base, .int .i64 n] W fun e w' => ∃ la lc, e = .returned (.tuple #[.slice la (listR cs base n).length lc, .int .i64 (codeR cs base n)]) ∧ St W [lstE (.slice la (listR cs base n).length lc) (listR cs base n)] w') := hid (fun W hx => (rRead_any la m lc cs base n W hx HC.out.2.1 (by omega) hAll).mono (fun e w' h => read_out h))
  generalize listR cs base n = L at *
  generalize codeR cs base n = cd0 at *
  go_upto_region 4 with (go_at_call 17; refine h3.mono ?_; rintro e w3 ⟨la3, lc3, rfl, s3⟩)
  have h4 := HR2.out w3 ((HC.out.kept HS2.out.same).kept s3.same).1
  have HS3 := hid s3
  clear h3 s3 HR2
  go_upto_region 5 with (go_at_call 18; refine h4.mono ?_; rintro e w4 ⟨la4, lc4, rfl, s4⟩)
  have q1 := sameE_any la3 la4 L.length L.length lc3 lc4 L L w4 ((lst_ein HS3.out).kept s4.same) (lst_ein s4) (by have := HLn.out; omega)
  rw [decide_eq_true rfl] at q1
  have K4 := (HS3.out.same).trans s4.same (fun _ _ f => f)
  clear h4 s4 HS3
  go_upto_region 6 with (go_at_call 19; refine q1.mono ?_; rintro e w5 ⟨rfl, k5⟩)
  have K5 := K4.trans k5 (fun _ _ f => f)
  have q2 := sameInts_any lo la m m co lc cs cs (HXO.out.1.kept K5) ((HC.out.kept HS2.out.same).kept K5).1 (by omega)
  rw [decide_eq_true rfl] at q2
  have KW := HS2.out.same.trans K5 (fun _ _ f => f)
  clear q1 K4 k5
  go_upto_region 9 with (go_at_call 13; refine q2.mono ?_; rintro e w6 ⟨rfl, k6⟩)
  have HK6 := hid (KW.trans k6 (fun _ _ f => f))
  clear q2 k6 KW K5 HXO HS2 HLn hAll
  by_cases hr : roomS n = 0
  · have tz : (roomS n == 0) = true := by simp [hr]
    generalize roomS n = r at *
    clear hr
    go_wp2_with (go_at_call 12; refine (hQ _).mono ?_; rintro e w' ⟨rfl, rfl⟩)
    go_ret
    exact ⟨rfl, HK6.out⟩
  · have hr0 : 0 < roomS n := by
      have : 0 ≤ roomS n := by unfold roomS; split <;> omega
      omega
    obtain ⟨hn1, hn2, hn3⟩ := roomS_pos hr0
    have tz : (roomS n == 0) = false := by simpa using hr
    generalize roomS n = r at *
    have hMay : (ml : Int) ≤ n ∨ n < (ml : Int) := by omega
    clear hr hr0 hn3
    rcases hMay with hle | hgt
    · have tg : decide (n < (ml : Int)) = false := decide_eq_false (by omega)
      obtain ⟨k, rfl⟩ : ∃ k : Nat, n = (k : Int) := ⟨n.toNat, by omega⟩
      have tg2 : decide (k < ml) = false := decide_eq_false (by omega)
      have hL := Lay_any lb ml ld l k seed w6 (HD.out.kept HK6.out).1 HD.out.2.2.2.2 (by omega) (by omega) (by omega) hsd
      go_upto_region 12 with (first | (go_at_call 12; refine (hQ _).mono ?_; rintro e w' ⟨rfl, rfl⟩) | (go_at_call 20; refine hL.mono ?_; rintro e w7 ⟨gc, zs7, rfl, hA7, s7⟩))
      have hk0 : 0 < k := by omega
      have hk60 : k ≤ 60 := by omega
      have HS7 : Hid (St w [rowI gc (1 + 3 * k) (1 + 3 * k) zs7] w7) := s7.base HK6.out
      have HA7 := hid hA7
      have HPick : Hid (∀ W, Calls Tryz.prog 21 #[.int .i64 at_, .int .i64 ((1 + 3 * k : Nat) : Int)] W fun e w' => (∃ q : Nat, q < 1 + 3 * k ∧ e = .returned (.int .i64 q)) ∧ w' = W) := fun W => pick_any at_ (1 + 3 * k) W (by omega) (by omega) ha.1 ha.2
      clear hL s7 hA7 tz tg tg2 hle hn1 hn2 hQ
      have hN : 1 + 3 * k ≤ 181 := by omega
      have hN0 : 0 < 1 + 3 * k := by omega
      generalize 1 + 3 * k = N at *
      go_wp2
      go_loopw [24] (fun i wr => ∃ (j : Nat) (ys : List Int), i = .int .i64 j ∧ j ≤ 2 ∧ AllR ys ∧ St w [rowI gc N N ys] wr) (fun i _ => 2 - (intOf i).toNat)
      case atStart => exact ⟨0, _, rfl, by omega, HA7.out, HS7.out⟩
      case round =>
        clear HS7 HA7
        obtain ⟨j, ys, rfl, hj, hAy, hst⟩ := hrel
        by_cases hlt : j < 2
        · have h1 : (j : Int) < 2 := by omega
          have hyl : N = ys.length := row_len hst
          have HYL := hid hyl
          have HAy := hid hAy
          have HLn := hid (listR_len (base := 0) (n := (k : Int)) hAy)
          have p1 := Copied_any (some ⟨gc, 0, none⟩) N N ys wr (row_xin hst) (by omega)
          have HST := hid hst
          clear hst hyl hAy
          go_upto_region 16 with (go_at_call 16; refine p1.mono ?_; rintro e wa ⟨vd, rfl, sa⟩)
          obtain ⟨gd, cd, rfl⟩ := sa.form 0 rfl (by omega)
          have hsa := HST.out.calm sa.same
          have p2 := (Read_any (some ⟨gc, 0, none⟩) N N ys 0 (k : Int) wa (row_xin hsa) (Nat.le_refl _) (by omega) HAy.out).mono (fun e w' h => read_out h)
          have sA : St w [rowI gd N cd ys, rowI gc N N ys] wa := HST.out.join sa
          have HSA := hid sA
          have HR2 : Hid (∀ W, XIn W (some ⟨gc, 0, none⟩) N ys → Calls Tryz.prog 18 #[.slice (some ⟨gc, 0, none⟩) N N, .int .i64 0, .int .i64 (k : Int)] W fun e w' => ∃ la lc, e = .returned (.tuple #[.slice la (listR ys 0 (k : Int)).length lc, .int .i64 (codeR ys 0 (k : Int))]) ∧ St W [lstE (.slice la (listR ys 0 (k : Int)).length lc) (listR ys 0 (k : Int))] w') := hid (fun W hx => (rRead_any (some ⟨gc, 0, none⟩) N N ys 0 (k : Int) W hx (Nat.le_refl _) (by omega) HAy.out).mono (fun e w' h => read_out h))
          generalize listR ys 0 (k : Int) = L2 at *
          generalize codeR ys 0 (k : Int) = cd2 at *
          clear p1 sa hsa sA HST
          go_upto_region 17 with (go_at_call 17; refine p2.mono ?_; rintro e wb ⟨ge, ce, rfl, sb⟩)
          have sB : St w [lstE (.slice ge L2.length ce) L2, rowI gd N cd ys, rowI gc N N ys] wb := HSA.out.join sb
          have hxc : ∀ {R : List It} {W : World}, St w R W → R[2]? = some (rowI gc N N ys) → XIn W (some ⟨gc, 0, none⟩) N ys := fun hs hi => ⟨HYL.out, fun _ => ⟨gc, 0, rfl, fun q hq => by rw [Nat.zero_add, hs.ownCell 2 hi q (by omega)]; exact xC_at ys q (by have := HYL.out; omega)⟩⟩
          have p3 := HR2.out wb (hxc sB rfl)
          have HSB := hid sB
          clear p2 sb sB hxc HR2 HSA
          go_upto_region 18 with (go_at_call 18; refine p3.mono ?_; rintro e wd ⟨gf, cf, rfl, sd⟩)
          have sB2 := HSB.out.calm sd.same
          have p4 := sameE_any ge gf L2.length L2.length ce cf L2 L2 wd (lst_ein sB2) (lst_ein sd) (by have := HLn.out; omega)
          rw [decide_eq_true rfl] at p4
          have HSB2 := hid sB2
          clear p3 sd sB2 HSB
          go_upto_region 21 with (go_at_call 19; refine p4.mono ?_; rintro e wf ⟨rfl, kf⟩)
          have HSF := hid (HSB2.out.calm kf)
          have hl60 : L2.length ≤ 60 := HLn.out
          clear p4 kf HSB2 HLn
          have HSF2 : Hid (∃ zz : List Value, St w [ownI 41 2 (.slice ge L2.length ce) L2.length zz, rowI gd N cd ys, rowI gc N N ys] wf) := hid ⟨_, HSF.out⟩
          clear HSF
          generalize L2.length = ll at *
          go_wp2
          go_loopw [31] (fun i wr2 => ∃ (q : Nat) (zs : List Value), i = .int .i64 q ∧ q ≤ ll ∧ St w [ownI 41 2 (.slice ge ll ce) ll zs, rowI gd N cd ys, rowI gc N N ys] wr2) (fun i _ => ll - (intOf i).toNat)
          case atStart => obtain ⟨zz, hz⟩ := HSF2.out; exact ⟨0, zz, rfl, Nat.zero_le _, hz⟩
          case round =>
            clear HSF2
            obtain ⟨q, zs, rfl, hq, hs2⟩ := hrel
            by_cases hlq : q < ll
            · obtain ⟨gv, cv, e⟩ := hs2.form 0 rfl (by omega)
              simp only [Value.slice.injEq, true_and] at e
              obtain ⟨rfl, rfl⟩ := e
              have hyl : zs.length = ll * 2 := hs2.ownCap 0 rfl
              have c1 : ∃ u, wr.cell? ⟨gv, q * 2, none⟩ = some u := ⟨_, (hs2.ownCell 0 rfl (q * 2) (by omega)).trans (List.getElem?_eq_getElem (by omega))⟩
              have c2 : ∃ u, wr.cell? ⟨gv, q * 2 + 1, none⟩ = some u := ⟨_, (hs2.ownCell 0 rfl (q * 2 + 1) (by omega)).trans (List.getElem?_eq_getElem (by omega))⟩
              obtain ⟨z1, c1⟩ := c1
              obtain ⟨z2, c2⟩ := c2
              have f1 := hs2.ownFrozen 0 rfl (q * 2)
              have f2 := hs2.ownFrozen 0 rfl (q * 2 + 1)
              have g0 : (0 : Int) ≤ (q : Int) := Int.natCast_nonneg _
              have g1 : (q : Int) < (ll : Int) := by omega
              have T1 := hs2.ownSet 0 rfl (q * 2) (by omega) (.int .i64 (-777))
              have T2 := T1.ownSet 0 rfl (q * 2 + 1) (by omega) (.int .i64 0)
              have HT := hid T2
              clear hs2 T1 T2 hyl
              go_wp2
              go_roundw
              case rel => exact ⟨q + 1, _, by simp, by omega, HT.out⟩
              case measure => simp [intOf]; omega
            · have g1 : ¬ (q : Int) < (ll : Int) := by omega
              have hs3 := hs2.pop
              have p5 := sameInts_any (some ⟨gc, 0, none⟩) (some ⟨gd, 0, none⟩) N N N cd ys ys (row_xin (hs3.perm (List.Perm.swap _ _ _))) (row_xin hs3) (by omega)
              rw [decide_eq_true rfl] at p5
              have HS3' := hid hs3
              clear hs2 hs3
              go_upto_region 28 with (go_at_call 13; refine p5.mono ?_; rintro e wg ⟨rfl, kg⟩)
              have sg := (HS3'.out.calm kg).pop
              clear p5 kg HS3'
              have HRW : Hid (∀ q', q' < N → wg.cell? ⟨gc, q', none⟩ = some (.int .i64 (ys.getD q' 0)) ∧ wg.frozen? ⟨gc, q', none⟩ = false ∧ wg.drew.cell? ⟨gc, q', none⟩ = some (.int .i64 (ys.getD q' 0)) ∧ wg.drew.frozen? ⟨gc, q', none⟩ = false ∧ AllR (ys.set q' x) ∧ St w [rowI gc N N (ys.set q' x)] (wg.setCell ⟨gc, q', none⟩ (.int .i64 x))) := fun q' hq' => ⟨row_cell sg hq', row_frozen sg q', row_cell sg.drew hq', row_frozen sg.drew q', HAy.out.put q' HX.out, row_set sg hq' x⟩
              clear sg
              go_wp2_with (go_at_call 21; refine (HPick.out _).mono ?_; rintro e w' ⟨⟨q', hq', rfl⟩, rfl⟩; obtain ⟨r1, r2, r3, r4, r6, r5⟩ := HRW.out q' hq'; have R5 := hid r5; have R6 := hid r6; clear r5 r6 HRW; have g2 : (0 : Int) ≤ (q' : Int) := Int.natCast_nonneg _; have g3 : (q' : Int) < (N : Int) := (by omega); generalize ys.getD q' 0 = zz at *)
              go_roundw
              case rel => exact ⟨j + 1, _, by simp, by omega, R6.out, R5.out⟩
              case measure => simp [intOf]; omega
        · have h1 : ¬ (j : Int) < 2 := by omega
          have HK := hid hst.same
          clear hst
          go_wp2
          go_ret
          exact ⟨rfl, HK.out⟩
    · have tg : decide (n < (ml : Int)) = true := decide_eq_true hgt
      go_wp2_with (go_at_call 12; refine (hQ _).mono ?_; rintro e w' ⟨rfl, rfl⟩)
      go_ret
      exact ⟨rfl, HK6.out⟩
end Go.Proofs.YtbpilhjomfkpaaaGreatDoor

namespace Go.Proofs.YtbpilhjomfkpaaaGreatDoor
open Go.RowKit
set_option linter.unusedVariables false
set_option linter.unusedSimpArgs false
attribute [local go_sem ↓] Go.wp_at_zero Go.wp_at_succ

theorem len8 {L : List Int} (h : L.length = 8) : ∃ l0 l1 l2 l3 l4 l5 l6 l7, L = [l0, l1, l2, l3, l4, l5, l6, l7] := by
  match L, h with
  | [l0, l1, l2, l3, l4, l5, l6, l7], _ => exact ⟨l0, l1, l2, l3, l4, l5, l6, l7, rfl⟩
theorem box_put {L : List Int} (j : Nat) (z : Int) : (xC L).toArray.setIfInBounds j (.int .i64 z) = (xC (L.set j z)).toArray := by
  simp [xC]
/-- What is asked of the state behind the last instruction. -/
theorem may_end {cells lc told wrote : List Int} {p tr : Int} : (owE cells p lc told wrote tr).may ⟨22, 0⟩ := by
  refine ⟨rfl, (by decide : knownB 22 = true), (by decide : (rowOf 22).pops ≤ ((2 : Nat) : Int)), (by decide : ((2 : Nat) : Int) - (rowOf 22).pops + (rowOf 22).pushes ≤ 32), fun h => ?_, fun h => ?_, fun _ => rfl, fun h => ?_, fun h => ?_, fun h => ?_⟩
  all_goals simp at h
def owD (cells : List Int) (p : Int) (lc told wrote : List Int) (tr : Int) : Ow := ⟨cells, p, [7, -7], lc, told, [], false, true, 0, tr, wrote⟩
theorem own_end {cells lc told wrote : List Int} {p tr : Int} : (owE cells p lc told wrote tr).go ⟨22, 0⟩ = owD cells p lc told wrote tr := by
  simp [Ow.go, owE, owD]
theorem read_has {W : World} {cs' : List Int} {L1 : List Pr} {m NL b n : Nat} {ca2 : Option Addr} {cc2 : Nat} (hX : XIn W ca2 m cs') (hm : m ≤ 256) (hc : m ≤ cc2) (h : DcIn cs' b n L1) (hk : ∀ p ∈ L1, Rg p.1) (hl : L1.length = NL) : Calls Tryz.prog 17 #[.slice ca2 m cc2, .int .i64 (b : Int), .int .i64 (n : Int)] W fun e w' => ∃ ra rc, e = .returned (.tuple #[.slice ra NL rc, .int .i64 0]) ∧ Hid (EIn w' ra NL L1 ∧ Kept (fun _ => False) W w') := by
  have hlR : listR cs' (b : Int) (n : Int) = L1 ∧ codeR cs' (b : Int) (n : Int) = 0 := by
    unfold listR codeR
    rw [h.fits, if_pos rfl, if_pos rfl, Int.toNat_natCast, Int.toNat_natCast, h.read]
    exact ⟨rfl, rfl⟩
  subst hl
  have h9 := (Read_anyW ca2 m cc2 cs' (b : Int) (n : Int) W hX hc (by omega) (by simp only [Int.toNat_natCast]; exact h.rg hk)).mono (fun e w' h => read_out h)
  rw [hlR.1, hlR.2] at h9
  exact h9.mono (fun e w' ⟨ra, rc, he, s⟩ => ⟨ra, rc, he, lst_ein s, s.same⟩)
set_option maxRecDepth 100000 in
set_option maxHeartbeats 16000000 in
theorem runs_walk {w : World} {base n0 seed : Int} {la ja da : Option Addr} {ml lc mj jc md dc : Nat} {l : List Pr} {js : List Int} {f : Nat → Dd} (hE : Env w) (hr : Rg base ∧ Rg n0 ∧ Rg seed) (hX : EIn w la ml l ∧ ml ≤ maxLen ∧ ∀ p ∈ l, Rg p.1) (hJ : XIn w ja mj js) (hD : DesAt w da md f) :
    Calls Tryz.prog 8 #[.agg #[.int .i64 base, .int .i64 n0, .int .i64 seed, .slice la ml lc, .slice ja mj jc, .slice da md dc]] w fun e w' => e = .returned (.bool true) ∧ Kept (fun _ => False) w w' := by
  have s1 := (St.nil w).box #[.int .i64 base, .int .i64 n0, .int .i64 seed, .slice la ml lc, .slice ja mj jc, .slice da md dc] 61
  have hA := awake_any _ (hE.kept s1.same)
  generalize hw1 : w.alloc (.cells #[.int .i64 base, .int .i64 n0, .int .i64 seed, .slice la ml lc, .slice ja mj jc, .slice da md dc] 61) = w1 at *
  generalize hM : w.heap.size = M at *
  have HC : Hid (∀ W, Kept (fun _ => False) w1 W → W.cell? ⟨M, 0, none⟩ = some (.int .i64 base) ∧ W.cell? ⟨M, 1, none⟩ = some (.int .i64 n0) ∧ W.cell? ⟨M, 2, none⟩ = some (.int .i64 seed) ∧ W.cell? ⟨M, 3, none⟩ = some (.slice la ml lc) ∧ W.cell? ⟨M, 4, none⟩ = some (.slice ja mj jc) ∧ W.cell? ⟨M, 5, none⟩ = some (.slice da md dc)) := hid (fun W k => ⟨(s1.calm k).cell 0 rfl 0, (s1.calm k).cell 0 rfl 1, (s1.calm k).cell 0 rfl 2, (s1.calm k).cell 0 rfl 3, (s1.calm k).cell 0 rfl 4, (s1.calm k).cell 0 rfl 5⟩)
  have HT : Hid (∀ W, Kept (fun _ => False) w1 W → Kept (fun _ => False) w W) := hid (fun W k => s1.same.trans k (fun _ _ f => f))
  have HLd := hid (fun (W : World) (k : Kept (fun _ => False) w W) => laid_any (lc := lc) (da := da) (md := md) (dc := dc) (jc := jc) hr.1 hr.2.1 hr.2.2 (hX.1.kept k) hX.2.2 hX.2.1 (hJ.kept k))
  have HE := hid hE
  have HJ := hid hJ
  have HD := hid hD
  clear s1 hE hr hX hJ hD
  go_enter Tryz.func8, Tryz.ntmps8
  go_upto_region 2 with (first | simp only [hw1, hM] | (go_at_call 9; refine hA.mono ?_; rintro e w2 ⟨rfl, k2⟩))
  obtain ⟨c0, c1, c2, c3, c4, c5⟩ := HC.out w2 k2
  have hld := HLd.out w2 (HT.out _ k2)
  clear HLd hA hw1 hM
  go_upto_region 3 with (go_at_call 28; refine hld.mono ?_; rintro e w3 ⟨b, n, cs0, l0, ca0, va0, cc0, vc0, rfl, hx0, hv0, hdq0, hlr0, k3⟩)
  have hfit := hdq0.fits
  have hR := hdq0.roomIs
  have hrm := fun W => rRoom_any (n : Int) W
  rw [hR] at hrm
  have HX0 := hid hx0
  have HV0 := hid hv0
  have HDQ0 := hid hdq0
  have HLR0 := hid hlr0
  have HK3 := hid (k2.trans k3 (fun _ _ f => f))
  clear hx0 hv0 hdq0 hlr0 k2 k3 hld hfit hR c0 c1 c2 c3 c4 c5
  go_wp2_with (go_at_call 12; refine (hrm _).mono ?_; rintro e w4 ⟨rfl, hw4⟩; obtain rfl : w3 = w4 := hw4.symm; clear hw4)
  go_loopw [4, 7, 9] (fun cv lv i wr => ∃ (i' : Nat) (cs : List Int) (l : List Pr) (ca va : Option Addr) (cc vc : Nat), i = .int .i64 i' ∧ i' ≤ 40 ∧ cv = .slice ca cs.length cc ∧ lv = .slice va l.length vc ∧ XIn wr ca cs.length cs ∧ EV wr va l.length vc l ∧ DcIn cs b n l ∧ KeysR l ∧ Kept (fun _ => False) w1 wr) (fun _ _ i _ => 40 - (intOf i).toNat)
  case atStart => exact ⟨0, cs0, l0, ca0, va0, cc0, vc0, rfl, by omega, rfl, rfl, HX0.out, HV0.out, HDQ0.out, HLR0.out, HK3.out⟩
  case round =>
    clear HX0 HV0 HDQ0 HLR0 HK3
    obtain ⟨i, cs, l, ca, va, cc, vc, rfl, hi, rfl, rfl, hx, hv, hdq, hlr, hk⟩ := hrel
    obtain ⟨c0, c1, c2, c3, c4, c5⟩ := HC.out wr hk
    by_cases hgo : i < md ∧ i < 40
    · have t1 : (i : Int) < (md : Int) := by omega
      have t2 : (i : Int) < 40 := by omega
      have t3 : (0 : Int) ≤ (i : Int) := by omega
      rcases HD.out with h0 | ⟨gd, od, rfl, hds⟩
      · omega
      obtain ⟨hde, hrx⟩ := hds i hgo.1
      have hde1 := hde.kept (HT.out _ hk)
      have HDE := hid hde
      obtain ⟨hokS, hokC⟩ := hdq.ok (f i)
      have hdo := (rDo_any va l.length vc l (n : Int) (f i) wr hv.1 hv.2.1 hv.2.2).mono (fun e w' h => rDo_xv h)
      unfold rDoX at hdo
      rw [hokS] at hdo
      have HCd := hid (fun (W : World) (k : Kept (fun _ => False) w W) => Code_any (base := (b : Int)) (n := (n : Int)) (d := f i) (HE.out.kept k) hrx.1 hrx.2)
      have hB := fun b W => codeDict_any b W
      have HRun := hid (fun (lc : List Int) (hl : lc.length = 8) (hm : mayS (f i) = true) => deed_runs (tr := 0) hdq hl hm)
      unfold Runs at HRun
      have HX := hid hx
      have HV := hid hv
      have HDQ := hid hdq
      have HLR := hid hlr
      have HLR2 : Hid (KeysR (doS l (n : Int) (f i)).1) := hid (doS_keys (d := f i) hlr (n : Int) hrx.1)
      have HK := hid hk
      have HI := hid hgo
      obtain ⟨d0, d1, d2, d3, d4⟩ := hde1
      generalize hdd : f i = d at *
      obtain ⟨op, a, b', x, y⟩ := d
      unfold Dd.val at hdo HCd
      simp only at d0 d1 d2 d3 d4 hdo HCd
      clear hx hv hdq hlr hrx hk hgo hi hds hde hdd hokS
      cases hmy : mayS ⟨op, a, b', x, y⟩ with
      | false =>
        rw [hmy] at hdo
        simp only [Bool.false_eq_true, if_false] at hdo
        go_upto_region 8 with (go_at_call 23; refine hdo.mono ?_; rintro e w5 ⟨rfl, k5⟩)
        have K5 := HK.out.trans k5 (fun _ _ f => f)
        obtain ⟨c0, c1, c2, c3, c4, c5⟩ := HC.out w5 K5
        obtain ⟨d0, d1, d2, d3, d4⟩ := HDE.out.kept (HT.out _ K5)
        have hcd := HCd.out w5 (HT.out _ K5)
        unfold CodeE at hcd
        rw [hokC, hmy] at hcd
        simp only [Bool.false_eq_true, if_false] at hcd
        simp only at d0 d1 d2 d3 d4
        clear hdo
        go_wp2_with (first | (go_at_call 24; refine hcd.mono ?_; rintro e w6 ⟨rfl, k6⟩) | (go_at_call 15; refine (hB _ _).mono ?_; rintro e w7 ⟨rfl, hw7⟩; obtain rfl : w6 = w7 := hw7.symm; clear hw7))
        go_roundw
        case rel => exact ⟨i + 1, cs, l, ca, va, cc, vc, by push_cast; rfl, by have := HI.out; omega, rfl, rfl, (HX.out.kept k5).kept k6, (HV.out.kept k5).kept k6, HDQ.out, HLR.out, K5.trans k6 (fun _ _ f => f)⟩
        case measure =>
          have := HI.out
          simp [intOf]
          omega
      | true =>
        rw [hmy] at hdo
        simp only [if_true] at hdo
        go_upto_region 8 with (go_at_call 23; refine hdo.mono ?_; rintro e w5 ⟨wa, wc, ta, tc, rfl, hw5, ht5, k5⟩)
        have K5 := HK.out.trans k5 (fun _ _ f => f)
        obtain ⟨c0, c1, c2, c3, c4, c5⟩ := HC.out w5 K5
        obtain ⟨d0, d1, d2, d3, d4⟩ := HDE.out.kept (HT.out _ K5)
        have hcd := HCd.out w5 (HT.out _ K5)
        unfold CodeE at hcd
        rw [hokC, hmy] at hcd
        simp only [if_true, Int.toNat_natCast] at hcd
        simp only at d0 d1 d2 d3 d4 HRun
        have HPL := hid (code_le (nvD (b : Int) n x y) op)
        generalize hP : codeS (nvD (b : Int) n x y) op = P at *
        replace hcd := hcd.mono (fun e w' h => (show ∃ pa pc, e = .returned (.tuple #[.slice pa P.length pc, .int .i64 0]) ∧ Hid (IIn w' pa P.length P ∧ Kept (fun _ => False) w5 w') by
          obtain ⟨lv, rfl, s⟩ := h
          obtain ⟨pa, pc, rfl, hI, _⟩ := own_iin (show w'.ownsRow 0 91 2 lv P.length (insCells P) from s.get 0 rfl)
          exact ⟨pa, pc, rfl, hI, s.same⟩))
        have HW5 := hid hw5
        have HT5 := hid ht5
        have HK5 := hid k5
        have HKK5 := hid K5
        clear hdo hP hw5 ht5 k5 K5
        generalize hPL : P.length = PL at *
        have HPLe := hid hPL
        clear hPL
        have HNTl := hid (told_len l (n : Int) ⟨op, a, b', x, y⟩)
        generalize hdos : doS l (n : Int) ⟨op, a, b', x, y⟩ = DD at *
        obtain ⟨L1, T1⟩ := DD
        simp only at HW5 HT5 HRun HNTl HLR2
        clear hdos
        generalize hL1 : L1.length = NL at *
        have HL1 := hid hL1
        clear hL1
        generalize hT1 : T1.length = NT at *
        have HT1 := hid hT1
        clear hT1
        go_upto_region 12 with (first | (go_at_call 24; refine hcd.mono ?_; rintro e w6 ⟨pa, pc, rfl, HI6⟩) | (go_at_call 15; refine (hB _ _).mono ?_; rintro e w7 ⟨rfl, hw7⟩; obtain rfl : w6 = w7 := hw7.symm; clear hw7))
        have HK6 := hid (HKK5.out.trans HI6.out.2 (fun _ _ f => f))
        clear c0 c1 c2 c3 c4 c5 d0 d1 d2 d3 d4 hcd
        have s7 := (St.nil w6).box #[.int .i64 0, .int .i64 0, .int .i64 0, .int .i64 0, .int .i64 0, .int .i64 0, .int .i64 0, .int .i64 0] 64
        go_upto_region 13 with fail
        generalize w6.alloc (.cells #[.int .i64 0, .int .i64 0, .int .i64 0, .int .i64 0, .int .i64 0, .int .i64 0, .int .i64 0, .int .i64 0] 64) = w7 at *
        generalize w6.heap.size = X7 at *
        have HS7 := hid s7
        clear s7
        go_wp2
        go_loopw [16] (fun k wr2 => ∃ (j : Nat) (L : List Int), k = .int .i64 j ∧ j ≤ 8 ∧ L.length = 8 ∧ St w6 [boxI X7 (xC L).toArray 64] wr2) (fun k _ => 8 - (intOf k).toNat)
        case atStart => exact ⟨0, [0, 0, 0, 0, 0, 0, 0, 0], rfl, by omega, rfl, HS7.out⟩
        case round =>
          clear HS7
          obtain ⟨j, L, rfl, hj, hL8, hst⟩ := hrel
          obtain ⟨c0, c1, c2, c3, c4, c5⟩ := HC.out wr (HK6.out.trans hst.same (fun _ _ f => f))
          obtain ⟨e0, e1, e2, e3, e4, e5⟩ := HC.out wr.drew (HK6.out.trans hst.drew.same (fun _ _ f => f))
          by_cases hgo2 : j < 8 ∧ 0 < mj
          · have q1 : (j : Int) < 8 := by omega
            have q2 : (0 : Int) < (mj : Int) := by omega
            have q3 : (0 : Int) ≤ (j : Int) := by omega
            obtain ⟨gj, oj, rfl⟩ := HJ.out.addr hgo2.2
            have hmd : j % mj < mj := Nat.mod_lt _ hgo2.2
            have x1 : wr.drew.cell? ⟨gj, oj + j % mj, none⟩ = some (.int .i64 (js.getD (j % mj) 0)) := (HJ.out.kept (HT.out _ (HK6.out.trans hst.drew.same (fun _ _ f => f)))).cell hmd
            have f2 : wr.drew.frozen? ⟨X7, j, none⟩ = false := hst.drew.frozen 0 rfl _
            obtain ⟨u2, c9⟩ : ∃ u, wr.drew.cell? ⟨X7, j, none⟩ = some u := ⟨.int .i64 (L.getD j 0), by rw [hst.drew.cell 0 rfl j, List.getElem?_toArray]; exact xC_at L j (by omega)⟩
            have HTa : Hid (St w6 [boxI X7 (xC (L.set j (js.getD (j % mj) 0))).toArray 64] (wr.drew.setCell ⟨X7, j, none⟩ (.int .i64 (js.getD (j % mj) 0)))) := hid (by have := hst.drew.write 0 rfl j (.int .i64 (js.getD (j % mj) 0)); rw [box_put] at this; exact this)
            have HTb : Hid (St w6 [boxI X7 (xC (L.set j (js.getD (j % mj) 0))).toArray 64] (wr.setCell ⟨X7, j, none⟩ (.int .i64 (js.getD (j % mj) 0))).drew) := hid (by have := hst.write 0 rfl j (.int .i64 (js.getD (j % mj) 0)); rw [box_put] at this; exact this.drew)
            have g1 : (j : Int) % (mj : Int) = ((j % mj : Nat) : Int) := by push_cast; rfl
            have g2 : (j : Int).tmod (mj : Int) = ((j % mj : Nat) : Int) := by rw [Int.tmod_eq_emod_of_nonneg (by omega)]; push_cast; rfl
            have HL8 := hid (show ∀ z, (L.set j z).length = 8 by intro z; rw [List.length_set]; exact hL8)
            generalize js.getD (j % mj) 0 = jv at *
            generalize j % mj = r at *
            have z1 : (0 : Int) ≤ (r : Int) := by omega
            have z2 : (r : Int) < (mj : Int) := by omega
            have z3 : ((mj : Int) == 0) = false := by simp; omega
            have z4 : ¬ (mj : Int) = 0 := by omega
            have HJJ := hid hgo2
            clear hst hj hgo2 hmd hL8
            go_upto_region 16 with fail
            go_region_with fail
            all_goals go_wp2
            all_goals go_roundw
            all_goals first
              | exact ⟨j + 1, _, by push_cast; rfl, by have := HJJ.out; omega, HL8.out _, HTa.out⟩
              | exact ⟨j + 1, _, by push_cast; rfl, by have := HJJ.out; omega, HL8.out _, HTb.out⟩
              | (have := HJJ.out; simp [intOf]; omega)
          · have hend : (decide ((j : Int) < 8) = false) ∨ (decide ((j : Int) < 8) = true ∧ mj = 0) := by
              by_cases h : (j : Int) < 8
              · exact .inr ⟨decide_eq_true h, by omega⟩
              · exact .inl (decide_eq_false h)
            obtain ⟨l0, l1, l2, l3, l4, l5, l6, l7, rfl⟩ := len8 hL8
            obtain ⟨KK, cs', lc', wrote, hKK, hTo, hdq', hsame, hwl⟩ := HRun.out (lc8 l0 l1 l2 l3 l4 l5 l6 l7) rfl hmy
            have hcl : cs.length ≤ 256 := HDQ.out.top
            have hb2 := fun W => buildX2 W 7 (-7)
            have HXc := hid ((((HX.out.kept HK5.out).kept HI6.out.2).kept hst.same).kept (kept_alloc wr (.cells #[.int .i64 7, .int .i64 (-7)] 2)))
            have hbg := Begun_any (cc := cc) (sc := 2) HXc.out (xin_made (W := wr) [7, -7]) hcl l0 l1 l2 l3 l4 l5 l6 l7
            have s8 := hst.alloc (.cells #[.int .i64 7, .int .i64 (-7)] 2)
            have a0 : (wr.alloc (.cells #[.int .i64 7, .int .i64 (-7)] 2)).cell? ⟨X7, 0, none⟩ = some (.int .i64 l0) := s8.cell 0 rfl 0
            have a1 : (wr.alloc (.cells #[.int .i64 7, .int .i64 (-7)] 2)).cell? ⟨X7, 1, none⟩ = some (.int .i64 l1) := s8.cell 0 rfl 1
            have a2 : (wr.alloc (.cells #[.int .i64 7, .int .i64 (-7)] 2)).cell? ⟨X7, 2, none⟩ = some (.int .i64 l2) := s8.cell 0 rfl 2
            have a3 : (wr.alloc (.cells #[.int .i64 7, .int .i64 (-7)] 2)).cell? ⟨X7, 3, none⟩ = some (.int .i64 l3) := s8.cell 0 rfl 3
            have a4 : (wr.alloc (.cells #[.int .i64 7, .int .i64 (-7)] 2)).cell? ⟨X7, 4, none⟩ = some (.int .i64 l4) := s8.cell 0 rfl 4
            have a5 : (wr.alloc (.cells #[.int .i64 7, .int .i64 (-7)] 2)).cell? ⟨X7, 5, none⟩ = some (.int .i64 l5) := s8.cell 0 rfl 5
            have a6 : (wr.alloc (.cells #[.int .i64 7, .int .i64 (-7)] 2)).cell? ⟨X7, 6, none⟩ = some (.int .i64 l6) := s8.cell 0 rfl 6
            have a7 : (wr.alloc (.cells #[.int .i64 7, .int .i64 (-7)] 2)).cell? ⟨X7, 7, none⟩ = some (.int .i64 l7) := s8.cell 0 rfl 7
            have HKW := hid (HK6.out.trans hst.same (fun _ _ f => f))
            have KB := hid (HI6.out.2.trans s8.same (fun _ _ f => f))
            have HIB := hid (HI6.out.1.kept s8.same)
            have HTo := hid hTo
            have HDq2 := hid hdq'
            have HSm := hid hsame
            have HWl := hid hwl
            have HKK := hid hKK
            clear hst hj hgo2 hL8 s8 hTo hdq' hsame hwl hKK c0 c1 c2 c3 c4 c5 e0 e1 e2 e3 e4 e5 HRun
            rcases hend with q1 | ⟨q1, rfl⟩
            all_goals
              obtain ⟨c0, c1, c2, c3, c4, c5⟩ := HC.out wr HKW.out
              go_upto_region 18 with (first | simp only [hb2] | (go_at_call 29; refine hbg.mono ?_; rintro e w8 ⟨X8, V8, rfl, hat⟩))
              clear a0 a1 a2 a3 a4 a5 a6 a7 hb2 hbg c0 c1 c2 c3 c4 c5
              generalize wr.alloc (.cells #[.int .i64 7, .int .i64 (-7)] 2) = wb at *
              have HAt := hid hat
              clear hat
              go_wp2
              go_loopw [18] (fun k wr3 => ∃ (j : Nat) (V : OwV) (o : Ow), k = .int .i64 j ∧ OwAt wb X8 V o [] wr3 ∧ ((j ≤ KK ∧ Ow.To P (KK - j) o (owE cs' (PL : Nat) lc' T1 wrote 0)) ∨ (j = KK + 1 ∧ o = owD cs' (PL : Nat) lc' T1 wrote 0))) (fun k _ => KK + 2 - (intOf k).toNat)
              case atStart => exact ⟨0, V8, _, rfl, HAt.out, .inl ⟨Nat.zero_le _, HTo.out⟩⟩
              case round =>
                clear HAt HTo
                obtain ⟨j3, V, o, rfl, hat, hcase⟩ := hrel
                rcases hcase with ⟨hj3, hto⟩ | ⟨hj3, ho⟩
                · have hkk := HKK.out
                  have t5 : (j3 : Int) < 6000 := by omega
                  have t6 : (0 : Int) ≤ (j3 : Int) := by omega
                  have hpl4 : PL ≤ 400 := by have := HPL.out; omega
                  have hstep : o.done = false ∧ Calls Tryz.prog 30 #[.pointer (some ⟨X8, 0, none⟩), .slice pa PL pc] wr fun e w' => e = .returned (.tuple #[]) ∧ ∃ V' o', OwAt wb X8 V' o' [] w' ∧ ((j3 + 1 ≤ KK ∧ Ow.To P (KK - (j3 + 1)) o' (owE cs' (PL : Nat) lc' T1 wrote 0)) ∨ (j3 + 1 = KK + 1 ∧ o' = owD cs' (PL : Nat) lc' T1 wrote 0)) := by
                    by_cases hlast : j3 = KK
                    · subst hlast
                      rw [Nat.sub_self] at hto
                      have ho := hto.none
                      subst ho
                      refine ⟨rfl, (step_end hat rfl may_end hpl4).mono fun e w' ⟨he, V', h'⟩ => ⟨he, V', _, h', .inr ⟨rfl, own_end⟩⟩⟩
                    · obtain ⟨r, hr⟩ : ∃ r, KK - j3 = r + 1 := ⟨KK - j3 - 1, by omega⟩
                      rw [hr] at hto
                      obtain ⟨pp, xx, hpp, hxx, hfit, hto2⟩ := hto.first
                      refine ⟨hfit.1.1, (step_any hat (HIB.out.kept hat.st.same) hpp hxx hfit hpl4).mono fun e w' ⟨he, V', h'⟩ => ⟨he, V', _, h', .inl ⟨by omega, by rw [show KK - (j3 + 1) = r by omega]; exact hto2⟩⟩⟩
                  obtain ⟨hdn, hstep⟩ := hstep
                  have b14 : wr.cell? ⟨X8, 14, none⟩ = some (.bool false) := by rw [← hdn]; exact hat.late 3 rfl
                  have HJ3 := hid hj3
                  clear hat hto hj3 hkk hdn hpl4
                  go_wp2_with (go_at_call 30; refine hstep.mono ?_; rintro e w9 ⟨rfl, V9, o9, h9, hc9⟩; have H9 := hid h9; have HC9 := hid hc9; clear h9 hc9)
                  go_roundw
                  case rel => exact ⟨j3 + 1, V9, o9, by push_cast; rfl, H9.out, HC9.out⟩
                  case measure =>
                    have := HJ3.out
                    simp [intOf]
                    omega
                · subst ho
                  have t5 : (j3 : Int) < 6000 := by have := HKK.out; omega
                  have t6 : (0 : Int) ≤ (j3 : Int) := by omega
                  clear hj3
                  have hsm := HSm.out
                  obtain ⟨sa, sc, eS, hxs, -, -⟩ := own_xin (show wr.ownsRow 0 2 1 V.s ([7, -7] : List Int).length (xC [7, -7]) from hat.stk)
                  obtain ⟨ta2, tc2, eT, hxt, -, -⟩ := own_xin (show wr.ownsRow 0 2 1 V.t T1.length (xC T1) from hat.st.get 3 rfl)
                  obtain ⟨ca2, cc2, eC, hxc, hcc2, -⟩ := own_xin (show wr.ownsRow 0 2 1 V.c cs'.length (xC cs') from hat.cel)
                  obtain ⟨ra2, rc2, eR⟩ := own_slice (show wr.ownsRow 0 3 1 V.r wrote.length (xC wrote) from hat.st.get 5 rfl)
                  rw [hsm.1] at eC hxc hcc2
                  rw [HT1.out] at eT hxt
                  have HXs := hid hxs
                  have HXt := hid hxt
                  have HXcc := hid hxc
                  have KWr := hid hat.st.same
                  have HBc : Hid (∀ W, Kept (fun _ => False) wr W → W.cell? ⟨X8, 0, none⟩ = some (.slice ca2 cs.length cc2) ∧ W.cell? ⟨X8, 1, none⟩ = some (.int .i64 (PL : Nat)) ∧ W.cell? ⟨X8, 2, none⟩ = some (.slice sa 2 sc) ∧ W.cell? ⟨X8, 11, none⟩ = some (.slice ta2 NT tc2) ∧ W.cell? ⟨X8, 14, none⟩ = some (.bool true) ∧ W.cell? ⟨X8, 15, none⟩ = some (.int .i64 0) ∧ W.cell? ⟨X8, 17, none⟩ = some (.slice ra2 wrote.length rc2)) := hid (fun W k => by
                    have h' := hat.calm k
                    refine ⟨?_, h'.at 1 rfl, ?_, ?_, h'.late 3 rfl, h'.late 4 rfl, ?_⟩
                    · rw [← eC]; exact h'.at 0 rfl
                    · rw [show Value.slice sa 2 sc = V.s from eS.symm]; exact h'.at 2 rfl
                    · rw [← eT]; exact h'.late 0 rfl
                    · rw [← eR]; exact h'.late 6 rfl)
                  have hw8 : (wrote.length : Int) ≤ 8 := by have := HWl.out; omega
                  have hwg : decide (8 < (wrote.length : Int)) = false := decide_eq_false (by omega)
                  have hwg2 : decide (8 < wrote.length) = false := decide_eq_false (by omega)
                  have HDq2' := HDq2.out
                  have hb256 : b + (1 + 3 * n) ≤ 256 := by have := HDq2'.len; have := HDq2'.top; omega
                  have hl1 : L1.length ≤ 100 := by have := HDq2'.room_le; have := HDq2'.n1; omega
                  have HRd := hid (fun (W : World) (k : Kept (fun _ => False) wr W) => read_has (NL := NL) (HXcc.out.kept k) hcl hcc2 HDq2' HLR2.out HL1.out)
                  have HSa : Hid (∀ W, Kept (fun _ => False) wr W → ∀ xa xc, XIn W xa 2 [7, -7] → Calls Tryz.prog 13 #[.slice sa 2 sc, .slice xa 2 xc] W fun e w' => e = .returned (.bool true) ∧ Kept (fun _ => False) W w') := hid (fun W k xa xc hxx => by
                    have := sameInts_any sa xa 2 2 sc xc [7, -7] [7, -7] (HXs.out.kept k) hxx (by omega)
                    rw [decide_eq_true rfl] at this
                    exact this)
                  have KW5 := hid ((KB.out.trans KWr.out (fun _ _ f => f)))
                  have HSt : Hid (∀ W, Kept (fun _ => False) wr W → Calls Tryz.prog 13 #[.slice ta2 NT tc2, .slice ta NT tc] W fun e w' => e = .returned (.bool true) ∧ Kept (fun _ => False) W w') := hid (fun W k => by
                    have := sameInts_any ta2 ta NT NT tc2 tc T1 T1 (HXt.out.kept k) ((HT5.out.1.kept KW5.out).kept k) (by have h2 := HNTl.out; omega)
                    rw [decide_eq_true rfl] at this
                    exact this)
                  have HSw : Hid (∀ W, Kept (fun _ => False) wr W → ∀ ra rc, EIn W ra NL L1 → Calls Tryz.prog 19 #[.slice ra NL rc, .slice wa NL wc] W fun e w' => e = .returned (.bool true) ∧ Kept (fun _ => False) W w') := hid (fun W k ra rc hxx => by
                    have := sameE_any ra wa NL NL rc wc L1 L1 W hxx ((HW5.out.1.kept KW5.out).kept k) (by have h1 := HL1.out; omega)
                    rw [decide_eq_true rfl] at this
                    exact this)
                  have HOt : Hid (∀ W, Kept (fun _ => False) wr W → Calls Tryz.prog 31 #[.slice ca2 cs.length cc2, .slice ca cs.length cc, .int .i64 (b : Int), .int .i64 (1 + 3 * (n : Int))] W fun e w' => e = .returned (.bool true) ∧ Kept (fun _ => False) W w') := hid (fun W k => others_any (HXcc.out.kept k) ((HXc.out.kept KWr.out).kept k) b n hsm hcl hb256)
                  have HEndX := hid (fun W (k : Kept (fun _ => False) wr W) => (⟨by rw [hsm.1]; exact HXcc.out.kept k, by rw [HL1.out]; exact (HW5.out.kept KW5.out).kept k⟩ : XIn W ca2 cs'.length cs' ∧ EV W wa L1.length wc L1))
                  have HK1 := hid ((HKK5.out.trans KW5.out (fun _ _ f => f)))
                  have HLc := hid hsm.1
                  have hb2 := fun W => buildX2 W 7 (-7)
                  obtain ⟨x0, x1, x2, x11, x14, x15, x17⟩ := HBc.out wr (Kept.refl _ _)
                  clear hsm eS eT eC eR hxs hxt hxc hcc2 hat HDq2' hb256 hl1 hw8
                  go_upto_region 24 with fail
                  obtain ⟨y0, y1, y2, y11, y14, y15, y17⟩ := HBc.out _ (kept_alloc wr (.cells #[.int .i64 7, .int .i64 (-7)] 2))
                  have hsa := HSa.out _ (kept_alloc wr (.cells #[.int .i64 7, .int .i64 (-7)] 2)) _ 2 (xin_made (W := wr) [7, -7])
                  have KA := hid (kept_alloc wr (.cells #[.int .i64 7, .int .i64 (-7)] 2))
                  clear x0 x1 x11 x14 x15 x17
                  go_upto_region 25 with (first | simp only [hb2] | (go_at_call 13; refine hsa.mono ?_; rintro e w10 ⟨rfl, k10⟩))
                  have K10 := hid (KA.out.trans k10 (fun _ _ f => f))
                  obtain ⟨z0, z1, z2, z11, z14, z15, z17⟩ := HBc.out w10 K10.out
                  have hst := HSt.out w10 K10.out
                  clear x2 y0 y1 y2 y11 y14 y15 y17 hsa k10
                  go_upto_region 26 with (go_at_call 13; refine hst.mono ?_; rintro e w11 ⟨rfl, k11⟩)
                  have K11 := hid (K10.out.trans k11 (fun _ _ f => f))
                  clear z0 z1 z2 z11 z14 z15 z17 hst k11
                  obtain ⟨z0, z1, z2, z11, z14, z15, z17⟩ := HBc.out w11 K11.out
                  have hot := HOt.out w11 K11.out
                  go_upto_region 27 with (go_at_call 31; refine hot.mono ?_; rintro e w12 ⟨rfl, k12⟩)
                  have K12 := hid (K11.out.trans k12 (fun _ _ f => f))
                  clear z0 z1 z2 z11 z14 z15 z17 hot k12
                  obtain ⟨z0, z1, z2, z11, z14, z15, z17⟩ := HBc.out w12 K12.out
                  have hrd := HRd.out w12 K12.out
                  go_upto_region 28 with (go_at_call 17; refine hrd.mono ?_; rintro e w13 ⟨ra3, rc3, rfl, HX13⟩)
                  have K13 := hid (K12.out.trans HX13.out.2 (fun _ _ f => f))
                  have hsw := HSw.out w13 K13.out ra3 rc3 HX13.out.1
                  clear z0 z1 z2 z11 z14 z15 z17 hrd
                  go_upto_region 31 with (go_at_call 19; refine hsw.mono ?_; rintro e w14 ⟨rfl, k14⟩)
                  have K14 := hid (K13.out.trans k14 (fun _ _ f => f))
                  obtain ⟨z0, z1, z2, z11, z14, z15, z17⟩ := HBc.out w14 K14.out
                  clear hsw k14
                  go_wp2
                  go_roundw
                  case rel => exact ⟨i + 1, cs', L1, ca2, wa, cc2, wc, by push_cast; rfl, by have := HI.out; omega, by rw [HLc.out], by rw [HL1.out], (HEndX.out w14 K14.out).1, (HEndX.out w14 K14.out).2, HDq2.out, HLR2.out, HK1.out.trans K14.out (fun _ _ f => f)⟩
                  case measure =>
                    have := HI.out
                    simp [intOf]
                    omega
    · have hend : (decide ((i : Int) < (md : Int)) = false ∧ decide (i < md) = false) ∨ ((decide ((i : Int) < (md : Int)) = true ∧ decide (i < md) = true) ∧ decide ((i : Int) < 40) = false) := by
        by_cases h : (i : Int) < (md : Int)
        · exact .inr ⟨⟨decide_eq_true h, decide_eq_true (by omega)⟩, decide_eq_false (by omega)⟩
        · exact .inl ⟨decide_eq_false h, decide_eq_false (by omega)⟩
      have HK := hid (HT.out _ hk)
      clear hx hv hdq hlr hk hgo
      rcases hend with ⟨t1, t3⟩ | ⟨⟨t1, t3⟩, t2⟩
      all_goals
        go_wp2
        go_ret
        exact ⟨rfl, HK.out⟩
end Go.Proofs.YtbpilhjomfkpaaaGreatDoor
