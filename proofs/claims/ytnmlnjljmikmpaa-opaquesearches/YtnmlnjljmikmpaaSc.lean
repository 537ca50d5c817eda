/- How few stories and moves are, where what came in is few as a whole. -/
import Derived.Test.YtnmlnjljmikmpaaRows
import Derived.Test.YtnmlnjljmikmpaaProg
import Derived.Test.YtnmlnjljmikmpaaSa
import Derived.Test.YtnmlnjljmikmpaaRi
import Derived.Test.YtnmlnjljmikmpaaHc
import Derived.ProofKit
import Derived.Deep.Slices
namespace Go.Proofs.Ytnmlnjljmikmpaa
open Go.RowKit Go.ChangeShapes Go.WideShapes Go.Deep
set_option linter.unusedVariables false
set_option linter.unusedSimpArgs false
theorem bulk_pos0 {H : Type} (d : DataW H) : 0 < Rows.uptoBulk d := by
  cases d <;> first | (simp [Rows.uptoBulk]; done) | (rename_i l; cases l <;> simp [Rows.uptoBulk])
theorem few0 {H : Type} : ∀ l : List (DataW H), l.length ≤ Rows.uptoBulkAll l
  | [] => Nat.zero_le _
  | d :: l => by
    have h1 := bulk_pos0 d
    have h2 := few0 l
    show l.length + 1 ≤ Rows.uptoBulk d + Rows.uptoBulkAll l
    omega
theorem few_mem0 {H : Type} {d : DataW H} : ∀ {l : List (DataW H)}, d ∈ l → Rows.uptoBulk d ≤ Rows.uptoBulkAll l
  | [], h => by cases h
  | x :: l, h => by
    show _ ≤ Rows.uptoBulk x + Rows.uptoBulkAll l
    rcases List.mem_cons.1 h with rfl | h
    · omega
    · have := few_mem0 h
      omega
set_option maxRecDepth 100000 in
theorem long_any0 {H : Type} {enc : TypeId × Value → H} {w : World} {a : Option Addr} {len cap fuel : Nat} {t e : TypeId} {x : DataW H × List MemPlace} (ht : Try.prog.underlying t = some (.slice e)) (hf : DataW.trod enc Try.prog w 0 (fun _ => true) true fuel t [.slice a len cap] = some x) : len ≤ Rows.uptoBulk x.1 := by
  rcases open_slice ht hf with ⟨hcs, _⟩ | ⟨a', len', cap', m, n, D, Pl, hcs, _, hl, hm, hmm, hx, hcell⟩
  · simp at hcs
    omega
  · simp at hcs
    obtain ⟨rfl, rfl, rfl⟩ := hcs
    rw [hx]
    have h1 := few0 ((List.range len).map D)
    simp only [List.length_map, List.length_range] at h1
    simp only [Rows.uptoBulk]
    omega
set_option maxRecDepth 100000 in
/-- The stories are at most as many as the data that they came in with has values, and so are the moves of each. -/
theorem sts_few {H : Type} {enc : TypeId × Value → H} {w : World} {a : Option Addr} {n lc : Nat} {L : List Sm} {d : DataW H} {pl : List MemPlace} (h : DataW.Trod enc Try.prog w 0 (fun _ => true) true 23 (.slice a n lc) d pl) (hl : LIn w a n L) :
    n ≤ Rows.uptoBulk d ∧ ∀ m ∈ L, m.s.ms.length ≤ Rows.uptoBulk d := by
  obtain ⟨fuel, hf⟩ := h
  simp only [Value.cells] at hf
  refine ⟨long_any0 Try.underlying23 hf, fun m hm => ?_⟩
  obtain ⟨i, hi⟩ := List.getElem?_of_mem hm
  have hil := (List.getElem?_eq_some_iff.1 hi).1
  have hn : n = L.length := hl.1.1
  rcases open_slice Try.underlying23 hf with ⟨hcs, _⟩ | ⟨a', len', cap', mm, nn, D, Pl, hcs, _, hll, hmx, hmm, hx, hcell⟩
  · simp at hcs
    omega
  · simp at hcs
    obtain ⟨rfl, rfl, rfl⟩ := hcs
    simp only [if_true] at hmm
    obtain ⟨g, off, hg, hc⟩ := hl.1.2 (by omega)
    cases hg
    obtain ⟨cs', hc', ht⟩ := hcell i (by omega)
    obtain ⟨⟨z0, z1, z2, z3, z4, z5, z6, z7, z8, ms⟩, ma, mc⟩ := m
    have h9 := (story_cells hl (Kept.refl _ w) hi).2.2.2.2.2.2.2.2.2
    obtain ⟨xs, k, _, hxs, hlen, hxl, hfld⟩ := DataW.trod_struct Try.underlying44 ht
    have g9 := hfld 9 _ rfl
    rw [Try.cells_Si] at hc' hlen
    have hcc := (World.cells?_some hc').2.2 9 (by omega)
    have eadd : ((⟨g, off, none⟩ : Addr).add (i * 10)).add 9 = ⟨g, off + i * 10 + 9, none⟩ := by
      unfold Addr.add
      split <;> split <;> simp_all
    rw [eadd, h9] at hcc
    simp [Try.cells_mvs] at g9
    have e9 : (cs'.drop 9).take 1 = [.slice ma ms.length mc] := by
      match cs', hlen, hcc with
      | [v0, v1, v2, v3, v4, v5, v6, v7, v8, v9], _, hcc =>
        simp at hcc
        simp [← hcc]
    have hx9 : 9 < xs.length := by rw [hxl]; exact Nat.lt_of_sub_ne_zero (by decide)
    rw [e9, List.getElem?_eq_getElem hx9] at g9
    have h1 := long_any0 Try.underlying42 g9
    have h2 : Rows.uptoBulk xs[9].1 ≤ Rows.uptoBulkAll (xs.map (·.1)) := few_mem0 (List.mem_map.2 ⟨_, List.getElem_mem hx9, rfl⟩)
    have h3 : D i = .agg (xs.map (·.1)) := congrArg Prod.fst hxs
    have h4 : Rows.uptoBulk (D i) ≤ Rows.uptoBulkAll ((List.range n).map D) := few_mem0 (List.mem_map.2 ⟨i, by simp; omega, rfl⟩)
    have h5 := congrArg Prod.fst hx
    simp only at h5
    rw [h5]
    rw [h3] at h4
    simp only [Rows.uptoBulk] at h4 ⊢
    show ms.length ≤ _
    omega
/-- What a beginning of an order writes: at most as many cells as it has places times the most moves of a story. -/
theorem sumW_few {L : List Sm} {B : Nat} (hL : ∀ m ∈ L, m.s.ms.length ≤ B) (o : List Int) (j : Nat) : sumW (pick (smS L) (o.take j)) ≤ o.length * B := by
  have h1 : ∀ s ∈ pick (smS L) (o.take j), (wrM s.ms).length ≤ B := by
    intro s hs
    unfold pick at hs
    obtain ⟨x, _, rfl⟩ := List.mem_map.1 hs
    rw [List.getD_eq_getElem?_getD]
    cases hx : (smS L)[x.toNat]? with
    | none => simp [Sy.zero, wrM, wrs]
    | some s =>
      simp only [Option.getD_some]
      obtain ⟨m, hm, rfl⟩ := List.mem_map.1 (List.mem_of_getElem? hx)
      exact Nat.le_trans (wrM_len _) (hL m hm)
  have h2 : ∀ l : List Sy, (∀ s ∈ l, (wrM s.ms).length ≤ B) → sumW l ≤ l.length * B := by
    intro l
    induction l with
    | nil => intro _; simp [sumW]
    | cons s l ih =>
      intro h
      have a := h s (by simp)
      have b := ih (fun x hx => h x (by simp [hx]))
      simp only [sumW, List.map_cons, List.sum_cons, List.length_cons] at b ⊢
      rw [Nat.add_mul]
      omega
  have h3 := h2 _ h1
  have h4 : (pick (smS L) (o.take j)).length ≤ o.length := by simp [pick]; omega
  exact Nat.le_trans h3 (Nat.mul_le_mul_right _ h4)
end Go.Proofs.Ytnmlnjljmikmpaa
