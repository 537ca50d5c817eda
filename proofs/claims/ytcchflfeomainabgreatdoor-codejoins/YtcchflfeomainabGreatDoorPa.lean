/- Lists of lists of instructions that came in; lists of rows of the call's own. -/
import Derived.Test.YtcchflfeomainabGreatDoorJo
namespace Go.Proofs.YtcchflfeomainabGreatDoor
open Go.RowKit Go.ChangeShapes Go.WideShapes Go.Deep
set_option linter.unusedVariables false
set_option linter.unusedSimpArgs false

/-- What is known of parts that came in. -/
def CameP (w : World) (la : Option Addr) (m : Nat) (ps : List Prt) : Prop := m = ps.length ∧ m * 24 ≤ 140737488351232 ∧ ∀ j, j < m → ∃ g o, la = some ⟨g, o, none⟩ ∧ w.cell? ⟨g, o + j, none⟩ = some (.slice (ps.getD j Prt.zero).la (ps.getD j Prt.zero).l.length (ps.getD j Prt.zero).c) ∧ Came w (ps.getD j Prt.zero).la (ps.getD j Prt.zero).l.length (ps.getD j Prt.zero).c (ps.getD j Prt.zero).l
theorem CameP.kept {w w' : World} {la : Option Addr} {m : Nat} {ps : List Prt} (h : CameP w la m ps) (k : Kept (fun _ => False) w w') : CameP w' la m ps := by
  refine ⟨h.1, h.2.1, fun j hj => ?_⟩
  obtain ⟨g, o, e, hc, hi⟩ := h.2.2 j hj
  refine ⟨g, o, e, ?_, hi.kept k⟩
  rw [World.cell?_of_block (k.block g (World.block_lt_of_cell? w _ hc) (fun f => f))]
  exact hc
theorem CameP.pin {w : World} {la : Option Addr} {m : Nat} {ps : List Prt} (h : CameP w la m ps) : PIn w la m ps := by
  refine ⟨h.1, fun j hj => ?_⟩
  obtain ⟨g, o, e, hc, hi⟩ := h.2.2 j hj
  exact ⟨g, o, e, hc, hi.1⟩
section
variable {H : Type} {enc : TypeId × Value → H} {w : World}
theorem Tryz.cellsLi : Tryz.prog.cellsOf 24 = 1 := by kernel_rfl
theorem Tryz.bytesLi : Tryz.prog.bytesOf 24 = 24 := by kernel_rfl
theorem choose_prt (n : Nat) (P : Nat → Prt → Prop) (h : ∀ i, i < n → ∃ t, P i t) : ∃ f : Nat → Prt, ∀ i, i < n → P i (f i) := by
  classical
  refine ⟨fun i => if hi : i < n then (h i hi).choose else Prt.zero, fun i hi => ?_⟩
  simp only [hi, dite_true]
  exact (h i hi).choose_spec
theorem wAll_mem {P : Program} {e : TypeId} {d : DataW H} {n : Nat} : ∀ {ds : List (DataW H)}, d ∈ ds → n ∈ d.weights P e → n ∈ DataW.weightsAll P e ds
  | [], h, _ => by cases h
  | x :: r, h, hn => by
    simp only [DataW.weightsAll, List.mem_append]
    rcases List.mem_cons.1 h with rfl | h
    · exact .inl hn
    · exact .inr (wAll_mem h hn)
set_option maxRecDepth 100000 in
theorem open_parts {fuel : Nat} {v : Value} {x : DataW H × List MemPlace} (h : DataW.trod enc Tryz.prog w 0 (fun _ => true) true fuel 22 [v] = some x) (hz : ∀ n ∈ x.1.weights Tryz.prog 22, n ≤ reachBytes) :
    ∃ la ll lc ps, v = .slice la ll lc ∧ CameP w la ll ps := by
  rcases open_slice Tryz.underlying22 h with ⟨hcs, _⟩ | ⟨a', len, cap, m, n, D, Pl, hcs, _, hl, hm, hmm, hx, hcell⟩
  · simp only [List.cons.injEq, and_true] at hcs
    exact ⟨_, _, _, [], hcs, rfl, by omega, fun j hj => by omega⟩
  · simp only [List.cons.injEq, and_true] at hcs
    simp only [if_true] at hmm
    subst hmm
    subst hx
    have hreach : m * 24 ≤ 140737488351232 := by
      have := hz ((len + (m - len)) * 24) (by
        simp [DataW.weights, Tryz.underlying22, Tryz.bytesLi])
      simp only [reachBytes] at this
      omega
    by_cases h0 : len = 0
    · subst h0
      exact ⟨_, _, _, [], hcs, rfl, by omega, fun j hj => by omega⟩
    obtain ⟨cs0, hc0, _⟩ := hcell 0 (by omega)
    rw [Tryz.cellsLi] at hc0
    have hs := (World.cells?_some hc0)
    obtain ⟨b, off, spot⟩ := a'
    have h00 := hs.2.2 0 (by omega)
    rw [List.getElem?_eq_getElem (by omega)] at h00
    have hspot : spot = none := by simpa [Addr.add] using World.cell?_spot h00
    subst hspot
    have hall : ∀ i, i < len → ∃ t : Prt, w.cell? ⟨b, off + i, none⟩ = some (.slice t.la t.l.length t.c) ∧ Came w t.la t.l.length t.c t.l := by
      intro i hi
      obtain ⟨cs, hc, ht⟩ := hcell i (by omega)
      rw [Tryz.cellsLi] at hc
      have hcc := (World.cells?_some hc).2.2 0 (by omega)
      have hcl0 := World.cells?_some hc
      have hcl : cs.length = 1 := by omega
      have eadd : ((⟨b, off, none⟩ : Addr).add (i * 1)).add 0 = ⟨b, off + i, none⟩ := by
        unfold Addr.add
        split <;> split <;> simp_all
      rw [eadd] at hcc
      obtain ⟨u, rfl⟩ := List.length_eq_one_iff.1 hcl
      · obtain ⟨la, ll, lc, zs, rfl, hcame⟩ := open_ins ht (fun n hn => hz n (by
          simp only [DataW.weights, Tryz.underlying22, List.mem_cons, List.mem_append]
          exact .inr (.inl (wAll_mem (List.mem_map.2 ⟨i, List.mem_range.2 hi, rfl⟩) hn))))
        obtain rfl : ll = zs.length := hcame.1.1
        exact ⟨⟨la, lc, zs⟩, by simpa using hcc, hcame⟩
    obtain ⟨f, hff⟩ := choose_prt len _ hall
    refine ⟨_, _, _, (List.range len).map f, hcs, by simp, by omega, fun j hj => ⟨b, off, rfl, ?_⟩⟩
    have e : ((List.range len).map f).getD j Prt.zero = f j := by simp [List.getD_eq_getElem?_getD, hj]
    rw [e]
    exact hff j hj
set_option maxRecDepth 100000 in
theorem arg_parts {b0 : Nat} {v : Value} {d : DataW H} {p : List MemPlace} (h : DataW.Trod enc Tryz.prog w 0 (fun _ => true) true 22 v d p) (hv : Value.okWide Tryz.prog w .any b0 22 v) (hz : ∀ n ∈ d.weights Tryz.prog 22, n ≤ reachBytes) :
    ∃ la ll lc ps, v = .slice la ll lc ∧ CameP w la ll ps := by
  obtain ⟨a, len, cap, rfl⟩ := okWide_slice Tryz.underlying22 hv
  obtain ⟨fuel, h⟩ := h
  simp only [Value.cells] at h
  exact open_parts h hz
end
theorem same_chk : ∀ {qs ps : List Prt}, qs.map Prt.l = ps.map Prt.l → chk qs = chk ps ∧ tot qs = tot ps
  | [], [], _ => ⟨rfl, rfl⟩
  | [], _ :: _, h => by simp at h
  | _ :: _, [], h => by simp at h
  | q :: qs, p :: ps, h => by
    simp only [List.map_cons, List.cons.injEq] at h
    obtain ⟨h1, h2⟩ := same_chk h.2
    simp only [chk, tot, h.1, h1, h2]
    exact ⟨trivial, trivial⟩
theorem same_fold : ∀ {qs ps : List Prt} (acc : List Ins), qs.map Prt.l = ps.map Prt.l → qs.foldl onto acc = ps.foldl onto acc
  | [], [], _, _ => rfl
  | [], _ :: _, _, h => by simp at h
  | _ :: _, [], _, h => by simp at h
  | q :: qs, p :: ps, acc, h => by
    simp only [List.map_cons, List.cons.injEq] at h
    simp only [List.foldl_cons, onto, h.1]
    exact same_fold _ h.2
theorem same_join {qs ps : List Prt} (h : qs.map Prt.l = ps.map Prt.l) : joinE qs = joinE ps ∧ joinR qs = joinR ps := by
  obtain ⟨h1, h2⟩ := same_chk h
  have h3 : joinE qs = joinE ps := by unfold joinE; rw [h1, h2]
  refine ⟨h3, ?_⟩
  unfold joinR
  rw [h3]
  split
  · exact same_fold [] h
  · rfl
/-- The list of lent rows. -/
def qCells (qs : List Prt) : List Value := qs.map fun q => .slice q.la q.l.length q.c
theorem qCells_append (a : List Prt) (q : Prt) : qCells (a ++ [q]) = qCells a ++ [.slice q.la q.l.length q.c] := by simp [qCells]
structure Oat (o w : World) (v : Value) (qs : List Prt) : Prop where
  st : St o [ownI 24 1 v qs.length (qCells qs)] w
  each : ∀ q ∈ qs, ∃ g, q.la = some ⟨g, 0, none⟩ ∧ v.ownBlock ≠ some g ∧ w.ownsRow o.heap.size 34 2 (.slice (some ⟨g, 0, none⟩) (q.l.length + 3) q.c) (q.l.length + 3) (insCells (q.l ++ marks))
theorem Oat.calm {o w w' : World} {v : Value} {qs : List Prt} (h : Oat o w v qs) (k : Kept (fun _ => False) w w') : Oat o w' v qs :=
  ⟨h.st.calm k, fun q hq => by
    obtain ⟨g, h1, h2, h3⟩ := h.each q hq
    exact ⟨g, h1, h2, own_loc h3 (fun i e => k.block i (h3.lt i e).2 (fun f => f))⟩⟩
theorem Oat.add {o w w1 : World} {v : Value} {qs : List Prt} {q : Prt} (h : Oat o w v qs) {g g2 cap2 : Nat} {ob : Obj} (e : q.la = some ⟨g, 0, none⟩) (hv : v.ownBlock ≠ some g) (ho : w.ownsRow o.heap.size 34 2 (.slice (some ⟨g, 0, none⟩) (q.l.length + 3) q.c) (q.l.length + 3) (insCells (q.l ++ marks)))
    (p1 : w1.ownsRow 0 24 1 (.slice (some ⟨g2, 0, none⟩) (qs.length + 1) cap2) (qs.length + 1) (qCells qs ++ [.slice q.la q.l.length q.c])) (p2 : (w.alloc ob).grownBy w1 v.ownBlock) (p3 : v.ownBlock = some g2 ∨ g2 = w.heap.size + 1) : Oat o w1 (.slice (some ⟨g2, 0, none⟩) (qs.length + 1) cap2) (qs ++ [q]) := by
  have one : ∀ q' : Prt, (∃ g, q'.la = some ⟨g, 0, none⟩ ∧ v.ownBlock ≠ some g ∧ w.ownsRow o.heap.size 34 2 (.slice (some ⟨g, 0, none⟩) (q'.l.length + 3) q'.c) (q'.l.length + 3) (insCells (q'.l ++ marks))) → ∃ g, q'.la = some ⟨g, 0, none⟩ ∧ Value.ownBlock (.slice (some ⟨g2, 0, none⟩) (qs.length + 1) cap2) ≠ some g ∧ w1.ownsRow o.heap.size 34 2 (.slice (some ⟨g, 0, none⟩) (q'.l.length + 3) q'.c) (q'.l.length + 3) (insCells (q'.l ++ marks)) := by
    rintro q' ⟨g', h1, h2, h3⟩
    have hlt := (own_capV h3).2.2
    refine ⟨g', h1, ?_, ?_⟩
    · intro e
      have e2 : g2 = g' := by simpa [Value.ownBlock] using e
      rcases p3 with p3 | p3
      · exact h2 (by rw [p3, e2])
      · omega
    · refine own_loc h3 (fun i e => ?_)
      have e2 : g' = i := by simpa [Value.ownBlock] using e
      subst e2
      rw [p2.block g' (Nat.lt_of_lt_of_le hlt (kept_alloc w ob).size) (fun e => h2 e.symm)]
      exact (kept_alloc w ob).block g' hlt (fun f => f)
  refine ⟨?_, fun q' hq => ?_⟩
  · have a1 := h.st.growAt 0 rfl p1 p2 p3
    rw [qCells_append, show (qs ++ [q]).length = qs.length + 1 by simp]
    exact a1
  · rcases List.mem_append.1 hq with hq | hq
    · exact one q' (h.each q' hq)
    · rw [List.mem_singleton.1 hq]
      exact one q ⟨g, e, hv, ho⟩
theorem Oat.pin {o w : World} {v : Value} {qs : List Prt} (h : Oat o w v qs) : ∃ la lc, v = .slice la qs.length lc ∧ PIn w la qs.length qs := by
  have ho := h.st.get 0 rfl
  have each : ∀ j, j < qs.length → IIn w (qs.getD j Prt.zero).la (qs.getD j Prt.zero).l.length (qs.getD j Prt.zero).l := by
    intro j hj
    have hm : qs.getD j Prt.zero ∈ qs := by rw [List.getD_eq_getElem?_getD, List.getElem?_eq_getElem hj]; exact List.getElem_mem hj
    obtain ⟨g, h1, _, h3⟩ := h.each _ hm
    rw [h1]
    exact own_front h3 _ marks rfl
  rcases ho.2 with ⟨rfl, hn⟩ | ⟨g, cap, cur, rfl, _⟩
  · exact ⟨none, 0, by rw [hn], rfl, fun j hj => by omega⟩
  · refine ⟨_, cap, rfl, rfl, fun j hj => ⟨g, 0, rfl, ?_, each j hj⟩⟩
    have hc := World.ownsRow.cellAt ho j (by omega)
    rw [Nat.zero_add, hc]
    simp [qCells, List.getD_eq_getElem?_getD, hj]
end Go.Proofs.YtcchflfeomainabGreatDoor
