/- Programs that differ in numbers and locals alone are looked through alike; lists of ints that came in. -/
import Derived.Test.YtcchflfeomainabGreatDoorLs
import Derived.Test.YtcchflfeomainabGreatDoorMask
namespace Go.Proofs.YtcchflfeomainabGreatDoor
open Go.RowKit Go.ChangeShapes Go.WideShapes Go.Deep
set_option linter.unusedVariables false
set_option linter.unusedSimpArgs false

/-- What another instruction may be in the stead of one. -/
def Alt (x y : Ins) : Prop := y.op = x.op ∧ (takesM x.op = 1 ∨ (takesM x.op = 2 ∧ 0 ≤ y.a ∧ y.a < 8) ∨ y = x)
structure Sim (L M : List Ins) : Prop where
  len : M.length = L.length
  op : ∀ i, (M.getD i Ins.zero).op = (L.getD i Ins.zero).op
  a : ∀ i, ((L.getD i Ins.zero).op = 14 ∨ (L.getD i Ins.zero).op = 15 ∨ (L.getD i Ins.zero).op = 20) → (M.getD i Ins.zero).a = (L.getD i Ins.zero).a
theorem Sim.leave {L M : List Ins} (h : Sim L M) (x : Spt) (V : Vst) : leaveM M x V = leaveM L x V := by
  unfold leaveM
  rw [h.op x.p]
  split
  · split
    · rfl
    · split
      · rename_i hj
        rw [h.a x.p (by rcases hj with e | e; exact .inl e; exact .inr (.inr e))]
      · split
        · rename_i hz
          rw [h.a x.p (.inr (.inl hz))]
        · rfl
  · rfl
theorem Sim.run {L M : List Ins} (h : Sim L M) : ∀ (k : Nat) (V : Vst), runV M k V = runV L k V
  | 0, V => rfl
  | k + 1, V => by
    have e : stepV M V = stepV L V := by unfold stepV; rw [h.leave]
    rw [runV, runV, e, Sim.run h k]
theorem alt_sim {l m : List Ins} (hl : m.length = l.length) (h : ∀ i, i < l.length → Alt (l.getD i Ins.zero) (m.getD i Ins.zero)) : Sim (withHalt l) (withHalt m) := by
  have aux : ∀ i, Alt ((withHalt l).getD i Ins.zero) ((withHalt m).getD i Ins.zero) := by
    intro i
    by_cases hi : i < l.length
    · have := h i hi
      simp only [withHalt, List.getD_eq_getElem?_getD] at this ⊢
      rw [List.getElem?_append_left hi, List.getElem?_append_left (by omega)]
      exact this
    · simp only [withHalt, List.getD_eq_getElem?_getD]
      rw [List.getElem?_append_right (by omega), List.getElem?_append_right (by omega), hl]
      exact ⟨rfl, .inr (.inr rfl)⟩
  refine ⟨by simp [withHalt, hl], fun i => (aux i).1, fun i ho => ?_⟩
  rcases (aux i).2 with e | ⟨e, _⟩ | e
  · rcases ho with o | o | o <;> (rw [o] at e; cases e)
  · rcases ho with o | o | o <;> (rw [o] at e; cases e)
  · rw [e]
theorem check_of_all {l : List Ins} (h1 : l.length ≤ 400) (h2 : 0 < l.length) (h : ∀ x ∈ l, wrongAt x l.length = 0) : checkM l = (0, 0) := by
  unfold checkM
  rw [if_neg (by omega)]
  generalize (l.length : Int) = e at h
  have aux : ∀ (k : Nat) (l : List Ins), (∀ x ∈ l, wrongAt x e = 0) → checkFrom e k l = (0, 0) := by
    intro k l
    induction l generalizing k with
    | nil => intro _; rfl
    | cons y r ih =>
      intro hh
      unfold checkFrom
      rw [if_pos (hh y (by simp))]
      exact ih _ (fun x hx => hh x (by simp [hx]))
  exact aux 0 l h
theorem alt_wrong {x y : Ins} {e : Int} (h : Alt x y) (hw : wrongAt x e = 0) : wrongAt y e = 0 := by
  obtain ⟨hk, hm⟩ := wrongAt_zero hw
  obtain ⟨ho, h⟩ := h
  unfold wrongAt
  rw [ho, hk]
  have ht : takesM x.op = (rowOf x.op).takes := by unfold takesM; rw [hk]; rfl
  rw [ht] at h
  rcases h with h | ⟨h, h1, h2⟩ | h
  · rw [h]; rfl
  · rw [h]
    have : mayB 2 y.a e = true := by simp [mayB]; omega
    rw [this]; rfl
  · rw [h, hm]; rfl
theorem alt_verify {l m : List Ins} (hc : (checkM l).1 = 0) (hl : m.length = l.length) (h : ∀ i, i < l.length → Alt (l.getD i Ins.zero) (m.getD i Ins.zero)) : verifyM m = verifyM l := by
  obtain ⟨h1, h2, h3⟩ := checkM_all hc
  have hm : checkM m = (0, 0) := by
    refine check_of_all (by omega) (by omega) (fun y hy => ?_)
    obtain ⟨i, hi, rfl⟩ := List.getElem_of_mem hy
    have ha := h i (by omega)
    have e1 : m.getD i Ins.zero = m[i] := by simp [List.getD_eq_getElem?_getD, hi]
    have e2 : l.getD i Ins.zero = l[i]'(by omega) := by simp [List.getD_eq_getElem?_getD, show i < l.length by omega]
    rw [e1, e2] at ha
    rw [hl]
    exact alt_wrong ha (h3 _ (List.getElem_mem _))
  unfold verifyM
  rw [if_pos hc, if_pos (by rw [hm]), hl, (alt_sim hl h).run]
/-- A list of ints that came in. -/
def CameI (w : World) (la : Option Addr) (n lc : Nat) (zs : List Int) : Prop := n = zs.length ∧ (0 < n → ∃ g o, la = some ⟨g, o, none⟩ ∧ ∀ j, j < n → w.cell? ⟨g, o + j, none⟩ = some (.int .i64 (zs.getD j 0))) ∧ n * 8 ≤ 140737488351232
theorem CameI.kept {w w' : World} {la : Option Addr} {n lc : Nat} {zs : List Int} (h : CameI w la n lc zs) (k : Kept (fun _ => False) w w') : CameI w' la n lc zs := by
  refine ⟨h.1, fun h0 => ?_, h.2.2⟩
  obtain ⟨g, o, rfl, hc⟩ := h.2.1 h0
  refine ⟨g, o, rfl, fun j hj => ?_⟩
  have := hc j hj
  rw [World.cell?_of_block (k.block g (World.block_lt_of_cell? w _ this) (fun f => f))]
  exact this
section
variable {H : Type} {enc : TypeId × Value → H} {w : World}
theorem Tryz.bytesI : Tryz.prog.bytesOf 3 = 8 := by kernel_rfl
theorem choose_int (n : Nat) (P : Nat → Int → Prop) (h : ∀ i, i < n → ∃ t, P i t) : ∃ f : Nat → Int, ∀ i, i < n → P i (f i) := by
  classical
  refine ⟨fun i => if hi : i < n then (h i hi).choose else 0, fun i hi => ?_⟩
  simp only [hi, dite_true]
  exact (h i hi).choose_spec
set_option maxRecDepth 100000 in
theorem open_ints' {fuel : Nat} {v : Value} {x : DataW H × List MemPlace} (h : DataW.trod enc Tryz.prog w 0 (fun _ => true) true fuel 39 [v] = some x) (hz : ∀ n ∈ x.1.weights Tryz.prog 39, n ≤ reachBytes) :
    ∃ la ll lc zs, v = .slice la ll lc ∧ CameI w la ll lc zs := by
  rcases open_slice Tryz.underlying39 h with ⟨hcs, _⟩ | ⟨a', len, cap, m, n, D, Pl, hcs, _, hl, hm, hmm, hx, hcell⟩
  · simp only [List.cons.injEq, and_true] at hcs
    exact ⟨_, _, _, [], hcs, rfl, (fun h => by omega), by omega⟩
  · simp only [List.cons.injEq, and_true] at hcs
    simp only [if_true] at hmm
    subst hmm
    subst hx
    have hreach : m * 8 ≤ 140737488351232 := by
      have := hz ((len + (m - len)) * 8) (by
        simp [DataW.weights, Tryz.underlying39, Tryz.bytesI])
      simp only [reachBytes] at this
      omega
    by_cases h0 : len = 0
    · subst h0
      exact ⟨_, _, _, [], hcs, rfl, (fun h => by omega), by omega⟩
    obtain ⟨cs0, hc0, _⟩ := hcell 0 (by omega)
    rw [Tryz.cellsInt] at hc0
    have hs := (World.cells?_some hc0)
    obtain ⟨b, off, spot⟩ := a'
    have h00 := hs.2.2 0 (by omega)
    rw [List.getElem?_eq_getElem (by omega)] at h00
    have hspot : spot = none := by simpa [Addr.add] using World.cell?_spot h00
    subst hspot
    have hall : ∀ i, i < len → ∃ t : Int, w.cell? ⟨b, off + i, none⟩ = some (.int .i64 t) := by
      intro i hi
      obtain ⟨cs, hc, ht⟩ := hcell i (by omega)
      rw [Tryz.cellsInt] at hc
      obtain ⟨t, rfl, _, _⟩ := DataW.trod_int Tryz.underlying3 ht
      have hcc := (World.cells?_some hc).2.2 0 (by omega)
      have eadd : ((⟨b, off, none⟩ : Addr).add (i * 1)).add 0 = ⟨b, off + i, none⟩ := by
        unfold Addr.add
        split <;> split <;> simp_all
      rw [eadd] at hcc
      exact ⟨t, hcc⟩
    obtain ⟨f, hff⟩ := choose_int len _ hall
    refine ⟨_, _, _, (List.range len).map f, hcs, by simp, (fun _ => ⟨b, off, rfl, fun j hj => ?_⟩), by omega⟩
    rw [hff j hj]
    simp [List.getD_eq_getElem?_getD, hj]
set_option maxRecDepth 100000 in
theorem arg_ints {b0 : Nat} {v : Value} {d : DataW H} {p : List MemPlace} (h : DataW.Trod enc Tryz.prog w 0 (fun _ => true) true 39 v d p) (hv : Value.okWide Tryz.prog w .any b0 39 v) (hz : ∀ n ∈ d.weights Tryz.prog 39, n ≤ reachBytes) :
    ∃ la ll lc zs, v = .slice la ll lc ∧ CameI w la ll lc zs := by
  obtain ⟨a, len, cap, rfl⟩ := okWide_slice Tryz.underlying39 hv
  obtain ⟨fuel, h⟩ := h
  simp only [Value.cells] at h
  exact open_ints' h hz
end
end Go.Proofs.YtcchflfeomainabGreatDoor
