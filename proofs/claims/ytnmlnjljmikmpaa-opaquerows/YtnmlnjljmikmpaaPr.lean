/- Stories one behind the other, each of which reads what is there then: plain data. Deals as they lie in memory when they come in, and how they are read. The document's Leaves, of a story of one's own. OpaqueRows: the stories that the law makes, one behind the other. -/
import Derived.Test.YtnmlnjljmikmpaaOn
import Derived.Test.YtnmlnjljmikmpaaRh
import Derived.OpenShut
import Derived.Test.YtnmlnjljmikmpaaProg
import Derived.Test.YtnmlnjljmikmpaaSa
import Derived.ProofKit
import Derived.Deep.Slices
import Derived.SizedLaws
import Derived.WideKeyPair
import Derived.Test.YtnmlnjljmikmpaaOy
import Derived.Test.YtnmlnjljmikmpaaRi
namespace Go.Proofs.Ytnmlnjljmikmpaa
set_option linter.unusedVariables false
set_option linter.unusedSimpArgs false

def ownAft : (Int → Option Int) → List Mv → (Int → Option Int)
  | own, [] => own
  | own, m :: r => ownAft (if m.wr then ownSet own m.ce m.x else own) r
theorem ownAft_append : ∀ (a b : List Mv) (own : Int → Option Int), ownAft own (a ++ b) = ownAft (ownAft own a) b
  | [], b, own => rfl
  | m :: r, b, own => by simp only [List.cons_append, ownAft]; exact ownAft_append r b _
theorem okMs_append (mem : Mem) : ∀ (a b : List Mv) (own : Int → Option Int), okMs mem own (a ++ b) = (okMs mem own a && okMs mem (ownAft own a) b)
  | [], b, own => by simp [okMs, ownAft]
  | m :: r, b, own => by
    simp only [List.cons_append, okMs, ownAft]
    cases hw : m.wr with
    | true => simp only [if_true]; exact okMs_append mem r b _
    | false => simp only [Bool.false_eq_true, if_false]; rw [okMs_append mem r b own, Bool.and_assoc]
/-- A story that is put together: what was read is there; g is the gate that a read sees. -/
structure Fine (mem : Mem) (g : Int) (ms : List Mv) (own : List Pr) : Prop where
  ok : okMs mem (fun _ => none) ms = true
  ownE : ovP own = ownAft (fun _ => none) ms
  uq : Uq own
  len : own.length ≤ ms.length
  gate : ∀ m ∈ ms, m.out = true → m.ga = g
  rng : ∀ m ∈ ms, -9223372036854775808 ≤ m.ce ∧ m.ce ≤ 9223372036854775807
theorem Fine.nil (mem : Mem) (g : Int) : Fine mem g [] [] := ⟨rfl, rfl, Uq.nil, Nat.le_refl _, by simp, by simp⟩
theorem Fine.write {mem : Mem} {g : Int} {ms : List Mv} {own : List Pr} (h : Fine mem g ms own) (t c x : Int) (hc : -9223372036854775808 ≤ c ∧ c ≤ 9223372036854775807) : Fine mem g (ms ++ [⟨t, true, c, x, false, 0⟩]) (putP own c x) := by
  have hq := uq_put h.uq c x
  refine ⟨?_, ?_, hq.1, ?_, ?_, ?_⟩
  · rw [okMs_append, h.ok]; simp [okMs]
  · rw [hq.2, ownAft_append, h.ownE]; simp [ownAft]
  · have := putP_len own c x
    have := h.len
    simp only [List.length_append, List.length_cons, List.length_nil]
    omega
  · intro m hm ho
    rcases List.mem_append.1 hm with hm | hm
    · exact h.gate m hm ho
    · simp at hm; subst hm; simp [Mv.out] at ho
  · intro m hm
    rcases List.mem_append.1 hm with hm | hm
    · exact h.rng m hm
    · simp at hm; subst hm; exact hc
/-- What a read tells. -/
def seen (mem : Mem) (g : Int) (own : List Pr) (c : Int) : Int × Bool × Int := match ovP own c with | none => (mem c, false, g) | some y => (y, true, 0)
theorem Fine.read {mem : Mem} {g : Int} {ms : List Mv} {own : List Pr} (h : Fine mem g ms own) (t c : Int) (hc : -9223372036854775808 ≤ c ∧ c ≤ 9223372036854775807) : Fine mem g (ms ++ [⟨t, false, c, (seen mem g own c).1, (seen mem g own c).2.1, (seen mem g own c).2.2⟩]) own := by
  refine ⟨?_, ?_, h.uq, ?_, ?_, ?_⟩
  · rw [okMs_append, h.ok, ← h.ownE]
    unfold seen
    cases ho : ovP own c <;> simp [okMs, ho]
  · rw [ownAft_append, h.ownE]; simp [ownAft]
  · have := h.len
    simp only [List.length_append, List.length_cons, List.length_nil]
    omega
  · intro m hm ho
    rcases List.mem_append.1 hm with hm | hm
    · exact h.gate m hm ho
    · simp at hm
      subst hm
      unfold seen at ho ⊢
      cases ho2 : ovP own c with
      | none => rfl
      | some y => rw [ho2] at ho; simp [Mv.out] at ho
  · intro m hm
    rcases List.mem_append.1 hm with hm | hm
    · exact h.rng m hm
    · simp at hm; subst hm; exact hc
theorem point_of {i : Int} {s : Sy} (hop : s.op = 2 * i) (hga : s.ft = 1 → s.ga = 2 * i + 1) (hg : ∀ m ∈ s.ms, m.out = true → m.ga = 2 * i) : (ptOf s).nu = 2 * i ∨ (ptOf s).nu = 2 * i + 1 := by
  unfold ptOf pointM
  simp only
  split
  · rename_i h
    exact .inr (hga h.1)
  · left
    unfold lastM
    cases hl : (s.ms.filter Mv.out).getLast? with
    | none => exact hop
    | some m =>
      have hm := List.mem_of_getLast? hl
      rw [List.mem_filter] at hm
      exact hg m hm.1 hm.2
/-- Stories one behind the other; T is ahead of all that comes. -/
structure Told (mem0 : Mem) (l : List Sy) (T : Int) : Prop where
  reads : readBad mem0 l 0 = none
  pos : 0 < T
  st : ∀ (i : Nat) s, l[i]? = some s → 0 < s.bg ∧ s.bg < s.en ∧ s.en < T ∧ ((ptOf s).nu = 2 * (i : Int) ∨ (ptOf s).nu = 2 * (i : Int) + 1)
  up : ∀ (i j : Nat) s u, i < j → l[i]? = some s → l[j]? = some u → s.en < u.bg
theorem Told.nil (mem0 : Mem) : Told mem0 [] 1 := ⟨rfl, by omega, by simp, by simp⟩
theorem Told.snoc {mem0 : Mem} {l : List Sy} {T T' : Int} {s : Sy} (h : Told mem0 l T) (hok : okS (memB mem0 l) s = true) (h1 : T ≤ s.bg) (h2 : s.bg < s.en) (h3 : s.en < T') (hp : (ptOf s).nu = 2 * (l.length : Int) ∨ (ptOf s).nu = 2 * (l.length : Int) + 1) : Told mem0 (l ++ [s]) T' := by
  have hpos := h.pos
  refine ⟨?_, by omega, ?_, ?_⟩
  · rw [readBad_append, h.reads]
    simp [readBad, hok]
  · intro i u hu
    by_cases hi : i < l.length
    · rw [List.getElem?_append_left hi] at hu
      have := h.st i u hu
      refine ⟨this.1, this.2.1, by omega, this.2.2.2⟩
    · rw [List.getElem?_append_right (by omega)] at hu
      have hil : i = l.length := by
        have := (List.getElem?_eq_some_iff.1 hu).1
        simp at this
        omega
      subst hil
      simp at hu
      subst hu
      exact ⟨by omega, h2, h3, hp⟩
  · intro i j u v hij hu hv
    have hjl := (List.getElem?_eq_some_iff.1 hv).1
    simp at hjl
    rw [List.getElem?_append_left (by omega)] at hu
    by_cases hj : j < l.length
    · rw [List.getElem?_append_left hj] at hv
      exact h.up i j u v hij hu hv
    · rw [List.getElem?_append_right (by omega)] at hv
      have : j - l.length = 0 := by omega
      rw [this] at hv
      simp at hv
      subst hv
      have := (h.st i u hu).2.2.1
      omega
theorem pick_rangeP (s : List Sy) : pick s (asI (List.range s.length)) = s := by
  rw [pick_asI]
  apply List.ext_getElem?
  intro i
  rw [List.getElem?_map]
  by_cases h : i < s.length
  · rw [List.getElem?_range h, Option.map_some, List.getD_eq_getElem?_getD, List.getElem?_eq_getElem h]
    rfl
  · rw [List.getElem?_eq_none (by simpa using h), List.getElem?_eq_none (by omega)]
    rfl
theorem each_range (n : Nat) : eachOnce (asI (List.range n)) n := by
  refine ⟨by simp [asI], fun x hx => ?_, ?_⟩
  · simp only [asI, List.mem_map, List.mem_range] at hx
    obtain ⟨y, hy, rfl⟩ := hx
    omega
  · rw [asI, List.nodup_iff_pairwise_ne, List.pairwise_map]
    exact (List.pairwise_lt_range (n := n)).imp (fun h e => by omega)
theorem late_none : ∀ (l : List Sy) (g : Int) (i : Nat), (∀ s ∈ l, g ≤ s.en) → l.Pairwise (fun s u => s.bg ≤ u.en) → lateAt g l i = none
  | [], _, _, _, _ => rfl
  | s :: r, g, i, h1, h2 => by
    rw [List.pairwise_cons] at h2
    have h0 := h1 s (by simp)
    unfold lateAt
    rw [if_neg (by omega)]
    refine late_none r _ _ (fun u hu => ?_) h2.2
    have a := h1 u (by simp [hu])
    have b := h2.1 u hu
    split <;> omega
theorem pw_of {l : List Sy} {P : Sy → Sy → Prop} (h : ∀ (i j : Nat) s u, i < j → l[i]? = some s → l[j]? = some u → P s u) : l.Pairwise P := by
  rw [List.pairwise_iff_getElem]
  intro i j hi hj hij
  exact h i j _ _ hij (List.getElem?_eq_getElem hi) (List.getElem?_eq_getElem hj)
theorem Told.late {mem0 : Mem} {l : List Sy} {T : Int} (h : Told mem0 l T) : lateAt minI l 0 = none := by
  refine late_none l _ _ (fun s hs => ?_) (pw_of fun i j s u hij hs hu => ?_)
  · obtain ⟨i, hi⟩ := List.getElem?_of_mem hs
    have := h.st i s hi
    unfold minI
    omega
  · have a := h.up i j s u hij hs hu
    have b := h.st i s hs
    have c := h.st j u hu
    omega
theorem Told.chk {start : List Int} {l : List Sy} {T : Int} (h : Told (startM start) l T) : chk start l (asI (List.range l.length)) = (0, 0) := by
  unfold Go.Proofs.Ytnmlnjljmikmpaa.chk
  rw [if_pos (each_range _), pick_rangeP, h.late, h.reads]
theorem Told.srt {mem0 : Mem} {l : List Sy} {T : Int} (h : Told mem0 l T) : Srt (fun i => ptOf (l.getD i Sy.zero)) 0 l.length (List.range l.length) := by
  refine ⟨by rw [Nat.sub_zero, List.range_eq_range'], ?_⟩
  rw [List.pairwise_iff_getElem]
  intro i j hi hj hij
  simp only [List.length_range] at hi hj
  simp only [List.getElem_range]
  have a := (h.st i _ (List.getElem?_eq_getElem hi)).2.2.2
  have b := (h.st j _ (List.getElem?_eq_getElem hj)).2.2.2
  have hlt : (ptOf (l.getD i Sy.zero)).nu < (ptOf (l.getD j Sy.zero)).nu := by
    rw [List.getD_eq_getElem?_getD, List.getD_eq_getElem?_getD, List.getElem?_eq_getElem hi, List.getElem?_eq_getElem hj]
    simp only [Option.getD_some]
    omega
  unfold tlt ltK
  dsimp only
  rw [if_pos (Int.ne_of_lt hlt), decide_eq_true hlt]
  rfl
theorem each_rev (n : Nat) : eachOnce (asI (List.range n).reverse) n := by
  obtain ⟨h1, h2, h3⟩ := each_range n
  have e : asI (List.range n).reverse = (asI (List.range n)).reverse := by simp [asI, List.map_reverse]
  rw [e]
  exact ⟨by simpa using h1, fun x hx => h2 x (by simpa using hx), by rw [List.nodup_iff_pairwise_ne] at h3 ⊢; rw [List.pairwise_reverse]; exact h3.imp (fun h => h.symm)⟩
theorem Told.turned {start : List Int} {l : List Sy} {T : Int} (h : Told (startM start) l T) (h1 : 1 < l.length) : Go.Proofs.Ytnmlnjljmikmpaa.chk start l (asI (List.range l.length).reverse) = (221, 1) := by
  unfold Go.Proofs.Ytnmlnjljmikmpaa.chk
  rw [if_pos (each_rev _)]
  obtain ⟨n, hn⟩ : ∃ n, l.length = n + 2 := ⟨l.length - 2, by omega⟩
  have ha := h.st (n + 1) _ (List.getElem?_eq_getElem (by omega))
  have hb := h.st n _ (List.getElem?_eq_getElem (by omega))
  have hu := h.up n (n + 1) _ _ (by omega) (List.getElem?_eq_getElem (by omega)) (List.getElem?_eq_getElem (by omega))
  have e : pick l (asI (List.range l.length).reverse) = l.getD (n + 1) Sy.zero :: l.getD n Sy.zero :: pick l (asI (List.range n).reverse) := by
    rw [pick_asI, pick_asI, hn, List.range_succ, List.range_succ]
    simp
  have e1 : l.getD (n + 1) Sy.zero = l[n + 1] := by rw [List.getD_eq_getElem?_getD, List.getElem?_eq_getElem (by omega)]; rfl
  have e2 : l.getD n Sy.zero = l[n] := by rw [List.getD_eq_getElem?_getD, List.getElem?_eq_getElem (by omega)]; rfl
  rw [e, e1, e2]
  have hm : minI < 0 := by unfold minI; omega
  have h3 : lateAt minI (l[n + 1] :: l[n] :: pick l (asI (List.range n).reverse)) 0 = some 1 := by
    unfold lateAt
    rw [if_neg (by omega)]
    unfold lateAt
    rw [if_pos]
    refine ⟨by omega, ?_⟩
    rw [if_pos (by omega)]
    exact hu
  rw [h3]
  rfl
/-- One value that was read is another one. -/
theorem okMs_bent {mem : Mem} {own : Int → Option Int} {A B : List Mv} {m m' : Mv} (h : okMs mem own (A ++ m :: B) = true) (hw : m.wr = false) (hw' : m'.wr = false) (hc : m'.ce = m.ce) (hx : m'.x ≠ m.x) : okMs mem own (A ++ m' :: B) = false := by
  rw [okMs_append] at h ⊢
  simp only [okMs, hw, hw', Bool.false_eq_true, if_false, Bool.and_eq_true, beq_iff_eq] at h ⊢
  rw [hc, h.2.1, show (m.x == m'.x) = false by simpa using fun e => hx e.symm]
  simp
theorem Told.bent {start : List Int} {l : List Sy} {T : Int} (h : Told (startM start) l T) {k i : Nat} {s s' : Sy} {m m' : Mv} (hk : l[k]? = some s) (hi : s.ms[i]? = some m) (hms : s'.ms = s.ms.set i m') (hen : s'.en = s.en) (hbg : s'.bg = s.bg) (hw : m.wr = false) (hw' : m'.wr = false) (hc : m'.ce = m.ce) (hx : m'.x ≠ m.x) :
    Go.Proofs.Ytnmlnjljmikmpaa.chk start (l.set k s') (asI (List.range l.length)) = (222, (k : Int)) := by
  have hkl := (List.getElem?_eq_some_iff.1 hk).1
  have hil := (List.getElem?_eq_some_iff.1 hi).1
  unfold Go.Proofs.Ytnmlnjljmikmpaa.chk
  have hlen : (l.set k s').length = l.length := by simp
  rw [if_pos (by rw [hlen]; exact each_range _), ← hlen, pick_rangeP]
  have hst : ∀ (j : Nat) u, (l.set k s')[j]? = some u → ∃ v, l[j]? = some v ∧ u.en = v.en ∧ u.bg = v.bg := by
    intro j u hu
    by_cases hj : k = j
    · subst hj
      rw [List.getElem?_set_self hkl] at hu
      cases hu
      exact ⟨s, hk, hen, hbg⟩
    · rw [List.getElem?_set_ne hj] at hu
      exact ⟨u, hu, rfl, rfl⟩
  have hlate : lateAt minI (l.set k s') 0 = none := by
    refine late_none _ _ _ (fun u hu => ?_) (pw_of fun a b u v hab hu hv => ?_)
    · obtain ⟨j, hj⟩ := List.getElem?_of_mem hu
      obtain ⟨v, hv, e1, e2⟩ := hst j u hj
      have := h.st j v hv
      unfold minI
      omega
    · obtain ⟨u', hu', e1, e2⟩ := hst a u hu
      obtain ⟨v', hv', e3, e4⟩ := hst b v hv
      have := h.up a b u' v' hab hu' hv'
      have := h.st a u' hu'
      have := h.st b v' hv'
      omega
  rw [hlate]
  have hsplit : l = l.take k ++ s :: l.drop (k + 1) := by
    rw [← (List.getElem?_eq_some_iff.1 hk).2, ← List.drop_eq_getElem_cons hkl, List.take_append_drop]
  have hsplit' : l.set k s' = l.take k ++ s' :: l.drop (k + 1) := by
    rw [List.set_eq_take_append_cons_drop, if_pos hkl]
  have hr := h.reads
  rw [hsplit, readBad_append] at hr
  have hbad : readBad (startM start) (l.set k s') 0 = some k := by
    rw [hsplit', readBad_append]
    split at hr
    · cases hr
    · rename_i h0
      try rw [h0]
      simp only [readBad] at hr ⊢
      split at hr
      · rename_i hok
        have hno : okS (memB (startM start) (l.take k)) s' = false := by
          unfold okS at hok ⊢
          have e1 : s.ms = s.ms.take i ++ m :: s.ms.drop (i + 1) := by rw [← (List.getElem?_eq_some_iff.1 hi).2, ← List.drop_eq_getElem_cons hil, List.take_append_drop]
          have e2 : s'.ms = s.ms.take i ++ m' :: s.ms.drop (i + 1) := by rw [hms, List.set_eq_take_append_cons_drop, if_pos hil]
          rw [e1] at hok
          rw [e2]
          exact okMs_bent hok hw hw' hc hx
        rw [hno]
        simp
        omega
      · cases hr
  rw [hbad]
theorem wrap_back (b : BitVec 64) : BitVec.ofInt 64 (IntKind.i64.wrap b.toNat) = b := by
  apply BitVec.eq_of_toNat_eq
  have hb := b.isLt
  generalize b.toNat = n at *
  simp [IntKind.wrap, IntKind.signed, IntKind.bits]
  split <;> omega
theorem xor_ne (x : Int) : bits .xor .i64 x 1 ≠ x := by
  intro h
  have e : BitVec.ofInt 64 (bits .xor .i64 x 1) = BitVec.ofInt 64 x ^^^ BitVec.ofInt 64 1 := wrap_back _
  rw [h] at e
  have e2 : BitVec.ofInt 64 1 = 0#64 := by
    have := congrArg (fun y => BitVec.ofInt 64 x ^^^ y) e
    simp only [← BitVec.xor_assoc, BitVec.xor_self, BitVec.zero_xor] at this
    exact this.symm
  exact absurd e2 (by decide)
end Go.Proofs.Ytnmlnjljmikmpaa

namespace Go.Proofs.Ytnmlnjljmikmpaa
open Go.RowKit Go.ChangeShapes Go.WideShapes Go.Deep
set_option linter.unusedVariables false
set_option linter.unusedSimpArgs false
section
variable {H : Type} {enc : TypeId × Value → H} {w : World}
theorem Try.cells_cells : Try.prog.cellsOf 24 = 1 := by kernel_rfl
theorem Try.bytes_cells : Try.prog.bytesOf 3 = 8 := by kernel_rfl
theorem Try.cell_cells : Try.prog.cellsOf 3 = 1 := by kernel_rfl
set_option maxRecDepth 100000 in
theorem open_cells {fuel : Nat} {v : Value} {x : DataW H × List MemPlace} (h : DataW.trod enc Try.prog w 0 (fun _ => true) true fuel 24 [v] = some x) (hz : ∀ n ∈ x.1.weights Try.prog 24, n ≤ reachBytes) :
    ∃ la ll lc zs, v = .slice la ll lc ∧ RIn iC w la ll zs ∧ (ll ≤ lc ∧ lc * 8 ≤ 140737488351232 ∧ (la = none → ll = 0 ∧ lc = 0)) := by
  rcases open_ints Try.underlying24 Try.underlying3 Try.cell_cells h with ⟨hcs, _⟩ | ⟨a', len, cap, zs, hcs, _, hl, hm, hzl, hx, hcell, _⟩
  · simp only [List.cons.injEq, and_true] at hcs
    exact ⟨_, _, _, [], hcs, RIn.nil _ _, by omega, by omega, fun _ => ⟨rfl, rfl⟩⟩
  · simp only [List.cons.injEq, and_true] at hcs
    simp only [if_true] at hzl
    have hr : cap * 8 ≤ 140737488351232 := by
      have := hz ((zs.take len).length * 8 + (zs.drop len).length * 8) (by
        rw [hx]
        simp [DataW.weights, Try.underlying24, Try.bytes_cells, lits, Nat.add_mul])
      simp only [List.length_take, List.length_drop, reachBytes] at this
      omega
    have hlen : len = (zs.take len).length := by simp; omega
    refine ⟨_, _, _, zs.take len, hcs, ⟨hlen, fun h0 => ?_⟩, hl, hr, fun e => by cases e⟩
    obtain ⟨g, o, spot⟩ := a'
    have h00 := hcell 0 (by omega)
    have hsp : spot = none := by
      have := World.cell?_spot (by simpa using h00)
      simpa [Addr.add] using this
    subst hsp
    refine ⟨g, o, rfl, fun j u hj => ?_⟩
    have hjl := (List.getElem?_eq_some_iff.1 hj).1
    rw [fl_length (k := 1) (fun _ => rfl), Nat.mul_one] at hjl
    have hj2 : j < len := by omega
    have e2 := fl_at (f := iC) (k := 1) (fun _ => rfl) (zs.take len) j 0 _ (by omega) (List.getElem?_eq_getElem hjl)
    rw [Nat.mul_one, Nat.add_zero] at e2
    rw [e2] at hj
    have := hcell j (by omega)
    rw [Addr.add_lit] at this
    rw [this, ← hj]
    simp only [iC, List.getElem?_cons_zero]
    have hjz : j < zs.length := by rw [hzl]; omega
    simp [hjz]
theorem Try.cells_vals : Try.prog.cellsOf 28 = 1 := by kernel_rfl
theorem Try.bytes_vals : Try.prog.bytesOf 2 = 8 := by kernel_rfl
theorem Try.cell_vals : Try.prog.cellsOf 2 = 1 := by kernel_rfl
set_option maxRecDepth 100000 in
theorem open_vals {fuel : Nat} {v : Value} {x : DataW H × List MemPlace} (h : DataW.trod enc Try.prog w 0 (fun _ => true) true fuel 28 [v] = some x) (hz : ∀ n ∈ x.1.weights Try.prog 28, n ≤ reachBytes) :
    ∃ la ll lc zs, v = .slice la ll lc ∧ RIn iC w la ll zs ∧ (ll ≤ lc ∧ lc * 8 ≤ 140737488351232 ∧ (la = none → ll = 0 ∧ lc = 0)) := by
  rcases open_ints Try.underlying28 Try.underlying2 Try.cell_vals h with ⟨hcs, _⟩ | ⟨a', len, cap, zs, hcs, _, hl, hm, hzl, hx, hcell, _⟩
  · simp only [List.cons.injEq, and_true] at hcs
    exact ⟨_, _, _, [], hcs, RIn.nil _ _, by omega, by omega, fun _ => ⟨rfl, rfl⟩⟩
  · simp only [List.cons.injEq, and_true] at hcs
    simp only [if_true] at hzl
    have hr : cap * 8 ≤ 140737488351232 := by
      have := hz ((zs.take len).length * 8 + (zs.drop len).length * 8) (by
        rw [hx]
        simp [DataW.weights, Try.underlying28, Try.bytes_vals, lits, Nat.add_mul])
      simp only [List.length_take, List.length_drop, reachBytes] at this
      omega
    have hlen : len = (zs.take len).length := by simp; omega
    refine ⟨_, _, _, zs.take len, hcs, ⟨hlen, fun h0 => ?_⟩, hl, hr, fun e => by cases e⟩
    obtain ⟨g, o, spot⟩ := a'
    have h00 := hcell 0 (by omega)
    have hsp : spot = none := by
      have := World.cell?_spot (by simpa using h00)
      simpa [Addr.add] using this
    subst hsp
    refine ⟨g, o, rfl, fun j u hj => ?_⟩
    have hjl := (List.getElem?_eq_some_iff.1 hj).1
    rw [fl_length (k := 1) (fun _ => rfl), Nat.mul_one] at hjl
    have hj2 : j < len := by omega
    have e2 := fl_at (f := iC) (k := 1) (fun _ => rfl) (zs.take len) j 0 _ (by omega) (List.getElem?_eq_getElem hjl)
    rw [Nat.mul_one, Nat.add_zero] at e2
    rw [e2] at hj
    have := hcell j (by omega)
    rw [Addr.add_lit] at this
    rw [this, ← hj]
    simp only [iC, List.getElem?_cons_zero]
    have hjz : j < zs.length := by rw [hzl]; omega
    simp [hjz]
end
/-- One of them. -/
structure DiD where
  la_cs : Option Addr
  ll_cs : Nat
  lc_cs : Nat
  zs_cs : List Int
  la_vs : Option Addr
  ll_vs : Nat
  lc_vs : Nat
  zs_vs : List Int
  ft : Int
structure DiAt (w : World) (b off : Nat) (o : DiD) : Prop where
  c0 : w.cell? ⟨b, off, none⟩ = some (.slice o.la_cs o.ll_cs o.lc_cs)
  c1 : w.cell? ⟨b, off + 1, none⟩ = some (.slice o.la_vs o.ll_vs o.lc_vs)
  c2 : w.cell? ⟨b, off + 2, none⟩ = some (.int .i64 o.ft)
  list_cs : RIn iC w o.la_cs o.ll_cs o.zs_cs
  reach_cs : o.ll_cs ≤ o.lc_cs ∧ o.lc_cs * 8 ≤ 140737488351232 ∧ (o.la_cs = none → o.ll_cs = 0 ∧ o.lc_cs = 0)
  list_vs : RIn iC w o.la_vs o.ll_vs o.zs_vs
  reach_vs : o.ll_vs ≤ o.lc_vs ∧ o.lc_vs * 8 ≤ 140737488351232 ∧ (o.la_vs = none → o.ll_vs = 0 ∧ o.lc_vs = 0)
/-- A list of them that came in. -/
def DisAt (w : World) (a : Option Addr) (len : Nat) (f : Nat → DiD) : Prop :=
  len = 0 ∨ ∃ b off, a = some ⟨b, off, none⟩ ∧ ∀ i, i < len → DiAt w b (off + i * 3) (f i)
theorem DiAt.kept {w w' : World} {b off : Nat} {o : DiD} (h : DiAt w b off o) (k : Kept (fun _ => False) w w') : DiAt w' b off o := by
  have hb : b < w.heap.size := World.block_lt_of_cell? w _ h.c0
  have e : ∀ j, w'.cell? ⟨b, j, none⟩ = w.cell? ⟨b, j, none⟩ := fun j => World.cell?_of_block (k.block b hb (fun f => f))
  exact ⟨(e _).trans h.c0, (e _).trans h.c1, (e _).trans h.c2, h.list_cs.kept k, h.reach_cs, h.list_vs.kept k, h.reach_vs⟩
def DiD.zero : DiD := ⟨none, 0, 0, [], none, 0, 0, [], 0⟩
section
variable {H : Type} {enc : TypeId × Value → H} {w : World}
theorem Try.cells_Di : Try.prog.cellsOf 82 = 3 := by kernel_rfl
theorem Try.bytes_Di : Try.prog.bytesOf 82 = 56 := by kernel_rfl
set_option maxRecDepth 100000 in
theorem open_Di {fuel : Nat} {cs : List Value} {x : DataW H × List MemPlace} (h : DataW.trod enc Try.prog w 0 (fun _ => true) true fuel 82 cs = some x) (hz : ∀ n ∈ x.1.weights Try.prog 82, n ≤ reachBytes) :
    ∃ o : DiD, cs = [.slice o.la_cs o.ll_cs o.lc_cs, .slice o.la_vs o.ll_vs o.lc_vs, .int .i64 o.ft] ∧ RIn iC w o.la_cs o.ll_cs o.zs_cs ∧ (o.ll_cs ≤ o.lc_cs ∧ o.lc_cs * 8 ≤ 140737488351232 ∧ (o.la_cs = none → o.ll_cs = 0 ∧ o.lc_cs = 0)) ∧ RIn iC w o.la_vs o.ll_vs o.zs_vs ∧ (o.ll_vs ≤ o.lc_vs ∧ o.lc_vs * 8 ≤ 140737488351232 ∧ (o.la_vs = none → o.ll_vs = 0 ∧ o.lc_vs = 0)) := by
  obtain ⟨xs, n, _, rfl, hl, hlen, hf⟩ := DataW.trod_struct Try.underlying82 h
  rw [Try.cells_Di] at hl
  match cs, hl with
  | [v0, v1, v2], _ =>
    match xs, hlen with
    | [y0, y1, y2], _ =>
      have g0 := hf 0 _ rfl
      have g1 := hf 1 _ rfl
      have g2 := hf 2 _ rfl
      simp [Try.cells_int, Try.cells_cells, Try.cells_vals] at g0 g1 g2
      obtain ⟨la0, ll0, lc0, zs0, rfl, hL0, hR0⟩ := open_cells g0 (fun n hn => hz n (by
        simp only [DataW.weights, Try.underlying82]
        simp [DataW.weightsEach, hn]))
      obtain ⟨la1, ll1, lc1, zs1, rfl, hL1, hR1⟩ := open_vals g1 (fun n hn => hz n (by
        simp only [DataW.weights, Try.underlying82]
        simp [DataW.weightsEach, hn]))
      obtain ⟨b2, e2, _, _⟩ := DataW.trod_int Try.underlying3 g2
      simp only [List.cons.injEq, and_true] at e2
      subst e2
      exact ⟨⟨la0, ll0, lc0, zs0, la1, ll1, lc1, zs1, b2⟩, rfl, hL0, hR0, hL1, hR1⟩
set_option maxRecDepth 100000 in
theorem open_Dis {a : Option Addr} {len cap : Nat} {d : DataW H} {pl : List MemPlace} (h : DataW.Trod enc Try.prog w 0 (fun _ => true) true 40 (.slice a len cap) d pl) (hz : ∀ n ∈ d.weights Try.prog 40, n ≤ reachBytes) :
    ∃ f : Nat → DiD, DisAt w a len f ∧ len * 56 ≤ 140737488351232 := by
  obtain ⟨fuel, hf⟩ := h
  by_cases h0 : len = 0
  · exact ⟨fun _ => .zero, .inl h0, by omega⟩
  rcases open_slice Try.underlying40 hf with ⟨hcs, _⟩ | ⟨a', len', cap', m, n, D, Pl, hcs, _, hl, hm, hmm, hx, hcell⟩
  · simp [Value.cells] at hcs
    omega
  · simp [Value.cells] at hcs
    obtain ⟨rfl, rfl, rfl⟩ := hcs
    simp only [if_true] at hmm
    subst hmm
    simp only [Prod.mk.injEq] at hx
    obtain ⟨hd, _⟩ := hx
    have hmem : ∀ i, i < len → ∀ k ∈ (D i).weights Try.prog 82, k ≤ reachBytes := by
      intro i hi k hk
      refine hz k ?_
      rw [hd]
      simp only [DataW.weights, Try.underlying40, List.mem_cons, List.mem_append]
      exact .inr (.inl (mem_weightsAll (List.mem_map.2 ⟨i, by simpa using hi, rfl⟩) hk))
    have hreach : len * 56 ≤ 140737488351232 := by
      have := hz ((len + (m - len)) * 56) (by
        rw [hd]
        simp [DataW.weights, Try.underlying40, Try.bytes_Di])
      simp only [reachBytes] at this
      omega
    obtain ⟨cs0, hc0, _⟩ := hcell 0 (by omega)
    rw [Try.cells_Di] at hc0
    have hs := (World.cells?_some hc0)
    obtain ⟨b, off, spot⟩ := a'
    have h00 := hs.2.2 0 (by omega)
    rw [List.getElem?_eq_getElem (by omega)] at h00
    have hspot : spot = none := by simpa [Addr.add] using World.cell?_spot h00
    subst hspot
    have hall : ∀ i, i < len → ∃ o : DiD, DiAt w b (off + i * 3) o := by
      intro i hi
      obtain ⟨cs, hc, ht⟩ := hcell i (by omega)
      rw [Try.cells_Di] at hc
      obtain ⟨o, rfl, hL0, hR0, hL1, hR1⟩ := open_Di ht (hmem i hi)
      have hcc := (World.cells?_some hc).2.2
      have eadd : ∀ j, ((⟨b, off, none⟩ : Addr).add (i * 3)).add j = ⟨b, off + i * 3 + j, none⟩ := by
        intro j
        unfold Addr.add
        split <;> split <;> simp_all
      have c0 := hcc 0 (by omega)
      have c1 := hcc 1 (by omega)
      have c2 := hcc 2 (by omega)
      rw [eadd] at c0 c1 c2
      exact ⟨o, c0, c1, c2, hL0, hR0, hL1, hR1⟩
    obtain ⟨f, hff⟩ := @choose_lt DiD ⟨.zero⟩ len (fun i o => DiAt w b (off + i * 3) o) hall
    exact ⟨f, .inr ⟨b, off, rfl, hff⟩, hreach⟩
set_option maxRecDepth 100000 in
theorem arg_Dis {b0 : Nat} {v : Value} {d : DataW H} {pl : List MemPlace} (h : DataW.Trod enc Try.prog w 0 (fun _ => true) true 40 v d pl) (hv : Value.okWide Try.prog w .any b0 40 v) (hz : ∀ n ∈ d.weights Try.prog 40, n ≤ reachBytes) :
    ∃ la ll lc f, v = .slice la ll lc ∧ DisAt w la ll f ∧ ll * 56 ≤ 140737488351232 := by
  obtain ⟨a, len, cap, rfl⟩ := okWide_slice Try.underlying40 hv
  obtain ⟨f, h1, h2⟩ := open_Dis h hz
  exact ⟨a, len, cap, f, rfl, h1, h2⟩
end
end Go.Proofs.Ytnmlnjljmikmpaa

namespace Go.Proofs.Ytnmlnjljmikmpaa
open Go.RowKit Go.Shelf
set_option linter.unusedVariables false
set_option linter.unusedSimpArgs false
attribute [local go_sem ↓] Go.wp_at_zero Go.wp_at_succ

set_option maxRecDepth 100000 in
set_option maxHeartbeats 4000000 in
theorem rLeavesW_any {o w : World} {R : List It} {ps : List Pr} {g : Nat} {st v : Value} {m : Sm} (h : St o (lstR pC 86 2 v ps :: boxI g #[st, v] 73 :: R) w) (hm : SIn w m) (hn : ps.length + (wrM m.s.ms).length < 2932031007317) :
    Calls Try.prog 35 #[.pointer (some ⟨g, 0, none⟩), syV m] w fun e w' => ∃ v', e = .returned (.tuple #[]) ∧ St o (lstR pC 86 2 v' (putL ps (leavesL m.s)) :: boxI g #[st, v'] 73 :: R) w' := by
  have HW := hid (fun W (k : Kept (fun _ => False) w W) => rWrites_any (w := W) m (hm.kept k))
  have HPUT := hid (fun W (v : Value) (ps' : List Pr) (S : List It) (c x : Int) (hs : St o (lstR pC 86 2 v ps' :: boxI g #[st, v] 73 :: S) W) (hl : ps'.length < 2932031007317) => rPut_any (o := o) (w := W) (R := S) hs c x hl)
  obtain ⟨⟨z0, z1, z2, z3, z4, z5, z6, z7, z8, ms⟩, la, lc⟩ := m
  unfold syV at *
  simp only at *
  have HN := hid hn
  have s1 := h.box #[.int .i64 z0, .int .i64 z1, .int .i64 z2, .int .i64 z3, .int .i64 z4, .int .i64 z5, .int .i64 z6, .int .i64 z7, .int .i64 z8, .slice la ms.length lc] 44
  generalize hw1 : w.alloc (.cells #[.int .i64 z0, .int .i64 z1, .int .i64 z2, .int .i64 z3, .int .i64 z4, .int .i64 z5, .int .i64 z6, .int .i64 z7, .int .i64 z8, .slice la ms.length lc] 44) = w1 at *
  generalize hE : w.heap.size = E at *
  have HK1 : Hid (Kept (fun _ => False) w w1) := hid (by rw [← hw1]; exact kept_alloc _ _)
  have HS1 := hid s1
  have c4 := s1.cell 0 rfl 4
  clear h hm hn s1
  by_cases h1 : z4 = 1
  · subst h1
    have t1 : ((1 : Int) != 1) = false := rfl
    have c0 := HS1.out.cell 0 rfl 0
    have c1 := HS1.out.cell 0 rfl 1
    have c2 := HS1.out.cell 0 rfl 2
    have c3 := HS1.out.cell 0 rfl 3
    have c5 := HS1.out.cell 0 rfl 5
    have c6 := HS1.out.cell 0 rfl 6
    have c7 := HS1.out.cell 0 rfl 7
    have c8 := HS1.out.cell 0 rfl 8
    have c9 := HS1.out.cell 0 rfl 9
    have hW := HW.out _ HK1.out
    go_enter Try.func35, Try.ntmps35
    go_upto_region 4 with (first | simp only [hw1, hE] | (go_at_call 52; refine hW.mono ?_; rintro e w2 ⟨vw, rfl, hs2⟩; obtain ⟨wa, wc, rfl⟩ := r_form hs2 0 rfl rfl (fun _ => rfl); have HS2 := hid (St.over HS1.out hs2); clear hs2))
    clear hW HW c0 c1 c2 c3 c4 c5 c6 c7 c8 c9 HS1
    have HQ : Hid (leavesL ⟨z0, z1, z2, z3, 1, z5, z6, z7, z8, ms⟩ = wrM ms) := hid (by unfold leavesL; rw [if_pos rfl])
    generalize hqs : wrM ms = qs at *
    have hql : (qs.length : Int) ≤ 2932031007317 := by have := HN.out; omega
    go_loopw [5] (fun i wr => ∃ (j : Nat) (v' : Value), i = .int .i64 j ∧ j ≤ qs.length ∧ St o (lstR pC 86 2 v' (putL ps (qs.take j)) :: boxI g #[st, v'] 73 :: lstR pC 86 2 (.slice wa qs.length wc) qs :: boxI E #[.int .i64 z0, .int .i64 z1, .int .i64 z2, .int .i64 z3, .int .i64 1, .int .i64 z5, .int .i64 z6, .int .i64 z7, .int .i64 z8, .slice la ms.length lc] 44 :: R) wr) (fun i _ => qs.length - (intOf i).toNat)
    case atStart => exact ⟨0, v, rfl, Nat.zero_le _, HS2.out.perm ((List.perm_append_comm (l₁ := [_, _]) (l₂ := [_, _])).append_right R)⟩
    case round =>
      clear HS2
      obtain ⟨j, v', rfl, hj, hst⟩ := hrel
      by_cases hlt : j < qs.length
      · have hlt' : (j : Int) < (qs.length : Int) := by omega
        have hj0 : (0 : Int) ≤ (j : Int) := by omega
        have HJ : Hid (j + 1 ≤ qs.length ∧ qs.length - (j + 1) < qs.length - j) := hid ⟨by omega, by omega⟩
        obtain ⟨⟨pc, px⟩, hp⟩ : ∃ p, qs[j]? = some p := ⟨_, List.getElem?_eq_getElem hlt⟩
        obtain ⟨g3, cap, hv⟩ := hst.form 2 rfl (by omega)
        simp only [Value.slice.injEq, true_and] at hv
        obtain ⟨rfl, rfl⟩ := hv
        have hsd := hst.drew
        have r := st_rin (f := pC) hsd 2 rfl rfl (fun _ => rfl)
        have q0 := r.at (k := 2) (fun _ => rfl) hp 0 _ rfl
        have q1 := r.at (k := 2) (fun _ => rfl) hp 1 _ rfl
        rw [Nat.add_zero, Nat.zero_add] at q0
        rw [Nat.zero_add] at q1
        have hP := HPUT.out wr.drew v' (putL ps (qs.take j)) _ pc px hsd (by have := putL_len (qs.take j) ps; rw [List.length_take] at this; have := HN.out; omega)
        have HNX := hid (putL_next (ps := ps) hp)
        clear r hp hj hlt hst hsd
        go_upto_region 6 with fail
        go_region_with (go_at_call 40; refine hP.mono ?_; rintro e w5 ⟨v5, rfl, hs5⟩; have HS5 := hid hs5; clear hs5)
        all_goals
          go_wp2
          go_roundw
        all_goals first
          | exact ⟨j + 1, v5, by simp, HJ.out.1, by rw [HNX.out]; exact HS5.out⟩
          | (have := HJ.out.2; simp [intOf]; omega)
      · have hlt' : ¬ (j : Int) < (qs.length : Int) := by omega
        have e : qs.take j = qs := List.take_of_length_le (by omega)
        rw [e] at hst
        have HF := hid (hst.perm ((List.perm_append_comm (l₁ := [_, _]) (l₂ := [_, _])).append_right R)).pop.pop
        clear hst e hlt hj HPUT
        go_wp2
        go_end0
        exact ⟨rfl, _, by rw [HQ.out]; exact HF.out⟩
  · have t1 : (z4 != 1) = true := by simpa using h1
    have HE : Hid (leavesL ⟨z0, z1, z2, z3, z4, z5, z6, z7, z8, ms⟩ = []) := hid (by unfold leavesL; rw [if_neg h1])
    have HF := hid ((HS1.out.pop))
    clear h1 HW HPUT HS1
    go_enter Try.func35, Try.ntmps35
    go_wp2_with (simp only [hw1, hE])
    refine bodyPost_ret (v := .tuple #[]) ?_ rfl ⟨_, rfl, by rw [HE.out]; exact HF.out⟩
    simp [results, Try.f35, go_sem]
end Go.Proofs.Ytnmlnjljmikmpaa

namespace Go.Proofs.Ytnmlnjljmikmpaa
open Go.RowKit Go.Shelf
set_option linter.unusedVariables false
set_option linter.unusedSimpArgs false
attribute [local go_sem ↓] Go.wp_at_zero Go.wp_at_succ

theorem buildSvP (W : World) (s0 s1 s2 s3 s4 s5 s6 s7 s8 : Int) (la : Option Addr) (n lc : Nat) : (Instr.buildSlice 23 1 #[(0, .agg #[.int .i64 s0, .int .i64 s1, .int .i64 s2, .int .i64 s3, .int .i64 s4, .int .i64 s5, .int .i64 s6, .int .i64 s7, .int .i64 s8, .slice la n lc])]).run Try.prog W = .ok (.slice (some ⟨W.heap.size, 0, none⟩) 1 1) (W.alloc (.cells #[.int .i64 s0, .int .i64 s1, .int .i64 s2, .int .i64 s3, .int .i64 s4, .int .i64 s5, .int .i64 s6, .int .i64 s7, .int .i64 s8, .slice la n lc] 44)) := by kernel_rfl
/-- The rows of their moves, the last one first. -/
def rowsI (Ls : List Sm) : List It := Ls.reverse.map fun m => lstR mC 46 6 (.slice m.la m.s.ms.length m.lc) m.s.ms
theorem rowsI_snoc (Ls : List Sm) (m : Sm) : rowsI (Ls ++ [m]) = lstR mC 46 6 (.slice m.la m.s.ms.length m.lc) m.s.ms :: rowsI Ls := by simp [rowsI]
def Small (ms : List Mv) : Prop := ms.length ≤ 8 ∧ ∀ m ∈ ms, -9223372036854775808 ≤ m.ce ∧ m.ce ≤ 9223372036854775807
/-- What is so of them when i of them are made. -/
structure RowK (start : List Int) (Ls : List Sm) (T : Int) (i : Nat) (ps : List Pr) : Prop where
  told : Told (startM start) (smS Ls) T
  len : Ls.length = i
  hi : T ≤ 1 + 11 * (i : Int)
  few : ps.length ≤ 8 * i
  uq : Uq ps
  mem : memO start (ovP ps) = memB (startM start) (smS Ls)
  small : ∀ m ∈ Ls, Small m.s.ms
theorem RowK.nil (start : List Int) : RowK start [] 1 0 [] := ⟨Told.nil _, rfl, by omega, by simp, Uq.nil, rfl, by simp⟩
theorem RowK.snoc {start : List Int} {Ls : List Sm} {T : Int} {i : Nat} {ps own : List Pr} {ms : List Mv} {k : Nat} {th ft e ga : Int} {la : Option Addr} {lc : Nat} (h : RowK start Ls T i ps) (hf : Fine (memO start (ovP ps)) (2 * (i : Int)) ms own) (hk : ms.length = k) (hk8 : k ≤ 8) (hga : ft = 1 → ga = 2 * (i : Int) + 1) :
    RowK start (Ls ++ [⟨⟨th, T, T, T + k + 1, ft, e, 0, 2 * i, ga, ms⟩, la, lc⟩]) (T + k + 1 + 1) (i + 1) (putL ps (leavesL ⟨th, T, T, T + k + 1, ft, e, 0, 2 * i, ga, ms⟩)) := by
  have hq := uq_putL (leavesL ⟨th, T, T, T + k + 1, ft, e, 0, 2 * i, ga, ms⟩) ps h.uq
  have hl : (smS Ls).length = i := by rw [smS, List.length_map, h.len]
  refine ⟨?_, by rw [List.length_append, h.len]; rfl, by have := h.hi; omega, ?_, hq.1, ?_, ?_⟩
  · rw [show smS (Ls ++ [(⟨⟨th, T, T, T + k + 1, ft, e, 0, 2 * i, ga, ms⟩, la, lc⟩ : Sm)]) = smS Ls ++ [⟨th, T, T, T + k + 1, ft, e, 0, 2 * i, ga, ms⟩] by simp [smS]]
    refine h.told.snoc ?_ (Int.le_refl _) (by dsimp only; omega) (by dsimp only; omega) ?_
    · rw [← h.mem]; exact hf.ok
    · rw [hl]; exact point_of rfl hga hf.gate
  · have h1 := putL_len (leavesL ⟨th, T, T, T + k + 1, ft, e, 0, 2 * i, ga, ms⟩) ps
    have h2 := leavesL_len' ⟨th, T, T, T + k + 1, ft, e, 0, 2 * i, ga, ms⟩
    have h3 := wrM_len ms
    have h4 := h.few
    simp only at h2
    omega
  · rw [hq.2 start, h.mem, show smS (Ls ++ [(⟨⟨th, T, T, T + k + 1, ft, e, 0, 2 * i, ga, ms⟩, la, lc⟩ : Sm)]) = smS Ls ++ [⟨th, T, T, T + k + 1, ft, e, 0, 2 * i, ga, ms⟩] by simp [smS], memB_append]
    rfl
  · intro m hm
    rcases List.mem_append.1 hm with hm | hm
    · exact h.small m hm
    · simp at hm
      subst hm
      exact ⟨by dsimp only; omega, hf.rng⟩
theorem seen_here {mem : Mem} {g c y : Int} {own : List Pr} {j : Nat} (hu : Uq own) (h : own[j]? = some (c, y)) : seen mem g (own.take (j + 1)) c = (y, true, 0) := by
  unfold seen
  rw [ovP_here hu h]
theorem seen_past {mem : Mem} {g c : Int} {own : List Pr} {j : Nat} {p : Pr} (h : own[j]? = some p) (hc : p.1 ≠ c) : seen mem g (own.take (j + 1)) c = seen mem g (own.take j) c := by
  unfold seen
  rw [ovP_past h hc]

set_option maxRecDepth 100000 in
set_option maxHeartbeats 16000000 in
theorem row_any {w : World} {sa da : Option Addr} {sn sc dn dc : Nat} {start : List Int} {f : Nat → DiD} (hs : RIn iC w sa sn start) (hd : DisAt w da dn f) (hn : dn ≤ 200) (hsn : (sn : Int) ≤ 9223372036854775806) :
    Calls Try.prog 18 #[.slice sa sn sc, .slice da dn dc] w fun e w' => ∃ v Ls T ps, e = .returned v ∧ RowK start Ls T dn ps ∧ St w (lstR sC 44 10 v Ls :: rowsI Ls) w' := by
  have s1 := (St.nil w).box #[.slice sa sn sc, .slice none 0 0] 73
  generalize hw1 : w.alloc (.cells #[.slice sa sn sc, .slice none 0 0] 73) = w1 at *
  generalize hM : w.heap.size = M at *
  have HS1 : Hid (St w [lstR pC 86 2 (.slice none 0 0) [], boxI M #[.slice sa sn sc, .slice none 0 0] 73, lstR sC 44 10 (.slice none 0 0) []] w1) := hid (r_nil pC 86 2 ((r_nil sC 44 10 s1).perm (List.Perm.swap _ _ _)))
  have HS := hid hs
  have HD := hid hd
  have hn1 : (dn : Int) ≤ 200 := by omega
  clear s1 hs hd
  go_enter Try.func18, Try.ntmps18
  go_upto_region 5 with (simp only [hw1, hM])
  clear hw1 hM
  go_loopw [5, 7, 8] (fun o t iv wr => ∃ (i : Nat) (T : Int) (ps : List Pr) (v : Value) (Ls : List Sm), iv = .int .i64 i ∧ t = .int .i64 T ∧ i ≤ dn ∧ RowK start Ls T i ps ∧ St w (lstR pC 86 2 v ps :: boxI M #[.slice sa sn sc, v] 73 :: lstR sC 44 10 o Ls :: rowsI Ls) wr) (fun _ _ iv _ => dn - (intOf iv).toNat)
  case atStart => exact ⟨0, 1, [], _, [], rfl, rfl, Nat.zero_le _, RowK.nil start, HS1.out⟩
  case round =>
    clear HS1
    obtain ⟨i, T, ps, v, Ls, rfl, rfl, hi, hrk, hst⟩ := hrel
    by_cases hlt : i < dn
    · have hlt' : (i : Int) < (dn : Int) := by omega
      have hi0 : (0 : Int) ≤ (i : Int) := by omega
      have hT0 : 0 < T := hrk.told.pos
      have hT1 : T ≤ 2201 := by have := hrk.hi; omega
      obtain ⟨b, off, rfl, hda⟩ : ∃ b off, da = some ⟨b, off, none⟩ ∧ ∀ i, i < dn → DiAt w b (off + i * 3) (f i) := by
        rcases HD.out with h | h
        · omega
        · exact h
      have hdi := hda i hlt
      have hdk := hdi.kept hst.same
      generalize f i = d at *
      obtain ⟨ca, ck, cc, cz, va, vk, vc, vz, ft⟩ := d
      have c0 := hdk.c0
      have c1 := hdk.c1
      have c2 := hdk.c2
      simp only at c0 c1 c2
      have s1 := hst.box #[.slice ca ck cc, .slice va vk vc, .int .i64 ft] 82
      generalize hw4 : wr.alloc (.cells #[.slice ca ck cc, .slice va vk vc, .int .i64 ft] 82) = w4 at *
      generalize hDD : wr.heap.size = D at *
      have HDK := hid hdi
      have HRK := hid hrk
      have HI : Hid (i + 1 ≤ dn ∧ dn - (i + 1) < dn - i) := hid ⟨by omega, by omega⟩
      have hi2 : (i : Int) ≤ 200 := by omega
      have HA1 := hid s1
      clear s1 hst hdi hdk hda hrk hlt hi
      go_upto_region 8 with fail
      clear c0 c1 c2 hw4 hDD
      go_upto_region 9 with fail
      have s2 := HA1.out.box #[.int .i64 (bits .and .i64 i 7), .int .i64 T, .int .i64 T, .int .i64 0, .int .i64 1, .int .i64 0, .int .i64 0, .int .i64 (2 * i), .int .i64 0, .slice none 0 0] 44
      clear HA1
      generalize w4.alloc (.cells #[.int .i64 (bits .and .i64 i 7), .int .i64 T, .int .i64 T, .int .i64 0, .int .i64 1, .int .i64 0, .int .i64 0, .int .i64 (2 * i), .int .i64 0, .slice none 0 0] 44) = w5 at *
      generalize w4.heap.size = S at *
      have HS2 := hid s2
      clear s2
      go_upto_region 10 with fail
      have s3 := HS2.out.box #[.slice none 0 0, .slice none 0 0] 73
      clear HS2
      generalize w5.alloc (.cells #[.slice none 0 0, .slice none 0 0] 73) = w6 at *
      generalize w5.heap.size = O at *
      have HS3 := hid s3
      clear s3
      go_upto_region 11 with fail
      generalize bits .and .i64 i 7 = th at *
      go_loopw [7, 12] (fun t kv wr => ∃ (k : Nat) (own : List Pr) (ms : List Mv) (vo vm : Value), kv = .int .i64 k ∧ t = .int .i64 (T + k) ∧ k ≤ 8 ∧ ms.length = k ∧ Fine (memO start (ovP ps)) (2 * i) ms own ∧ St w (lstR mC 46 6 vm ms :: lstR pC 86 2 vo own :: boxI O #[.slice none 0 0, vo] 73 :: boxI S #[.int .i64 th, .int .i64 T, .int .i64 T, .int .i64 0, .int .i64 1, .int .i64 0, .int .i64 0, .int .i64 (2 * i), .int .i64 0, vm] 44 :: boxI D #[.slice ca ck cc, .slice va vk vc, .int .i64 ft] 82 :: lstR pC 86 2 v ps :: boxI M #[.slice sa sn sc, v] 73 :: lstR sC 44 10 u5 Ls :: rowsI Ls) wr) (fun _ kv _ => 8 - (intOf kv).toNat)
      case atStart => exact ⟨0, [], [], _, _, rfl, by simp, by omega, rfl, Fine.nil _ _, r_nil mC 46 6 (r_nil pC 86 2 HS3.out)⟩
      case round =>
        clear HS3
        obtain ⟨k, own, ms, vo, vm, rfl, rfl, hk, hml, hf, hst⟩ := hrel
        have d0 := hst.cell 4 rfl 0
        have d1 := hst.cell 4 rfl 1
        have hk0 : (0 : Int) ≤ (k : Int) := by omega
        by_cases hkc : k < ck ∧ k < 8
        · have hkc1 : (k : Int) < (ck : Int) := by omega
          have hk8 : (k : Int) < 8 := by omega
          obtain ⟨g1, o1, rfl⟩ := HDK.out.list_cs.addr (show 0 < ck by omega)
          obtain ⟨z, hz⟩ : ∃ z, cz[k]? = some z := ⟨_, List.getElem?_eq_getElem (by have := (show ck = cz.length from HDK.out.list_cs.1); omega)⟩
          have zc0 := (HDK.out.list_cs.kept hst.same).at (k := 1) (fun _ => rfl) hz 0 _ rfl
          rw [Nat.mul_one, Nat.add_zero] at zc0
          have HZC : Hid (∀ W, Kept (fun _ => False) w W → W.cell? ⟨g1, o1 + k, none⟩ = some (.int .i64 z)) := hid (fun W kk => by
            have := (HDK.out.list_cs.kept kk).at (k := 1) (fun _ => rfl) hz 0 _ rfl
            rw [Nat.mul_one, Nat.add_zero] at this
            exact this)
          obtain ⟨ma, mc, rfl⟩ := r_form hst 0 rfl rfl (fun _ => rfl)
          have HK : Hid (k < 8) := hid hkc.2
          have HML := hid hml
          have HFI := hid hf
          have HZ : Hid ((ms.length + 1) * 48 ≤ 140737488355328) := hid (by omega)
          have hc := wf_i64r (wf_bits .and .i64 z 7)
          have HC := hid hc
          have HSK := hid hst
          clear hst hz hkc hml hf hc hk
          go_upto_region 15 with fail
          generalize bits .and .i64 z 7 = c at *
          clear zc0 d0 d1
          go_upto_region 16 with fail
          have s4 := HSK.out.box #[.int .i64 (T + k + 1), .bool false, .int .i64 c, .int .i64 0, .bool false, .int .i64 0] 46
          clear HSK
          generalize wr.alloc (.cells #[.int .i64 (T + k + 1), .bool false, .int .i64 c, .int .i64 0, .bool false, .int .i64 0] 46) = w7 at *
          generalize wr.heap.size = X at *
          have HS4 := hid (s4.perm (List.Perm.swap _ _ _))
          clear s4
          have d0 := HS4.out.cell 5 rfl 0
          have d1 := HS4.out.cell 5 rfl 1
          have zc0 := HZC.out w7 HS4.out.same
          by_cases hw : 0 < bits .and .i64 z 8 ∧ k < vk
          · have t1 : decide (0 < bits .and .i64 z 8) = true := by simpa using hw.1
            have t2 : decide ((k : Int) < (vk : Int)) = true := by simp; omega
            have t2n : decide (k < vk) = true := by simp; omega
            obtain ⟨g2, o2, rfl⟩ := HDK.out.list_vs.addr (show 0 < vk by omega)
            obtain ⟨y, hy⟩ : ∃ y, vz[k]? = some y := ⟨_, List.getElem?_eq_getElem (by have := (show vk = vz.length from HDK.out.list_vs.1); omega)⟩
            have hkv : (k : Int) < (vk : Int) := by omega
            have HYC : Hid (∀ W, Kept (fun _ => False) w W → W.cell? ⟨g2, o2 + k, none⟩ = some (.int .i64 y)) := hid (fun W kk => by
              have := (HDK.out.list_vs.kept kk).at (k := 1) (fun _ => rfl) hy 0 _ rfl
              rw [Nat.mul_one, Nat.add_zero] at this
              exact this)
            clear hy hw
            go_upto_region 17 with fail
            clear t1 t2 t2n d0 zc0
            have x1 := HS4.out.cell 1 rfl 1
            have f1 := HS4.out.frozen 1 rfl 1
            have h17 := HS4.out.write 1 rfl 1 (.bool true)
            go_upto_region 18 with fail
            clear x1 f1 d1
            generalize w7.setCell ⟨X, 1, none⟩ (.bool true) = w8 at *
            have h17' : St w (lstR mC 46 6 (.slice ma ms.length mc) ms :: boxI X #[.int .i64 (T + k + 1), .bool true, .int .i64 c, .int .i64 0, .bool false, .int .i64 0] 46 :: lstR pC 86 2 vo own :: boxI O #[.slice none 0 0, vo] 73 :: boxI S #[.int .i64 th, .int .i64 T, .int .i64 T, .int .i64 0, .int .i64 1, .int .i64 0, .int .i64 0, .int .i64 (2 * i), .int .i64 0, .slice ma ms.length mc] 44 :: boxI D #[.slice (some ⟨g1, o1, none⟩) ck cc, .slice (some ⟨g2, o2, none⟩) vk vc, .int .i64 ft] 82 :: lstR pC 86 2 v ps :: boxI M #[.slice sa sn sc, v] 73 :: lstR sC 44 10 u5 Ls :: rowsI Ls) w8 := h17
            have d1 := h17'.cell 5 rfl 1
            have y0 := HYC.out w8 h17'.same
            have x3 := h17'.cell 1 rfl 3
            have f3 := h17'.frozen 1 rfl 3
            have h18 := h17'.write 1 rfl 3 (.int .i64 y)
            clear h17 h17' HS4
            go_upto_region 19 with fail
            clear d1 y0 x3 f3
            generalize w8.setCell ⟨X, 3, none⟩ (.int .i64 y) = w9 at *
            have h18' : St w (lstR pC 86 2 vo own :: boxI O #[.slice none 0 0, vo] 73 :: lstR mC 46 6 (.slice ma ms.length mc) ms :: boxI X #[.int .i64 (T + k + 1), .bool true, .int .i64 c, .int .i64 y, .bool false, .int .i64 0] 46 :: boxI S #[.int .i64 th, .int .i64 T, .int .i64 T, .int .i64 0, .int .i64 1, .int .i64 0, .int .i64 0, .int .i64 (2 * i), .int .i64 0, .slice ma ms.length mc] 44 :: boxI D #[.slice (some ⟨g1, o1, none⟩) ck cc, .slice (some ⟨g2, o2, none⟩) vk vc, .int .i64 ft] 82 :: lstR pC 86 2 v ps :: boxI M #[.slice sa sn sc, v] 73 :: lstR sC 44 10 u5 Ls :: rowsI Ls) w9 := St.move (l := [_, _, _, _]) (T := _) h18 4 rfl [2, 3, 0, 1] (by decide)
            have x3 := h18'.cell 3 rfl 3
            have hP := rPut_any h18' c y (by have := HFI.out.len; have := HML.out; have := HK.out; omega)
            clear h18 h18'
            go_upto_region 29 with (go_at_call 40; refine hP.mono ?_; rintro e wF ⟨vo', rfl, hs9⟩; have HXF : Hid (St w (lstR mC 46 6 (.slice ma ms.length mc) ms :: boxI X #[.int .i64 (T + k + 1), .bool true, .int .i64 c, .int .i64 y, .bool false, .int .i64 0] 46 :: lstR pC 86 2 vo' (putP own c y) :: boxI O #[.slice none 0 0, vo'] 73 :: boxI S #[.int .i64 th, .int .i64 T, .int .i64 T, .int .i64 0, .int .i64 1, .int .i64 0, .int .i64 0, .int .i64 (2 * i), .int .i64 0, .slice ma ms.length mc] 44 :: boxI D #[.slice (some ⟨g1, o1, none⟩) ck cc, .slice (some ⟨g2, o2, none⟩) vk vc, .int .i64 ft] 82 :: lstR pC 86 2 v ps :: boxI M #[.slice sa sn sc, v] 73 :: lstR sC 44 10 u5 Ls :: rowsI Ls) wF) := hid (St.move (l := [_, _, _, _]) (T := _) hs9 4 rfl [2, 3, 0, 1] (by decide)); clear hs9)
            clear hP x3
            have HFN := hid (HFI.out.write (T + k + 1) c y HC.out)
            have hX := HXF.out
            have c9 := hX.cell 4 rfl 9
            have x0 := hX.cell 1 rfl 0
            have x1 := hX.cell 1 rfl 1
            have x2 := hX.cell 1 rfl 2
            have x3 := hX.cell 1 rfl 3
            have x4 := hX.cell 1 rfl 4
            have x5 := hX.cell 1 rfl 5
            have HBX := hid (r_box (f := mC) (k := 6) (fun _ => rfl) 46 hX (⟨T + k + 1, true, c, y, false, 0⟩ : Mv) #[.int .i64 (T + k + 1), .bool true, .int .i64 c, .int .i64 y, .bool false, .int .i64 0] rfl)
            have HSX := hid (hX.calm (kept_alloc wF (.cells #[.int .i64 (T + k + 1), .bool true, .int .i64 c, .int .i64 y, .bool false, .int .i64 0] 46)))
            have hbs := buildM wF (T + k + 1) c y 0 true false
            clear hX
            go_upto_region 12 with (first | simp only [hbs] | (at_builtin; refine wpList_appR Try.rowM HSX.out rfl _ _ rfl rfl _ 1 1 rfl HBX.out (by simp) HZ.out ?_; intro v6 w6 s6; have hl6 : (ms ++ [(⟨T + k + 1, true, c, y, false, 0⟩ : Mv)]).length = ms.length + 1 := (by simp); obtain ⟨na, nc, rfl⟩ := r_form s6 0 rfl rfl (fun _ => rfl); simp only [hl6] at s6; (try simp only [hl6]); have e9 := s6.cell 4 rfl 9; have f9 := s6.frozen 4 rfl 9; have HS6 : Hid (St w (lstR mC 46 6 (.slice na (ms.length + 1) nc) (ms ++ [⟨T + k + 1, true, c, y, false, 0⟩]) :: boxI X #[.int .i64 (T + k + 1), .bool true, .int .i64 c, .int .i64 y, .bool false, .int .i64 0] 46 :: lstR pC 86 2 vo' (putP own c y) :: boxI O #[.slice none 0 0, vo'] 73 :: boxI S #[.int .i64 th, .int .i64 T, .int .i64 T, .int .i64 0, .int .i64 1, .int .i64 0, .int .i64 0, .int .i64 (2 * i), .int .i64 0, .slice na (ms.length + 1) nc] 44 :: boxI D #[.slice (some ⟨g1, o1, none⟩) ck cc, .slice (some ⟨g2, o2, none⟩) vk vc, .int .i64 ft] 82 :: lstR pC 86 2 v ps :: boxI M #[.slice sa sn sc, v] 73 :: lstR sC 44 10 u5 Ls :: rowsI Ls) (w6.setCell ⟨S, 9, none⟩ (.slice na (ms.length + 1) nc))) := hid (s6.write 4 rfl 9 (.slice na (ms.length + 1) nc)); clear s6))
            clear HBX HSX hbs c9 x0 x1 x2 x3 x4 x5 e9 f9
            go_wp2
            go_roundw
            case rel => exact ⟨k + 1, (putP own c y), ms ++ [⟨T + k + 1, true, c, y, false, 0⟩], vo', _, by simp, by simp; omega, by have := HK.out; omega, by simp [HML.out], HFN.out, (HS6.out.perm (List.Perm.swap _ _ _)).pop⟩
            case measure => have := HK.out; simp [intOf]; omega
          · obtain ⟨pa, pc, rfl⟩ := r_form HS4.out 6 rfl rfl (fun _ => rfl)
            obtain ⟨oa, oc, rfl⟩ := r_form HS4.out 2 rfl rfl (fun _ => rfl)
            have hh : decide (0 < bits .and .i64 z 8) = false ∨ (decide (0 < bits .and .i64 z 8) = true ∧ decide ((k : Int) < (vk : Int)) = false ∧ decide (k < vk) = false) := by
              by_cases h8 : 0 < bits .and .i64 z 8
              · exact .inr ⟨by simpa using h8, by simp; omega, by simp; omega⟩
              · exact .inl (by simpa using h8)
            have hol : (own.length : Int) ≤ 8 := by have := HFI.out.len; have := HML.out; have := HK.out; omega
            have hG := rGet_any (HS.out.kept HS4.out.same) (st_rin (f := pC) HS4.out 6 rfl rfl (fun _ => rfl)) HRK.out.uq (HS4.out.cell 7 rfl 0) (HS4.out.cell 7 rfl 1) c (by omega) (by have := HRK.out.few; omega)
            clear hw
            rcases hh with t1 | ⟨t1, t2, t2n⟩
            all_goals
              go_upto_region 20 with fail
              clear d0 d1 zc0
              go_upto_region 21 with (go_at_call 41; refine hG.mono ?_; rintro e w8 ⟨rfl, hk8⟩; have h8 := HS4.out.calm hk8; have x3 := h8.cell 1 rfl 3; have f3 := h8.frozen 1 rfl 3; have H20 : Hid (St w (lstR mC 46 6 (.slice ma ms.length mc) ms :: boxI X #[.int .i64 (T + k + 1), .bool false, .int .i64 c, .int .i64 ((memO start (ovP ps)) c), .bool false, .int .i64 0] 46 :: lstR pC 86 2 (.slice oa own.length oc) own :: boxI O #[.slice none 0 0, (.slice oa own.length oc)] 73 :: boxI S #[.int .i64 th, .int .i64 T, .int .i64 T, .int .i64 0, .int .i64 1, .int .i64 0, .int .i64 0, .int .i64 (2 * i), .int .i64 0, .slice ma ms.length mc] 44 :: boxI D #[.slice (some ⟨g1, o1, none⟩) ck cc, .slice va vk vc, .int .i64 ft] 82 :: lstR pC 86 2 (.slice pa ps.length pc) ps :: boxI M #[.slice sa sn sc, .slice pa ps.length pc] 73 :: lstR sC 44 10 u5 Ls :: rowsI Ls) (w8.setCell ⟨X, 3, none⟩ (.int .i64 (memO start (ovP ps) c)))) := hid (h8.write 1 rfl 3 (.int .i64 (memO start (ovP ps) c))); clear h8 hk8)
              clear hG x3 f3 HS4
              generalize w8.setCell ⟨X, 3, none⟩ (.int .i64 (memO start (ovP ps) c)) = w9 at *
              have x5 := H20.out.cell 1 rfl 5
              have f5 := H20.out.frozen 1 rfl 5
              have H21 : Hid (St w (lstR mC 46 6 (.slice ma ms.length mc) ms :: boxI X #[.int .i64 (T + k + 1), .bool false, .int .i64 c, .int .i64 ((memO start (ovP ps)) c), .bool false, .int .i64 (2 * i)] 46 :: lstR pC 86 2 (.slice oa own.length oc) own :: boxI O #[.slice none 0 0, (.slice oa own.length oc)] 73 :: boxI S #[.int .i64 th, .int .i64 T, .int .i64 T, .int .i64 0, .int .i64 1, .int .i64 0, .int .i64 0, .int .i64 (2 * i), .int .i64 0, .slice ma ms.length mc] 44 :: boxI D #[.slice (some ⟨g1, o1, none⟩) ck cc, .slice va vk vc, .int .i64 ft] 82 :: lstR pC 86 2 (.slice pa ps.length pc) ps :: boxI M #[.slice sa sn sc, .slice pa ps.length pc] 73 :: lstR sC 44 10 u5 Ls :: rowsI Ls) (w9.setCell ⟨X, 5, none⟩ (.int .i64 (2 * i)))) := hid (H20.out.write 1 rfl 5 (.int .i64 (2 * i)))
              go_upto_region 23 with fail
              clear x5 f5 H20
              generalize w9.setCell ⟨X, 5, none⟩ (.int .i64 (2 * i)) = wA at *
              go_loopw [15] (fun jv wr => ∃ j : Nat, jv = .int .i64 j ∧ j ≤ own.length ∧ St w (lstR mC 46 6 (.slice ma ms.length mc) ms :: boxI X #[.int .i64 (T + k + 1), .bool false, .int .i64 c, .int .i64 (seen (memO start (ovP ps)) (2 * i) (own.take j) c).1, .bool ((seen (memO start (ovP ps)) (2 * i) (own.take j) c).2.1), .int .i64 ((seen (memO start (ovP ps)) (2 * i) (own.take j) c).2.2)] 46 :: lstR pC 86 2 (.slice oa own.length oc) own :: boxI O #[.slice none 0 0, (.slice oa own.length oc)] 73 :: boxI S #[.int .i64 th, .int .i64 T, .int .i64 T, .int .i64 0, .int .i64 1, .int .i64 0, .int .i64 0, .int .i64 (2 * i), .int .i64 0, .slice ma ms.length mc] 44 :: boxI D #[.slice (some ⟨g1, o1, none⟩) ck cc, .slice va vk vc, .int .i64 ft] 82 :: lstR pC 86 2 (.slice pa ps.length pc) ps :: boxI M #[.slice sa sn sc, .slice pa ps.length pc] 73 :: lstR sC 44 10 u5 Ls :: rowsI Ls) wr) (fun jv _ => own.length - (intOf jv).toNat)
              case atStart => exact ⟨0, rfl, Nat.zero_le _, H21.out⟩
              case round =>
                clear H21
                obtain ⟨j, rfl, hj, hst⟩ := hrel
                have o1c := hst.cell 3 rfl 1
                have hj0 : (0 : Int) ≤ (j : Int) := by omega
                by_cases hjl : j < own.length
                · have hjl' : (j : Int) < (own.length : Int) := by omega
                  have tj : decide (j < own.length) = true := by simpa using hjl
                  obtain ⟨⟨qc, qx⟩, hq⟩ : ∃ q, own[j]? = some q := ⟨_, List.getElem?_eq_getElem hjl⟩
                  have rr := st_rin (f := pC) hst 2 rfl rfl (fun _ => rfl)
                  obtain ⟨g3, o3, rfl⟩ := rr.addr (by omega)
                  have q0 := rr.at (k := 2) (fun _ => rfl) hq 0 _ rfl
                  have q1 := rr.at (k := 2) (fun _ => rfl) hq 1 _ rfl
                  rw [Nat.add_zero] at q0
                  have HJ : Hid (j + 1 ≤ own.length ∧ own.length - (j + 1) < own.length - j) := hid ⟨by omega, by omega⟩
                  by_cases hqc : qc = c
                  · have t3 : (qc == c) = true := by simpa using hqc
                    have HQ := hid (seen_here (mem := memO start (ovP ps)) (g := 2 * i) HFI.out.uq (show own[j]? = some (c, qx) by rw [← hqc]; exact hq))
                    have x3 := hst.cell 1 rfl 3
                    have f3 := hst.frozen 1 rfl 3
                    have h26 := hst.write 1 rfl 3 (.int .i64 qx)
                    clear hq rr hqc hst hj hjl
                    go_upto_region 27 with fail
                    clear q0 q1 x3 f3 o1c t3
                    generalize wr.setCell ⟨X, 3, none⟩ (.int .i64 qx) = wB at *
                    have x4 := h26.cell 1 rfl 4
                    have f4 := h26.frozen 1 rfl 4
                    have h27 := h26.write 1 rfl 4 (.bool true)
                    clear h26
                    go_upto_region 28 with fail
                    clear x4 f4
                    generalize wB.setCell ⟨X, 4, none⟩ (.bool true) = wC at *
                    have x5 := h27.cell 1 rfl 5
                    have f5 := h27.frozen 1 rfl 5
                    have H28 := hid (h27.write 1 rfl 5 (.int .i64 0))
                    clear h27
                    go_wp2
                    go_roundw
                    case rel => exact ⟨j + 1, by simp, HJ.out.1, by rw [HQ.out]; exact H28.out⟩
                    case measure => have := HJ.out.2; simp [intOf]; omega
                  · have t3 : (qc == c) = false := by simpa using hqc
                    have HQ := hid (seen_past (mem := memO start (ovP ps)) (g := 2 * i) hq hqc)
                    have HST := hid hst
                    clear hq rr hqc hst hj hjl
                    go_wp2
                    go_roundw
                    case rel => exact ⟨j + 1, by simp, HJ.out.1, by rw [HQ.out]; exact HST.out⟩
                    case measure => have := HJ.out.2; simp [intOf]; omega
                · have hjl' : ¬ (j : Int) < (own.length : Int) := by omega
                  have tj : decide (j < own.length) = false := by simpa using hjl
                  have e : own.take j = own := List.take_of_length_le (by omega)
                  rw [e] at hst
                  have hfn := HFI.out.read (T + k + 1) c HC.out
                  generalize seen (memO start (ovP ps)) (2 * i) own c = tr at *
                  obtain ⟨sx, sw, sg⟩ := tr
                  simp only at hfn hst
                  have HFN := hid hfn
                  have HXF := hid hst
                  clear hfn hst e hjl hj
                  go_upto_region 29 with fail
                  clear o1c
                  have hX := HXF.out
                  have c9 := hX.cell 4 rfl 9
                  have x0 := hX.cell 1 rfl 0
                  have x1 := hX.cell 1 rfl 1
                  have x2 := hX.cell 1 rfl 2
                  have x3 := hX.cell 1 rfl 3
                  have x4 := hX.cell 1 rfl 4
                  have x5 := hX.cell 1 rfl 5
                  have HBX := hid (r_box (f := mC) (k := 6) (fun _ => rfl) 46 hX (⟨T + k + 1, false, c, sx, sw, sg⟩ : Mv) #[.int .i64 (T + k + 1), .bool false, .int .i64 c, .int .i64 sx, .bool sw, .int .i64 sg] rfl)
                  have HSX := hid (hX.calm (kept_alloc wr (.cells #[.int .i64 (T + k + 1), .bool false, .int .i64 c, .int .i64 sx, .bool sw, .int .i64 sg] 46)))
                  have hbs := buildM wr (T + k + 1) c sx sg false sw
                  clear hX
                  go_upto_region 12 with (first | simp only [hbs] | (at_builtin; refine wpList_appR Try.rowM HSX.out rfl _ _ rfl rfl _ 1 1 rfl HBX.out (by simp) HZ.out ?_; intro v6 w6 s6; have hl6 : (ms ++ [(⟨T + k + 1, false, c, sx, sw, sg⟩ : Mv)]).length = ms.length + 1 := (by simp); obtain ⟨na, nc, rfl⟩ := r_form s6 0 rfl rfl (fun _ => rfl); simp only [hl6] at s6; (try simp only [hl6]); have e9 := s6.cell 4 rfl 9; have f9 := s6.frozen 4 rfl 9; have HS6 : Hid (St w (lstR mC 46 6 (.slice na (ms.length + 1) nc) (ms ++ [⟨T + k + 1, false, c, sx, sw, sg⟩]) :: boxI X #[.int .i64 (T + k + 1), .bool false, .int .i64 c, .int .i64 sx, .bool sw, .int .i64 sg] 46 :: lstR pC 86 2 (.slice oa own.length oc) own :: boxI O #[.slice none 0 0, (.slice oa own.length oc)] 73 :: boxI S #[.int .i64 th, .int .i64 T, .int .i64 T, .int .i64 0, .int .i64 1, .int .i64 0, .int .i64 0, .int .i64 (2 * i), .int .i64 0, .slice na (ms.length + 1) nc] 44 :: boxI D #[.slice (some ⟨g1, o1, none⟩) ck cc, .slice va vk vc, .int .i64 ft] 82 :: lstR pC 86 2 (.slice pa ps.length pc) ps :: boxI M #[.slice sa sn sc, .slice pa ps.length pc] 73 :: lstR sC 44 10 u5 Ls :: rowsI Ls) (w6.setCell ⟨S, 9, none⟩ (.slice na (ms.length + 1) nc))) := hid (s6.write 4 rfl 9 (.slice na (ms.length + 1) nc)); clear s6))
                  clear HBX HSX hbs c9 x0 x1 x2 x3 x4 x5 e9 f9
                  go_wp2
                  go_roundw
                  case rel => exact ⟨k + 1, own, ms ++ [⟨T + k + 1, false, c, sx, sw, sg⟩], (.slice oa own.length oc), _, by simp, by simp; omega, by have := HK.out; omega, by simp [HML.out], HFN.out, (HS6.out.perm (List.Perm.swap _ _ _)).pop⟩
                  case measure => have := HK.out; simp [intOf]; omega
        · have hh : decide ((k : Int) < (ck : Int)) = false ∧ decide (k < ck) = false ∨ (decide ((k : Int) < (ck : Int)) = true ∧ decide (k < ck) = true ∧ decide ((k : Int) < 8) = false ∧ decide (k < 8) = false) := by
            by_cases h1 : k < ck
            · exact .inr ⟨by simp; omega, by simp; omega, by simp; omega, by simp; omega⟩
            · exact .inl ⟨by simp; omega, by simp; omega⟩
          obtain ⟨ma, mc, rfl⟩ := r_form hst 0 rfl rfl (fun _ => rfl)
          have HK : Hid (k ≤ 8) := hid hk
          have HML := hid hml
          have HFI := hid hf
          have hk8 : (k : Int) ≤ 8 := by omega
          have x3 := hst.cell 3 rfl 3
          have f3 := hst.frozen 3 rfl 3
          have H31 : Hid (St w (lstR mC 46 6 (.slice ma ms.length mc) ms :: lstR pC 86 2 vo own :: boxI O #[.slice none 0 0, vo] 73 :: boxI S #[.int .i64 th, .int .i64 T, .int .i64 T, .int .i64 (T + k + 1), .int .i64 1, .int .i64 0, .int .i64 0, .int .i64 (2 * i), .int .i64 0, .slice ma ms.length mc] 44 :: boxI D #[.slice ca ck cc, .slice va vk vc, .int .i64 ft] 82 :: lstR pC 86 2 v ps :: boxI M #[.slice sa sn sc, v] 73 :: lstR sC 44 10 u5 Ls :: rowsI Ls) (wr.setCell ⟨S, 3, none⟩ (.int .i64 (T + k + 1)))) := hid (hst.write 3 rfl 3 (.int .i64 (T + k + 1)))
          clear hst hkc hml hf hk
          rcases hh with ⟨t1, t1n⟩ | ⟨t1, t1n, t2, t2n⟩
          all_goals
            go_upto_region 32 with fail
            clear x3 f3 d0 d1
            generalize wr.setCell ⟨S, 3, none⟩ (.int .i64 (T + k + 1)) = wB at *
            have x8 := H31.out.cell 3 rfl 8
            have f8 := H31.out.frozen 3 rfl 8
            have H32 : Hid (St w (lstR mC 46 6 (.slice ma ms.length mc) ms :: lstR pC 86 2 vo own :: boxI O #[.slice none 0 0, vo] 73 :: boxI S #[.int .i64 th, .int .i64 T, .int .i64 T, .int .i64 (T + k + 1), .int .i64 1, .int .i64 0, .int .i64 0, .int .i64 (2 * i), .int .i64 (2 * i + 1), .slice ma ms.length mc] 44 :: boxI D #[.slice ca ck cc, .slice va vk vc, .int .i64 ft] 82 :: lstR pC 86 2 v ps :: boxI M #[.slice sa sn sc, v] 73 :: lstR sC 44 10 u5 Ls :: rowsI Ls) (wB.setCell ⟨S, 8, none⟩ (.int .i64 (2 * i + 1)))) := hid (H31.out.write 3 rfl 8 (.int .i64 (2 * i + 1)))
            clear H31
            go_upto_region 33 with fail
            clear x8 f8
            generalize wB.setCell ⟨S, 8, none⟩ (.int .i64 (2 * i + 1)) = wX at *
            have d2 := H32.out.cell 4 rfl 2
            by_cases hft : 0 < bits .and .i64 ft 1
            · have t3 : decide (0 < bits .and .i64 ft 1) = true := by simpa using hft
              clear hft
              go_upto_region 34 with fail
              clear d2 t3
              have x4 := H32.out.cell 3 rfl 4
              have f4 := H32.out.frozen 3 rfl 4
              have H34 : Hid (St w (lstR mC 46 6 (.slice ma ms.length mc) ms :: lstR pC 86 2 vo own :: boxI O #[.slice none 0 0, vo] 73 :: boxI S #[.int .i64 th, .int .i64 T, .int .i64 T, .int .i64 (T + k + 1), .int .i64 2, .int .i64 0, .int .i64 0, .int .i64 (2 * i), .int .i64 (2 * i + 1), .slice ma ms.length mc] 44 :: boxI D #[.slice ca ck cc, .slice va vk vc, .int .i64 ft] 82 :: lstR pC 86 2 v ps :: boxI M #[.slice sa sn sc, v] 73 :: lstR sC 44 10 u5 Ls :: rowsI Ls) (wX.setCell ⟨S, 4, none⟩ (.int .i64 2))) := hid (H32.out.write 3 rfl 4 (.int .i64 2))
              clear H32
              go_upto_region 35 with fail
              clear x4 f4
              generalize wX.setCell ⟨S, 4, none⟩ (.int .i64 2) = wD at *
              have x5 := H34.out.cell 3 rfl 5
              have f5 := H34.out.frozen 3 rfl 5
              have H35 : Hid (St w (lstR mC 46 6 (.slice ma ms.length mc) ms :: lstR pC 86 2 vo own :: boxI O #[.slice none 0 0, vo] 73 :: boxI S #[.int .i64 th, .int .i64 T, .int .i64 T, .int .i64 (T + k + 1), .int .i64 2, .int .i64 7, .int .i64 0, .int .i64 (2 * i), .int .i64 (2 * i + 1), .slice ma ms.length mc] 44 :: boxI D #[.slice ca ck cc, .slice va vk vc, .int .i64 ft] 82 :: lstR pC 86 2 v ps :: boxI M #[.slice sa sn sc, v] 73 :: lstR sC 44 10 u5 Ls :: rowsI Ls) (wD.setCell ⟨S, 5, none⟩ (.int .i64 7))) := hid (H34.out.write 3 rfl 5 (.int .i64 7))
              clear H34
              go_upto_region 36 with fail
              clear x5 f5
              generalize wD.setCell ⟨S, 5, none⟩ (.int .i64 7) = wE at *
              have x8 := H35.out.cell 3 rfl 8
              have f8 := H35.out.frozen 3 rfl 8
              have HE : Hid (St w (lstR mC 46 6 (.slice ma ms.length mc) ms :: lstR pC 86 2 vo own :: boxI O #[.slice none 0 0, vo] 73 :: boxI S #[.int .i64 th, .int .i64 T, .int .i64 T, .int .i64 (T + k + 1), .int .i64 2, .int .i64 7, .int .i64 0, .int .i64 (2 * i), .int .i64 0, .slice ma ms.length mc] 44 :: boxI D #[.slice ca ck cc, .slice va vk vc, .int .i64 ft] 82 :: lstR pC 86 2 v ps :: boxI M #[.slice sa sn sc, v] 73 :: lstR sC 44 10 u5 Ls :: rowsI Ls) (wE.setCell ⟨S, 8, none⟩ (.int .i64 0))) := hid (H35.out.write 3 rfl 8 (.int .i64 0))
              clear H35
              go_upto_region 37 with fail
              clear x8 f8
              generalize wE.setCell ⟨S, 8, none⟩ (.int .i64 0) = wX at *
              have hX := HE.out
              have a0 := hX.cell 3 rfl 0
              have a1 := hX.cell 3 rfl 1
              have a2 := hX.cell 3 rfl 2
              have a3 := hX.cell 3 rfl 3
              have a4 := hX.cell 3 rfl 4
              have a5 := hX.cell 3 rfl 5
              have a6 := hX.cell 3 rfl 6
              have a7 := hX.cell 3 rfl 7
              have a8 := hX.cell 3 rfl 8
              have a9 := hX.cell 3 rfl 9
              have hm : SIn wX (⟨⟨th, T, T, T + k + 1, 2, 7, 0, 2 * i, 0, ms⟩, ma, mc⟩ : Sm) := ⟨st_rin hX 0 rfl rfl (fun _ => rfl), by have := HML.out; have := HK.out; dsimp only; omega, HFI.out.rng⟩
              have hmv : St w (lstR pC 86 2 v ps :: boxI M #[.slice sa sn sc, v] 73 :: lstR mC 46 6 (.slice ma ms.length mc) ms :: lstR pC 86 2 vo own :: boxI O #[.slice none 0 0, vo] 73 :: boxI S #[.int .i64 th, .int .i64 T, .int .i64 T, .int .i64 (T + k + 1), .int .i64 2, .int .i64 7, .int .i64 0, .int .i64 (2 * i), .int .i64 0, .slice ma ms.length mc] 44 :: boxI D #[.slice ca ck cc, .slice va vk vc, .int .i64 ft] 82 :: lstR sC 44 10 u5 Ls :: rowsI Ls) wX := St.move (l := [_, _, _, _, _, _, _]) (T := _) hX 7 rfl [5, 6, 0, 1, 2, 3, 4] (by decide)
              have hLv := rLeavesW_any hmv hm (by have := wrM_len ms; have := HML.out; have := HK.out; have := HRK.out.few; dsimp only; omega)
              have HRN := hid (HRK.out.snoc (th := th) (ft := 2) (e := 7) (ga := 0) (la := ma) (lc := mc) HFI.out HML.out HK.out (by intro h; first | rfl | (exact absurd h (by decide))))
              clear hX hmv hm
              unfold syV at hLv
              simp only at hLv
              generalize putL ps (leavesL ⟨th, T, T, T + k + 1, 2, 7, 0, 2 * i, 0, ms⟩) = ps2 at *
              go_upto_region 38 with (go_at_call 35; refine hLv.mono ?_; rintro e' wY ⟨v2, rfl, hs2⟩; have HY : Hid (St w (lstR sC 44 10 u5 Ls :: lstR pC 86 2 v2 ps2 :: boxI M #[.slice sa sn sc, v2] 73 :: lstR mC 46 6 (.slice ma ms.length mc) ms :: lstR pC 86 2 vo own :: boxI O #[.slice none 0 0, vo] 73 :: boxI S #[.int .i64 th, .int .i64 T, .int .i64 T, .int .i64 (T + k + 1), .int .i64 2, .int .i64 7, .int .i64 0, .int .i64 (2 * i), .int .i64 0, .slice ma ms.length mc] 44 :: boxI D #[.slice ca ck cc, .slice va vk vc, .int .i64 ft] 82 :: rowsI Ls) wY) := hid (St.move (l := [_, _, _, _, _, _, _, _]) (T := _) hs2 8 rfl [7, 0, 1, 2, 3, 4, 5, 6] (by decide)); clear hs2)
              clear hLv a0 a1 a2 a3 a4 a5 a6 a7 a8 a9 HE
              go_upto_region 39 with fail
              have a0 := HY.out.cell 6 rfl 0
              have a1 := HY.out.cell 6 rfl 1
              have a2 := HY.out.cell 6 rfl 2
              have a3 := HY.out.cell 6 rfl 3
              have a4 := HY.out.cell 6 rfl 4
              have a5 := HY.out.cell 6 rfl 5
              have a6 := HY.out.cell 6 rfl 6
              have a7 := HY.out.cell 6 rfl 7
              have a8 := HY.out.cell 6 rfl 8
              have a9 := HY.out.cell 6 rfl 9
              have HBX := hid (r_box (f := sC) (k := 10) sC_len 44 HY.out (⟨⟨th, T, T, T + k + 1, 2, 7, 0, 2 * i, 0, ms⟩, ma, mc⟩ : Sm) #[.int .i64 th, .int .i64 T, .int .i64 T, .int .i64 (T + k + 1), .int .i64 2, .int .i64 7, .int .i64 0, .int .i64 (2 * i), .int .i64 0, .slice ma ms.length mc] rfl)
              have HSX := hid (HY.out.calm (kept_alloc wY (.cells #[.int .i64 th, .int .i64 T, .int .i64 T, .int .i64 (T + k + 1), .int .i64 2, .int .i64 7, .int .i64 0, .int .i64 (2 * i), .int .i64 0, .slice ma ms.length mc] 44)))
              have hbs := buildSvP wY th T T (T + k + 1) 2 7 0 (2 * i) 0 ma ms.length mc
              have HZ2 : Hid ((Ls.length + 1) * 96 ≤ 140737488355328) := hid (by have := HRK.out.len; have := HI.out; omega)
              clear HY
              go_wp2_with (first | simp only [hbs] | (at_builtin; refine wpList_appR Try.rowS HSX.out rfl _ _ rfl rfl _ 1 1 rfl HBX.out (by simp) HZ2.out ?_; intro v6 w6 s6; have HS6 : Hid (St w (lstR sC 44 10 v6 (Ls ++ [⟨⟨th, T, T, T + k + 1, 2, 7, 0, 2 * i, 0, ms⟩, ma, mc⟩]) :: lstR pC 86 2 v2 ps2 :: boxI M #[.slice sa sn sc, v2] 73 :: lstR mC 46 6 (.slice ma ms.length mc) ms :: lstR pC 86 2 vo own :: boxI O #[.slice none 0 0, vo] 73 :: boxI S #[.int .i64 th, .int .i64 T, .int .i64 T, .int .i64 (T + k + 1), .int .i64 2, .int .i64 7, .int .i64 0, .int .i64 (2 * i), .int .i64 0, .slice ma ms.length mc] 44 :: boxI D #[.slice ca ck cc, .slice va vk vc, .int .i64 ft] 82 :: rowsI Ls) w6) := hid s6; clear s6))
              clear HBX HSX hbs a0 a1 a2 a3 a4 a5 a6 a7 a8 a9
              go_roundw
              case rel => exact ⟨i + 1, T + k + 1 + 1, ps2, v2, Ls ++ [⟨⟨th, T, T, T + k + 1, 2, 7, 0, 2 * i, 0, ms⟩, ma, mc⟩], by simp, rfl, HI.out.1, HRN.out, by
                rw [rowsI_snoc]
                exact (St.move (l := [_, _, _, _, _, _, _, _]) (T := _) HS6.out 8 rfl [4, 5, 6, 7, 1, 2, 0, 3] (by decide)).pop.pop.pop.pop⟩
              case measure => have := HI.out.2; simp [intOf]; omega
            · have t3 : decide (0 < bits .and .i64 ft 1) = false := by simpa using hft
              clear hft
              go_upto_region 37 with fail
              clear d2 t3
              have HE := H32
              clear H32
              have hX := HE.out
              have a0 := hX.cell 3 rfl 0
              have a1 := hX.cell 3 rfl 1
              have a2 := hX.cell 3 rfl 2
              have a3 := hX.cell 3 rfl 3
              have a4 := hX.cell 3 rfl 4
              have a5 := hX.cell 3 rfl 5
              have a6 := hX.cell 3 rfl 6
              have a7 := hX.cell 3 rfl 7
              have a8 := hX.cell 3 rfl 8
              have a9 := hX.cell 3 rfl 9
              have hm : SIn wX (⟨⟨th, T, T, T + k + 1, 1, 0, 0, 2 * i, (2 * i + 1), ms⟩, ma, mc⟩ : Sm) := ⟨st_rin hX 0 rfl rfl (fun _ => rfl), by have := HML.out; have := HK.out; dsimp only; omega, HFI.out.rng⟩
              have hmv : St w (lstR pC 86 2 v ps :: boxI M #[.slice sa sn sc, v] 73 :: lstR mC 46 6 (.slice ma ms.length mc) ms :: lstR pC 86 2 vo own :: boxI O #[.slice none 0 0, vo] 73 :: boxI S #[.int .i64 th, .int .i64 T, .int .i64 T, .int .i64 (T + k + 1), .int .i64 1, .int .i64 0, .int .i64 0, .int .i64 (2 * i), .int .i64 (2 * i + 1), .slice ma ms.length mc] 44 :: boxI D #[.slice ca ck cc, .slice va vk vc, .int .i64 ft] 82 :: lstR sC 44 10 u5 Ls :: rowsI Ls) wX := St.move (l := [_, _, _, _, _, _, _]) (T := _) hX 7 rfl [5, 6, 0, 1, 2, 3, 4] (by decide)
              have hLv := rLeavesW_any hmv hm (by have := wrM_len ms; have := HML.out; have := HK.out; have := HRK.out.few; dsimp only; omega)
              have HRN := hid (HRK.out.snoc (th := th) (ft := 1) (e := 0) (ga := (2 * i + 1)) (la := ma) (lc := mc) HFI.out HML.out HK.out (by intro h; first | rfl | (exact absurd h (by decide))))
              clear hX hmv hm
              unfold syV at hLv
              simp only at hLv
              generalize putL ps (leavesL ⟨th, T, T, T + k + 1, 1, 0, 0, 2 * i, (2 * i + 1), ms⟩) = ps2 at *
              go_upto_region 38 with (go_at_call 35; refine hLv.mono ?_; rintro e' wY ⟨v2, rfl, hs2⟩; have HY : Hid (St w (lstR sC 44 10 u5 Ls :: lstR pC 86 2 v2 ps2 :: boxI M #[.slice sa sn sc, v2] 73 :: lstR mC 46 6 (.slice ma ms.length mc) ms :: lstR pC 86 2 vo own :: boxI O #[.slice none 0 0, vo] 73 :: boxI S #[.int .i64 th, .int .i64 T, .int .i64 T, .int .i64 (T + k + 1), .int .i64 1, .int .i64 0, .int .i64 0, .int .i64 (2 * i), .int .i64 (2 * i + 1), .slice ma ms.length mc] 44 :: boxI D #[.slice ca ck cc, .slice va vk vc, .int .i64 ft] 82 :: rowsI Ls) wY) := hid (St.move (l := [_, _, _, _, _, _, _, _]) (T := _) hs2 8 rfl [7, 0, 1, 2, 3, 4, 5, 6] (by decide)); clear hs2)
              clear hLv a0 a1 a2 a3 a4 a5 a6 a7 a8 a9 HE
              go_upto_region 39 with fail
              have a0 := HY.out.cell 6 rfl 0
              have a1 := HY.out.cell 6 rfl 1
              have a2 := HY.out.cell 6 rfl 2
              have a3 := HY.out.cell 6 rfl 3
              have a4 := HY.out.cell 6 rfl 4
              have a5 := HY.out.cell 6 rfl 5
              have a6 := HY.out.cell 6 rfl 6
              have a7 := HY.out.cell 6 rfl 7
              have a8 := HY.out.cell 6 rfl 8
              have a9 := HY.out.cell 6 rfl 9
              have HBX := hid (r_box (f := sC) (k := 10) sC_len 44 HY.out (⟨⟨th, T, T, T + k + 1, 1, 0, 0, 2 * i, (2 * i + 1), ms⟩, ma, mc⟩ : Sm) #[.int .i64 th, .int .i64 T, .int .i64 T, .int .i64 (T + k + 1), .int .i64 1, .int .i64 0, .int .i64 0, .int .i64 (2 * i), .int .i64 (2 * i + 1), .slice ma ms.length mc] rfl)
              have HSX := hid (HY.out.calm (kept_alloc wY (.cells #[.int .i64 th, .int .i64 T, .int .i64 T, .int .i64 (T + k + 1), .int .i64 1, .int .i64 0, .int .i64 0, .int .i64 (2 * i), .int .i64 (2 * i + 1), .slice ma ms.length mc] 44)))
              have hbs := buildSvP wY th T T (T + k + 1) 1 0 0 (2 * i) (2 * i + 1) ma ms.length mc
              have HZ2 : Hid ((Ls.length + 1) * 96 ≤ 140737488355328) := hid (by have := HRK.out.len; have := HI.out; omega)
              clear HY
              go_wp2_with (first | simp only [hbs] | (at_builtin; refine wpList_appR Try.rowS HSX.out rfl _ _ rfl rfl _ 1 1 rfl HBX.out (by simp) HZ2.out ?_; intro v6 w6 s6; have HS6 : Hid (St w (lstR sC 44 10 v6 (Ls ++ [⟨⟨th, T, T, T + k + 1, 1, 0, 0, 2 * i, (2 * i + 1), ms⟩, ma, mc⟩]) :: lstR pC 86 2 v2 ps2 :: boxI M #[.slice sa sn sc, v2] 73 :: lstR mC 46 6 (.slice ma ms.length mc) ms :: lstR pC 86 2 vo own :: boxI O #[.slice none 0 0, vo] 73 :: boxI S #[.int .i64 th, .int .i64 T, .int .i64 T, .int .i64 (T + k + 1), .int .i64 1, .int .i64 0, .int .i64 0, .int .i64 (2 * i), .int .i64 (2 * i + 1), .slice ma ms.length mc] 44 :: boxI D #[.slice ca ck cc, .slice va vk vc, .int .i64 ft] 82 :: rowsI Ls) w6) := hid s6; clear s6))
              clear HBX HSX hbs a0 a1 a2 a3 a4 a5 a6 a7 a8 a9
              go_roundw
              case rel => exact ⟨i + 1, T + k + 1 + 1, ps2, v2, Ls ++ [⟨⟨th, T, T, T + k + 1, 1, 0, 0, 2 * i, (2 * i + 1), ms⟩, ma, mc⟩], by simp, rfl, HI.out.1, HRN.out, by
                rw [rowsI_snoc]
                exact (St.move (l := [_, _, _, _, _, _, _, _]) (T := _) HS6.out 8 rfl [4, 5, 6, 7, 1, 2, 0, 3] (by decide)).pop.pop.pop.pop⟩
              case measure => have := HI.out.2; simp [intOf]; omega
    · have hlt' : ¬ (i : Int) < (dn : Int) := by omega
      have td : decide (i < dn) = false := by simpa using hlt
      obtain rfl : dn = i := by omega
      have HRK := hid hrk
      have HE := hid ((hst.pop).pop)
      clear hst hrk hlt hi
      go_wp2
      go_ret
      first | exact ⟨u5, rfl, Ls, ⟨T, ps, HRK.out⟩, HE.out⟩ | exact ⟨u5, Ls, rfl, ⟨T, ps, HRK.out⟩, HE.out⟩ | exact ⟨Ls, ⟨T, ps, HRK.out⟩, HE.out⟩
end Go.Proofs.Ytnmlnjljmikmpaa
