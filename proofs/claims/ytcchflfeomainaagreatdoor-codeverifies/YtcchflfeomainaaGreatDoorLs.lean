/- Lists of instructions: same, lent; lists that came in. -/
import Derived.Test.YtcchflfeomainaaGreatDoorUp
import Derived.Laws.AppendOwnNone
import Derived.Deep.AppendLies
import Derived.Maps.AppendAt
import Derived.ProofKit
import Derived.OpenShut
import Derived.SizedLaws
import Derived.Deep.Slices
namespace Go.Proofs.YtcchflfeomainaaGreatDoor
open Go.RowKit Go.ChangeShapes Go.WideShapes Go.Deep
set_option linter.unusedVariables false
set_option linter.unusedSimpArgs false
attribute [local go_sem ↓] Go.wp_at_zero Go.wp_at_succ

theorem own_capV {w : World} {base g n cap : Nat} {e : TypeId} {size : Nat} {xs : List Value} (h : w.ownsRow base e size (.slice (some ⟨g, 0, none⟩) n cap) n xs) : n ≤ cap ∧ base ≤ g ∧ g < w.heap.size := by
  rcases h.2 with ⟨h1, _⟩ | ⟨g', c', cur, h1, hb, hg, hc, _⟩
  · cases h1
  · simp only [Value.slice.injEq, Option.some.injEq, Addr.mk.injEq, and_true, true_and] at h1
    obtain ⟨rfl, rfl⟩ := h1
    exact ⟨hc, hb, lt_of_heap hg⟩
theorem own_front {w : World} {base t g m cap : Nat} {ys : List Ins} (h : w.ownsRow base t 2 (.slice (some ⟨g, 0, none⟩) m cap) m (insCells ys)) (zs r : List Ins) (e : ys = zs ++ r) : IIn w (some ⟨g, 0, none⟩) zs.length zs := by
  refine ⟨rfl, fun _ => ⟨g, 0, rfl, fun j u hu => ?_⟩⟩
  have hl := h.1
  have hj := (List.getElem?_eq_some_iff.1 hu).1
  have hy : (insCells ys)[j]? = some u := by
    rw [e, insCells_append, List.getElem?_append_left hj]; exact hu
  have hj2 := (List.getElem?_eq_some_iff.1 hy).1
  rw [Nat.zero_add, h.cellAt j (by omega)]
  exact hy
theorem ins_ext {x y : Ins} (h1 : x.op = y.op) (h2 : x.a = y.a) : x = y := by cases x; cases y; simp_all
set_option maxRecDepth 100000 in
set_option maxHeartbeats 1000000 in
theorem same_any (la lb : Option Addr) (na nb ca cb : Nat) (a b : List Ins) (w : World) (hA : IIn w la na a) (hB : IIn w lb nb b) (hn : na ≤ 8796093022208) :
    Calls Tryz.prog 13 #[.slice la na ca, .slice lb nb cb] w fun e w' => e = .returned (.bool (decide (a = b))) ∧ Kept (fun _ => False) w w' := by
  have HA := hid hA
  have HB := hid hB
  by_cases hl : na = nb
  · subst hl
    have t0 : ((na : Int) != na) = false := by simp
    have HLe : Hid (a.length = na ∧ b.length = na) := ⟨hA.1.symm, hB.1.symm⟩
    clear hA hB
    go_enter Tryz.func13, Tryz.ntmps13
    go_wp2
    go_loopw [5] (fun i wr => ∃ j : Nat, i = .int .i64 j ∧ j ≤ na ∧ (∀ k, k < j → a.getD k Ins.zero = b.getD k Ins.zero) ∧ Kept (fun _ => False) w wr) (fun i _ => na - (intOf i).toNat)
    case atStart => exact ⟨0, rfl, Nat.zero_le _, fun k h => by omega, Kept.refl _ _⟩
    case round =>
      obtain ⟨j, rfl, hj, hs, hk⟩ := hrel
      have HS := hid hs
      clear hs
      by_cases hlt : j < na
      · obtain ⟨ga, oa, rfl⟩ := HA.out.addr (by omega)
        obtain ⟨gb, ob, rfl⟩ := HB.out.addr (by omega)
        obtain ⟨x0, x1⟩ := (HA.out.kept hk).cells (j := j) (by have := HLe.out.1; omega)
        obtain ⟨y0, y1⟩ := (HB.out.kept hk).cells (j := j) (by have := HLe.out.2; omega)
        have h0 : (0 : Int) ≤ (j : Int) := Int.natCast_nonneg _
        have h1 : (j : Int) < (na : Int) := by omega
        have HN : Hid (a.getD j Ins.zero ≠ b.getD j Ins.zero → decide (a = b) = false) := fun h => by
          rw [decide_eq_false_iff_not]
          intro e
          exact h (by rw [e])
        have HY : Hid (a.getD j Ins.zero = b.getD j Ins.zero → ∀ k, k < j + 1 → a.getD k Ins.zero = b.getD k Ins.zero) := fun h k hk => by
          by_cases e : k = j
          · rw [e]; exact h
          · exact HS.out k (by omega)
        generalize a.getD j Ins.zero = x at *
        generalize b.getD j Ins.zero = y at *
        have hne := neIn x.op x.a y.op y.a
        by_cases hxy : x = y
        · have hv : (!(decide (x.op = y.op) && decide (x.a = y.a))) = false := by simp [hxy]
          rw [hv] at hne
          have HY2 := hid (HY.out hxy)
          clear HS HN HY hxy hv
          generalize x.op = xo at *
          generalize x.a = xa at *
          generalize y.op = yo at *
          generalize y.a = ya at *
          go_upto_region 6 with fail
          go_region
          go_wp2
          go_roundw
          case rel => exact ⟨j + 1, by simp, by omega, HY2.out, hk.drew⟩
          case measure => simp [intOf]; omega
        · have hv : (!(decide (x.op = y.op) && decide (x.a = y.a))) = true := by
            simp only [Bool.not_eq_true', Bool.and_eq_false_iff, decide_eq_false_iff_not]
            by_cases e1 : x.op = y.op
            · exact .inr (fun e2 => hxy (ins_ext e1 e2))
            · exact .inl e1
          rw [hv] at hne
          have HF := hid (HN.out hxy)
          clear HS HN HY hxy hv
          generalize x.op = xo at *
          generalize x.a = xa at *
          generalize y.op = yo at *
          generalize y.a = ya at *
          go_upto_region 6 with fail
          go_region
          go_wp2
          go_ret
          exact ⟨by rw [HF.out]; rfl, hk.drew⟩
      · have h1 : ¬ (j : Int) < (na : Int) := by omega
        have HF : Hid (decide (a = b) = true) := by
          show decide (a = b) = true
          rw [decide_eq_true_eq]
          apply List.ext_getElem (by rw [HLe.out.1, HLe.out.2])
          intro k k1 k2
          have := HS.out k (by have := HLe.out.1; omega)
          simpa [List.getD_eq_getElem?_getD, k1, k2] using this
        clear HS
        go_wp2
        go_ret
        exact ⟨by rw [HF.out]; rfl, hk⟩
  · have t0 : ((na : Int) != nb) = true := by simp; omega
    have hf : decide (a = b) = false := by
      rw [decide_eq_false_iff_not]
      intro e
      exact hl (by rw [hA.1, hB.1, e])
    rw [hf]
    clear hA hB HA HB hf
    go_enter Tryz.func13, Tryz.ntmps13
    go_wp2
    go_ret
    exact ⟨rfl, Kept.refl _ _⟩
theorem grownBy_reflV (w : World) (row : Option Nat) : w.grownBy w row := ⟨rfl, rfl, rfl, Nat.le_refl _, fun _ _ _ => rfl⟩
/-- An append of a list that came in, nil or not, onto a row of the call's own. -/
theorem wpList_append_ins {ops : Array Oper} {rest : List Oper} {o : Oper} {a : Act} {Q : Exit → Act → World → Prop} (w : World) (hgd : o.guard = none) (s x : Operand)
    (ho : o.op = .call { callee := .builtin .append, args := #[s, x], argTypes := #[23, 23] })
    (base : Nat) (v : Value) (n : Nat) (xs : List Value) (hs : a.eval s = v) (hown : w.ownsRow base 48 2 v n xs)
    (la : Option Addr) (m c : Nat) (zs : List Ins) (hx : a.eval x = .slice la m c) (hl : IIn w la m zs) (h0 : la = none → m = 0 ∧ c = 0)
    (hsm : (n + m) * 16 ≤ 140737488355328) (hbase : base ≤ w.heap.size)
    (h : ∀ v' w', w'.ownsRow base 48 2 v' (n + m) (xs ++ insCells zs) → w.grownBy w' v.ownBlock → wpList Tryz.prog ops Q rest (a.put o.dst v') w') :
    wpList Tryz.prog ops Q (o :: rest) a w := by
  obtain ⟨i0, hi0, hz0, hz1, hz2⟩ := info_parts Tryz.infoIn
  cases la with
  | none =>
    obtain ⟨rfl, rfl⟩ := h0 rfl
    obtain rfl : zs = [] := List.length_eq_zero_iff.1 hl.1.symm
    exact wpList_append_own_none hgd s x 23 ho base 48 i0 2 Tryz.underlying23 hi0 v n xs hs hown hx (h v w (by simpa [insCells] using hown) (grownBy_reflV _ _))
  | some ad =>
    refine wpList_append_own_at w hgd s x 23 ho base 48 i0 _ 2 16 Tryz.underlying23 hi0 hz0 hz1 hz2 rfl (by omega) v n xs hs hown ad m c (insCells zs) hx (by rw [insCells_length, ← hl.1]) ?_ (insCells_one zs) (by unfold maxLen; omega) (by omega) hbase (fun v' w' a1 a2 _ _ => h v' w' a1 a2)
    intro j u hu
    have hj := (List.getElem?_eq_some_iff.1 hu).1
    rw [insCells_length] at hj
    obtain ⟨g, off, e, hc⟩ := hl.2 (by have := hl.1; omega)
    simp only [Option.some.injEq] at e
    subst e
    rw [Addr.add_lit]
    exact hc j u hu
def marks : List Ins := [⟨77, 0⟩, ⟨78, 0⟩, ⟨79, 0⟩]
theorem build3 (W : World) : (Instr.buildSlice 23 3 #[(0, .agg #[.int .i64 77, .int .i64 0]), (1, .agg #[.int .i64 78, .int .i64 0]), (2, .agg #[.int .i64 79, .int .i64 0])]).run Tryz.prog W = .ok (.slice (some ⟨W.heap.size, 0, none⟩) 3 3) (W.alloc (.cells #[.int .i64 77, .int .i64 0, .int .i64 78, .int .i64 0, .int .i64 79, .int .i64 0] 48)) := by kernel_rfl
/-- What is known of a list that came in. -/
def Came (w : World) (la : Option Addr) (n lc : Nat) (l : List Ins) : Prop := IIn w la n l ∧ n ≤ lc ∧ lc * 16 ≤ 140737488351232 ∧ (la = none → n = 0 ∧ lc = 0) ∧ ∀ x ∈ l, (-9223372036854775808 ≤ x.op ∧ x.op ≤ 9223372036854775807) ∧ (-9223372036854775808 ≤ x.a ∧ x.a ≤ 9223372036854775807)
theorem Came.kept {w w' : World} {la : Option Addr} {n lc : Nat} {l : List Ins} (h : Came w la n lc l) (k : Kept (fun _ => False) w w') : Came w' la n lc l := ⟨h.1.kept k, h.2⟩
set_option maxRecDepth 100000 in
set_option maxHeartbeats 1000000 in
theorem lent_any {la : Option Addr} {n lc : Nat} {l : List Ins} (w : World) (h : Came w la n lc l) :
    Calls Tryz.prog 10 #[.slice la n lc] w fun e w' => ∃ g cap, e = .returned (.slice (some ⟨g, 0, none⟩) (n + 3) cap) ∧ w'.ownsRow w.heap.size 48 2 (.slice (some ⟨g, 0, none⟩) (n + 3) cap) (n + 3) (insCells (l ++ marks)) ∧ Kept (fun _ => False) w w' := by
  obtain ⟨i0, hi0, hz0, hz1, hz2⟩ := info_parts Tryz.infoIn
  obtain ⟨hL, hr1, hr2, hr3, _⟩ := h
  have HR := hid hr3
  have hown0 := World.ownsRow_nil w w.heap.size 48 2
  have hb := fun W => build3 W
  clear hr3
  go_enter Tryz.func10, Tryz.ntmps10
  go_wp2_with (first | (at_builtin; refine wpList_append_ins _ rfl (.tmp 4) (.tmp 5) rfl w.heap.size (.slice none 0 0) 0 [] rfl hown0 la n lc l rfl hL HR.out (by omega) (by simp) ?_; intro v1 w1 ho1 hg1; simp only [Nat.zero_add, List.nil_append] at ho1; have hs1 : w.heap.size ≤ w1.heap.size := hg1.size; have hb1 := hb w1) | simp only [hb1] | (at_builtin; refine wpList_append_lies _ rfl (.tmp 7) (.tmp 11) 23 rfl w.heap.size 48 i0 _ 2 16 Tryz.underlying23 hi0 hz0 hz1 hz2 rfl (by omega) v1 n (insCells l) rfl (ho1.alloc _) ⟨w1.heap.size, 0, none⟩ 3 3 [.int .i64 77, .int .i64 0, .int .i64 78, .int .i64 0, .int .i64 79, .int .i64 0] rfl rfl (World.news_of_block (cs := #[.int .i64 77, .int .i64 0, .int .i64 78, .int .i64 0, .int .i64 79, .int .i64 0]) (t := 48) (fr := (0, 0)) (heap_alloc_new w1 _)) (by simp [Value.oneCell']) (by omega) (by unfold maxLen; omega) (by omega) (by simp; omega) (w1.heap.size + 1) (by simp) ?_; intro g cap w2 ho2 hg2 ha2 hl2))
  go_ret
  refine ⟨g, cap, rfl, by simpa [insCells_append, insCells, marks] using ho2, ?_⟩
  exact (((Kept.refl _ w).grown hg1 (fun k e => by cases e)).alloc _).grown hg2 (fun k e => .inr (ho1.lt k e).1)
section
variable {H : Type} {enc : TypeId × Value → H} {w : World}
theorem Tryz.cellsOp : Tryz.prog.cellsOf 32 = 1 := by kernel_rfl
theorem Tryz.cellsInt : Tryz.prog.cellsOf 3 = 1 := by kernel_rfl
theorem Tryz.cellsIn : Tryz.prog.cellsOf 48 = 2 := by kernel_rfl
theorem Tryz.bytesIn : Tryz.prog.bytesOf 48 = 16 := by kernel_rfl
theorem wf64 {x : Int} (h : (Lit.int .i64 x).wf = true) : -9223372036854775808 ≤ x ∧ x ≤ 9223372036854775807 := by
  simp only [Lit.wf, Bool.and_eq_true, decide_eq_true_eq] at h
  have a : IntKind.i64.min = -9223372036854775808 := by decide
  have b : IntKind.i64.max = 9223372036854775807 := by decide
  rw [a, b] at h
  exact h
set_option maxRecDepth 100000 in
theorem open_in {fuel : Nat} {cs : List Value} {x : DataW H × List MemPlace} (h : DataW.trod enc Tryz.prog w 0 (fun _ => true) true fuel 48 cs = some x) :
    ∃ t : Ins, cs = t.cells ∧ (-9223372036854775808 ≤ t.op ∧ t.op ≤ 9223372036854775807) ∧ (-9223372036854775808 ≤ t.a ∧ t.a ≤ 9223372036854775807) := by
  obtain ⟨xs, n, _, rfl, hl, hlen, hf⟩ := DataW.trod_struct Tryz.underlying48 h
  rw [Tryz.cellsIn] at hl
  match cs, hl with
  | [v0, v1], _ =>
    match xs, hlen with
    | [y0, y1], _ =>
      have g0 := hf 0 _ rfl
      have g1 := hf 1 _ rfl
      simp [Tryz.cellsOp, Tryz.cellsInt] at g0 g1
      obtain ⟨b0, e0, _, f0⟩ := DataW.trod_int Tryz.underlying32 g0
      obtain ⟨b1, e1, _, f1⟩ := DataW.trod_int Tryz.underlying3 g1
      simp only [List.cons.injEq, and_true] at e0 e1
      subst e0 e1
      exact ⟨⟨b0, b1⟩, rfl, wf64 f0, wf64 f1⟩
theorem choose_in (n : Nat) (P : Nat → Ins → Prop) (h : ∀ i, i < n → ∃ t, P i t) : ∃ f : Nat → Ins, ∀ i, i < n → P i (f i) := by
  classical
  refine ⟨fun i => if hi : i < n then (h i hi).choose else Ins.zero, fun i hi => ?_⟩
  simp only [hi, dite_true]
  exact (h i hi).choose_spec
theorem in_any {w : World} {b off : Nat} {zs : List Ins} (h : ∀ i (hi : i < zs.length), ∀ j u, zs[i].cells[j]? = some u → w.cell? ⟨b, off + i * 2 + j, none⟩ = some u) : ∀ j u, (insCells zs)[j]? = some u → w.cell? ⟨b, off + j, none⟩ = some u := by
  induction zs generalizing off with
  | nil => intro j u hu; simp [insCells] at hu
  | cons t l ih =>
    intro j u hu
    rw [show insCells (t :: l) = t.cells ++ insCells l from rfl] at hu
    by_cases hj : j < 2
    · rw [List.getElem?_append_left (by simpa [Ins.cells] using hj)] at hu
      have := h 0 (by simp) j u (by simpa using hu)
      simpa using this
    · rw [List.getElem?_append_right (by simp [Ins.cells]; omega)] at hu
      simp only [Ins.cells, List.length_cons, List.length_nil] at hu
      have := ih (off := off + 2) (fun i hi j u e => by
        have := h (i + 1) (by simpa using hi) j u (by simpa using e)
        rw [show off + (i + 1) * 2 + j = off + 2 + i * 2 + j by omega] at this
        exact this) (j - 2) u hu
      rwa [show off + 2 + (j - 2) = off + j by omega] at this
set_option maxRecDepth 100000 in
theorem open_ins {fuel : Nat} {v : Value} {x : DataW H × List MemPlace} (h : DataW.trod enc Tryz.prog w 0 (fun _ => true) true fuel 23 [v] = some x) (hz : ∀ n ∈ x.1.weights Tryz.prog 23, n ≤ reachBytes) :
    ∃ la ll lc zs, v = .slice la ll lc ∧ Came w la ll lc zs := by
  rcases open_slice Tryz.underlying23 h with ⟨hcs, _⟩ | ⟨a', len, cap, m, n, D, Pl, hcs, _, hl, hm, hmm, hx, hcell⟩
  · simp only [List.cons.injEq, and_true] at hcs
    exact ⟨_, _, _, [], hcs, ⟨rfl, fun h => by omega⟩, by omega, by omega, fun _ => ⟨rfl, rfl⟩, fun x hx => by cases hx⟩
  · simp only [List.cons.injEq, and_true] at hcs
    simp only [if_true] at hmm
    subst hmm
    subst hx
    have hreach : m * 16 ≤ 140737488351232 := by
      have := hz ((len + (m - len)) * 16) (by
        simp [DataW.weights, Tryz.underlying23, Tryz.bytesIn])
      simp only [reachBytes] at this
      omega
    by_cases h0 : len = 0
    · subst h0
      exact ⟨_, _, _, [], hcs, ⟨rfl, fun h => by omega⟩, by omega, by omega, (fun h => by cases h), fun x hx => by cases hx⟩
    obtain ⟨cs0, hc0, _⟩ := hcell 0 (by omega)
    rw [Tryz.cellsIn] at hc0
    have hs := (World.cells?_some hc0)
    obtain ⟨b, off, spot⟩ := a'
    have h00 := hs.2.2 0 (by omega)
    rw [List.getElem?_eq_getElem (by omega)] at h00
    have hspot : spot = none := by simpa [Addr.add] using World.cell?_spot h00
    subst hspot
    have hall : ∀ i, i < len → ∃ t : Ins, (∀ j u, t.cells[j]? = some u → w.cell? ⟨b, off + i * 2 + j, none⟩ = some u) ∧ (-9223372036854775808 ≤ t.op ∧ t.op ≤ 9223372036854775807) ∧ (-9223372036854775808 ≤ t.a ∧ t.a ≤ 9223372036854775807) := by
      intro i hi
      obtain ⟨cs, hc, ht⟩ := hcell i (by omega)
      rw [Tryz.cellsIn] at hc
      obtain ⟨t, rfl, hwf⟩ := open_in ht
      have hcc := (World.cells?_some hc).2.2
      have eadd : ∀ j, ((⟨b, off, none⟩ : Addr).add (i * 2)).add j = ⟨b, off + i * 2 + j, none⟩ := by
        intro j
        unfold Addr.add
        split <;> split <;> simp_all
      refine ⟨t, fun j u hu => ?_, hwf⟩
      have hj : j < 2 := by
        have := (List.getElem?_eq_some_iff.1 hu).1
        simpa [Ins.cells] using this
      have := hcc j hj
      rw [eadd] at this
      rw [this, hu]
    obtain ⟨f, hff⟩ := choose_in len _ hall
    refine ⟨_, _, _, (List.range len).map f, hcs, ⟨by simp, fun _ => ⟨b, off, rfl, in_any fun i hi j u e => ?_⟩⟩, by omega, by omega, (fun h => by cases h), fun x hx => ?_⟩
    · have hi' : i < len := by simpa using hi
      simp only [List.getElem_map, List.getElem_range] at e
      exact (hff i hi').1 j u e
    · obtain ⟨i, hi, rfl⟩ := List.mem_map.1 hx
      exact (hff i (List.mem_range.1 hi)).2
set_option maxRecDepth 100000 in
theorem arg_ins {b0 : Nat} {v : Value} {d : DataW H} {p : List MemPlace} (h : DataW.Trod enc Tryz.prog w 0 (fun _ => true) true 23 v d p) (hv : Value.okWide Tryz.prog w .any b0 23 v) (hz : ∀ n ∈ d.weights Tryz.prog 23, n ≤ reachBytes) :
    ∃ la ll lc zs, v = .slice la ll lc ∧ Came w la ll lc zs := by
  obtain ⟨a, len, cap, rfl⟩ := okWide_slice Tryz.underlying23 hv
  obtain ⟨fuel, h⟩ := h
  simp only [Value.cells] at h
  exact open_ins h hz
end
end Go.Proofs.YtcchflfeomainaaGreatDoor
