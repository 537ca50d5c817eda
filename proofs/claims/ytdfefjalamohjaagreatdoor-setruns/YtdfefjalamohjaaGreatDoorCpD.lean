/- A deed, a list of int64 that came in. SetDoes, walked. Copied, pick. -/
import Derived.Test.YtdfefjalamohjaaGreatDoorSeD
import Derived.ProofKit
import Derived.Deep.Slices
import Derived.OpenShut
import Derived.SizedLaws
import Derived.Test.YtdfefjalamohjaaGreatDoorRdA
import Derived.Laws.CopyOwn
namespace Go.Proofs.YtdfefjalamohjaaGreatDoor
open Go.RowKit Go.ChangeShapes Go.WideShapes Go.Deep
set_option linter.unusedVariables false
set_option linter.unusedSimpArgs false
section
variable {H : Type} {enc : TypeId × Value → H} {w : World}

theorem Tryz.cellsA_int : Tryz.prog.cellsOf 3 = 1 := by kernel_rfl
theorem Tryz.cellsA_i64 : Tryz.prog.cellsOf 2 = 1 := by kernel_rfl
theorem Tryz.cellsA_deed : Tryz.prog.cellsOf 40 = 5 := by kernel_rfl
theorem i64_rng {x : Int} (h : (Lit.int .i64 x).wf = true) : -9223372036854775808 ≤ x ∧ x ≤ 9223372036854775807 := by
  have e1 : IntKind.i64.min = -9223372036854775808 := by decide
  have e2 : IntKind.i64.max = 9223372036854775807 := by decide
  simp only [Lit.wf, decide_eq_true_eq, Bool.and_eq_true] at h
  rw [e1, e2] at h
  omega
set_option maxRecDepth 100000 in
theorem arg_deed {b0 : Nat} {v : Value} {d : DataW H} {p : List MemPlace} (hv : Value.okWide Tryz.prog w .any b0 40 v) (h : DataW.Trod enc Tryz.prog w 0 (fun _ => true) true 40 v d p) : ∃ c : Dd, v = c.val ∧ -9223372036854775808 ≤ c.x ∧ c.x ≤ 9223372036854775807 := by
  obtain ⟨cs, rfl, hsz⟩ := okWide_struct Tryz.underlying40 hv
  obtain ⟨fuel, h⟩ := h
  rw [Tryz.cellsA_deed] at hsz
  simp only [Value.cells] at h
  obtain ⟨l⟩ := cs
  simp only [List.size_toArray] at hsz
  obtain ⟨xs, n, _, _, hl, hlen, hf⟩ := DataW.trod_struct Tryz.underlying40 h
  match l, hsz with
  | [v0, v1, v2, v3, v4], _ =>
    match xs, hlen with
    | [y0, y1, y2, y3, y4], _ =>
      have g0 := hf 0 _ rfl
      have g1 := hf 1 _ rfl
      have g2 := hf 2 _ rfl
      have g3 := hf 3 _ rfl
      have g4 := hf 4 _ rfl
      simp [Tryz.cellsA_int, Tryz.cellsA_i64] at g0 g1 g2 g3 g4
      obtain ⟨b0, e0, _, _⟩ := DataW.trod_int Tryz.underlying3 g0
      obtain ⟨b1, e1, _, _⟩ := DataW.trod_int Tryz.underlying3 g1
      obtain ⟨b2, e2, _, _⟩ := DataW.trod_int Tryz.underlying3 g2
      obtain ⟨b3, e3, _, wf3⟩ := DataW.trod_int Tryz.underlying2 g3
      obtain ⟨b4, e4, _, _⟩ := DataW.trod_int Tryz.underlying2 g4
      simp only [List.cons.injEq, and_true] at e0 e1 e2 e3 e4
      subst e0 e1 e2 e3 e4
      exact ⟨⟨b0, b1, b2, b3, b4⟩, rfl, i64_rng wf3⟩
theorem Tryz.bytes_i64 : Tryz.prog.bytesOf 2 = 8 := by kernel_rfl
/-- A list of int64 that came in. -/
def CameX (w : World) (la : Option Addr) (n lc : Nat) (zs : List Int) : Prop := XIn w la n zs ∧ n ≤ lc ∧ lc * 8 ≤ 140737488351232 ∧ (la = none → n = 0 ∧ lc = 0)
theorem CameX.kept {w w' : World} {la : Option Addr} {n lc : Nat} {zs : List Int} (h : CameX w la n lc zs) (k : Kept (fun _ => False) w w') : CameX w' la n lc zs := ⟨h.1.kept k, h.2⟩
set_option maxRecDepth 100000 in
theorem arg_x {b0 : Nat} {v : Value} {d : DataW H} {p : List MemPlace} (h : DataW.Trod enc Tryz.prog w 0 (fun _ => true) true 24 v d p) (hv : Value.okWide Tryz.prog w .any b0 24 v) (hz : ∀ n ∈ d.weights Tryz.prog 24, n ≤ reachBytes) :
    ∃ la ll lc zs, v = .slice la ll lc ∧ CameX w la ll lc zs := by
  obtain ⟨a, len, cap, rfl⟩ := okWide_slice Tryz.underlying24 hv
  obtain ⟨fuel, h⟩ := h
  simp only [Value.cells] at h
  rcases open_ints Tryz.underlying24 Tryz.underlying2 Tryz.cellsA_i64 h with ⟨hcs, _⟩ | ⟨a, len, cap, zs, hcs, _, hl, hm, hzl, hx, hcell, _⟩
  · simp only [List.cons.injEq, and_true] at hcs
    exact ⟨_, _, _, [], hcs, ⟨rfl, fun h => by omega⟩, by omega, by omega, fun _ => ⟨rfl, rfl⟩⟩
  · simp only [List.cons.injEq, and_true] at hcs
    simp only [if_true] at hzl
    have hr : cap * 8 ≤ 140737488351232 := by
      have := hz ((zs.take len).length * 8 + (zs.drop len).length * 8) (by
        simp only [Prod.mk.injEq] at hx
        rw [hx.1]
        simp [DataW.weights, Tryz.underlying24, Tryz.bytes_i64, lits, Nat.add_mul])
      simp only [List.length_take, List.length_drop, reachBytes] at this
      omega
    refine ⟨_, _, _, zs.take len, hcs, ⟨by simp; omega, fun h0 => ?_⟩, hl, hr, fun e => by cases e⟩
    have hp : a.spot = none := by simpa [Addr.add] using World.cell?_spot (hcell 0 (by omega))
    obtain ⟨g, of, s⟩ := a
    simp only at hp
    subst hp
    refine ⟨g, of, rfl, fun j hj => ?_⟩
    have := hcell j (by omega)
    rw [Addr.add_lit] at this
    simpa [hj] using this
end
end Go.Proofs.YtdfefjalamohjaaGreatDoor

namespace Go.Proofs.YtdfefjalamohjaaGreatDoor
open Go.RowKit
set_option linter.unusedVariables false
set_option linter.unusedSimpArgs false
attribute [local go_sem ↓] Go.wp_at_zero Go.wp_at_succ

theorem St.join {o w2 w3 : World} {A B : List It} (a : St o A w2) (b : St w2 B w3) : St o (B ++ A) w3 := by
  have a' := a.calm b.same
  refine ⟨?_, ?_, ?_, a'.kept⟩
  · rw [List.flatMap_append, List.nodup_append]
    refine ⟨b.nodup, a.nodup, fun x hx y hy e => ?_⟩
    subst e
    obtain ⟨i, hi, hxi⟩ := List.mem_flatMap.1 hx
    obtain ⟨j, hj, hxj⟩ := List.mem_flatMap.1 hy
    have h1 := b.high i hi x hxi
    have h2 := j.old w2 (a.all j hj) x hxj
    omega
  · intro i hi
    rcases List.mem_append.1 hi with hi | hi
    · exact b.all i hi
    · exact a'.all i hi
  · intro i hi k hk
    rcases List.mem_append.1 hi with hi | hi
    · exact Nat.le_trans a.le (b.high i hi k hk)
    · exact a.high i hi k hk
theorem doS_len (l : List Int) (n : Int) (d : Dd) : (doS l n d).1.length ≤ l.length + 1 ∧ (doS l n d).2.length ≤ 2 := by
  unfold doS
  repeat' split
  all_goals simp
  all_goals omega
theorem sliceTo (g o n lc i : Nat) (h1 : i ≤ lc) (h2 : 0 < lc) (J : Int) (hJ : J = (i : Int)) (W : World) : (Instr.slice 24 (.slice (some ⟨g, o, none⟩) n lc) none (some (.int .i64 J)) none).run Tryz.prog W = .ok (.slice (some ⟨g, o, none⟩) i lc) W := by
  subst hJ
  have e1 : (0 : Int) ≤ (i : Int) := by omega
  have e2 : (i : Int) ≤ (lc : Int) := by omega
  have e5 : ¬ lc = 0 := by omega
  have e6 : ¬ lc < i := by omega
  simp only [Instr.slice, run_underlying Tryz.underlying24, Instr.sliceBounds, Instr.sliceBound, asIntOf, go_sem]
  simp [go_sem, e1, e2, e5, e6]
set_option maxRecDepth 100000 in
set_option maxHeartbeats 4000000 in
theorem does_walk (la : Option Addr) (m lc : Nat) (l : List Int) (n : Int) (d : Dd) (w : World) (hE : Env w) (hC : CameX w la m lc l) : Calls Tryz.prog 6 #[.slice la m lc, .int .i64 n, d.val] w fun e w' => e = .returned (.bool true) ∧ Kept (fun _ => False) w w' := by
  obtain ⟨i0, hi0, hz0, hz1, hz2⟩ := info_parts Tryz.infoX
  obtain ⟨hX, hlc, hbig, hnil⟩ := hC
  have HX := hid hX
  have HXL := hid hX
  have HNil := hid hnil
  have hm8 : m * 8 ≤ 140737488351232 := by omega
  have s1 := (St.nil w).box d.cells.toArray 40
  have hA := awake_any _ (hE.kept s1.same)
  have HDo : Hid (∀ (W : World) (g cap : Nat), XIn W (some ⟨g, 0, none⟩) m l → Calls Tryz.prog 21 #[.slice (some ⟨g, 0, none⟩) m cap, .int .i64 n, d.val] W (DoE l n d W)) := fun W g cap hx => Do_any hx (by omega)
  have HRf : Hid (∀ (W : World), XIn W la m l → Calls Tryz.prog 22 #[.slice la m lc, .int .i64 n, d.val] W (rDoE l n d W)) := fun W hx => rDo_any la m lc l n d W hx hnil
  have hB := fun b W => codeSet_any b W
  obtain ⟨op, a, b, x, y⟩ := d
  unfold Dd.cells at s1 hA
  simp only at s1 hA
  unfold Dd.val at HDo HRf ⊢
  simp only at HDo HRf ⊢
  generalize e1 : w.alloc (.cells #[.int .i64 op, .int .i64 a, .int .i64 b, .int .i64 x, .int .i64 y] 40) = w1 at *
  generalize eM : w.heap.size = M at *
  have HS1 := hid s1
  have HML := hid hX.1
  clear hE s1 hX hnil hlc hbig
  go_enter Tryz.func6, Tryz.ntmps6
  go_upto_region 3 with (first | simp only [e1, eM] | (go_at_call 9; refine hA.mono ?_; rintro e w2 ⟨rfl, k2⟩; clear hA e1 eM))
  have s2 := HS1.out.calm k2
  have HS2 := hid s2
  go_upto_region 4 with (at_builtin; refine wpList_append_x _ rfl (.tmp 20) (.tmp 21) rfl w2.heap.size (.slice none 0 0) 0 [] rfl (World.ownsRow_nil _ _ _ _) la m lc l rfl (HX.out.kept HS2.out.same) HNil.out (by omega) (Nat.le_refl _) ?_; intro v3 w3 ho3 hg3; have HS3 := hid (HS2.out.own ((Kept.refl _ w2).grown hg3 (fun k hk => by cases hk)) ho3); clear ho3 hg3)
  have hb2 := fun W => buildX2 W (-777) (-777)
  have hown3 : w3.ownsRow 0 2 1 v3 m (xC l) := by
    have := HS3.out.get 0 rfl
    rw [Nat.zero_add] at this
    exact this
  have HO3 := hid hown3
  clear hown3
  go_upto_region 5 with (first | simp only [hb2] | (at_builtin; refine wpList_append_lies _ rfl (.tmp 23) (.tmp 24) 24 rfl 0 2 i0 _ 1 8 Tryz.underlying24 hi0 hz0 hz1 hz2 rfl (by omega) v3 m (xC l) rfl (HO3.out.alloc _) ⟨w3.heap.size, 0, none⟩ 2 2 [.int .i64 (-777), .int .i64 (-777)] rfl rfl (World.news_of_block (cs := #[.int .i64 (-777), .int .i64 (-777)]) (t := 2) (fr := (0, 0)) (heap_alloc_new w3 _)) (by simp [Value.oneCell']) (by omega) (by unfold maxLen; omega) (by omega) (Nat.zero_le _) (w3.heap.size + 1) (by simp) ?_; intro g cap w4 ho4 hg4 ha4 hl4))
  have s4 : St w [rowI g (m + 2) cap (l ++ [-777, -777]), boxI M #[.int .i64 op, .int .i64 a, .int .i64 b, .int .i64 x, .int .i64 y] 40] w4 := by
    have h3 := HS3.out
    rw [Nat.zero_add, List.nil_append] at h3
    have := h3.growAt 0 rfl ho4 hg4 ha4
    rw [show xC l ++ [.int .i64 (-777), .int .i64 (-777)] = xC (l ++ [-777, -777]) by simp [xC]] at this
    exact this
  have hcap : m + 2 ≤ cap := by
    rcases ho4.2 with ⟨e, _⟩ | ⟨g', c', cur, e, _, _, h1, _⟩
    · cases e
    · simp only [Value.slice.injEq] at e
      omega
  have HS4 := hid s4
  clear ho4 hg4 ha4 hl4 s4 HO3 HS3 HS2 HS1 k2 hb2
  have HXA : Hid (∀ W, Kept (fun _ => False) w4 W → XIn W (some ⟨g, 0, none⟩) m l) := fun W k => by
    have h9 := own_xin (show w4.ownsRow 0 2 1 (.slice (some ⟨g, 0, none⟩) (m + 2) cap) (l ++ [-777, -777]).length (xC (l ++ [-777, -777])) by
      have h8 := HS4.out.get 0 rfl
      have hh := HML.out
      have h7 : (l ++ [-777, -777]).length = m + 2 := by simp; omega
      rw [h7]
      exact h8)
    obtain ⟨la', lc', e, hx, _⟩ := h9
    simp only [Value.slice.injEq] at e
    obtain ⟨rfl, _, _⟩ := e
    have hp := hx.part 0 m (by have := HML.out; simp; omega)
    have h6 : (l ++ [-777, -777]).take m = l := by have := HML.out; rw [this]; simp
    rw [Nat.add_zero, List.drop_zero, h6] at hp
    exact hp.kept k
  have hsl := fun W => sliceTo g 0 (m + 2) cap m (by omega) (by omega) (m : Int) rfl W
  have HC : Hid (∀ W, Kept (fun _ => False) w4 W → W.cell? ⟨M, 0, none⟩ = some (.int .i64 op) ∧ W.cell? ⟨M, 1, none⟩ = some (.int .i64 a) ∧ W.cell? ⟨M, 2, none⟩ = some (.int .i64 b) ∧ W.cell? ⟨M, 3, none⟩ = some (.int .i64 x) ∧ W.cell? ⟨M, 4, none⟩ = some (.int .i64 y)) := fun W k => ⟨(HS4.out.calm k).cell 1 rfl 0, (HS4.out.calm k).cell 1 rfl 1, (HS4.out.calm k).cell 1 rfl 2, (HS4.out.calm k).cell 1 rfl 3, (HS4.out.calm k).cell 1 rfl 4⟩
  obtain ⟨c0, c1, c2, c3, c4⟩ := HC.out _ ((Kept.refl _ w4).drew)
  have hq := HDo.out w4.drew g cap (HXA.out _ ((Kept.refl _ w4).drew))
  unfold DoE at hq
  clear HDo
  have hbd1 : (0 : Int) ≤ (m : Int) := by omega
  have hbd2 : (m : Int) ≤ (cap : Int) := by omega
  by_cases hok : okS l n ⟨op, a, b, x, y⟩ = true
  · simp only [if_pos hok] at hq
    have kq : Calls Tryz.prog 21 #[.slice (some ⟨g, 0, none⟩) m cap, .int .i64 n, .agg #[.int .i64 op, .int .i64 a, .int .i64 b, .int .i64 x, .int .i64 y]] w4.drew fun e w' => (∃ v t, e = .returned (.tuple #[v, t, .int .i64 0]) ∧ Hid (St w4 [lstI t (doS l n ⟨op, a, b, x, y⟩).2, lstI v (doS l n ⟨op, a, b, x, y⟩).1] w')) := hq.mono fun e w' ⟨v, t, he, hs⟩ => ⟨v, t, he, hs.base (kept_drew w4)⟩
    clear hq
    go_region_with (first | simp only [hsl] | (go_at_call 21; refine kq.mono ?_; rintro e w5 ⟨v, t, rfl, HS5⟩))
    have hs5 := HS5.out
    have hdl := doS_len l n ⟨op, a, b, x, y⟩
    have hr := fun h => HRf.out w5 h
    unfold rDoE at hr
    generalize hdd : doS l n ⟨op, a, b, x, y⟩ = DD at *
    obtain ⟨l1, tl⟩ := DD
    simp only at hs5 hdl hr
    obtain ⟨va, vc, e1, -⟩ := own_xin (show w5.ownsRow 0 2 1 v l1.length (xC l1) from hs5.get 1 rfl)
    obtain ⟨ta, tc, e2, -⟩ := own_xin (show w5.ownsRow 0 2 1 t tl.length (xC tl) from hs5.get 0 rfl)
    subst e1 e2
    have s6 : St w [lstI (.slice ta tl.length tc) tl, lstI (.slice va l1.length vc) l1, rowI g (m + 2) cap (l ++ [-777, -777]), boxI M #[.int .i64 op, .int .i64 a, .int .i64 b, .int .i64 x, .int .i64 y] 40] w5 := HS4.out.join hs5
    have k5 := hs5.same
    obtain ⟨d0, d1, d2, d3, d4⟩ := HC.out _ k5
    replace hr := hr (HX.out.kept s6.same)
    simp only [if_pos hok] at hr
    have HS6 := hid s6
    have HK5 := hid k5
    have hkl : l1.length ≤ m + 1 := by have := HML.out; omega
    have htl : tl.length ≤ 2 := hdl.2
    clear c0 c1 c2 c3 c4 kq s6 hs5 HS5 hdd k5 hok HC HRf HX HNil hdl
    go_upto_region 7 with (go_at_call 22; refine hr.mono ?_; rintro e w6 ⟨v2, t2, rfl, s7⟩)
    obtain ⟨va2, vc2, e1, -⟩ := own_xin (show w6.ownsRow 0 2 1 v2 l1.length (xC l1) from s7.get 1 rfl)
    obtain ⟨ta2, tc2, e2, -⟩ := own_xin (show w6.ownsRow 0 2 1 t2 tl.length (xC tl) from s7.get 0 rfl)
    subst e1 e2
    have s8 : St w [lstI (.slice ta2 tl.length tc2) tl, lstI (.slice va2 l1.length vc2) l1, lstI (.slice ta tl.length tc) tl, lstI (.slice va l1.length vc) l1, rowI g (m + 2) cap (l ++ [-777, -777]), boxI M #[.int .i64 op, .int .i64 a, .int .i64 b, .int .i64 x, .int .i64 y] 40] w6 := HS6.out.join s7
    have hxa : XIn w6 va l1.length l1 := st_xin s8 3 rfl rfl
    have hxb : XIn w6 va2 l1.length l1 := st_xin s8 1 rfl rfl
    have hxc : XIn w6 ta tl.length tl := st_xin s8 2 rfl rfl
    have hxd : XIn w6 ta2 tl.length tl := st_xin s8 0 rfl rfl
    have q1 := same_any va va2 l1.length l1.length vc vc2 l1 l1 hxa hxb (by omega)
    rw [decide_eq_true rfl] at q1
    have HQ2 : Hid (∀ W, Kept (fun _ => False) w6 W → Calls Tryz.prog 13 #[.slice ta tl.length tc, .slice ta2 tl.length tc2] W fun e w' => e = .returned (.bool true) ∧ Kept (fun _ => False) W w') := fun W k => by
      have := same_any ta ta2 tl.length tl.length tc tc2 tl tl (hxc.kept k) (hxd.kept k) (by omega)
      rw [decide_eq_true rfl] at this
      exact this
    have HS8 := hid s8
    clear s7 s8 hxa hxb hxc hxd hr d0 d1 d2 d3 d4 HS6
    generalize hk1 : l1.length = k at *
    have HK1 := hid hk1
    clear hk1
    generalize tl.length = kt at *
    go_upto_region 8 with (go_at_call 13; refine q1.mono ?_; rintro e w7 ⟨rfl, k7⟩)
    have q2 := HQ2.out w7 k7
    clear q1 HQ2
    go_upto_region 9 with (go_at_call 13; refine q2.mono ?_; rintro e w8 ⟨rfl, k8⟩)
    have s9 := ((HS8.out.calm k7).calm k8).pop.pop.pop
    have HS9 := hid s9
    have HL : Hid (∀ (it : It) (W : World), St w [it, rowI g (m + 2) cap (l ++ [-777, -777]), boxI M #[.int .i64 op, .int .i64 a, .int .i64 b, .int .i64 x, .int .i64 y] 40] W → XIn W (some ⟨g, 0, none⟩) m l ∧ XIn W la m l ∧ W.cell? ⟨g, m, none⟩ = some (.int .i64 (-777)) ∧ W.cell? ⟨g, m + 1, none⟩ = some (.int .i64 (-777))) := fun it W hs => by
      have hml := HML.out
      have hcell : ∀ j, j < m + 2 → W.cell? ⟨g, j, none⟩ = some (.int .i64 ((l ++ [-777, -777]).getD j 0)) := fun j hj => by
        rw [hs.ownCell 1 rfl j (by omega)]
        exact xC_at _ j (by simp; omega)
      refine ⟨⟨hml, fun _ => ⟨g, 0, rfl, fun j hj => ?_⟩⟩, HXL.out.kept hs.same, ?_, ?_⟩
      · rw [Nat.zero_add, hcell j (by omega)]
        congr 2
        simp only [List.getD_eq_getElem?_getD]
        rw [List.getElem?_append_left (by omega)]
      · rw [hcell m (by omega)]
        congr 2
        simp [List.getD_eq_getElem?_getD, hml]
      · rw [hcell (m + 1) (by omega)]
        congr 2
        simp only [List.getD_eq_getElem?_getD]
        rw [List.getElem?_append_right (by omega), hml]
        simp
    clear s9 q2 HS8 k7 k8 HXA HK5
    have hk63 : (k : Int) ≤ 9223372036854775807 := by omega
    go_wp2
    go_loopw [17] (fun i wr => ∃ (j : Nat) (ys : List Int), i = .int .i64 j ∧ j ≤ k ∧ St w [ownI 2 1 (.slice va k vc) k (xC ys), rowI g (m + 2) cap (l ++ [-777, -777]), boxI M #[.int .i64 op, .int .i64 a, .int .i64 b, .int .i64 x, .int .i64 y] 40] wr) (fun i _ => k - (intOf i).toNat)
    case atStart => exact ⟨0, l1, rfl, Nat.zero_le _, by have h := HS9.out; unfold lstI at h; rw [HK1.out] at h; exact h⟩
    case round =>
      obtain ⟨j, ys, rfl, hj, hst⟩ := hrel
      by_cases hlt : j < k
      · obtain ⟨gv, cv, e⟩ := hst.form 0 rfl (by omega)
        simp only [Value.slice.injEq, true_and] at e
        obtain ⟨rfl, rfl⟩ := e
        have c1 := row_cell hst hlt
        have f1 := row_frozen hst j
        have h0 : (0 : Int) ≤ (j : Int) := Int.natCast_nonneg _
        have h1 : (j : Int) < (k : Int) := by omega
        have HT := hid (row_set hst hlt (-777))
        clear hst
        generalize ys.getD j 0 = zz at *
        go_wp2
        go_roundw
        case rel => exact ⟨j + 1, _, by simp, by omega, HT.out⟩
        case measure => simp [intOf]; omega
      · have h1 : ¬ (j : Int) < (k : Int) := by omega
        obtain ⟨ha, hb, hc, hd⟩ := HL.out _ _ hst
        have q3 := same_any (some ⟨g, 0, none⟩) la m m cap lc l l ha hb (by omega)
        rw [decide_eq_true rfl] at q3
        have HK := hid hst.same
        have p0 : (0 : Int) ≤ (m : Int) := by omega
        have p1 : (m : Int) < ((m + 2 : Nat) : Int) := by omega
        have p2 : (0 : Int) ≤ (m : Int) + 1 := by omega
        have p3 : (m : Int) + 1 < ((m + 2 : Nat) : Int) := by omega
        clear hst ha hb HL
        go_upto_region 14 with (first | simp only [hsl] | (go_at_call 13; refine q3.mono ?_; rintro e w9 ⟨rfl, k9⟩))
        have c5 : w9.cell? ⟨g, m, none⟩ = some (.int .i64 (-777)) := by rw [World.cell?_of_block (k9.block g (World.block_lt_of_cell? _ _ hc) (fun f => f))]; exact hc
        have c6 : w9.cell? ⟨g, m + 1, none⟩ = some (.int .i64 (-777)) := by rw [World.cell?_of_block (k9.block g (World.block_lt_of_cell? _ _ hd) (fun f => f))]; exact hd
        clear q3 hc hd
        go_wp2_with (go_at_call 15; refine (hB _ _).mono ?_; rintro e w' ⟨rfl, rfl⟩)
        go_ret
        exact ⟨rfl, HK.out.trans k9 (fun _ _ f => f)⟩
  · simp only [if_neg hok] at hq
    have kq : Calls Tryz.prog 21 #[.slice (some ⟨g, 0, none⟩) m cap, .int .i64 n, .agg #[.int .i64 op, .int .i64 a, .int .i64 b, .int .i64 x, .int .i64 y]] w4.drew fun e w' => (e = .returned (.tuple #[.slice none 0 0, .slice none 0 0, .int .i64 180]) ∧ Hid (Kept (fun _ => False) w4 w')) := hq.mono fun e w' ⟨he, hs⟩ => ⟨he, (kept_drew w4).trans hs (fun _ _ f => f)⟩
    clear hq
    go_region_with (first | simp only [hsl] | (go_at_call 21; refine kq.mono ?_; rintro e w5 ⟨rfl, HK5⟩))
    obtain ⟨d0, d1, d2, d3, d4⟩ := HC.out _ HK5.out
    have hr := HRf.out w5 (HX.out.kept (HS4.out.calm HK5.out).same)
    unfold rDoE at hr
    simp only [if_neg hok] at hr
    clear c0 c1 c2 c3 c4 kq hok HC HRf HX HNil
    go_upto_region 7 with (go_at_call 22; refine hr.mono ?_; rintro e w6 ⟨rfl, k6⟩)
    have K6 := HK5.out.trans k6 (fun _ _ f => f)
    have hQ0 : ∀ W, Calls Tryz.prog 13 #[.slice none 0 0, .slice none 0 0] W fun e w' => e = .returned (.bool true) ∧ Kept (fun _ => False) W w' := fun W => by
      have := same_any (w := W) none none 0 0 0 0 [] [] ⟨rfl, fun h => by omega⟩ ⟨rfl, fun h => by omega⟩ (by omega)
      rw [decide_eq_true rfl] at this
      exact this
    clear hr d0 d1 d2 d3 d4
    go_upto_region 8 with (go_at_call 13; refine (hQ0 _).mono ?_; rintro e w7 ⟨rfl, k7⟩)
    go_upto_region 9 with (go_at_call 13; refine (hQ0 _).mono ?_; rintro e w8 ⟨rfl, k8⟩)
    have K8 := (K6.trans k7 (fun _ _ f => f)).trans k8 (fun _ _ f => f)
    have s9 := HS4.out.calm K8
    have hcell : ∀ j, j < m + 2 → w8.cell? ⟨g, j, none⟩ = some (.int .i64 ((l ++ [-777, -777]).getD j 0)) := fun j hj => by
      have hml := HML.out
      rw [s9.ownCell 0 rfl j (by omega)]
      exact xC_at _ j (by simp; omega)
    have hc : w8.cell? ⟨g, m, none⟩ = some (.int .i64 (-777)) := by
      have hml := HML.out
      rw [hcell m (by omega)]
      congr 2
      simp [List.getD_eq_getElem?_getD, hml]
    have hd : w8.cell? ⟨g, m + 1, none⟩ = some (.int .i64 (-777)) := by
      have hml := HML.out
      rw [hcell (m + 1) (by omega)]
      congr 2
      simp only [List.getD_eq_getElem?_getD]
      rw [List.getElem?_append_right (by omega), hml]
      simp
    have q3 := same_any (some ⟨g, 0, none⟩) la m m cap lc l l (HXA.out w8 K8) (HXL.out.kept s9.same) (by omega)
    rw [decide_eq_true rfl] at q3
    have HK := hid s9.same
    have p0 : (0 : Int) ≤ (m : Int) := by omega
    have p1 : (m : Int) < ((m + 2 : Nat) : Int) := by omega
    have p2 : (0 : Int) ≤ (m : Int) + 1 := by omega
    have p3 : (m : Int) + 1 < ((m + 2 : Nat) : Int) := by omega
    clear s9 hcell K8 K6 k6 k7 k8 HXA hQ0 HK5
    go_wp2
    go_loopw [17] (fun i wr => i = .int .i64 0 ∧ wr = w8) (fun _ _ => 0)
    case atStart => exact ⟨rfl, rfl⟩
    case round =>
      obtain ⟨rfl, rfl⟩ := hrel
      go_upto_region 14 with (first | simp only [hsl] | (go_at_call 13; refine q3.mono ?_; rintro e w9 ⟨rfl, k9⟩))
      have c5 : w9.cell? ⟨g, m, none⟩ = some (.int .i64 (-777)) := by rw [World.cell?_of_block (k9.block g (World.block_lt_of_cell? _ _ hc) (fun f => f))]; exact hc
      have c6 : w9.cell? ⟨g, m + 1, none⟩ = some (.int .i64 (-777)) := by rw [World.cell?_of_block (k9.block g (World.block_lt_of_cell? _ _ hd) (fun f => f))]; exact hd
      clear q3 hc hd
      go_wp2_with (go_at_call 15; refine (hB _ _).mono ?_; rintro e w' ⟨rfl, rfl⟩)
      go_ret
      exact ⟨rfl, HK.out.trans k9 (fun _ _ f => f)⟩
end Go.Proofs.YtdfefjalamohjaaGreatDoor

namespace Go.Proofs.YtdfefjalamohjaaGreatDoor
open Go.RowKit
set_option linter.unusedVariables false
set_option linter.unusedSimpArgs false
attribute [local go_sem ↓] Go.wp_at_zero Go.wp_at_succ

def Rg (x : Int) : Prop := -9223372036854775808 ≤ x ∧ x ≤ 9223372036854775807
theorem sizeX : (Tryz.prog.info? 2).map (·.size) = some 1 := by kernel_rfl
/-- A list cut or filled up to a length. -/
def padM (k : Nat) (l : List Int) : List Int := l.take k ++ List.replicate (k - l.length) 0
theorem padM_length (k : Nat) (l : List Int) : (padM k l).length = k := by
  unfold padM
  rw [List.length_append, List.length_take, List.length_replicate]
  omega
theorem padM_self (l : List Int) : padM l.length l = l := by simp [padM]
theorem owns_row {w : World} {g n : Nat} {l : List Int} (h : w.heap[g]? = some (.cells (xC l).toArray 2 (0, 0))) (hn : l.length = n) (hm : n ≤ maxLen) : w.ownsRow g 2 1 (.slice (some ⟨g, 0, none⟩) n n) n (xC l) :=
  ⟨by rw [xC_length]; omega, .inr ⟨g, n, (xC l).toArray, rfl, Nat.le_refl _, h, Nat.le_refl _, hm, by simp [xC]; omega, by rw [Nat.mul_one]; exact List.take_of_length_le (by simp [xC]; omega)⟩⟩
theorem copyX (la : Option Addr) (m lc k : Nat) (l : List Int) (w : World) (hX : XIn w la m l) : ∃ w', (Builtin.copy_ #[24, 24] 3 #[.slice (some ⟨w.heap.size, 0, none⟩) k k, .slice la m lc]).run Tryz.prog (w.alloc (.cells (xC (List.replicate k 0)).toArray 2)) = .ok (goInt (Nat.min m k : Nat)) w' ∧ Kept (fun _ => False) w w' ∧ w'.heap[w.heap.size]? = some (.cells (xC (padM k l)).toArray 2 (0, 0)) := by
  have hml := hX.1
  by_cases h0 : Nat.min m k = 0
  · refine ⟨_, by rw [h0]; exact run_copy_none _ 24 24 3 2 _ _ _ _ _ _ Tryz.underlying24 sizeX h0, kept_alloc w _, ?_⟩
    have hp : padM k l = List.replicate k 0 := by
      unfold padM
      by_cases hk : k = 0
      · subst hk; simp
      · have hm0 : m = 0 := by
          simp only [Nat.min_def] at h0
          split at h0 <;> omega
        have : l = [] := List.length_eq_zero_iff.1 (by omega)
        subst this
        simp
    rw [hp]
    exact heap_alloc_new w _
  · have hm1 : 0 < m := by
      simp only [Nat.min_def] at h0
      split at h0 <;> omega
    obtain ⟨g, o, rfl, hc⟩ := (hX.kept (kept_alloc w (.cells (xC (List.replicate k 0)).toArray 2))).2 hm1
    have hl : (xC (l.take k)).length = Nat.min m k := by
      rw [xC_length, List.length_take, ← hml, Nat.min_comm]
    have hl2 : Nat.min m k ≤ k := Nat.min_le_right _ _
    have hl3 : Nat.min m k ≤ m := Nat.min_le_left _ _
    have hrun := run_copy_row (P := Tryz.prog) (w.alloc (.cells (xC (List.replicate k 0)).toArray 2)) 24 24 3 2 w.heap.size 0 k k ⟨g, o, none⟩ m lc (xC (List.replicate k 0)).toArray 2 (xC (l.take k)) Tryz.underlying24 sizeX (heap_alloc_new w _) hl (fun j v hj => by
      have hjl := (List.getElem?_eq_some_iff.1 hj).1
      rw [hl] at hjl
      rw [xC_at _ j (by rw [List.length_take]; omega)] at hj
      rw [Addr.add_lit, hc j (by omega), ← hj]
      congr 2
      simp only [List.getD_eq_getElem?_getD]
      rw [List.getElem?_take_of_lt (by omega)]) (by rw [hl]; simp [xC]; omega) (xC_one _)
    rw [hl] at hrun
    refine ⟨_, hrun, (kept_alloc w _).trans (G := fun b => b = w.heap.size) ⟨rfl, rfl, rfl, by simp [World.setRow], fun b _ hb => setRow_other _ _ _ _ hb⟩ (fun i hi e => by omega), ?_⟩
    rw [setRow_heap _ _ _ _ _ _ (heap_alloc_new w _)]
    have he : (List.take 0 (xC (List.replicate k 0)).toArray.toList ++ xC (l.take k) ++ List.drop (0 + Nat.min m k) (xC (List.replicate k 0)).toArray.toList) = xC (padM k l) := by
      unfold padM
      rw [xC_append, List.take_zero, List.nil_append, Nat.zero_add]
      have e1 : ∀ q, List.drop q (xC (List.replicate k 0)).toArray.toList = xC (List.replicate (k - q) 0) := fun q => by simp [xC, List.drop_replicate]
      rw [e1]
      have e2 : k - Nat.min m k = k - l.length := by
        rw [← hml]
        have hmin : Nat.min m k = if m ≤ k then m else k := rfl
        rw [hmin]
        split <;> omega
      rw [e2]
    rw [he]
set_option maxHeartbeats 1000000 in
theorem Copied_any (la : Option Addr) (n lc : Nat) (l : List Int) (w : World) (hX : XIn w la n l) (hb : n * 8 ≤ 140737488355328) :
    Calls Tryz.prog 16 #[.slice la n lc] w fun e w' => ∃ v, e = .returned v ∧ St w [ownI 2 1 v n (xC l)] w' := by
  have hm := makeX n (n : Int) rfl hb w
  obtain ⟨w2, hcp, k2, hg⟩ := copyX la n lc n l w hX
  have hln : l.length = n := hX.1.symm
  rw [← hln, padM_self] at hg
  have HS := hid ((St.nil w).own k2 (owns_row hg hln (by unfold maxLen; omega)))
  clear hX hln k2 hg
  generalize (xC (List.replicate n 0)).toArray = Z at *
  go_enter Tryz.func16, Tryz.ntmps16
  go_wp2_with (first | simp only [hm] | simp only [hcp])
  go_ret
  exact ⟨_, rfl, HS.out⟩
theorem pick_any (c : Int) (n : Nat) (w : World) (hn : 0 < n) (hn2 : n ≤ 9223372036854775807) (h0 : -9223372036854775808 ≤ c) (h1 : c ≤ 9223372036854775807) : Calls Tryz.prog 20 #[.int .i64 c, .int .i64 n] w fun e w' => (∃ k : Nat, k < n ∧ e = .returned (.int .i64 k)) ∧ w' = w := by
  have key : ∀ z : Int, 0 ≤ z → ∃ k : Nat, k < n ∧ z.tmod n = (k : Int) := fun z hz => by
    refine ⟨(z.tmod n).toNat, ?_, ?_⟩
    · have := Int.tmod_lt_of_pos z (show (0 : Int) < n by omega)
      have h2 := Int.tmod_nonneg (n : Int) hz
      omega
    · have h2 := Int.tmod_nonneg (n : Int) hz
      omega
  have hnz : ¬ (n : Int) = 0 := by omega
  by_cases hc : c < 0
  · obtain ⟨k, hk, ek⟩ := key (-(c + 1)) (by omega)
    have tc : decide (c < 0) = true := decide_eq_true hc
    clear key
    go_enter Tryz.func20, Tryz.ntmps20
    go_wp2_with (simp only [ek])
    go_ret
    exact ⟨⟨k, hk, by first | rfl | (simp; omega) | (simp [ek])⟩, rfl⟩
  · obtain ⟨k, hk, ek⟩ := key c (by omega)
    have tc : decide (c < 0) = false := decide_eq_false hc
    clear key
    go_enter Tryz.func20, Tryz.ntmps20
    go_wp2_with (simp only [ek])
    go_ret
    exact ⟨⟨k, hk, by first | rfl | (simp; omega) | (simp [ek])⟩, rfl⟩
theorem row_xin {o w : World} {R : List It} {g n cap : Nat} {zs : List Int} (h : St o (rowI g n cap zs :: R) w) : XIn w (some ⟨g, 0, none⟩) n zs :=
  ⟨row_len h, fun _ => ⟨g, 0, rfl, fun j hj => by rw [Nat.zero_add]; exact row_cell h hj⟩⟩
theorem own_slice {w : World} {base t n : Nat} {v : Value} {xs : List Value} (h : w.ownsRow base t 1 v n xs) : ∃ la lc, v = .slice la n lc := by
  rcases h.2 with ⟨rfl, hn⟩ | ⟨g, cap, cur, rfl, _⟩
  · exact ⟨none, 0, by rw [hn]⟩
  · exact ⟨_, _, rfl⟩
end Go.Proofs.YtdfefjalamohjaaGreatDoor
