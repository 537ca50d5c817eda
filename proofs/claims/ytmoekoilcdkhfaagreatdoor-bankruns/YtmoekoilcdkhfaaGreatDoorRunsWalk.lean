/- A case as an argument. BankRuns, walked. -/
import Derived.Test.YtmoekoilcdkhfaaGreatDoorAr
import Derived.Test.YtmoekoilcdkhfaaGreatDoorBkG
import Derived.Test.YtmoekoilcdkhfaaGreatDoorRnQ
import Derived.WideKeyPair
import Derived.Test.YtmoekoilcdkhfaaGreatDoorRnD
import Derived.Test.YtmoekoilcdkhfaaGreatDoorReadsWalk
namespace Go.Proofs.YtmoekoilcdkhfaaGreatDoor
open Go.RowKit Go.ChangeShapes Go.WideShapes Go.Deep
set_option linter.unusedVariables false
set_option linter.unusedSimpArgs false

theorem i64_rng {x : Int} (h : (Lit.int .i64 x).wf = true) : -9223372036854775808 ≤ x ∧ x ≤ 9223372036854775807 := by
  have e1 : IntKind.i64.min = -9223372036854775808 := by decide
  have e2 : IntKind.i64.max = 9223372036854775807 := by decide
  simp only [Lit.wf, decide_eq_true_eq, Bool.and_eq_true] at h
  rw [e1, e2] at h
  omega
structure DeAt (w : World) (b off : Nat) (o : Dd) : Prop where
  c0 : w.cell? ⟨b, off, none⟩ = some (.int .i64 o.op)
  c1 : w.cell? ⟨b, off + 1, none⟩ = some (.int .i64 o.a)
  c2 : w.cell? ⟨b, off + 2, none⟩ = some (.int .i64 o.b)
  c3 : w.cell? ⟨b, off + 3, none⟩ = some (.int .i64 o.x)
  c4 : w.cell? ⟨b, off + 4, none⟩ = some (.int .i64 o.y)
/-- A list of deeds that came in. -/
def DesAt (w : World) (a : Option Addr) (len : Nat) (f : Nat → Dd) : Prop :=
  len = 0 ∨ ∃ b off, a = some ⟨b, off, none⟩ ∧ ∀ i, i < len → DeAt w b (off + i * 5) (f i) ∧ Rg (f i).x
theorem DeAt.kept {w w' : World} {b off : Nat} {o : Dd} (h : DeAt w b off o) (k : Kept (fun _ => False) w w') : DeAt w' b off o := by
  have hb : b < w.heap.size := World.block_lt_of_cell? w _ h.c0
  have e : ∀ j, w'.cell? ⟨b, j, none⟩ = w.cell? ⟨b, j, none⟩ := fun j => World.cell?_of_block (k.block b hb (fun f => f))
  exact ⟨(e _).trans h.c0, (e _).trans h.c1, (e _).trans h.c2, (e _).trans h.c3, (e _).trans h.c4⟩
section
variable {H : Type} {enc : TypeId × Value → H} {w : World}
set_option maxRecDepth 100000 in
theorem open_De {fuel : Nat} {cs : List Value} {x : DataW H × List MemPlace} (h : DataW.trod enc Tryz.prog w 0 (fun _ => true) true fuel 40 cs = some x) :
    ∃ o : Dd, cs = [.int .i64 o.op, .int .i64 o.a, .int .i64 o.b, .int .i64 o.x, .int .i64 o.y] ∧ Rg o.x := by
  obtain ⟨xs, n, _, rfl, hl, hlen, hf⟩ := DataW.trod_struct Tryz.underlying40 h
  rw [Tryz.cellsA_deed] at hl
  match cs, hl with
  | [v0, v1, v2, v3, v4], _ =>
    match xs, hlen with
    | [y0, y1, y2, y3, y4], _ =>
      have g0 := hf 0 _ rfl
      have g1 := hf 1 _ rfl
      have g2 := hf 2 _ rfl
      have g3 := hf 3 _ rfl
      have g4 := hf 4 _ rfl
      simp [Tryz.cellsA_int, Tryz.cellsA_i64] at g0 g1 g2 g3 g4
      obtain ⟨b0, e0, _, _⟩ := DataW.trod_int Tryz.underlying3 g0
      obtain ⟨b1, e1, _, _⟩ := DataW.trod_int Tryz.underlying3 g1
      obtain ⟨b2, e2, _, _⟩ := DataW.trod_int Tryz.underlying3 g2
      obtain ⟨b3, e3, _, wf3⟩ := DataW.trod_int Tryz.underlying2 g3
      obtain ⟨b4, e4, _, _⟩ := DataW.trod_int Tryz.underlying2 g4
      simp only [List.cons.injEq, and_true] at e0 e1 e2 e3 e4
      subst e0 e1 e2 e3 e4
      exact ⟨⟨b0, b1, b2, b3, b4⟩, rfl, i64_rng wf3⟩
set_option maxRecDepth 100000 in
theorem open_Des {fuel : Nat} {v : Value} {x : DataW H × List MemPlace} (hf : DataW.trod enc Tryz.prog w 0 (fun _ => true) true fuel 54 [v] = some x) :
    ∃ a len cap f, v = .slice a len cap ∧ DesAt w a len f := by
  rcases open_slice Tryz.underlying54 hf with ⟨hcs, _⟩ | ⟨a', len, cap, m, n, D, Pl, hcs, _, hl, hm, hmm, hx, hcell⟩
  · simp only [List.cons.injEq, and_true] at hcs
    exact ⟨_, _, _, fun _ => Dd.zero, hcs, .inl rfl⟩
  · simp only [List.cons.injEq, and_true] at hcs
    have hmm2 : m = cap := by simpa using hmm
    by_cases h0 : len = 0
    · exact ⟨_, _, _, fun _ => Dd.zero, hcs, .inl h0⟩
    obtain ⟨cs0, hc0, _⟩ := hcell 0 (by omega)
    rw [Tryz.cellsA_deed] at hc0
    have hs := (World.cells?_some hc0)
    obtain ⟨b, off, spot⟩ := a'
    have h00 := hs.2.2 0 (by omega)
    rw [List.getElem?_eq_getElem (by omega)] at h00
    have hspot : spot = none := by simpa [Addr.add] using World.cell?_spot h00
    subst hspot
    have hall : ∀ i, i < len → ∃ o : Dd, DeAt w b (off + i * 5) o ∧ Rg o.x := by
      intro i hi
      obtain ⟨cs, hc, ht⟩ := hcell i (by omega)
      rw [Tryz.cellsA_deed] at hc
      obtain ⟨o, rfl, hr⟩ := open_De ht
      have hcc := (World.cells?_some hc).2.2
      have eadd : ∀ j, ((⟨b, off, none⟩ : Addr).add (i * 5)).add j = ⟨b, off + i * 5 + j, none⟩ := by
        intro j
        unfold Addr.add
        split <;> split <;> simp_all
      have c0 := hcc 0 (by omega)
      have c1 := hcc 1 (by omega)
      have c2 := hcc 2 (by omega)
      have c3 := hcc 3 (by omega)
      have c4 := hcc 4 (by omega)
      rw [eadd] at c0 c1 c2 c3 c4
      exact ⟨o, ⟨c0, c1, c2, c3, c4⟩, hr⟩
    obtain ⟨f, hff⟩ := @choose_lt Dd ⟨Dd.zero⟩ len (fun i o => DeAt w b (off + i * 5) o ∧ Rg o.x) hall
    exact ⟨_, _, _, f, hcs, .inr ⟨b, off, rfl, hff⟩⟩
theorem open_Xs {fuel : Nat} {v : Value} {x : DataW H × List MemPlace} (h : DataW.trod enc Tryz.prog w 0 (fun _ => true) true fuel 24 [v] = some x) :
    ∃ la ll lc zs, v = .slice la ll lc ∧ XIn w la ll zs ∧ ll ≤ maxLen := by
  rcases open_ints Tryz.underlying24 Tryz.underlying2 Tryz.cellsA_i64 h with ⟨hcs, _⟩ | ⟨a, len, cap, zs, hcs, _, hl, hm, hzl, hx, hcell, _⟩
  · simp only [List.cons.injEq, and_true] at hcs
    exact ⟨_, _, _, [], hcs, ⟨rfl, fun h => by omega⟩, Nat.zero_le _⟩
  · simp only [List.cons.injEq, and_true] at hcs
    simp only [if_true] at hzl
    refine ⟨_, _, _, zs.take len, hcs, ⟨by simp; omega, fun h0 => ?_⟩, Nat.le_trans hl hm⟩
    have hp : a.spot = none := by simpa [Addr.add] using World.cell?_spot (hcell 0 (by omega))
    obtain ⟨g, of, s⟩ := a
    simp only at hp
    subst hp
    refine ⟨g, of, rfl, fun j hj => ?_⟩
    have := hcell j (by omega)
    rw [Addr.add_lit] at this
    simpa [hj] using this
theorem Tryz.cells_case : Tryz.prog.cellsOf 56 = 6 := by kernel_rfl
theorem Tryz.cells_xs : Tryz.prog.cellsOf 24 = 1 := by kernel_rfl
theorem Tryz.cells_ds : Tryz.prog.cellsOf 54 = 1 := by kernel_rfl
set_option maxRecDepth 100000 in
theorem arg_case {b0 : Nat} {v : Value} {d : DataW H} {p : List MemPlace} (hv : Value.okWide Tryz.prog w .any b0 56 v) (h : DataW.Trod enc Tryz.prog w 0 (fun _ => true) true 56 v d p) :
    ∃ base n seed la ml lc l ja mj jc js da md dc f, v = .agg #[.int .i64 base, .int .i64 n, .int .i64 seed, .slice la ml lc, .slice ja mj jc, .slice da md dc] ∧ (Rg base ∧ Rg n ∧ Rg seed) ∧ (XIn w la ml l ∧ ml ≤ maxLen) ∧ XIn w ja mj js ∧ DesAt w da md f := by
  obtain ⟨cs, rfl, hsz⟩ := okWide_struct Tryz.underlying56 hv
  obtain ⟨fuel, h⟩ := h
  rw [Tryz.cells_case] at hsz
  simp only [Value.cells] at h
  obtain ⟨l⟩ := cs
  simp only [List.size_toArray] at hsz
  obtain ⟨xs, n, _, _, hl, hlen, hf⟩ := DataW.trod_struct Tryz.underlying56 h
  match l, hsz with
  | [v0, v1, v2, v3, v4, v5], _ =>
    match xs, hlen with
    | [y0, y1, y2, y3, y4, y5], _ =>
      have g0 := hf 0 _ rfl
      have g1 := hf 1 _ rfl
      have g2 := hf 2 _ rfl
      have g3 := hf 3 _ rfl
      have g4 := hf 4 _ rfl
      have g5 := hf 5 _ rfl
      simp [Tryz.cellsA_int, Tryz.cells_xs, Tryz.cells_ds] at g0 g1 g2 g3 g4 g5
      obtain ⟨b0, e0, _, wf0⟩ := DataW.trod_int Tryz.underlying3 g0
      obtain ⟨b1, e1, _, wf1⟩ := DataW.trod_int Tryz.underlying3 g1
      obtain ⟨b2, e2, _, wf2⟩ := DataW.trod_int Tryz.underlying3 g2
      obtain ⟨la, ml, lc, l, rfl, hx3⟩ := open_Xs g3
      obtain ⟨ja, mj, jc, js, rfl, hx4, -⟩ := open_Xs g4
      obtain ⟨da, md, dc, f, rfl, hx5⟩ := open_Des g5
      simp only [List.cons.injEq, and_true] at e0 e1 e2
      subst e0 e1 e2
      exact ⟨_, _, _, _, _, _, _, _, _, _, _, _, _, _, f, rfl, ⟨i64_rng wf0, i64_rng wf1, i64_rng wf2⟩, hx3, hx4, hx5⟩
end
end Go.Proofs.YtmoekoilcdkhfaaGreatDoor

namespace Go.Proofs.YtmoekoilcdkhfaaGreatDoor
open Go.RowKit
set_option linter.unusedVariables false
set_option linter.unusedSimpArgs false
attribute [local go_sem ↓] Go.wp_at_zero Go.wp_at_succ

theorem len8 {L : List Int} (h : L.length = 8) : ∃ l0 l1 l2 l3 l4 l5 l6 l7, L = [l0, l1, l2, l3, l4, l5, l6, l7] := by
  match L, h with
  | [l0, l1, l2, l3, l4, l5, l6, l7], _ => exact ⟨l0, l1, l2, l3, l4, l5, l6, l7, rfl⟩
theorem box_put {L : List Int} (j : Nat) (z : Int) : (xC L).toArray.setIfInBounds j (.int .i64 z) = (xC (L.set j z)).toArray := by
  simp [xC]
/-- What is asked of the state behind the last instruction. -/
theorem may_end {cells lc told wrote : List Int} {p tr : Int} : (owE cells p lc told wrote tr).may ⟨22, 0⟩ := by
  refine ⟨rfl, (by decide : knownB 22 = true), (by decide : (rowOf 22).pops ≤ ((2 : Nat) : Int)), (by decide : ((2 : Nat) : Int) - (rowOf 22).pops + (rowOf 22).pushes ≤ 32), fun h => ?_, fun h => ?_, fun _ => rfl, fun h => ?_, fun h => ?_, fun h => ?_⟩
  all_goals simp at h
def owD (cells : List Int) (p : Int) (lc told wrote : List Int) (tr : Int) : Ow := ⟨cells, p, [7, -7], lc, told, [], false, true, 0, tr, wrote⟩
theorem own_end {cells lc told wrote : List Int} {p tr : Int} : (owE cells p lc told wrote tr).go ⟨22, 0⟩ = owD cells p lc told wrote tr := by
  simp [Ow.go, owE, owD]
theorem read_has {W : World} {cs' L1 : List Int} {m NL b n : Nat} {ca2 : Option Addr} {cc2 : Nat} (hX : XIn W ca2 m cs') (hm : m ≤ 256) (hc : m ≤ cc2) (h : BkHas cs' b n L1) (hl : L1.length = NL) : Calls Tryz.prog 17 #[.slice ca2 m cc2, .int .i64 (b : Int), .int .i64 (n : Int)] W fun e w' => ∃ ra rc, e = .returned (.tuple #[.slice ra NL rc, .int .i64 0]) ∧ Hid (XIn w' ra NL L1 ∧ Kept (fun _ => False) W w') := by
  have h9 := Read_any ca2 m cc2 cs' (b : Int) (n : Int) W hX hc (by omega)
  have hf := h.fits
  rw [← hX.1] at hf
  simp only [if_pos hf, Int.toNat_natCast, h.read] at h9
  refine h9.mono fun e w' ⟨v, he, s⟩ => ?_
  subst he
  have hn : n = L1.length := h.ll.symm
  subst hl
  obtain ⟨ra, rc, rfl, hx, -, -⟩ := own_xin (show w'.ownsRow 0 2 1 v L1.length (xC L1) by rw [← hn]; exact s.get 0 rfl)
  exact ⟨ra, rc, rfl, hx, s.same⟩
set_option maxRecDepth 100000 in
set_option maxHeartbeats 16000000 in
theorem runs_walk {w : World} {base n0 seed : Int} {la ja da : Option Addr} {ml lc mj jc md dc : Nat} {l js : List Int} {f : Nat → Dd} (hE : Env w) (hr : Rg base ∧ Rg n0 ∧ Rg seed) (hX : XIn w la ml l ∧ ml ≤ maxLen) (hJ : XIn w ja mj js) (hD : DesAt w da md f) :
    Calls Tryz.prog 8 #[.agg #[.int .i64 base, .int .i64 n0, .int .i64 seed, .slice la ml lc, .slice ja mj jc, .slice da md dc]] w fun e w' => e = .returned (.bool true) ∧ Kept (fun _ => False) w w' := by
  have s1 := (St.nil w).box #[.int .i64 base, .int .i64 n0, .int .i64 seed, .slice la ml lc, .slice ja mj jc, .slice da md dc] 56
  have hA := awake_any _ (hE.kept s1.same)
  generalize hw1 : w.alloc (.cells #[.int .i64 base, .int .i64 n0, .int .i64 seed, .slice la ml lc, .slice ja mj jc, .slice da md dc] 56) = w1 at *
  generalize hM : w.heap.size = M at *
  have HC : Hid (∀ W, Kept (fun _ => False) w1 W → W.cell? ⟨M, 0, none⟩ = some (.int .i64 base) ∧ W.cell? ⟨M, 1, none⟩ = some (.int .i64 n0) ∧ W.cell? ⟨M, 2, none⟩ = some (.int .i64 seed) ∧ W.cell? ⟨M, 3, none⟩ = some (.slice la ml lc) ∧ W.cell? ⟨M, 4, none⟩ = some (.slice ja mj jc) ∧ W.cell? ⟨M, 5, none⟩ = some (.slice da md dc)) := hid (fun W k => ⟨(s1.calm k).cell 0 rfl 0, (s1.calm k).cell 0 rfl 1, (s1.calm k).cell 0 rfl 2, (s1.calm k).cell 0 rfl 3, (s1.calm k).cell 0 rfl 4, (s1.calm k).cell 0 rfl 5⟩)
  have HT : Hid (∀ W, Kept (fun _ => False) w1 W → Kept (fun _ => False) w W) := hid (fun W k => s1.same.trans k (fun _ _ f => f))
  have HLd := hid (fun (W : World) (k : Kept (fun _ => False) w W) => laid_any (lc := lc) (da := da) (md := md) (dc := dc) (jc := jc) hr.1 hr.2.1 hr.2.2 (hX.1.kept k) hX.2 (hJ.kept k))
  have HE := hid hE
  have HJ := hid hJ
  have HD := hid hD
  clear s1 hE hr hX hJ hD
  go_enter Tryz.func8, Tryz.ntmps8
  go_upto_region 2 with (first | simp only [hw1, hM] | (go_at_call 9; refine hA.mono ?_; rintro e w2 ⟨rfl, k2⟩))
  obtain ⟨c0, c1, c2, c3, c4, c5⟩ := HC.out w2 k2
  have hld := HLd.out w2 (HT.out _ k2)
  clear HLd hA hw1 hM
  go_upto_region 3 with (go_at_call 27; refine hld.mono ?_; rintro e w3 ⟨b, n, cs0, l0, ca0, va0, cc0, vc0, rfl, hx0, hv0, hdq0, k3⟩)
  have hfit := hdq0.fits
  have hR : roomM (n : Int) = (n : Int) := by
    have := hdq0.n0
    have := hdq0.n1
    unfold roomM
    rw [if_pos (by omega)]
  have hrm := fun W => rRoom_any (n : Int) W
  rw [hR] at hrm
  have HX0 := hid hx0
  have HV0 := hid hv0
  have HDQ0 := hid hdq0
  have HK3 := hid (k2.trans k3 (fun _ _ f => f))
  clear hx0 hv0 hdq0 k2 k3 hld hfit hR c0 c1 c2 c3 c4 c5
  go_wp2_with (go_at_call 12; refine (hrm _).mono ?_; rintro e w4 ⟨rfl, hw4⟩; obtain rfl : w3 = w4 := hw4.symm; clear hw4)
  go_loopw [4, 7, 9] (fun cv lv i wr => ∃ (i' : Nat) (cs l : List Int) (ca va : Option Addr) (cc vc : Nat), i = .int .i64 i' ∧ i' ≤ 40 ∧ cv = .slice ca cs.length cc ∧ lv = .slice va l.length vc ∧ XIn wr ca cs.length cs ∧ XV wr va l.length vc l ∧ BkHas cs b n l ∧ Kept (fun _ => False) w1 wr) (fun _ _ i _ => 40 - (intOf i).toNat)
  case atStart => exact ⟨0, cs0, l0, ca0, va0, cc0, vc0, rfl, by omega, rfl, rfl, HX0.out, HV0.out, HDQ0.out, HK3.out⟩
  case round =>
    clear HX0 HV0 HDQ0 HK3
    obtain ⟨i, cs, l, ca, va, cc, vc, rfl, hi, rfl, rfl, hx, hv, hdq, hk⟩ := hrel
    obtain ⟨c0, c1, c2, c3, c4, c5⟩ := HC.out wr hk
    by_cases hgo : i < md ∧ i < 40
    · have t1 : (i : Int) < (md : Int) := by omega
      have t2 : (i : Int) < 40 := by omega
      have t3 : (0 : Int) ≤ (i : Int) := by omega
      rcases HD.out with h0 | ⟨gd, od, rfl, hds⟩
      · omega
      obtain ⟨hde, hrx⟩ := hds i hgo.1
      have hde1 := hde.kept (HT.out _ hk)
      have HDE := hid hde
      obtain ⟨hokS, hokC⟩ := hdq.ok (f i)
      have hdo := (rDo_any va l.length vc l (n : Int) (f i) wr hv.1).mono (fun e w' h => rDo_xv h)
      unfold rDoX at hdo
      rw [hokS] at hdo
      have HCd := hid (fun (W : World) (k : Kept (fun _ => False) w W) => Code_any (b : Int) (n : Int) (f i) W (HE.out.kept k))
      have hB := fun b W => codeBank_any b W
      have HRun := hid (fun (lc : List Int) (hl : lc.length = 8) (hm : mayD (n : Int) (f i) = true) => deed_runsS (tr := 0) hdq hl hm)
      have HX := hid hx
      have HV := hid hv
      have HDQ := hid hdq
      have HK := hid hk
      have HI := hid hgo
      obtain ⟨d0, d1, d2, d3, d4⟩ := hde1
      generalize hdd : f i = d at *
      obtain ⟨op, a, b', x, y⟩ := d
      unfold Dd.val at hdo HCd
      simp only at d0 d1 d2 d3 d4 hdo HCd
      clear hx hv hdq hk hgo hi hds hde hdd hokS
      cases hmy : mayD (n : Int) ⟨op, a, b', x, y⟩ with
      | false =>
        rw [hmy] at hdo
        simp only [Bool.false_eq_true, if_false] at hdo
        go_upto_region 8 with (go_at_call 22; refine hdo.mono ?_; rintro e w5 ⟨rfl, k5⟩)
        have K5 := HK.out.trans k5 (fun _ _ f => f)
        obtain ⟨c0, c1, c2, c3, c4, c5⟩ := HC.out w5 K5
        obtain ⟨d0, d1, d2, d3, d4⟩ := HDE.out.kept (HT.out _ K5)
        have hcd := HCd.out w5 (HT.out _ K5)
        unfold CodeE at hcd
        rw [hokC, hmy] at hcd
        simp only [Bool.false_eq_true, if_false] at hcd
        simp only at d0 d1 d2 d3 d4
        clear hdo
        go_wp2_with (first | (go_at_call 23; refine hcd.mono ?_; rintro e w6 ⟨rfl, k6⟩) | (go_at_call 15; refine (hB _ _).mono ?_; rintro e w7 ⟨rfl, hw7⟩; obtain rfl : w6 = w7 := hw7.symm; clear hw7))
        go_roundw
        case rel => exact ⟨i + 1, cs, l, ca, va, cc, vc, by push_cast; rfl, by have := HI.out; omega, rfl, rfl, (HX.out.kept k5).kept k6, (HV.out.kept k5).kept k6, HDQ.out, K5.trans k6 (fun _ _ f => f)⟩
        case measure =>
          have := HI.out
          simp [intOf]
          omega
      | true =>
        rw [hmy] at hdo
        simp only [if_true] at hdo
        go_upto_region 8 with (go_at_call 22; refine hdo.mono ?_; rintro e w5 ⟨wa, wc, ta, tc, rfl, hw5, ht5, k5⟩)
        have K5 := HK.out.trans k5 (fun _ _ f => f)
        obtain ⟨c0, c1, c2, c3, c4, c5⟩ := HC.out w5 K5
        obtain ⟨d0, d1, d2, d3, d4⟩ := HDE.out.kept (HT.out _ K5)
        have hcd := HCd.out w5 (HT.out _ K5)
        unfold CodeE at hcd
        rw [hokC, hmy] at hcd
        simp only [if_true, Int.toNat_natCast] at hcd
        simp only at d0 d1 d2 d3 d4 HRun
        have HPL := hid (code_le (b : Int) (n : Int) ⟨op, a, b', x, y⟩)
        generalize hP : codeM (b : Int) (n : Int) ⟨op, a, b', x, y⟩ = P at *
        replace hcd := hcd.mono (fun e w' h => (show ∃ pa pc, e = .returned (.tuple #[.slice pa P.length pc, .int .i64 0]) ∧ Hid (IIn w' pa P.length P ∧ Kept (fun _ => False) w5 w') by
          obtain ⟨lv, rfl, s⟩ := h
          obtain ⟨pa, pc, rfl, hI, _⟩ := own_iin (show w'.ownsRow 0 79 2 lv P.length (insCells P) from s.get 0 rfl)
          exact ⟨pa, pc, rfl, hI, s.same⟩))
        have HW5 := hid hw5
        have HT5 := hid ht5
        have HK5 := hid k5
        have HKK5 := hid K5
        clear hdo hP hw5 ht5 k5 K5
        generalize hPL : P.length = PL at *
        have HPLe := hid hPL
        clear hPL
        have HNTl := hid (doS_len l (n : Int) ⟨op, a, b', x, y⟩).2
        generalize hdos : doS l (n : Int) ⟨op, a, b', x, y⟩ = DD at *
        obtain ⟨L1, T1⟩ := DD
        simp only at HW5 HT5 HRun HNTl
        clear hdos
        generalize hL1 : L1.length = NL at *
        have HL1 := hid hL1
        clear hL1
        generalize hT1 : T1.length = NT at *
        have HT1 := hid hT1
        clear hT1
        go_upto_region 12 with (first | (go_at_call 23; refine hcd.mono ?_; rintro e w6 ⟨pa, pc, rfl, HI6⟩) | (go_at_call 15; refine (hB _ _).mono ?_; rintro e w7 ⟨rfl, hw7⟩; obtain rfl : w6 = w7 := hw7.symm; clear hw7))
        have HK6 := hid (HKK5.out.trans HI6.out.2 (fun _ _ f => f))
        clear c0 c1 c2 c3 c4 c5 d0 d1 d2 d3 d4 hcd
        have s7 := (St.nil w6).box #[.int .i64 0, .int .i64 0, .int .i64 0, .int .i64 0, .int .i64 0, .int .i64 0, .int .i64 0, .int .i64 0] 59
        go_upto_region 13 with fail
        generalize w6.alloc (.cells #[.int .i64 0, .int .i64 0, .int .i64 0, .int .i64 0, .int .i64 0, .int .i64 0, .int .i64 0, .int .i64 0] 59) = w7 at *
        generalize w6.heap.size = X7 at *
        have HS7 := hid s7
        clear s7
        go_wp2
        go_loopw [16] (fun k wr2 => ∃ (j : Nat) (L : List Int), k = .int .i64 j ∧ j ≤ 8 ∧ L.length = 8 ∧ St w6 [boxI X7 (xC L).toArray 59] wr2) (fun k _ => 8 - (intOf k).toNat)
        case atStart => exact ⟨0, [0, 0, 0, 0, 0, 0, 0, 0], rfl, by omega, rfl, HS7.out⟩
        case round =>
          clear HS7
          obtain ⟨j, L, rfl, hj, hL8, hst⟩ := hrel
          obtain ⟨c0, c1, c2, c3, c4, c5⟩ := HC.out wr (HK6.out.trans hst.same (fun _ _ f => f))
          obtain ⟨e0, e1, e2, e3, e4, e5⟩ := HC.out wr.drew (HK6.out.trans hst.drew.same (fun _ _ f => f))
          by_cases hgo2 : j < 8 ∧ 0 < mj
          · have q1 : (j : Int) < 8 := by omega
            have q2 : (0 : Int) < (mj : Int) := by omega
            have q3 : (0 : Int) ≤ (j : Int) := by omega
            obtain ⟨gj, oj, rfl⟩ := HJ.out.addr hgo2.2
            have hmd : j % mj < mj := Nat.mod_lt _ hgo2.2
            have x1 : wr.drew.cell? ⟨gj, oj + j % mj, none⟩ = some (.int .i64 (js.getD (j % mj) 0)) := (HJ.out.kept (HT.out _ (HK6.out.trans hst.drew.same (fun _ _ f => f)))).cell hmd
            have f2 : wr.drew.frozen? ⟨X7, j, none⟩ = false := hst.drew.frozen 0 rfl _
            obtain ⟨u2, c9⟩ : ∃ u, wr.drew.cell? ⟨X7, j, none⟩ = some u := ⟨.int .i64 (L.getD j 0), by rw [hst.drew.cell 0 rfl j, List.getElem?_toArray]; exact xC_at L j (by omega)⟩
            have HTa : Hid (St w6 [boxI X7 (xC (L.set j (js.getD (j % mj) 0))).toArray 59] (wr.drew.setCell ⟨X7, j, none⟩ (.int .i64 (js.getD (j % mj) 0)))) := hid (by have := hst.drew.write 0 rfl j (.int .i64 (js.getD (j % mj) 0)); rw [box_put] at this; exact this)
            have HTb : Hid (St w6 [boxI X7 (xC (L.set j (js.getD (j % mj) 0))).toArray 59] (wr.setCell ⟨X7, j, none⟩ (.int .i64 (js.getD (j % mj) 0))).drew) := hid (by have := hst.write 0 rfl j (.int .i64 (js.getD (j % mj) 0)); rw [box_put] at this; exact this.drew)
            have g1 : (j : Int) % (mj : Int) = ((j % mj : Nat) : Int) := by push_cast; rfl
            have g2 : (j : Int).tmod (mj : Int) = ((j % mj : Nat) : Int) := by rw [Int.tmod_eq_emod_of_nonneg (by omega)]; push_cast; rfl
            have HL8 := hid (show ∀ z, (L.set j z).length = 8 by intro z; rw [List.length_set]; exact hL8)
            generalize js.getD (j % mj) 0 = jv at *
            generalize j % mj = r at *
            have z1 : (0 : Int) ≤ (r : Int) := by omega
            have z2 : (r : Int) < (mj : Int) := by omega
            have z3 : ((mj : Int) == 0) = false := by simp; omega
            have z4 : ¬ (mj : Int) = 0 := by omega
            have HJJ := hid hgo2
            clear hst hj hgo2 hmd hL8
            go_upto_region 16 with fail
            go_region_with fail
            all_goals go_wp2
            all_goals go_roundw
            all_goals first
              | exact ⟨j + 1, _, by push_cast; rfl, by have := HJJ.out; omega, HL8.out _, HTa.out⟩
              | exact ⟨j + 1, _, by push_cast; rfl, by have := HJJ.out; omega, HL8.out _, HTb.out⟩
              | (have := HJJ.out; simp [intOf]; omega)
          · have hend : (decide ((j : Int) < 8) = false) ∨ (decide ((j : Int) < 8) = true ∧ mj = 0) := by
              by_cases h : (j : Int) < 8
              · exact .inr ⟨decide_eq_true h, by omega⟩
              · exact .inl (decide_eq_false h)
            obtain ⟨l0, l1, l2, l3, l4, l5, l6, l7, rfl⟩ := len8 hL8
            obtain ⟨KK, cs', lc', wrote, hKK, hTo, hdq', hsame, hwl⟩ := HRun.out (lc8 l0 l1 l2 l3 l4 l5 l6 l7) rfl hmy
            have hcl : cs.length ≤ 256 := by exact HDQ.out.top
            have hb2 := fun W => buildX2 W 7 (-7)
            have HXc := hid ((((HX.out.kept HK5.out).kept HI6.out.2).kept hst.same).kept (kept_alloc wr (.cells #[.int .i64 7, .int .i64 (-7)] 2)))
            have hbg := Begun_any (cc := cc) (sc := 2) HXc.out (xin_made (W := wr) [7, -7] (by decide)) hcl l0 l1 l2 l3 l4 l5 l6 l7
            have s8 := hst.alloc (.cells #[.int .i64 7, .int .i64 (-7)] 2)
            have a0 : (wr.alloc (.cells #[.int .i64 7, .int .i64 (-7)] 2)).cell? ⟨X7, 0, none⟩ = some (.int .i64 l0) := s8.cell 0 rfl 0
            have a1 : (wr.alloc (.cells #[.int .i64 7, .int .i64 (-7)] 2)).cell? ⟨X7, 1, none⟩ = some (.int .i64 l1) := s8.cell 0 rfl 1
            have a2 : (wr.alloc (.cells #[.int .i64 7, .int .i64 (-7)] 2)).cell? ⟨X7, 2, none⟩ = some (.int .i64 l2) := s8.cell 0 rfl 2
            have a3 : (wr.alloc (.cells #[.int .i64 7, .int .i64 (-7)] 2)).cell? ⟨X7, 3, none⟩ = some (.int .i64 l3) := s8.cell 0 rfl 3
            have a4 : (wr.alloc (.cells #[.int .i64 7, .int .i64 (-7)] 2)).cell? ⟨X7, 4, none⟩ = some (.int .i64 l4) := s8.cell 0 rfl 4
            have a5 : (wr.alloc (.cells #[.int .i64 7, .int .i64 (-7)] 2)).cell? ⟨X7, 5, none⟩ = some (.int .i64 l5) := s8.cell 0 rfl 5
            have a6 : (wr.alloc (.cells #[.int .i64 7, .int .i64 (-7)] 2)).cell? ⟨X7, 6, none⟩ = some (.int .i64 l6) := s8.cell 0 rfl 6
            have a7 : (wr.alloc (.cells #[.int .i64 7, .int .i64 (-7)] 2)).cell? ⟨X7, 7, none⟩ = some (.int .i64 l7) := s8.cell 0 rfl 7
            have HKW := hid (HK6.out.trans hst.same (fun _ _ f => f))
            have KB := hid (HI6.out.2.trans s8.same (fun _ _ f => f))
            have HIB := hid (HI6.out.1.kept s8.same)
            have HTo := hid hTo
            have HDq2 := hid hdq'
            have HSm := hid hsame
            have HWl := hid hwl
            have HKK := hid hKK
            clear hst hj hgo2 hL8 s8 hTo hdq' hsame hwl hKK c0 c1 c2 c3 c4 c5 e0 e1 e2 e3 e4 e5 HRun
            rcases hend with q1 | ⟨q1, rfl⟩
            all_goals
              obtain ⟨c0, c1, c2, c3, c4, c5⟩ := HC.out wr HKW.out
              go_upto_region 18 with (first | simp only [hb2] | (go_at_call 28; refine hbg.mono ?_; rintro e w8 ⟨X8, V8, rfl, hat⟩))
              clear a0 a1 a2 a3 a4 a5 a6 a7 hb2 hbg c0 c1 c2 c3 c4 c5
              generalize wr.alloc (.cells #[.int .i64 7, .int .i64 (-7)] 2) = wb at *
              have HAt := hid hat
              clear hat
              go_wp2
              go_loopw [18] (fun k wr3 => ∃ (j : Nat) (V : OwV) (o : Ow), k = .int .i64 j ∧ OwAt wb X8 V o [] wr3 ∧ ((j ≤ KK ∧ Ow.To P (KK - j) o (owE cs' (PL : Nat) lc' T1 wrote 0)) ∨ (j = KK + 1 ∧ o = owD cs' (PL : Nat) lc' T1 wrote 0))) (fun k _ => KK + 2 - (intOf k).toNat)
              case atStart => exact ⟨0, V8, _, rfl, HAt.out, .inl ⟨Nat.zero_le _, HTo.out⟩⟩
              case round =>
                clear HAt HTo
                obtain ⟨j3, V, o, rfl, hat, hcase⟩ := hrel
                rcases hcase with ⟨hj3, hto⟩ | ⟨hj3, ho⟩
                · have hkk := HKK.out
                  have t5 : (j3 : Int) < 6000 := by omega
                  have t6 : (0 : Int) ≤ (j3 : Int) := by omega
                  have hpl4 : PL ≤ 400 := by have := HPL.out; omega
                  have hstep : o.done = false ∧ Calls Tryz.prog 29 #[.pointer (some ⟨X8, 0, none⟩), .slice pa PL pc] wr fun e w' => e = .returned (.tuple #[]) ∧ ∃ V' o', OwAt wb X8 V' o' [] w' ∧ ((j3 + 1 ≤ KK ∧ Ow.To P (KK - (j3 + 1)) o' (owE cs' (PL : Nat) lc' T1 wrote 0)) ∨ (j3 + 1 = KK + 1 ∧ o' = owD cs' (PL : Nat) lc' T1 wrote 0)) := by
                    by_cases hlast : j3 = KK
                    · subst hlast
                      rw [Nat.sub_self] at hto
                      have ho := hto.none
                      subst ho
                      refine ⟨rfl, (step_end hat rfl may_end hpl4).mono fun e w' ⟨he, V', h'⟩ => ⟨he, V', _, h', .inr ⟨rfl, own_end⟩⟩⟩
                    · obtain ⟨r, hr⟩ : ∃ r, KK - j3 = r + 1 := ⟨KK - j3 - 1, by omega⟩
                      rw [hr] at hto
                      obtain ⟨pp, xx, hpp, hxx, hfit, hto2⟩ := hto.first
                      refine ⟨hfit.1.1, (step_any hat (HIB.out.kept hat.st.same) hpp hxx hfit hpl4).mono fun e w' ⟨he, V', h'⟩ => ⟨he, V', _, h', .inl ⟨by omega, by rw [show KK - (j3 + 1) = r by omega]; exact hto2⟩⟩⟩
                  obtain ⟨hdn, hstep⟩ := hstep
                  have b14 : wr.cell? ⟨X8, 14, none⟩ = some (.bool false) := by rw [← hdn]; exact hat.late 3 rfl
                  have HJ3 := hid hj3
                  clear hat hto hj3 hkk hdn hpl4
                  go_wp2_with (go_at_call 29; refine hstep.mono ?_; rintro e w9 ⟨rfl, V9, o9, h9, hc9⟩; have H9 := hid h9; have HC9 := hid hc9; clear h9 hc9)
                  go_roundw
                  case rel => exact ⟨j3 + 1, V9, o9, by push_cast; rfl, H9.out, HC9.out⟩
                  case measure =>
                    have := HJ3.out
                    simp [intOf]
                    omega
                · subst ho
                  have t5 : (j3 : Int) < 6000 := by have := HKK.out; omega
                  have t6 : (0 : Int) ≤ (j3 : Int) := by omega
                  clear hj3
                  have hsm := HSm.out
                  obtain ⟨sa, sc, eS, hxs, -, -⟩ := own_xin (show wr.ownsRow 0 2 1 V.s ([7, -7] : List Int).length (xC [7, -7]) from hat.stk)
                  obtain ⟨ta2, tc2, eT, hxt, -, -⟩ := own_xin (show wr.ownsRow 0 2 1 V.t T1.length (xC T1) from hat.st.get 3 rfl)
                  obtain ⟨ca2, cc2, eC, hxc, hcc2, -⟩ := own_xin (show wr.ownsRow 0 2 1 V.c cs'.length (xC cs') from hat.cel)
                  obtain ⟨ra2, rc2, eR⟩ := own_slice (show wr.ownsRow 0 3 1 V.r wrote.length (xC wrote) from hat.st.get 5 rfl)
                  rw [hsm.1] at eC hxc hcc2
                  rw [HT1.out] at eT hxt
                  have HXs := hid hxs
                  have HXt := hid hxt
                  have HXcc := hid hxc
                  have KWr := hid hat.st.same
                  have HBc : Hid (∀ W, Kept (fun _ => False) wr W → W.cell? ⟨X8, 0, none⟩ = some (.slice ca2 cs.length cc2) ∧ W.cell? ⟨X8, 1, none⟩ = some (.int .i64 (PL : Nat)) ∧ W.cell? ⟨X8, 2, none⟩ = some (.slice sa 2 sc) ∧ W.cell? ⟨X8, 11, none⟩ = some (.slice ta2 NT tc2) ∧ W.cell? ⟨X8, 14, none⟩ = some (.bool true) ∧ W.cell? ⟨X8, 15, none⟩ = some (.int .i64 0) ∧ W.cell? ⟨X8, 17, none⟩ = some (.slice ra2 wrote.length rc2)) := hid (fun W k => by
                    have h' := hat.calm k
                    refine ⟨?_, h'.at 1 rfl, ?_, ?_, h'.late 3 rfl, h'.late 4 rfl, ?_⟩
                    · rw [← eC]; exact h'.at 0 rfl
                    · rw [show Value.slice sa 2 sc = V.s from eS.symm]; exact h'.at 2 rfl
                    · rw [← eT]; exact h'.late 0 rfl
                    · rw [← eR]; exact h'.late 6 rfl)
                  have hw8 : (wrote.length : Int) ≤ 8 := by have := HWl.out; omega
                  have hwg : decide (8 < (wrote.length : Int)) = false := decide_eq_false (by omega)
                  have hwg2 : decide (8 < wrote.length) = false := decide_eq_false (by omega)
                  have HDq2' := HDq2.out
                  have hb256 : b + n ≤ 256 := by have := HDq2'.len; have := HDq2'.top; omega
                  have hl1 : L1.length ≤ 100 := by have := HDq2'.ll; have := HDq2'.n1; omega
                  have HRd := hid (fun (W : World) (k : Kept (fun _ => False) wr W) => read_has (NL := NL) (HXcc.out.kept k) hcl hcc2 HDq2' HL1.out)
                  have HSa : Hid (∀ W, Kept (fun _ => False) wr W → ∀ xa xc, XIn W xa 2 [7, -7] → Calls Tryz.prog 13 #[.slice sa 2 sc, .slice xa 2 xc] W fun e w' => e = .returned (.bool true) ∧ Kept (fun _ => False) W w') := hid (fun W k xa xc hxx => by
                    have := same_any sa xa 2 2 sc xc [7, -7] [7, -7] (HXs.out.kept k) hxx (by omega)
                    rw [decide_eq_true rfl] at this
                    exact this)
                  have KW5 := hid ((KB.out.trans KWr.out (fun _ _ f => f)))
                  have HSt : Hid (∀ W, Kept (fun _ => False) wr W → Calls Tryz.prog 13 #[.slice ta2 NT tc2, .slice ta NT tc] W fun e w' => e = .returned (.bool true) ∧ Kept (fun _ => False) W w') := hid (fun W k => by
                    have := same_any ta2 ta NT NT tc2 tc T1 T1 (HXt.out.kept k) ((HT5.out.1.kept KW5.out).kept k) (by have h2 := HNTl.out; omega)
                    rw [decide_eq_true rfl] at this
                    exact this)
                  have HSw : Hid (∀ W, Kept (fun _ => False) wr W → ∀ ra rc, XIn W ra NL L1 → Calls Tryz.prog 13 #[.slice ra NL rc, .slice wa NL wc] W fun e w' => e = .returned (.bool true) ∧ Kept (fun _ => False) W w') := hid (fun W k ra rc hxx => by
                    have := same_any ra wa NL NL rc wc L1 L1 hxx ((HW5.out.1.kept KW5.out).kept k) (by have h1 := HL1.out; omega)
                    rw [decide_eq_true rfl] at this
                    exact this)
                  have HOt : Hid (∀ W, Kept (fun _ => False) wr W → Calls Tryz.prog 30 #[.slice ca2 cs.length cc2, .slice ca cs.length cc, .int .i64 (b : Int), .int .i64 (n : Int)] W fun e w' => e = .returned (.bool true) ∧ Kept (fun _ => False) W w') := hid (fun W k => others_any (HXcc.out.kept k) ((HXc.out.kept KWr.out).kept k) b n hsm hcl hb256)
                  have HEndX := hid (fun W (k : Kept (fun _ => False) wr W) => (⟨by rw [hsm.1]; exact HXcc.out.kept k, by rw [HL1.out]; exact (HW5.out.kept KW5.out).kept k⟩ : XIn W ca2 cs'.length cs' ∧ XV W wa L1.length wc L1))
                  have HK1 := hid ((HKK5.out.trans KW5.out (fun _ _ f => f)))
                  have HLc := hid hsm.1
                  have hb2 := fun W => buildX2 W 7 (-7)
                  obtain ⟨x0, x1, x2, x11, x14, x15, x17⟩ := HBc.out wr (Kept.refl _ _)
                  clear hsm eS eT eC eR hxs hxt hxc hcc2 hat HDq2' hb256 hl1 hw8
                  go_upto_region 24 with fail
                  obtain ⟨y0, y1, y2, y11, y14, y15, y17⟩ := HBc.out _ (kept_alloc wr (.cells #[.int .i64 7, .int .i64 (-7)] 2))
                  have hsa := HSa.out _ (kept_alloc wr (.cells #[.int .i64 7, .int .i64 (-7)] 2)) _ 2 (xin_made (W := wr) [7, -7] (by decide))
                  have KA := hid (kept_alloc wr (.cells #[.int .i64 7, .int .i64 (-7)] 2))
                  clear x0 x1 x11 x14 x15 x17
                  go_upto_region 25 with (first | simp only [hb2] | (go_at_call 13; refine hsa.mono ?_; rintro e w10 ⟨rfl, k10⟩))
                  have K10 := hid (KA.out.trans k10 (fun _ _ f => f))
                  obtain ⟨z0, z1, z2, z11, z14, z15, z17⟩ := HBc.out w10 K10.out
                  have hst := HSt.out w10 K10.out
                  clear x2 y0 y1 y2 y11 y14 y15 y17 hsa k10
                  go_upto_region 26 with (go_at_call 13; refine hst.mono ?_; rintro e w11 ⟨rfl, k11⟩)
                  have K11 := hid (K10.out.trans k11 (fun _ _ f => f))
                  clear z0 z1 z2 z11 z14 z15 z17 hst k11
                  obtain ⟨z0, z1, z2, z11, z14, z15, z17⟩ := HBc.out w11 K11.out
                  have hot := HOt.out w11 K11.out
                  go_upto_region 27 with (go_at_call 30; refine hot.mono ?_; rintro e w12 ⟨rfl, k12⟩)
                  have K12 := hid (K11.out.trans k12 (fun _ _ f => f))
                  clear z0 z1 z2 z11 z14 z15 z17 hot k12
                  obtain ⟨z0, z1, z2, z11, z14, z15, z17⟩ := HBc.out w12 K12.out
                  have hrd := HRd.out w12 K12.out
                  go_upto_region 28 with (go_at_call 17; refine hrd.mono ?_; rintro e w13 ⟨ra3, rc3, rfl, HX13⟩)
                  have K13 := hid (K12.out.trans HX13.out.2 (fun _ _ f => f))
                  have hsw := HSw.out w13 K13.out ra3 rc3 HX13.out.1
                  clear z0 z1 z2 z11 z14 z15 z17 hrd
                  go_upto_region 31 with (go_at_call 13; refine hsw.mono ?_; rintro e w14 ⟨rfl, k14⟩)
                  have K14 := hid (K13.out.trans k14 (fun _ _ f => f))
                  obtain ⟨z0, z1, z2, z11, z14, z15, z17⟩ := HBc.out w14 K14.out
                  clear hsw k14
                  go_wp2
                  go_roundw
                  case rel => exact ⟨i + 1, cs', L1, ca2, wa, cc2, wc, by push_cast; rfl, by have := HI.out; omega, by rw [HLc.out], by rw [HL1.out], (HEndX.out w14 K14.out).1, (HEndX.out w14 K14.out).2, HDq2.out, HK1.out.trans K14.out (fun _ _ f => f)⟩
                  case measure =>
                    have := HI.out
                    simp [intOf]
                    omega
    · have hend : (decide ((i : Int) < (md : Int)) = false ∧ decide (i < md) = false) ∨ ((decide ((i : Int) < (md : Int)) = true ∧ decide (i < md) = true) ∧ decide ((i : Int) < 40) = false) := by
        by_cases h : (i : Int) < (md : Int)
        · exact .inr ⟨⟨decide_eq_true h, decide_eq_true (by omega)⟩, decide_eq_false (by omega)⟩
        · exact .inl ⟨decide_eq_false h, decide_eq_false (by omega)⟩
      have HK := hid (HT.out _ hk)
      clear hx hv hdq hk hgo
      rcases hend with ⟨t1, t3⟩ | ⟨⟨t1, t3⟩, t2⟩
      all_goals
        go_wp2
        go_ret
        exact ⟨rfl, HK.out⟩
end Go.Proofs.YtmoekoilcdkhfaaGreatDoor
