/- Steps of SpacePlays over a space of the code and the document's: both answer the same, and stay the same. -/
import Derived.Test.YtjffkgolpdoegaaGreatRSpD
import Derived.Test.YtjffkgolpdoegaaGreatOps
import Derived.Deep.Cut
import Derived.Laws.AppendOwnNone
import Derived.Maps.AppendAt
import Derived.BigQuiet
namespace Go.Proofs.YtjffkgolpdoegaaGreat
open Go.RowKit
set_option linter.unusedVariables false
set_option linter.unusedSimpArgs false
attribute [local go_sem ↓] Go.wp_at_zero Go.wp_at_succ


theorem grownBy_same (w : World) (row : Option Nat) : w.grownBy w row := ⟨rfl, rfl, rfl, Nat.le_refl _, fun _ _ _ => rfl⟩
/-- An append of a list that came in, nil or not, onto a slice of the call's own. -/
theorem wpList_append_nums {P : Program} (w : World) {ops : Array Oper} {rest : List Oper} {o : Oper} {a : Act} {Q : Exit → Act → World → Prop} (hgd : o.guard = none) (s x : Operand) (t : TypeId)
    (ho : o.op = .call { callee := .builtin .append, args := #[s, x], argTypes := #[t, t] })
    (base : Nat) (i : TypeInfo) (z : Value) (ht : P.underlying t = some (.slice 2)) (hi : P.info? 2 = some i) (hz : i.zero = some z)
    (hsize : i.size = 1) (hby : i.bytes = 8) (hzs : z.cells.size = 1)
    (v : Value) (n : Nat) (xs : List Value) (hs : a.eval s = v) (hown : w.ownsRow base 2 1 v n xs)
    (la : Option Addr) (m c : Nat) (zs : List Int) (hx : a.eval x = .slice la m c) (hl : NumsIn w la m zs) (hnil : la = none → m = 0 ∧ c = 0)
    (hsm : n + m ≤ 17592186044416) (hbase : base ≤ w.heap.size)
    (h : ∀ v' w', w'.ownsRow base 2 1 v' (n + m) (xs ++ clCells zs) → w.grownBy w' v.ownBlock → wpList P ops Q rest (a.put o.dst v') w') :
    wpList P ops Q (o :: rest) a w := by
  obtain ⟨hlen, hc⟩ := hl
  cases la with
  | none =>
    obtain ⟨rfl, rfl⟩ := hnil rfl
    have : zs = [] := List.length_eq_zero_iff.1 hlen.symm
    subst this
    exact wpList_append_own_none hgd s x t ho base 2 i 1 ht hi v n xs hs hown hx (h v w (by simpa [clCells] using hown) (grownBy_same _ _))
  | some ad =>
    refine wpList_append_own_at w hgd s x t ho base 2 i z 1 8 ht hi hz hsize hby hzs (by omega) v n xs hs hown ad m c (clCells zs) hx (by rw [clCells_length]; omega) ?_ (clCells_one zs) (by unfold maxLen; omega) (by omega) hbase (fun v' w' a1 a2 _ _ => h v' w' a1 a2)
    intro j u hu
    have hj : j < m := by
      have := (List.getElem?_eq_some_iff.1 hu).1
      rw [clCells_length] at this
      omega
    obtain ⟨g, of, he, hcc⟩ := hc (by omega)
    cases he
    have ea : (⟨g, of, none⟩ : Addr).add j = ⟨g, of + j, none⟩ := by unfold Addr.add; split <;> simp_all
    rw [ea, hcc j hj]
    rw [clCells_at zs j (by omega)] at hu
    simp only [Option.some.injEq] at hu
    subst hu
    simp [show j < zs.length by omega]
theorem full_calm {W w1 w2 : World} {ob : Obj} {v1 : Value} {ll : Nat} {xs : List Value} (hg1 : (W.alloc (.cells #[] 2)).grownBy w1 (some W.heap.size)) (ho1 : w1.ownsRow W.heap.size 2 1 v1 ll xs) (hg2 : (w1.alloc ob).grownBy w2 v1.ownBlock) : Kept (fun _ => False) W w2 :=
  (((((Kept.refl (fun k => W.heap.size ≤ k) W).alloc _).grown hg1 (fun k e => by cases e; exact .inl (Nat.le_refl _))).alloc ob).grown hg2 (fun k e => .inl (ho1.lt k e).1)).mono (fun i hi f => by omega)
theorem rp_high {o w : World} {its : List It} {B : Bd} {c : Cfg} {z : SSt} {v u : Value} (h : St o its w) (j : Nat) (hj : its[j]? = some (rpI B c z v u)) : o.heap.size ≤ B.c :=
  (h.open j hj).high (rrRowI B.r B.c B.m 1 z.xs) (List.mem_of_getElem? rpAt2) B.c (by simp [rrRowI])


set_option maxRecDepth 100000 in
set_option maxHeartbeats 4000000 in
theorem does_fill {o w : World} {its : List It} {A : Ad} {B : Bd} {c : Cfg} {z : SSt} {v u p q : Value} (h : St o its w) (i j : Nat) (hij : i ≠ j) (hi : its[i]? = some (spI A c z v u)) (hj : its[j]? = some (rpI B c z p q)) {k : Nat} (ok : z.ok c k) (hk : k ≤ 977343669134) (oo : Bool) (oi on ox : Int) (la : Option Addr) (ll lc : Nat) (x : Ev) {zs : List Int} (hL : NumsIn o la ll zs) (hrc : ll ≤ lc ∧ lc * 8 ≤ 140737488351232 ∧ (la = none → ll = 0 ∧ lc = 0)) :
    Calls Tryz.prog 9 #[spp A, rpp B, .agg #[.bool oo, .int .i64 4, .int .i64 oi, .int .i64 on, .int .i64 ox, .slice la ll lc, .int .i64 x.kd, .int .i64 x.st, .int .i64 x.th, .int .i64 x.sp, .int .i64 x.ce, .int .i64 x.x, .bool x.ow, .int .i64 x.ga, .int .i64 x.er, .int .i64 x.by_]] w fun e w' => e = .returned (.bool true) ∧ ∃ z' v1 u1 v2 u2, St o ((its.set i (spI A c z' v1 u1)).set j (rpI B c z' v2 u2)) w' ∧ z'.ok c (k + 1) := by
  obtain ⟨i0, hi0, hz0, hz1, hz2⟩ := info_parts Tryz.infoCl
  have hk2 : k ≤ 2932031007317 := by omega
  have hll : ll ≤ 17592186044415 := by omega
  have hnil := hrc.2.2
  have HH : Hid (o.heap.size ≤ B.c) := rp_high h j hj
  have HL : Hid (NumsIn o la ll zs) := hL
  have h0 := h.box #[.bool oo, .int .i64 4, .int .i64 oi, .int .i64 on, .int .i64 ox, .slice la ll lc, .int .i64 x.kd, .int .i64 x.st, .int .i64 x.th, .int .i64 x.sp, .int .i64 x.ce, .int .i64 x.x, .bool x.ow, .int .i64 x.ga, .int .i64 x.er, .int .i64 x.by_] 41
  have HO : Hid ((z.fill zs).ok c (k + 1)) := ok.fill zs
  clear h hL hrc
  unfold spp rpp
  go_enter Tryz.func9, Tryz.ntmps9
  go_upto_region 1 with fail
  generalize w.alloc (.cells #[.bool oo, .int .i64 4, .int .i64 oi, .int .i64 on, .int .i64 ox, .slice la ll lc, .int .i64 x.kd, .int .i64 x.st, .int .i64 x.th, .int .i64 x.sp, .int .i64 x.ce, .int .i64 x.x, .bool x.ow, .int .i64 x.ga, .int .i64 x.er, .int .i64 x.by_] 41) = W0 at *
  generalize w.heap.size = C at *
  have a1 : W0.cell? ⟨C, 1, none⟩ = some (.int .i64 4) := h0.cell 0 rfl 1
  go_upto_region 13 with fail
  have a5 : W0.cell? ⟨C, 5, none⟩ = some (.slice la ll lc) := h0.cell 0 rfl 5
  have a5' : (W0.alloc (.cells #[] 2)).cell? ⟨C, 5, none⟩ = some (.slice la ll lc) := (h0.alloc _).cell 0 rfl 5
  have hN1 : NumsIn (W0.alloc (.cells #[] 2)) la ll zs := HL.out.kept (h0.alloc _).same
  have hown0 := World.ownsRow_made (base := W0.heap.size) (e := 2) (size := 1) W0 #[] 0 (Nat.le_refl _) (Nat.zero_le _) rfl
  go_upto_region 14 with (first
    | (at_builtin; refine wpList_append_nums _ rfl (.tmp 96) (.tmp 98) 37 rfl W0.heap.size i0 _ Tryz.underlying37 hi0 hz0 hz1 hz2 rfl (.slice (some ⟨W0.heap.size, 0, none⟩) 0 0) 0 [] rfl hown0 la ll lc zs rfl hN1 hnil (by omega) (by simp) ?_; intro v1 w1 ho1 hg1; simp only [Nat.zero_add, List.nil_append] at ho1; have hs1 : W0.heap.size ≤ w1.heap.size := (by have := hg1.size; simp at this; omega))
    | (at_builtin; refine wpList_append_lies _ rfl (.tmp 99) (.tmp 100) 37 rfl W0.heap.size 2 i0 _ 1 8 Tryz.underlying37 hi0 hz0 hz1 hz2 rfl (by omega) v1 ll (clCells zs) rfl (ho1.alloc _) ⟨w1.heap.size, 0, none⟩ 1 1 [.int .i64 77] rfl rfl (World.news_of_block (cs := #[.int .i64 77]) (t := 2) (fr := (0, 0)) (heap_alloc_new w1 _)) (by simp [Value.oneCell']) (by omega) (by unfold maxLen; omega) (by omega) (by simp; omega) (w1.heap.size + 1) (by simp) ?_; intro g cap w2 ho2 hg2 ha2 hl2))
  have e77 : clCells zs ++ [.int .i64 77] = clCells (zs ++ [77]) := by simp [clCells]
  rw [e77] at ho2
  have h2 := h0.own (full_calm hg1 ho1 hg2) ho2
  clear h0 a5 a5' hN1 hown0 ho1 hg1 hg2 ha2 hl2 ho2 e77 hs1 i0 hi0 hz0 hz1 hz2
  have hcap : (ll : Int) ≤ (cap : Int) := by
    have p : w2.ownsRow 0 2 1 (.slice (some ⟨g, 0, none⟩) (ll + 1) cap) (ll + 1) (clCells (zs ++ [77])) := h2.get 0 rfl
    rcases p.2 with ⟨e, _⟩ | ⟨g', c', cur, e, hb, hg, hc, _⟩
    · cases e
    · simp only [Value.slice.injEq, Option.some.injEq, Addr.mk.injEq, and_true, true_and] at e
      obtain ⟨rfl, rfl⟩ := e
      omega
  have hzl : zs.length = ll := HL.out.1.symm
  have hNf : NumsIn w2 (some ⟨g, 0, none⟩) ll zs := by
    refine ⟨hzl.symm, fun h0 => ⟨g, 0, rfl, fun q hq => ?_⟩⟩
    rw [Nat.zero_add, h2.ownCell 0 rfl q (by omega), clCells_at _ q (by simp; omega)]
    simp [List.getElem_append_left (show q < zs.length by omega), show q < zs.length by omega]
  have hq : Calls Tryz.prog 22 #[.pointer (some ⟨A.sp, 0, none⟩), .slice (some ⟨g, 0, none⟩) ll cap] w2 fun e w' => e = .returned (.int .i64 (fillErr z.xs zs)) ∧ St o (ownI 2 1 (.slice (some ⟨g, 0, none⟩) (ll + 1) cap) (ll + 1) (clCells (zs ++ [77])) :: boxI C #[.bool oo, .int .i64 4, .int .i64 oi, .int .i64 on, .int .i64 ox, .slice la ll lc, .int .i64 x.kd, .int .i64 x.st, .int .i64 x.th, .int .i64 x.sp, .int .i64 x.ce, .int .i64 x.x, .bool x.ow, .int .i64 x.ga, .int .i64 x.er, .int .i64 x.by_] 41 :: its.set i (spI A c (z.fill zs) v u)) w' := spFill (lc := cap) h2 (i + 2) hi ok hk2 hNf (by omega)
  have b5 : w2.cell? ⟨C, 5, none⟩ = some (.slice la ll lc) := h2.cell 1 rfl 5
  clear h2 hNf
  generalize hfe : fillErr z.xs zs = fe at *
  have t0 : (fe == fe) = true := by simp
  have hl0 : (0 : Int) ≤ (ll : Int) := Int.natCast_nonneg _
  go_wp2_with fail
  refine hq.mono ?_
  rintro e w3 ⟨rfl, h3⟩
  clear hq b5
  have b5 : w3.cell? ⟨C, 5, none⟩ = some (.slice la ll lc) := h3.cell 1 rfl 5
  have c77 : w3.cell? ⟨g, ll, none⟩ = some (.int .i64 77) := by
    rw [h3.ownCell 0 rfl ll (by omega), clCells_at _ ll (by simp; omega)]
    simp [List.getElem_append_right (show zs.length ≤ ll by omega)]
  have hl1 : (ll : Int) < (ll : Int) + 1 := by omega
  go_wp2_with fail
  go_loopw [14, 15] (fun s iv wr => ∃ (jj : Nat) (ys : List Int), s = .bool true ∧ iv = .int .i64 jj ∧ jj ≤ ll ∧ ys.length = ll + 1 ∧ (∀ qq, jj ≤ qq → qq < ll → ys.getD qq 0 = zs.getD qq 0) ∧ St o (ownI 2 1 (.slice (some ⟨g, 0, none⟩) (ll + 1) cap) (ll + 1) (clCells ys) :: boxI C #[.bool oo, .int .i64 4, .int .i64 oi, .int .i64 on, .int .i64 ox, .slice la ll lc, .int .i64 x.kd, .int .i64 x.st, .int .i64 x.th, .int .i64 x.sp, .int .i64 x.ce, .int .i64 x.x, .bool x.ow, .int .i64 x.ga, .int .i64 x.er, .int .i64 x.by_] 41 :: its.set i (spI A c (z.fill zs) v u)) wr) (fun s iv _ => ll - (intOf iv).toNat)
  case atStart =>
    refine ⟨0, zs ++ [77], rfl, rfl, Nat.zero_le _, by simp; omega, fun qq _ hq => ?_, h3⟩
    simp [List.getElem?_append_left (show qq < zs.length by omega)]
  case round =>
    clear h3 b5 c77
    obtain ⟨jj, ys, rfl, rfl, hj1, hys, hrest, hS⟩ := hrel
    have b5 : wr.cell? ⟨C, 5, none⟩ = some (.slice la ll lc) := hS.cell 1 rfl 5
    have hj0 : (0 : Int) ≤ (jj : Int) := Int.natCast_nonneg _
    by_cases hlt : jj < ll
    · have hlt1 : (jj : Int) < (ll : Int) := by omega
      have hlt2 : (jj : Int) < (ll : Int) + 1 := by omega
      obtain ⟨lg, lo, hla, hlz⟩ := (HL.out.kept hS.same).2 (by omega)
      rw [hla] at b5
      clear hla
      have cl : wr.cell? ⟨lg, lo + jj, none⟩ = some (.int .i64 (zs.getD jj 0)) := hlz jj hlt
      have cf : wr.cell? ⟨g, jj, none⟩ = some (.int .i64 (zs.getD jj 0)) := by
        rw [hS.ownCell 0 rfl jj (by omega), clCells_at ys jj (by omega), ← hrest jj (Nat.le_refl _) hlt]
        simp [show jj < ys.length by omega]
      have ff : wr.frozen? ⟨g, jj, none⟩ = false := hS.ownFrozen 0 rfl jj
      have HS2 : Hid (∀ n X, (∀ qq, jj + 1 ≤ qq → qq < ll → (ys.set jj X).getD qq 0 = zs.getD qq 0) ∧ (ys.set jj X).length = ll + 1 ∧ St o (ownI 2 1 (.slice (some ⟨g, 0, none⟩) (ll + 1) cap) (ll + 1) (clCells (ys.set jj X)) :: boxI C #[.bool oo, .int .i64 4, .int .i64 oi, .int .i64 on, .int .i64 ox, .slice la ll lc, .int .i64 x.kd, .int .i64 x.st, .int .i64 x.th, .int .i64 x.sp, .int .i64 x.ce, .int .i64 x.x, .bool x.ow, .int .i64 x.ga, .int .i64 x.er, .int .i64 x.by_] 41 :: its.set i (spI A c (z.fill zs) v u)) ((wr.drewN n).setCell ⟨g, jj, none⟩ (.int .i64 X))) := by
        intro n X
        refine ⟨fun qq h1 h2 => ?_, by simpa using hys, ?_⟩
        · rw [← hrest qq (by omega) h2]
          simp [List.getElem?_set_ne (show jj ≠ qq by omega)]
        · have := (hS.calm ((Kept.refl _ wr).drewN n)).ownSet 0 rfl jj (by omega) (.int .i64 X)
          rw [clCells_set] at this
          exact this
      clear hS hlz hrest
      generalize zs.getD jj 0 = y at *
      have hyy : (y == y) = true := by simp
      go_upto_region 19 with fail
      go_quiet (fail)
      go_wp2
      go_roundw
      case rel => exact ⟨jj + 1, _, rfl, by go_num, by omega, (HS2.out 0 _).2.1, (HS2.out 0 _).1, (HS2.out _ _).2.2⟩
      case measure => simp [intOf]; omega
    · have hlt1 : ¬ (jj : Int) < (ll : Int) := by omega
      obtain ⟨wz, hwz⟩ : ∃ y, y = wr := ⟨_, rfl⟩
      subst hwz
      have hS2 : St o (boxI C #[.bool oo, .int .i64 4, .int .i64 oi, .int .i64 on, .int .i64 ox, .slice la ll lc, .int .i64 x.kd, .int .i64 x.st, .int .i64 x.th, .int .i64 x.sp, .int .i64 x.ce, .int .i64 x.x, .bool x.ow, .int .i64 x.ga, .int .i64 x.er, .int .i64 x.by_] 41 :: its.set i (spI A c (z.fill zs) v u)) wz := hS.pop
      have hN : NumsIn wz la ll zs := HL.out.kept hS.same
      have hap : ∀ a, la = some a → 0 < ll → a.block ≠ B.c := by
        intro a ha h0
        obtain ⟨lg, lo, hla, hlz⟩ := HL.out.2 h0
        rw [hla] at ha
        cases ha
        have h1 := World.block_lt_of_cell? o _ (hlz 0 h0)
        have h2 := HH.out
        simp only at h1
        show lg ≠ B.c
        omega
      have bp : wz.cell? ⟨B.sp, 7, none⟩ = some (.pointer (some ⟨B.r, 0, none⟩)) := rpCell hS2 (j + 1) (set_other hj hij) 7
      have hr : Calls Tryz.prog 39 #[.pointer (some ⟨B.r, 0, none⟩), .slice la ll lc] wz.drew fun e w' => e = .returned (.int .i64 fe) ∧ (w'.cell? ⟨C, 5, none⟩ = some (.slice la ll lc) ∧ w'.cell? ⟨B.sp, 7, none⟩ = some (.pointer (some ⟨B.r, 0, none⟩))) ∧ Hid (St o ((its.set i (spI A c (z.fill zs) v u)).set j (rpI B c (z.fill zs) p q)) w') := by
        refine (rpFill (lc := lc) hS2.drew (j + 1) (set_other hj hij) hN.drew (by omega) hap).mono ?_
        rintro e w' ⟨he, h4⟩
        have h5 : St o (boxI C #[.bool oo, .int .i64 4, .int .i64 oi, .int .i64 on, .int .i64 ox, .slice la ll lc, .int .i64 x.kd, .int .i64 x.st, .int .i64 x.th, .int .i64 x.sp, .int .i64 x.ce, .int .i64 x.x, .bool x.ow, .int .i64 x.ga, .int .i64 x.er, .int .i64 x.by_] 41 :: (its.set i (spI A c (z.fill zs) v u)).set j (rpI B c (z.fill zs) p q)) w' := h4
        rw [hfe] at he
        exact ⟨he, ⟨h5.cell 0 rfl 5, rpCell h5 (j + 1) (set_self (set_other hj hij)) 7⟩, h5.pop⟩
      clear hS hS2 hN hap hi hj hij ok hfe hrest hys
      go_upto_region 21 with fail
      go_region_held3 (fun W => W.cell? ⟨C, 5, none⟩ = some (.slice la ll lc) ∧ W.cell? ⟨B.sp, 7, none⟩ = some (.pointer (some ⟨B.r, 0, none⟩))) (first | go_keep | exact rS)
        (first | (go_at_call 39; refine hr.mono ?_; rintro e w4 ⟨rfl, rS, HS⟩))
      go_wp2
      go_ret
      exact ⟨rfl, _, _, _, _, _, HS.out, HO.out⟩
end Go.Proofs.YtjffkgolpdoegaaGreat
