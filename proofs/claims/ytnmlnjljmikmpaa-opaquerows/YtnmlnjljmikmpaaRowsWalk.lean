/- OpaqueRows: what stands in memory behind the law's row; deals as an argument. OpaqueRows, walked. -/
import Derived.Test.YtnmlnjljmikmpaaPr
namespace Go.Proofs.Ytnmlnjljmikmpaa
open Go.RowKit Go.Shelf Go.ChangeShapes Go.WideShapes Go.Deep
set_option linter.unusedVariables false
set_option linter.unusedSimpArgs false

/-- Stories and the rows of their moves are a list of stories. -/
theorem lin_of {o w : World} {its : List It} {la : Option Addr} {lc : Nat} {Ls : List Sm} (h : St o its w) (i : Nat) (hi : its[i]? = some (lstR sC 44 10 (.slice la Ls.length lc) Ls)) (hm : ∀ (j : Nat) m, Ls[j]? = some m → ∃ a : Nat, its[a]? = some (lstR mC 46 6 (.slice m.la m.s.ms.length m.lc) m.s.ms)) (hs : ∀ m ∈ Ls, Small m.s.ms) : LIn w la Ls.length Ls := by
  refine ⟨st_rin h i hi rfl sC_len, fun m hmm => ?_⟩
  obtain ⟨j, hj⟩ := List.getElem?_of_mem hmm
  obtain ⟨a, ha⟩ := hm j m hj
  have := hs m hmm
  exact ⟨st_rin h a ha rfl (fun _ => rfl), Nat.le_trans this.1 (by decide), this.2⟩
theorem rowsI_at {Ls : List Sm} {j : Nat} {m : Sm} (h : Ls[j]? = some m) : (rowsI Ls)[Ls.length - 1 - j]? = some (lstR mC 46 6 (.slice m.la m.s.ms.length m.lc) m.s.ms) := by
  have hj := (List.getElem?_eq_some_iff.1 h).1
  unfold rowsI
  rw [List.getElem?_map, List.getElem?_reverse (by omega), show Ls.length - 1 - (Ls.length - 1 - j) = j by omega, h]
  rfl
theorem rows_lin {o w : World} {A : List It} {la : Option Addr} {lc : Nat} {Ls : List Sm} (h : St o (A ++ (lstR sC 44 10 (.slice la Ls.length lc) Ls :: rowsI Ls)) w) (hs : ∀ m ∈ Ls, Small m.s.ms) : LIn w la Ls.length Ls := by
  refine lin_of (lc := lc) h A.length (by simp) (fun j m hm => ⟨A.length + 1 + (Ls.length - 1 - j), ?_⟩) hs
  rw [List.getElem?_append_right (by omega), show A.length + 1 + (Ls.length - 1 - j) - A.length = (Ls.length - 1 - j) + 1 by omega, List.getElem?_cons_succ]
  exact rowsI_at hm
theorem fl_setS {Ls : List Sm} {k : Nat} {m m' : Sm} (hk : Ls[k]? = some m) (h : sC m' = sC m) : fl sC (Ls.set k m') = fl sC Ls := by
  have hkl := (List.getElem?_eq_some_iff.1 hk).1
  have e1 : Ls = Ls.take k ++ m :: Ls.drop (k + 1) := by rw [← (List.getElem?_eq_some_iff.1 hk).2, ← List.drop_eq_getElem_cons hkl, List.take_append_drop]
  have e2 : Ls.set k m' = Ls.take k ++ m' :: Ls.drop (k + 1) := by rw [List.set_eq_take_append_cons_drop, if_pos hkl]
  rw [e2]
  conv => rhs; rw [e1]
  simp only [fl, List.flatMap_append, List.flatMap_cons, h]
/-- One value of one move is another one. -/
theorem rows_set {o w : World} {A : List It} {la : Option Addr} {lc : Nat} {Ls : List Sm} {k i : Nat} {m : Sm} {x : Mv} (h : St o (A ++ (lstR sC 44 10 (.slice la Ls.length lc) Ls :: rowsI Ls)) w) (hs : ∀ m ∈ Ls, Small m.s.ms) (hk : Ls[k]? = some m) (hi : m.s.ms[i]? = some x) :
    ∃ g, m.la = some ⟨g, 0, none⟩ ∧ w.cell? ⟨g, i * 6 + 1, none⟩ = some (.bool x.wr) ∧ w.cell? ⟨g, i * 6 + 3, none⟩ = some (.int .i64 x.x) ∧ w.frozen? ⟨g, i * 6 + 3, none⟩ = false ∧
      ∀ y : Int, LIn (w.setCell ⟨g, i * 6 + 3, none⟩ (.int .i64 y)) la Ls.length (Ls.set k { m with s := { m.s with ms := m.s.ms.set i { x with x := y } } }) ∧ Kept (fun _ => False) o (w.setCell ⟨g, i * 6 + 3, none⟩ (.int .i64 y)) ∧
        ∀ (a : Nat) (T : TypeId) (n : Nat) (oa : Option Addr) (oc : Nat) (xs : List Int), a < A.length → A[a]? = some (ownI T 1 (.slice oa n oc) n (fl iC xs)) → n = xs.length → RIn iC (w.setCell ⟨g, i * 6 + 3, none⟩ (.int .i64 y)) oa n xs := by
  have hkl := (List.getElem?_eq_some_iff.1 hk).1
  have hil := (List.getElem?_eq_some_iff.1 hi).1
  have hidx : (A ++ (lstR sC 44 10 (.slice la Ls.length lc) Ls :: rowsI Ls))[A.length + 1 + (Ls.length - 1 - k)]? = some (ownI 46 6 (.slice m.la m.s.ms.length m.lc) m.s.ms.length (fl mC m.s.ms)) := by
    rw [List.getElem?_append_right (by omega), show A.length + 1 + (Ls.length - 1 - k) - A.length = (Ls.length - 1 - k) + 1 by omega, List.getElem?_cons_succ]
    exact rowsI_at hk
  obtain ⟨g, cap, hform⟩ := h.form _ hidx (by omega)
  simp only [Value.slice.injEq, true_and] at hform
  obtain ⟨hla, hlc⟩ := hform
  rw [hla, hlc] at hidx
  have rr := st_rin (f := mC) h _ hidx rfl (fun _ => rfl)
  have q1 := rr.at (k := 6) (fun _ => rfl) hi 1 _ rfl
  have q3 := rr.at (k := 6) (fun _ => rfl) hi 3 _ rfl
  rw [Nat.zero_add] at q1 q3
  refine ⟨g, hla, q1, q3, h.ownFrozen _ hidx _, fun y => ?_⟩
  have s2 := r_set (f := mC) (k := 6) (fun _ => rfl) h _ hidx rfl hi 3 (by omega) (.int .i64 y) (x' := { x with x := y }) rfl
  generalize w.setCell ⟨g, i * 6 + 3, none⟩ (.int .i64 y) = w2 at *
  have hne : ∀ (a : Nat), a ≠ A.length + 1 + (Ls.length - 1 - k) → ((A ++ (lstR sC 44 10 (.slice la Ls.length lc) Ls :: rowsI Ls)).set (A.length + 1 + (Ls.length - 1 - k)) (ownI 46 6 (.slice (some ⟨g, 0, none⟩) m.s.ms.length cap) m.s.ms.length (fl mC (m.s.ms.set i { x with x := y }))))[a]? = (A ++ (lstR sC 44 10 (.slice la Ls.length lc) Ls :: rowsI Ls))[a]? := fun a ha => List.getElem?_set_ne (fun e => ha e.symm)
  have hat := List.getElem?_set_self (l := A ++ (lstR sC 44 10 (.slice la Ls.length lc) Ls :: rowsI Ls)) (a := ownI 46 6 (.slice (some ⟨g, 0, none⟩) m.s.ms.length cap) m.s.ms.length (fl mC (m.s.ms.set i { x with x := y }))) (List.getElem?_eq_some_iff.1 hidx).1
  refine ⟨?_, s2.same, fun a T n oa oc xs ha hA hn => ?_⟩
  · have hlen : (Ls.set k { m with s := { m.s with ms := m.s.ms.set i { x with x := y } } }).length = Ls.length := by simp
    have hfl : fl sC (Ls.set k { m with s := { m.s with ms := m.s.ms.set i { x with x := y } } }) = fl sC Ls := fl_setS hk (by simp [sC])
    have e0 : ((A ++ (lstR sC 44 10 (.slice la Ls.length lc) Ls :: rowsI Ls)).set (A.length + 1 + (Ls.length - 1 - k)) (ownI 46 6 (.slice (some ⟨g, 0, none⟩) m.s.ms.length cap) m.s.ms.length (fl mC (m.s.ms.set i { x with x := y }))))[A.length]? = some (lstR sC 44 10 (.slice la (Ls.set k { m with s := { m.s with ms := m.s.ms.set i { x with x := y } } }).length lc) (Ls.set k { m with s := { m.s with ms := m.s.ms.set i { x with x := y } } })) := by
      rw [hne _ (by omega), List.getElem?_append_right (Nat.le_refl _), Nat.sub_self, List.getElem?_cons_zero]
      simp only [lstR, hlen, hfl]
    have := lin_of (lc := lc) s2 A.length e0 (fun j u hu => ?_) (fun u hu => ?_)
    · rw [hlen] at this
      exact this
    · by_cases hj : k = j
      · subst hj
        rw [List.getElem?_set_self hkl] at hu
        cases hu
        refine ⟨_, hat.trans ?_⟩
        simp only [lstR, List.length_set, hla, hlc]
      · rw [List.getElem?_set_ne hj] at hu
        have hjl := (List.getElem?_eq_some_iff.1 hu).1
        refine ⟨A.length + 1 + (Ls.length - 1 - j), ?_⟩
        rw [hne _ (by omega), List.getElem?_append_right (by omega), show A.length + 1 + (Ls.length - 1 - j) - A.length = (Ls.length - 1 - j) + 1 by omega, List.getElem?_cons_succ]
        exact rowsI_at hu
    · rcases List.mem_or_eq_of_mem_set hu with hu | rfl
      · exact hs u hu
      · have hsm := hs m (List.mem_of_getElem? hk)
        refine ⟨by simpa using hsm.1, fun z hz => ?_⟩
        rcases List.mem_or_eq_of_mem_set hz with hz | rfl
        · exact hsm.2 z hz
        · exact hsm.2 x (List.mem_of_getElem? hi)
  · refine st_rin (t := T) (lc := oc) s2 a ?_ hn (fun _ => rfl)
    rw [hne _ (by omega), List.getElem?_append_left ha]
    exact hA
set_option maxRecDepth 100000 in
/-- A list of deals as an argument. -/
theorem arg_dls {H : Type} {enc : TypeId × Value → H} {w : World} {b0 : Nat} {v : Value} {d : DataW H} {pl : List MemPlace} (h : DataW.Trod enc Try.prog w 0 (fun _ => true) true 40 v d pl) (hv : Value.okWide Try.prog w .any b0 40 v) (hz : ∀ n ∈ d.weights Try.prog 40, n ≤ reachBytes) :
    ∃ la ll lc f, v = .slice la ll lc ∧ DisAt w la ll f ∧ (ll ≤ lc ∧ ll * 56 ≤ 140737488351232) := by
  obtain ⟨la, ll, lc, f, rfl, h1, h2⟩ := arg_Dis h hv hz
  refine ⟨la, ll, lc, f, rfl, h1, ?_, h2⟩
  obtain ⟨fuel, hf⟩ := h
  rcases open_slice Try.underlying40 hf with ⟨hcs, _⟩ | ⟨a', len', cap', m, n, D, Pl, hcs, _, hl, _⟩
  · simp [Value.cells] at hcs
    omega
  · simp [Value.cells] at hcs
    omega
end Go.Proofs.Ytnmlnjljmikmpaa

namespace Go.Proofs.Ytnmlnjljmikmpaa
open Go.RowKit Go.Shelf
set_option linter.unusedVariables false
set_option linter.unusedSimpArgs false
attribute [local go_sem ↓] Go.wp_at_zero Go.wp_at_succ

theorem dis_front {w : World} {a : Option Addr} {n m : Nat} {f : Nat → DiD} (h : DisAt w a n f) (hm : m ≤ n) : DisAt w a m f := by
  rcases h with rfl | ⟨b, off, rfl, h⟩
  · exact .inl (by omega)
  · exact .inr ⟨b, off, rfl, fun i hi => h i (by omega)⟩
theorem DisAt.kept {w w' : World} {a : Option Addr} {n : Nat} {f : Nat → DiD} (h : DisAt w a n f) (k : Kept (fun _ => False) w w') : DisAt w' a n f := by
  rcases h with rfl | ⟨b, off, rfl, h⟩
  · exact .inl rfl
  · exact .inr ⟨b, off, rfl, fun i hi => (h i hi).kept k⟩
theorem asI_next (j : Nat) : asI (List.range (j + 1)) = asI (List.range j) ++ [(j : Int)] := by simp [asI, List.range_succ]
/-- The last ones of an order, turned round. -/
def revO (n q : Nat) : List Nat := (List.range' q (n - q)).reverse
theorem revO_next {n q : Nat} (h : q + 1 ≤ n) : asI (revO n q) = asI (revO n (q + 1)) ++ [(q : Int)] := by
  unfold revO
  rw [show n - q = (n - (q + 1)) + 1 by omega, List.range'_succ]
  simp [asI]
theorem revO_zero (n : Nat) : revO n 0 = (List.range n).reverse := by unfold revO; rw [Nat.sub_zero, List.range_eq_range']
theorem revO_all (n : Nat) : revO n n = [] := by unfold revO; simp
theorem revO_len {n q : Nat} (h : q ≤ n) : (revO n q).length = n - q := by simp [revO]

set_option maxRecDepth 100000 in
set_option maxHeartbeats 32000000 in
theorem rows_walk {w : World} {sa da : Option Addr} {sn sc dn dc : Nat} {start : List Int} {f : Nat → DiD} {which : Int} (hs : RIn iC w sa sn start) (hd : DisAt w da dn f) (hdc : dn ≤ dc) (hd2 : dn * 56 ≤ 140737488351232) (hsn : (sn : Int) ≤ 9223372036854775806) (hw0 : -9223372036854775808 ≤ which) (hw1 : which ≤ 9223372036854775807) :
    Calls Try.prog 8 #[.slice sa sn sc, .slice da dn dc, .int .i64 which] w fun e w' => e = .returned (.bool true) ∧ Kept (fun _ => False) w w' := by
  have hup := up_any w
  have HS := hid hs
  have HD := hid hd
  have HSN := hid hsn
  obtain ⟨d, hdd, hd200, hcase⟩ : ∃ d : Nat, d ≤ dn ∧ d ≤ 200 ∧ ((decide (200 < (dn : Int)) = true ∧ decide (200 < dn) = true ∧ d = 200 ∧ (200 : Int) ≤ (dc : Int)) ∨ (decide (200 < (dn : Int)) = false ∧ decide (200 < dn) = false ∧ d = dn)) := by
    by_cases h : 200 < dn
    · exact ⟨200, by omega, by omega, .inl ⟨by simp; omega, by simp; omega, rfl, by omega⟩⟩
    · exact ⟨dn, by omega, by omega, .inr ⟨by simp; omega, by simp; omega, rfl⟩⟩
  have HROW := hid (fun W (dc' : Nat) (kk : Kept (fun _ => False) w W) => (row_any (w := W) (sc := sc) (dc := dc') (hs.kept kk) ((dis_front hd hdd).kept kk) hd200 hsn))
  have HORD := hid (fun W (la : Option Addr) (lc n : Nat) (L : List Sm) (h : LIn W la n L) (hn : n ≤ 200) => (order_in (w := W) (lc := lc) h (by omega)))
  have HCHK := hid (fun W (la oa : Option Addr) (lc oc n k : Nat) (L : List Sm) (o : List Int) (kk : Kept (fun _ => False) w W) (h : LIn W la n L) (ho : RIn iC W oa k o) (hn : n ≤ 200) (hk : k ≤ 200) => (check_any (w := W) (sc := sc) (lc := lc) (oc := oc) (hs.kept kk) h ho (by omega) (by omega) (by omega)))
  have hdn1 : (dn : Int) ≤ 2513169434917 := by omega
  clear hs hd hdd
  rcases hcase with ⟨t1, t1n, rfl, hdc2⟩ | ⟨t1, t1n, rfl⟩
  all_goals
    go_enter Try.func8, Try.ntmps8
    go_upto_region 2 with (go_at_call 9; refine hup.mono ?_; rintro e w1 ⟨rfl, hk1⟩; have HK1 := hid hk1; clear hk1)
    clear hup
    go_upto_region 4 with fail
    have hROW := HROW.out w1 (dc) HK1.out
    go_upto_region 5 with (go_at_call 18; refine hROW.mono ?_; rintro e w2 ⟨vl, Ls, T, ps, rfl, hrk, hst⟩; obtain ⟨la, lc, rfl⟩ := r_form hst 0 rfl rfl sC_len; have HRK := hid hrk; have HST : Hid (St w1 (lstR sC 44 10 (.slice la Ls.length lc) Ls :: rowsI Ls) w2) := hid hst; have HK2 := hid (HK1.out.trans hst.same (fun _ _ f => f)); clear hrk hst)
    clear hROW HROW
    have hn2 : (Ls.length : Int) ≤ 200 := by have := HRK.out.len; omega
    have HN : Hid (Ls.length ≤ 200) := hid (by omega)
    generalize hNN : Ls.length = n at *
    go_upto_region 7 with fail
    go_loopw [9, 10] (fun ov iv wr => ∃ j : Nat, iv = .int .i64 j ∧ j ≤ n ∧ St w1 (lstR iC 3 1 ov (asI (List.range j)) :: lstR sC 44 10 (.slice la n lc) Ls :: rowsI Ls) wr) (fun _ iv _ => n - (intOf iv).toNat)
    case atStart => exact ⟨0, rfl, Nat.zero_le _, r_nil iC 3 1 HST.out⟩
    case round =>
      clear HST
      obtain ⟨j, rfl, hj, hst⟩ := hrel
      by_cases hlt : j < n
      · have hlt' : (j : Int) < (n : Int) := by omega
        have tj : decide (j < n) = true := by simpa using hlt
        have HJ : Hid (j + 1 ≤ n ∧ n - (j + 1) < n - j) := hid ⟨by omega, by omega⟩
        have HZ : Hid (((asI (List.range j)).length + 1) * 8 ≤ 140737488355328) := hid (by rw [asI_len, List.length_range]; omega)
        have t2 := hst.alloc (.cells #[.int .i64 (j : Int)] 3)
        have HRR := hid (r_box (f := iC) (k := 1) (fun _ => rfl) 3 hst (j : Int) _ rfl)
        have hbs := buildI1 wr (j : Int)
        have HT2 := hid t2
        clear t2 hst hlt hj
        go_wp2_with (first | simp only [hbs] | (at_builtin; refine wpList_appR Try.rowI HT2.out rfl _ _ rfl rfl _ 1 1 rfl HRR.out (fun e => by cases e) HZ.out ?_; intro v7 w7 s7; have HEND := hid s7; clear s7))
        go_roundw
        case rel => exact ⟨j + 1, by simp, HJ.out.1, by rw [asI_next]; exact HEND.out⟩
        case measure => have := HJ.out.2; simp [intOf]; omega
      · have hlt' : ¬ (j : Int) < (n : Int) := by omega
        have tj : decide (j < n) = false := by simpa using hlt
        obtain rfl : n = j := by omega
        have hall := asI_len (List.range n)
        rw [List.length_range] at hall
        have hst0 : St w1 (ownI 3 1 u9 n (fl iC (asI (List.range n))) :: lstR sC 44 10 (.slice la n lc) Ls :: rowsI Ls) wr := by
          have e := hst
          rw [show lstR iC 3 1 u9 (asI (List.range n)) = ownI 3 1 u9 n (fl iC (asI (List.range n))) by simp only [lstR, hall]] at e
          exact e
        obtain ⟨oa, oc, rfl⟩ := r_form hst0 0 rfl hall.symm (fun _ => rfl)
        have HO : Hid (∀ W, St w1 ([ownI 3 1 (.slice oa n oc) n (fl iC (asI (List.range n)))] ++ (lstR sC 44 10 (.slice la Ls.length lc) Ls :: rowsI Ls)) W → RIn iC W oa n (asI (List.range n)) ∧ LIn W la n Ls ∧ Kept (fun _ => False) w W) := hid (fun W h => ⟨st_rin h 0 (t := 3) (k := 1) (lc := oc) rfl hall.symm (fun _ => rfl), by have := rows_lin h HRK.out.small; rw [hNN] at this; exact this, HK1.out.trans h.same (fun _ _ f => f)⟩)
        have HST : Hid (St w1 ([ownI 3 1 (.slice oa n oc) n (fl iC (asI (List.range n)))] ++ (lstR sC 44 10 (.slice la Ls.length lc) Ls :: rowsI Ls)) wr) := hid (by rw [hNN]; exact hst0)
        have hcr : chk start (smS Ls) (asI (List.range n)) = (0, 0) := by
          have := HRK.out.told.chk
          rw [smS, List.length_map, hNN] at this
          exact this
        have HSR : Hid (∀ o, Srt (fun i => ptOf ((smS Ls).getD i Sy.zero)) 0 n o → o = List.range n) := hid (fun o h => by
          have := HRK.out.told.srt
          rw [show (smS Ls).length = n by rw [smS, List.length_map, hNN]] at this
          exact srt_uniq h this)
        have HNN := hid hNN
        clear hst hst0 hlt hj hNN hall
        obtain ⟨r1, r2, r3⟩ := HO.out _ HST.out
        have hC := HCHK.out wr la oa lc oc n n Ls _ r3 r2 r1 HN.out HN.out
        rw [hcr] at hC
        simp only at hC
        clear r1 r2 r3
        go_upto_region 11 with (go_at_call 13; refine hC.mono ?_; rintro e w3 ⟨rfl, hk3⟩; have HS3 := hid (HST.out.calm hk3); clear hk3)
        clear hC hcr HST
        obtain ⟨r1, r2, r3⟩ := HO.out _ HS3.out
        have hR := HORD.out w3 la lc n Ls r2 HN.out
        clear r1 r2 r3
        go_upto_region 12 with (go_at_call 10; refine hR.mono ?_; rintro e w4 ⟨ba, bc, o2, rfl, hsr, hr, hk4⟩; have he2 := HSR.out _ hsr; subst he2; have HS4 := hid (HS3.out.calm hk4); have HR4 := hid hr; clear hsr hr hk4)
        clear hR HS3
        obtain ⟨r1, r2, r3⟩ := HO.out _ HS4.out
        have hQ := sameInts_any (lc := bc) (ld := oc) HR4.out r1 (by omega) (by omega)
        rw [decide_eq_true rfl] at hQ
        clear r1 r2 r3
        go_upto_region 13 with (go_at_call 12; refine hQ.mono ?_; rintro e w5 ⟨rfl, hk5⟩; have HS5 := hid (HS4.out.calm hk5); clear hk5)
        clear hQ HS4 HR4 HSR HORD
        by_cases hn1 : 1 < n
        · have tn : decide ((1 : Int) < (n : Int)) = true := by simp; omega
          have tnn : decide (1 < n) = true := by simpa using hn1
          go_upto_region 18 with fail
          have hct : chk start (smS Ls) (asI (List.range n).reverse) = (221, 1) := by
            have := HRK.out.told.turned (by rw [smS, List.length_map, HNN.out]; exact hn1)
            rw [smS, List.length_map, HNN.out] at this
            exact this
          clear hn1 tn tnn
          go_loopw [15, 16] (fun tv iv wr => ∃ q : Nat, iv = .int .i64 ((q : Int) - 1) ∧ q ≤ n ∧ St w1 (lstR iC 3 1 tv (asI (revO n q)) :: ([ownI 3 1 (.slice oa n oc) n (fl iC (asI (List.range n)))] ++ (lstR sC 44 10 (.slice la Ls.length lc) Ls :: rowsI Ls))) wr) (fun _ iv _ => (intOf iv + 1).toNat)
          case atStart => exact ⟨n, by simp, Nat.le_refl _, by rw [revO_all]; exact r_nil iC 3 1 HS5.out⟩
          case round =>
            clear HS5
            obtain ⟨q, rfl, hq, hst⟩ := hrel
            by_cases hq0 : q = 0
            · subst hq0
              rw [revO_zero] at hst
              have hal : (asI (List.range n).reverse).length = n := by rw [asI_len, List.length_reverse, List.length_range]
              have hst1 : St w1 (ownI 3 1 u15 n (fl iC (asI (List.range n).reverse)) :: ([ownI 3 1 (.slice oa n oc) n (fl iC (asI (List.range n)))] ++ (lstR sC 44 10 (.slice la Ls.length lc) Ls :: rowsI Ls))) wr := by
                have e := hst
                rw [show lstR iC 3 1 u15 (asI (List.range n).reverse) = ownI 3 1 u15 n (fl iC (asI (List.range n).reverse)) by simp only [lstR, hal]] at e
                exact e
              obtain ⟨ta, tc, rfl⟩ := r_form hst1 0 rfl hal.symm (fun _ => rfl)
              obtain ⟨r1, r2, r3⟩ := HO.out _ hst1.pop
              have hC := HCHK.out wr la ta lc tc n n Ls _ r3 r2 (st_rin hst1 0 (t := 3) (k := 1) (lc := tc) rfl hal.symm (fun _ => rfl)) HN.out HN.out
              rw [hct] at hC
              simp only at hC
              have HSP := hid hst1.pop
              clear r1 r2 r3 hst hst1 hct hal hq
              rw [show ((0 : Nat) : Int) - 1 = -1 by omega]
              go_upto_region 22 with (go_at_call 13; refine hC.mono ?_; rintro e w6 ⟨rfl, hk6⟩; have HS5 := hid (HSP.out.calm hk6); clear hk6)
              clear hC HSP
              go_upto_region 24 with fail
              by_cases hz : n = 0
              · have tz : ((n : Int) == 0) = true := by simp; omega
                by_cases hneg : which < 0
                · have tg : decide (which < 0) = true := by simpa using hneg
                  clear hz hneg
                  go_wp2
                  go_ret
                  exact ⟨rfl, (HO.out _ HS5.out).2.2⟩
                · have tg : decide (which < 0) = false := by simpa using hneg
                  clear hz hneg
                  go_wp2
                  go_ret
                  exact ⟨rfl, (HO.out _ HS5.out).2.2⟩
              · have tz : ((n : Int) == 0) = false := by simp; omega
                obtain ⟨q, hq, hcs⟩ : ∃ q : Nat, q < n ∧ ((which < 0 ∧ decide (which < 0) = true ∧ -((which + 1).tmod (n : Int)) = (q : Int)) ∨ (¬ which < 0 ∧ decide (which < 0) = false ∧ which.tmod (n : Int) = (q : Int))) := by
                  have key : ∀ z : Int, 0 ≤ z → ∃ q : Nat, q < n ∧ z.tmod (n : Int) = (q : Int) := fun z hz => by
                    have h2 := Int.tmod_nonneg (n : Int) hz
                    have h3 := Int.tmod_lt_of_pos z (show (0 : Int) < (n : Int) by omega)
                    exact ⟨(z.tmod (n : Int)).toNat, by omega, by omega⟩
                  by_cases hneg : which < 0
                  · obtain ⟨q, h1, h2⟩ := key (-(which + 1)) (by omega)
                    exact ⟨q, h1, .inl ⟨hneg, by simpa using hneg, by rw [← Int.neg_tmod]; exact h2⟩⟩
                  · obtain ⟨q, h1, h2⟩ := key which (by omega)
                    exact ⟨q, h1, .inr ⟨hneg, by simpa using hneg, h2⟩⟩
                obtain ⟨⟨⟨z0, z1, z2, z3, z4, z5, z6, z7, z8, ms⟩, ma, mc⟩, hm⟩ : ∃ m, Ls[q]? = some m := ⟨_, List.getElem?_eq_getElem (by have := HNN.out; omega)⟩
                obtain ⟨g, off, rfl⟩ := (HO.out _ HS5.out).2.1.1.addr (by omega)
                have hq0 : (0 : Int) ≤ (q : Int) := by omega
                have hq1 : (q : Int) < (n : Int) := by omega
                have hnz : ((n : Int) ≠ 0) := by omega
                have HM := hid hm
                have HQ := hid hq
                have hsm := HRK.out.small _ (List.mem_of_getElem? hm)
                have hml : (ms.length : Int) ≤ 8 := by have := hsm.1; simp only at this; omega
                have HC4 := hid (fun W (h : St w1 ([ownI 3 1 (.slice oa n oc) n (fl iC (asI (List.range n)))] ++ (lstR sC 44 10 (.slice (some ⟨g, off, none⟩) Ls.length lc) Ls :: rowsI Ls)) W) => (story_cells (HO.out W h).2.1 (Kept.refl _ W) hm).2.2.2.2.2.2.2.2.2)
                clear hm hz hsm hq
                rcases hcs with ⟨hng, tg, eq⟩ | ⟨hng, tg, eq⟩
                all_goals
                  go_upto_region 30 with fail
                  clear tg eq hng tz
                  go_loopw [20] (fun iv wr => ∃ i : Nat, iv = .int .i64 i ∧ i ≤ ms.length ∧ St w1 ([ownI 3 1 (.slice oa n oc) n (fl iC (asI (List.range n)))] ++ (lstR sC 44 10 (.slice (some ⟨g, off, none⟩) Ls.length lc) Ls :: rowsI Ls)) wr) (fun iv _ => ms.length - (intOf iv).toNat)
                  case atStart => exact ⟨0, rfl, Nat.zero_le _, HS5.out⟩
                  case round =>
                    clear HS5
                    obtain ⟨i, rfl, hi, hst⟩ := hrel
                    have a9 := HC4.out _ hst
                    have hi0 : (0 : Int) ≤ (i : Int) := by omega
                    by_cases hil : i < ms.length
                    · have hil' : (i : Int) < (ms.length : Int) := by omega
                      have ti : decide (i < ms.length) = true := by simpa using hil
                      obtain ⟨⟨x0, xw, xc, xx, xo, xg⟩, hx⟩ : ∃ x, ms[i]? = some x := ⟨_, List.getElem?_eq_getElem hil⟩
                      obtain ⟨mg, hma, c1, c3, f3, hset⟩ := rows_set (A := [_]) hst HRK.out.small HM.out hx
                      simp only at hma
                      subst hma
                      have HSET := hid hset
                      have HX := hid hx
                      have HST := hid hst
                      have HJ : Hid (i + 1 ≤ ms.length ∧ ms.length - (i + 1) < ms.length - i) := hid ⟨by omega, by omega⟩
                      clear hset hx hst hi hil
                      cases xw with
                      | true =>
                        simp only at c1
                        go_wp2
                        go_roundw
                        case rel => exact ⟨i + 1, by simp, HJ.out.1, HST.out⟩
                        case measure => have := HJ.out.2; simp [intOf]; omega
                      | false =>
                        simp only at c1 c3 f3
                        go_upto_region 34 with fail
                        clear c1 c3 f3 a9
                        obtain ⟨h1, h2, h3⟩ := HSET.out (bits .xor .i64 xx 1)
                        generalize wr.setCell ⟨mg, i * 6 + 3, none⟩ (.int .i64 (bits .xor .i64 xx 1)) = w7 at *
                        rw [HNN.out] at h1
                        have h3' := h3 0 3 n oa oc (asI (List.range n)) (by simp) rfl (by rw [asI_len, List.length_range])
                        have hb : chk start (smS (Ls.set q ⟨⟨z0, z1, z2, z3, z4, z5, z6, z7, z8, ms.set i ⟨x0, false, xc, bits .xor .i64 xx 1, xo, xg⟩⟩, some ⟨mg, 0, none⟩, mc⟩)) (asI (List.range n)) = (222, (q : Int)) := by
                          have := HRK.out.told.bent (k := q) (i := i) (s := ⟨z0, z1, z2, z3, z4, z5, z6, z7, z8, ms⟩) (s' := ⟨z0, z1, z2, z3, z4, z5, z6, z7, z8, ms.set i ⟨x0, false, xc, bits .xor .i64 xx 1, xo, xg⟩⟩) (m := ⟨x0, false, xc, xx, xo, xg⟩) (m' := ⟨x0, false, xc, bits .xor .i64 xx 1, xo, xg⟩) (by simp [smS, HM.out]) HX.out rfl rfl rfl rfl rfl rfl (xor_ne xx)
                          rw [show (smS Ls).length = n by rw [smS, List.length_map, HNN.out]] at this
                          rw [← this]
                          simp only [smS, List.map_set]
                        have hK7 := HK1.out.trans h2 (fun _ _ f => f)
                        have hC := HCHK.out w7 (some ⟨g, off, none⟩) oa lc oc n n _ _ hK7 h1 h3' HN.out HN.out
                        simp only at hC
                        rw [hb] at hC
                        simp only at hC
                        clear h1 h2 h3 h3' hb HSET
                        have HK7 := hid hK7
                        clear hK7
                        go_wp2_with (go_at_call 13; refine hC.mono ?_; rintro e w8 ⟨rfl, hk8⟩; have HK8 := hid (HK7.out.trans hk8 (fun _ _ f => f)); clear hk8)
                        go_ret
                        exact ⟨by simp, HK8.out⟩
                    · have hil' : ¬ (i : Int) < (ms.length : Int) := by omega
                      have ti : decide (i < ms.length) = false := by simpa using hil
                      have HST := hid hst
                      clear hst hi hil
                      go_wp2
                      go_ret
                      exact ⟨rfl, (HO.out _ HST.out).2.2⟩
            · obtain ⟨p, rfl⟩ : ∃ p, q = p + 1 := ⟨q - 1, by omega⟩
              have e1 : ((p + 1 : Nat) : Int) - 1 = (p : Int) := by omega
              rw [e1]
              have hp0 : (0 : Int) ≤ (p : Int) := by omega
              have hp1 : (p : Int) ≤ 200 := by have := HN.out; omega
              have HJ : Hid (p + 1 ≤ n) := hid hq
              have HZ : Hid (((asI (revO n (p + 1))).length + 1) * 8 ≤ 140737488355328) := hid (by rw [asI_len, revO_len hq]; have := HN.out; omega)
              have t2 := hst.alloc (.cells #[.int .i64 (p : Int)] 3)
              have HRR := hid (r_box (f := iC) (k := 1) (fun _ => rfl) 3 hst (p : Int) _ rfl)
              have hbs := buildI1 wr (p : Int)
              have HT2 := hid t2
              clear t2 hst hq hq0
              go_wp2_with (first | simp only [hbs] | (at_builtin; refine wpList_appR Try.rowI HT2.out rfl _ _ rfl rfl _ 1 1 rfl HRR.out (fun e => by cases e) HZ.out ?_; intro v7 w7 s7; have HEND := hid s7; clear s7))
              go_roundw
              case rel => exact ⟨p, by simp, by have := HJ.out; omega, by rw [revO_next HJ.out]; exact HEND.out⟩
              case measure => simp [intOf]
        · have tn : decide ((1 : Int) < (n : Int)) = false := by simp; omega
          have tnn : decide (1 < n) = false := by simpa using hn1
          clear hn1
          go_upto_region 24 with fail
          clear tn tnn
          by_cases hz : n = 0
          · have tz : ((n : Int) == 0) = true := by simp; omega
            by_cases hneg : which < 0
            · have tg : decide (which < 0) = true := by simpa using hneg
              clear hz hneg
              go_wp2
              go_ret
              exact ⟨rfl, (HO.out _ HS5.out).2.2⟩
            · have tg : decide (which < 0) = false := by simpa using hneg
              clear hz hneg
              go_wp2
              go_ret
              exact ⟨rfl, (HO.out _ HS5.out).2.2⟩
          · have tz : ((n : Int) == 0) = false := by simp; omega
            obtain ⟨q, hq, hcs⟩ : ∃ q : Nat, q < n ∧ ((which < 0 ∧ decide (which < 0) = true ∧ -((which + 1).tmod (n : Int)) = (q : Int)) ∨ (¬ which < 0 ∧ decide (which < 0) = false ∧ which.tmod (n : Int) = (q : Int))) := by
              have key : ∀ z : Int, 0 ≤ z → ∃ q : Nat, q < n ∧ z.tmod (n : Int) = (q : Int) := fun z hz => by
                have h2 := Int.tmod_nonneg (n : Int) hz
                have h3 := Int.tmod_lt_of_pos z (show (0 : Int) < (n : Int) by omega)
                exact ⟨(z.tmod (n : Int)).toNat, by omega, by omega⟩
              by_cases hneg : which < 0
              · obtain ⟨q, h1, h2⟩ := key (-(which + 1)) (by omega)
                exact ⟨q, h1, .inl ⟨hneg, by simpa using hneg, by rw [← Int.neg_tmod]; exact h2⟩⟩
              · obtain ⟨q, h1, h2⟩ := key which (by omega)
                exact ⟨q, h1, .inr ⟨hneg, by simpa using hneg, h2⟩⟩
            obtain ⟨⟨⟨z0, z1, z2, z3, z4, z5, z6, z7, z8, ms⟩, ma, mc⟩, hm⟩ : ∃ m, Ls[q]? = some m := ⟨_, List.getElem?_eq_getElem (by have := HNN.out; omega)⟩
            obtain ⟨g, off, rfl⟩ := (HO.out _ HS5.out).2.1.1.addr (by omega)
            have hq0 : (0 : Int) ≤ (q : Int) := by omega
            have hq1 : (q : Int) < (n : Int) := by omega
            have hnz : ((n : Int) ≠ 0) := by omega
            have HM := hid hm
            have HQ := hid hq
            have hsm := HRK.out.small _ (List.mem_of_getElem? hm)
            have hml : (ms.length : Int) ≤ 8 := by have := hsm.1; simp only at this; omega
            have HC4 := hid (fun W (h : St w1 ([ownI 3 1 (.slice oa n oc) n (fl iC (asI (List.range n)))] ++ (lstR sC 44 10 (.slice (some ⟨g, off, none⟩) Ls.length lc) Ls :: rowsI Ls)) W) => (story_cells (HO.out W h).2.1 (Kept.refl _ W) hm).2.2.2.2.2.2.2.2.2)
            clear hm hz hsm hq
            rcases hcs with ⟨hng, tg, eq⟩ | ⟨hng, tg, eq⟩
            all_goals
              go_upto_region 30 with fail
              clear tg eq hng tz
              go_loopw [20] (fun iv wr => ∃ i : Nat, iv = .int .i64 i ∧ i ≤ ms.length ∧ St w1 ([ownI 3 1 (.slice oa n oc) n (fl iC (asI (List.range n)))] ++ (lstR sC 44 10 (.slice (some ⟨g, off, none⟩) Ls.length lc) Ls :: rowsI Ls)) wr) (fun iv _ => ms.length - (intOf iv).toNat)
              case atStart => exact ⟨0, rfl, Nat.zero_le _, HS5.out⟩
              case round =>
                clear HS5
                obtain ⟨i, rfl, hi, hst⟩ := hrel
                have a9 := HC4.out _ hst
                have hi0 : (0 : Int) ≤ (i : Int) := by omega
                by_cases hil : i < ms.length
                · have hil' : (i : Int) < (ms.length : Int) := by omega
                  have ti : decide (i < ms.length) = true := by simpa using hil
                  obtain ⟨⟨x0, xw, xc, xx, xo, xg⟩, hx⟩ : ∃ x, ms[i]? = some x := ⟨_, List.getElem?_eq_getElem hil⟩
                  obtain ⟨mg, hma, c1, c3, f3, hset⟩ := rows_set (A := [_]) hst HRK.out.small HM.out hx
                  simp only at hma
                  subst hma
                  have HSET := hid hset
                  have HX := hid hx
                  have HST := hid hst
                  have HJ : Hid (i + 1 ≤ ms.length ∧ ms.length - (i + 1) < ms.length - i) := hid ⟨by omega, by omega⟩
                  clear hset hx hst hi hil
                  cases xw with
                  | true =>
                    simp only at c1
                    go_wp2
                    go_roundw
                    case rel => exact ⟨i + 1, by simp, HJ.out.1, HST.out⟩
                    case measure => have := HJ.out.2; simp [intOf]; omega
                  | false =>
                    simp only at c1 c3 f3
                    go_upto_region 34 with fail
                    clear c1 c3 f3 a9
                    obtain ⟨h1, h2, h3⟩ := HSET.out (bits .xor .i64 xx 1)
                    generalize wr.setCell ⟨mg, i * 6 + 3, none⟩ (.int .i64 (bits .xor .i64 xx 1)) = w7 at *
                    rw [HNN.out] at h1
                    have h3' := h3 0 3 n oa oc (asI (List.range n)) (by simp) rfl (by rw [asI_len, List.length_range])
                    have hb : chk start (smS (Ls.set q ⟨⟨z0, z1, z2, z3, z4, z5, z6, z7, z8, ms.set i ⟨x0, false, xc, bits .xor .i64 xx 1, xo, xg⟩⟩, some ⟨mg, 0, none⟩, mc⟩)) (asI (List.range n)) = (222, (q : Int)) := by
                      have := HRK.out.told.bent (k := q) (i := i) (s := ⟨z0, z1, z2, z3, z4, z5, z6, z7, z8, ms⟩) (s' := ⟨z0, z1, z2, z3, z4, z5, z6, z7, z8, ms.set i ⟨x0, false, xc, bits .xor .i64 xx 1, xo, xg⟩⟩) (m := ⟨x0, false, xc, xx, xo, xg⟩) (m' := ⟨x0, false, xc, bits .xor .i64 xx 1, xo, xg⟩) (by simp [smS, HM.out]) HX.out rfl rfl rfl rfl rfl rfl (xor_ne xx)
                      rw [show (smS Ls).length = n by rw [smS, List.length_map, HNN.out]] at this
                      rw [← this]
                      simp only [smS, List.map_set]
                    have hK7 := HK1.out.trans h2 (fun _ _ f => f)
                    have hC := HCHK.out w7 (some ⟨g, off, none⟩) oa lc oc n n _ _ hK7 h1 h3' HN.out HN.out
                    simp only at hC
                    rw [hb] at hC
                    simp only at hC
                    clear h1 h2 h3 h3' hb HSET
                    have HK7 := hid hK7
                    clear hK7
                    go_wp2_with (go_at_call 13; refine hC.mono ?_; rintro e w8 ⟨rfl, hk8⟩; have HK8 := hid (HK7.out.trans hk8 (fun _ _ f => f)); clear hk8)
                    go_ret
                    exact ⟨by simp, HK8.out⟩
                · have hil' : ¬ (i : Int) < (ms.length : Int) := by omega
                  have ti : decide (i < ms.length) = false := by simpa using hil
                  have HST := hid hst
                  clear hst hi hil
                  go_wp2
                  go_ret
                  exact ⟨rfl, (HO.out _ HST.out).2.2⟩
end Go.Proofs.Ytnmlnjljmikmpaa
