/- All slots, as Now tells them: new memory, a slot's head and words side by side. -/
import Derived.Test.YtajfjkhbimehbaaGreatTabD
import Derived.Test.YtajfjkhbimehbaaGreatSl
import Derived.Laws.CopyRow
namespace Go.Proofs.YtajfjkhbimehbaaGreat
open Go.RowKit
set_option linter.unusedVariables false
set_option linter.unusedSimpArgs false
attribute [local go_sem ↓] Go.wp_at_zero Go.wp_at_succ

/-- The first i slots told, the others not yet. -/
def told (ss : List Sl) (n i : Nat) : List Sl := ss.take i ++ List.replicate (n - i) Sl.zero
theorem told_length {ss : List Sl} {n i : Nat} (h : ss.length = n) (hi : i ≤ n) : (told ss n i).length = n := by
  simp [told]; omega
theorem told_next {ss : List Sl} {n i : Nat} (h : ss.length = n) (hi : i < n) : (told ss n i).set i (ss[i]'(by omega)) = told ss n (i + 1) := by
  apply List.ext_getElem?
  intro j
  unfold told
  simp only [List.getElem?_set, List.getElem?_append, List.getElem?_take, List.getElem?_replicate, List.length_take, List.length_append, List.length_replicate]
  by_cases h1 : j < i
  · simp [show ¬ i = j by omega, show j < min i ss.length by omega, show j < min (i + 1) ss.length by omega, show j < i + 1 by omega, h1]
  · by_cases h2 : j = i
    · subst h2
      simp [show j < min (j + 1) ss.length by omega, show min j ss.length = j by omega, show j < ss.length by omega]
      omega
    · simp [show ¬ i = j by omega, show ¬ j < min i ss.length by omega, show ¬ j < min (i + 1) ss.length by omega]
      by_cases h3 : j < n
      · rw [if_pos (by omega), if_pos (by omega)]
      · rw [if_neg (by omega), if_neg (by omega)]
theorem told_all {ss : List Sl} {n : Nat} (h : ss.length = n) : told ss n n = ss := by
  subst h; simp [told]
theorem told_none {ss : List Sl} {n : Nat} : told ss n 0 = List.replicate n Sl.zero := by simp [told]
theorem two_set (l : List Value) (p : Nat) (a b : Value) (h : p + 2 ≤ l.length) : l.take p ++ [a, b] ++ l.drop (p + 2) = (l.set p a).set (p + 1) b := by
  apply List.ext_getElem?
  intro j
  simp only [List.getElem?_set, List.getElem?_append, List.getElem?_take, List.getElem?_drop, List.length_set, List.length_take, List.length_append, List.length_cons, List.length_nil]
  by_cases h1 : j < p
  · simp [h1, show j < min p l.length + 2 by omega, show j < min p l.length by omega, show ¬ p + 1 = j by omega, show ¬ p = j by omega]
  · by_cases h2 : j = p
    · subst h2
      simp [show min j l.length = j by omega, show j < l.length by omega]
    · by_cases h3 : j = p + 1
      · subst h3
        simp [show min p l.length = p by omega, show p + 1 < l.length by omega]
        intro hx
        omega
      · simp [show min p l.length = p by omega, show ¬ j < p + 2 by omega, show ¬ p = j by omega, show ¬ p + 1 = j by omega, show p + 2 + (j - (p + 2)) = j by omega]
theorem St.setRow {o w : World} {its : List It} (h : St o its w) (i : Nat) {k : Nat} {cs : Array Value} {t : TypeId} (hi : its[i]? = some (boxI k cs t)) (cs' : Array Value) : St o (its.set i (boxI k cs' t)) (w.setRow k cs') := by
  refine h.set i hi ⟨rfl, rfl, rfl, by simp, fun b hb hne => setRow_other w k b cs' (fun e => hne (by simp [boxI, e]))⟩ (setRow_heap w k cs cs' t (0, 0) (h.get i hi)) (by simp [boxI]) (fun b hb => .inl hb)
theorem St.drop1 {o w : World} {its : List It} {A B : It} (h : St o (A :: B :: its) w) : St o (A :: its) w := by
  refine ⟨?_, fun i hi => h.all i ?_, fun i hi => h.high i ?_, h.kept⟩
  · have := h.nodup
    rw [List.flatMap_cons, List.flatMap_cons, List.nodup_append, List.nodup_append] at this
    obtain ⟨n1, ⟨n2, n3, n4⟩, n5⟩ := this
    rw [List.flatMap_cons, List.nodup_append]
    exact ⟨n1, n3, fun a ha b hb => n5 a ha b (List.mem_append_right _ hb)⟩
  · rcases List.mem_cons.1 hi with rfl | hi
    · simp
    · simp [hi]
  · rcases List.mem_cons.1 hi with rfl | hi
    · simp
    · simp [hi]
theorem box_own {o w : World} {its : List It} {n k : Nat} {t : TypeId} {z : Nat} {xs : List Value} (h : St o (boxI k xs.toArray t :: its) w) (hx : xs.length = n * z) (hn : n ≤ maxLen) : St o (ownI t z (.slice (some ⟨k, 0, none⟩) n n) n xs :: its) w := by
  refine ⟨h.nodup, fun i hi => ?_, fun i hi => ?_, h.kept⟩
  · rcases List.mem_cons.1 hi with rfl | hi
    · exact ⟨hx, .inr ⟨k, n, xs.toArray, rfl, Nat.zero_le _, h.get 0 rfl, Nat.le_refl _, hn, by simpa using hx, by rw [List.toList_toArray, ← hx, List.take_length]⟩⟩
    · exact h.all i (List.mem_cons_of_mem _ hi)
  · rcases List.mem_cons.1 hi with rfl | hi
    · exact h.high (boxI k xs.toArray t) (by simp)
    · exact h.high i (List.mem_cons_of_mem _ hi)

theorem sl_eight (ys : List Sl) (k : Nat) (hk : k < ys.length) (x : Hd) (a b : Int) :
    (((((((((slCells ys).set (k * 8) (.int .i64 x.gn)).set (k * 8 + 1) (.int .i64 x.sa)).set (k * 8 + 2) (.int .i64 x.sp)).set (k * 8 + 3) (.int .i64 x.th)).set (k * 8 + 4) (.bool x.dm)).set (k * 8 + 5) (.int .i64 x.wy)).set (k * 8 + 6) (.int .u64 a)).set (k * 8 + 7) (.int .u64 b)) = slCells (ys.set k (mkSl x a b)) := slCells_set ys (mkSl x a b) k hk

set_option maxRecDepth 100000 in
set_option maxHeartbeats 2000000 in
theorem tabAll_st {o w : World} {its : List It} (h : St o its w) (a b d : Nat) {t r c q f : Nat} {mo : Option Nat} {hs : List Hd} {ws : List Int} (ha : its[a]? = some (tabI t r q)) (hb : its[b]? = some (hdRowI r c mo 3 hs)) (hd : its[d]? = some (wdRowI q f mo 4 ws)) (hl : ws.length = hs.length * 2) (h1 : 1 ≤ hs.length) (h8 : hs.length ≤ 8) :
    Calls Tryz.prog 98 #[.pointer (some ⟨t, 0, none⟩)] w fun e w' => ∃ v', e = .returned v' ∧ St o (ownI 156 8 v' hs.length (slCells (slots hs ws)) :: its) w' := by
  obtain ⟨i0, hi0, hz0, hz1, hz2⟩ := info_parts Tryz.infoSl
  have c1 : w.cell? ⟨t, 1, none⟩ = some (.pointer (some ⟨q, 0, none⟩)) := h.cell a ha 1
  have hW := wdAll_st h d hd
  generalize hn : hs.length = n at *
  have hle : (n : Int) ≤ 8 := by omega
  have hge : (1 : Int) ≤ (n : Int) := by omega
  have hmk : ∀ W : World, (Instr.makeSlice 121 (.int .i64 n) (.int .i64 n)).run Tryz.prog W = .ok (.slice (some ⟨W.heap.size, 0, none⟩) n n) (W.alloc (.cells (slCells (List.replicate n Sl.zero)).toArray 156)) := by
    intro W
    have := run_make (P := Tryz.prog) W 121 156 i0 _ Tryz.underlying121 hi0 hz0 .i64 .i64 n n (by omega) (by omega) (by rw [hz2]; omega) (by omega)
    rw [this, hz1, Int.toNat_natCast, made_sl]
  have hss : (slots hs ws).length = n := by rw [slots_length hs ws (by omega), hn]
  have HL : Hid (ws.length = n * 2) := hl
  have HN : Hid (hs.length = n) := hn
  clear hl hn
  go_enter Tryz.func98, Tryz.ntmps98
  go_wp2_with fail
  refine hW.mono ?_
  rintro e w1 ⟨vw, rfl, hS1⟩
  rw [HL.out] at hS1
  have hlen := tabLen_st hS1 (a + 1) (b + 1) ha hb
  rw [HN.out] at hlen
  clear hW h c1
  go_wp2_with fail
  refine hlen.mono ?_
  rintro e w2 ⟨rfl, rfl⟩
  have hm := hmk w2
  have hS2 := hS1.box (slCells (List.replicate n Sl.zero)).toArray 156
  have c0 : (w2.alloc (.cells (slCells (List.replicate n Sl.zero)).toArray 156)).cell? ⟨t, 0, none⟩ = some (.pointer (some ⟨r, 0, none⟩)) := hS2.cell (a + 2) ha 0
  clear hlen hmk hS1
  go_wp2_with fail
  clear hm
  generalize w2.alloc (.cells (slCells (List.replicate n Sl.zero)).toArray 156) = w3 at *
  generalize w2.heap.size = A at *
  have hH := hdAll_st hS2 (b + 2) hb
  rw [HN.out] at hH
  refine hH.mono ?_
  rintro e w4 ⟨vh, rfl, hS3⟩
  clear hH hS2 c0
  have hown : w4.ownsRow 0 105 6 vh n (hdCells hs) := hS3.get 0 rfl
  obtain ⟨gh, ch, rfl, _, _⟩ := hown.form (by omega)
  have hownw : w4.ownsRow 0 46 1 vw (n * 2) (wdCells ws) := hS3.get 2 rfl
  obtain ⟨gw, cw, rfl, hcw1, hcw2⟩ := hownw.form (by omega)
  clear hown hownw
  have hwc : n * 2 ≤ cw := by
    have hx : w4.ownsRow 0 46 1 (.slice (some ⟨gw, 0, none⟩) (n * 2) cw) (n * 2) (wdCells ws) := hS3.get 2 rfl
    rcases hx.2 with ⟨hv, _⟩ | ⟨g, cap, cur, hv, _, _, hc, _⟩
    · cases hv
    · simp only [Value.slice.injEq] at hv
      omega
  go_wp2_with fail
  go_loopw [21] (fun i wr => ∃ k : Nat, i = .int .i64 k ∧ k ≤ n ∧ St o (ownI 105 6 (.slice (some ⟨gh, 0, none⟩) n ch) n (hdCells hs) :: boxI A (slCells (told (slots hs ws) n k)).toArray 156 :: ownI 46 1 (.slice (some ⟨gw, 0, none⟩) (n * 2) cw) (n * 2) (wdCells ws) :: its) wr) (fun i _ => n - (intOf i).toNat)
  case atStart => exact ⟨0, rfl, Nat.zero_le _, by rw [told_none]; exact hS3⟩
  case round =>
    clear hS3
    obtain ⟨k, rfl, hk, hS⟩ := hrel
    by_cases hlt : k < n
    · have hkh : k < hs.length := by rw [HN.out]; exact hlt
      have hsl : (slots hs ws)[k]'(by omega) = mkSl hs[k] (ws.getD (k * 2) 0) (ws.getD (k * 2 + 1) 0) := by
        have := slots_at hs ws (by rw [HL.out, HN.out]) k hkh
        exact (List.getElem?_eq_some_iff.1 this).2
      have hnext := told_next hss hlt
      rw [hsl] at hnext
      have htl := told_length hss hk
      have height := sl_eight (told (slots hs ws) n k) k (by omega) hs[k] (ws.getD (k * 2) 0) (ws.getD (k * 2 + 1) 0)
      rw [hnext] at height
      have hyl := slCells_length (told (slots hs ws) n k)
      rw [htl] at hyl
      have hd6 := hdCells_at hs k hkh
      have hwa : (wdCells ws)[k * 2]? = some (.int .u64 (ws.getD (k * 2) 0)) := by
        have hx : k * 2 < ws.length := by rw [HL.out]; omega
        rw [wdCells_at ws _ hx]; simp [List.getD, hx]
      have hwb : (wdCells ws)[k * 2 + 1]? = some (.int .u64 (ws.getD (k * 2 + 1) 0)) := by
        have hx : k * 2 + 1 < ws.length := by rw [HL.out]; omega
        rw [wdCells_at ws _ hx]; simp [List.getD, hx]
      generalize hs[k] = x at *
      generalize ws.getD (k * 2) 0 = wa at *
      generalize ws.getD (k * 2 + 1) 0 = wb at *
      generalize slCells (told (slots hs ws) n k) = ys at *
      generalize hy' : slCells (told (slots hs ws) n (k + 1)) = ys' at *
      have HY : Hid (slCells (told (slots hs ws) n (k + 1)) = ys') := hy'
      clear hy'
      obtain ⟨xgn, xsa, xsp, xth, xdm, xwy⟩ := x
      simp only at height hd6
      obtain ⟨e0, e1, e2, e3, e4, e5⟩ := hd6
      have hown : wr.ownsRow 0 105 6 (.slice (some ⟨gh, 0, none⟩) n ch) n (hdCells hs) := hS.get 0 rfl
      have d0 : wr.cell? ⟨gh, k * 6, none⟩ = some (.int .i64 xgn) := (hown.cellAt (k * 6) (by omega)).trans e0
      have d1 : wr.cell? ⟨gh, k * 6 + 1, none⟩ = some (.int .i64 xsa) := (hown.cellAt (k * 6 + 1) (by omega)).trans e1
      have d2 : wr.cell? ⟨gh, k * 6 + 2, none⟩ = some (.int .i64 xsp) := (hown.cellAt (k * 6 + 2) (by omega)).trans e2
      have d3 : wr.cell? ⟨gh, k * 6 + 3, none⟩ = some (.int .i64 xth) := (hown.cellAt (k * 6 + 3) (by omega)).trans e3
      have d4 : wr.cell? ⟨gh, k * 6 + 4, none⟩ = some (.bool xdm) := (hown.cellAt (k * 6 + 4) (by omega)).trans e4
      have d5 : wr.cell? ⟨gh, k * 6 + 5, none⟩ = some (.int .i64 xwy) := (hown.cellAt (k * 6 + 5) (by omega)).trans e5
      have hi0 : (0 : Int) ≤ (k : Int) := Int.natCast_nonneg _
      have hi1 : (k : Int) < (n : Int) := by omega
      have hSB := hS.box #[.int .i64 xgn, .int .i64 xsa, .int .i64 xsp, .int .i64 xth, .bool xdm, .int .i64 xwy] 105
      clear hown e0 e1 e2 e3 e4 e5
      have HP : Hid (∀ j, j < 8 → ∃ u, ys[k * 8 + j]? = some u) := fun j hj => ⟨_, List.getElem?_eq_getElem (by omega)⟩
      have f0 : (wr.alloc (.cells #[.int .i64 xgn, .int .i64 xsa, .int .i64 xsp, .int .i64 xth, .bool xdm, .int .i64 xwy] 105)).frozen? ⟨A, k * 8, none⟩ = false := hSB.frozen 2 rfl _
      have f1 : (wr.alloc (.cells #[.int .i64 xgn, .int .i64 xsa, .int .i64 xsp, .int .i64 xth, .bool xdm, .int .i64 xwy] 105)).frozen? ⟨A, k * 8 + 1, none⟩ = false := hSB.frozen 2 rfl _
      have f2 : (wr.alloc (.cells #[.int .i64 xgn, .int .i64 xsa, .int .i64 xsp, .int .i64 xth, .bool xdm, .int .i64 xwy] 105)).frozen? ⟨A, k * 8 + 2, none⟩ = false := hSB.frozen 2 rfl _
      have f3 : (wr.alloc (.cells #[.int .i64 xgn, .int .i64 xsa, .int .i64 xsp, .int .i64 xth, .bool xdm, .int .i64 xwy] 105)).frozen? ⟨A, k * 8 + 3, none⟩ = false := hSB.frozen 2 rfl _
      have f4 : (wr.alloc (.cells #[.int .i64 xgn, .int .i64 xsa, .int .i64 xsp, .int .i64 xth, .bool xdm, .int .i64 xwy] 105)).frozen? ⟨A, k * 8 + 4, none⟩ = false := hSB.frozen 2 rfl _
      have f5 : (wr.alloc (.cells #[.int .i64 xgn, .int .i64 xsa, .int .i64 xsp, .int .i64 xth, .bool xdm, .int .i64 xwy] 105)).frozen? ⟨A, k * 8 + 5, none⟩ = false := hSB.frozen 2 rfl _
      obtain ⟨o0, hO0⟩ := HP.out 0 (by omega)
      have g0 : (wr.alloc (.cells #[.int .i64 xgn, .int .i64 xsa, .int .i64 xsp, .int .i64 xth, .bool xdm, .int .i64 xwy] 105)).cell? ⟨A, k * 8, none⟩ = some o0 := (hSB.cell 2 rfl _).trans (by simpa using hO0)
      obtain ⟨o1, hO1⟩ := HP.out 1 (by omega)
      have g1 : (wr.alloc (.cells #[.int .i64 xgn, .int .i64 xsa, .int .i64 xsp, .int .i64 xth, .bool xdm, .int .i64 xwy] 105)).cell? ⟨A, k * 8 + 1, none⟩ = some o1 := (hSB.cell 2 rfl _).trans (by simpa using hO1)
      obtain ⟨o2, hO2⟩ := HP.out 2 (by omega)
      have g2 : (wr.alloc (.cells #[.int .i64 xgn, .int .i64 xsa, .int .i64 xsp, .int .i64 xth, .bool xdm, .int .i64 xwy] 105)).cell? ⟨A, k * 8 + 2, none⟩ = some o2 := (hSB.cell 2 rfl _).trans (by simpa using hO2)
      obtain ⟨o3, hO3⟩ := HP.out 3 (by omega)
      have g3 : (wr.alloc (.cells #[.int .i64 xgn, .int .i64 xsa, .int .i64 xsp, .int .i64 xth, .bool xdm, .int .i64 xwy] 105)).cell? ⟨A, k * 8 + 3, none⟩ = some o3 := (hSB.cell 2 rfl _).trans (by simpa using hO3)
      obtain ⟨o4, hO4⟩ := HP.out 4 (by omega)
      have g4 : (wr.alloc (.cells #[.int .i64 xgn, .int .i64 xsa, .int .i64 xsp, .int .i64 xth, .bool xdm, .int .i64 xwy] 105)).cell? ⟨A, k * 8 + 4, none⟩ = some o4 := (hSB.cell 2 rfl _).trans (by simpa using hO4)
      obtain ⟨o5, hO5⟩ := HP.out 5 (by omega)
      have g5 : (wr.alloc (.cells #[.int .i64 xgn, .int .i64 xsa, .int .i64 xsp, .int .i64 xth, .bool xdm, .int .i64 xwy] 105)).cell? ⟨A, k * 8 + 5, none⟩ = some o5 := (hSB.cell 2 rfl _).trans (by simpa using hO5)
      have hne : ¬ wr.heap.size = A := by
        have := (boxI A ys.toArray 156).old wr (hS.get 1 rfl) A (by simp [boxI])
        omega
      have hne' : ¬ A = wr.heap.size := fun e => hne e.symm
      clear hS HP
      go_wp2_with fail
      have hS6 := ((((((hSB.write 2 rfl (k * 8) (.int .i64 xgn)).write 2 rfl (k * 8 + 1) (.int .i64 xsa)).write 2 rfl (k * 8 + 2) (.int .i64 xsp)).write 2 rfl (k * 8 + 3) (.int .i64 xth)).write 2 rfl (k * 8 + 4) (.bool xdm)).write 2 rfl (k * 8 + 5) (.int .i64 xwy)).pop
      simp only [List.setIfInBounds_toArray, List.set_cons_succ, List.set_cons_zero] at hS6
      clear hSB f0 g0 hO0 f1 g1 hO1 f2 g2 hO2 f3 g3 hO3 f4 g4 hO4 f5 g5 hO5 d0 d1 d2 d3 d4 d5 hne hne'
      generalize hy6 : ((((((ys.set (k * 8) (.int .i64 xgn)).set (k * 8 + 1) (.int .i64 xsa)).set (k * 8 + 2) (.int .i64 xsp)).set (k * 8 + 3) (.int .i64 xth)).set (k * 8 + 4) (.bool xdm)).set (k * 8 + 5) (.int .i64 xwy)) = y6 at *
      have hl6 : y6.length = n * 8 := by rw [← hy6]; simpa using hyl
      clear hy6 hyl
      generalize (((((((wr.alloc (.cells #[.int .i64 xgn, .int .i64 xsa, .int .i64 xsp, .int .i64 xth, .bool xdm, .int .i64 xwy] 105)).setCell ⟨A, k * 8, none⟩ (.int .i64 xgn)).setCell ⟨A, k * 8 + 1, none⟩ (.int .i64 xsa)).setCell ⟨A, k * 8 + 2, none⟩ (.int .i64 xsp)).setCell ⟨A, k * 8 + 3, none⟩ (.int .i64 xth)).setCell ⟨A, k * 8 + 4, none⟩ (.bool xdm)).setCell ⟨A, k * 8 + 5, none⟩ (.int .i64 xwy)) = w6 at *
      generalize wr.heap.size = H at *
      have hownw : w6.ownsRow 0 46 1 (.slice (some ⟨gw, 0, none⟩) (n * 2) cw) (n * 2) (wdCells ws) := hS6.get 2 rfl
      have p0 : w6.cell? ⟨gw, k * 2, none⟩ = some (.int .u64 wa) := (hownw.cellAt (k * 2) (by omega)).trans hwa
      have p1 : w6.cell? ⟨gw, k * 2 + 1, none⟩ = some (.int .u64 wb) := (hownw.cellAt (k * 2 + 1) (by omega)).trans hwb
      have hcA : w6.heap[A]? = some (.cells y6.toArray 156 (0, 0)) := hS6.get 1 rfl
      obtain ⟨iw, hiw, hw0, hw1, hw2⟩ := info_parts Tryz.infoWd
      have hsz : (Tryz.prog.info? 46).map (·.size) = some 1 := by rw [hiw]; simp [hw1]
      have hcp : ∀ W, W = w6 ∨ W = w6.drew → (Builtin.copy_ #[171, 171] 3 #[.slice (some ⟨A, k * 8 + 6, none⟩) 2 2, .slice (some ⟨gw, k * 2, none⟩) (n * 2 - k * 2) (cw - k * 2)]).run Tryz.prog W = .ok (goInt 2) (W.setRow A ys'.toArray) := by
        intro W hW'
        have hcA' : W.heap[A]? = some (.cells y6.toArray 156 (0, 0)) := by rcases hW' with rfl | rfl <;> exact hcA
        have q0 : W.cell? ⟨gw, k * 2, none⟩ = some (.int .u64 wa) := by rcases hW' with rfl | rfl <;> exact p0
        have q1 : W.cell? ⟨gw, k * 2 + 1, none⟩ = some (.int .u64 wb) := by rcases hW' with rfl | rfl <;> exact p1
        have := run_copy_row (P := Tryz.prog) W 171 171 3 46 A (k * 8 + 6) 2 2 ⟨gw, k * 2, none⟩ (n * 2 - k * 2) (cw - k * 2) y6.toArray 156 [.int .u64 wa, .int .u64 wb] Tryz.underlying171 hsz hcA' (by
            show 2 = min (n * 2 - k * 2) 2
            omega) (by
            intro j v hv
            match j, hv with
            | 0, hv => simp at hv; subst hv; exact q0
            | 1, hv => simp at hv; subst hv; exact q1) (by simp; omega) (by simp [Value.oneCell'])
        rw [this, List.toList_toArray]
        have e2 : ([Value.int .u64 wa, .int .u64 wb] : List Value).length = 2 := rfl
        rw [e2, two_set y6 (k * 8 + 6) _ _ (by omega), height]
        rfl
      have hcp1 := hcp w6 (.inl rfl)
      have hcp2 := hcp w6.drew (.inr rfl)
      have HS : Hid (St o (ownI 105 6 (.slice (some ⟨gh, 0, none⟩) n ch) n (hdCells hs) :: boxI A ys'.toArray 156 :: ownI 46 1 (.slice (some ⟨gw, 0, none⟩) (n * 2) cw) (n * 2) (wdCells ws) :: its) (w6.setRow A ys'.toArray)) := hS6.setRow 1 rfl _
      have HT : Hid (St o (ownI 105 6 (.slice (some ⟨gh, 0, none⟩) n ch) n (hdCells hs) :: boxI A ys'.toArray 156 :: ownI 46 1 (.slice (some ⟨gw, 0, none⟩) (n * 2) cw) (n * 2) (wdCells ws) :: its) (w6.drew.setRow A ys'.toArray)) := hS6.drew.setRow 1 rfl _
      clear hcp hcA hownw hS6 hwa hwb height hnext
      go_region
      all_goals
        clear hcp1 hcp2 p0 p1
        go_wp2
        go_roundw
        case rel => exact ⟨k + 1, by go_num, hlt, by rw [HY.out]; first | exact HT.out | exact HS.out⟩
        case measure => simp [intOf]; omega
    · have hkn : k = n := by omega
      subst hkn
      have HS : Hid (St o (ownI 156 8 (.slice (some ⟨A, 0, none⟩) k k) k (slCells (slots hs ws)) :: its) wr) := by
        have h1 := hS.pop.drop1
        rw [told_all hss] at h1
        exact box_own h1 (by rw [slCells_length, hss]) (by unfold maxLen; omega)
      clear hS
      go_wp2
      go_ret
      exact ⟨_, rfl, HS.out⟩
end Go.Proofs.YtajfjkhbimehbaaGreat

