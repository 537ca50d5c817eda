/- Looks: has, others, copies of victims, Done, Victims, nextSlot, together. -/
import Derived.Test.YtgjmamgohidbiaaGreatLkM
import Derived.Test.YtgjmamgohidbiaaGreatSpB
import Derived.Test.YtgjmamgohidbiaaGreatSpE
import Derived.Laws.AppendOwnNone
import Derived.Deep.AppendLies
namespace Go.Proofs.YtgjmamgohidbiaaGreat
open Go.RowKit
set_option linter.unusedVariables false
set_option linter.unusedSimpArgs false
attribute [local go_sem ↓] Go.wp_at_zero Go.wp_at_succ

section
variable {o w : World} {its R : List It} {A : Ad} {c : Cfg} {z : SSt} {v u : Value} {K t : Nat} {k : Lk} {vl vd vv : Value}
def inT (n : Nat) (s : Int) : Bool := decide (0 ≤ s) && decide (s < n)
set_option maxRecDepth 100000 in
theorem lkHas (h : St o its w) (i : Nat) (hi : its[i]? = some (spI A c z v u)) (s : Int) :
    Calls Tryz.prog 115 #[.pointer (some ⟨A.t, 0, none⟩), .int .i64 s] w fun e w' => e = .returned (.bool (inT z.hs.length s)) ∧ w' = w := by
  have hl := spLen h i hi
  clear h hi
  generalize z.hs.length = n at *
  unfold inT
  by_cases h0 : 0 ≤ s
  · by_cases h1 : s < n
    · rw [decide_eq_true h0, decide_eq_true h1]
      go_enter Tryz.func115, Tryz.ntmps115
      go_wp2_with (go_at_call 94; refine hl.mono ?_; rintro e wq ⟨rfl, rfl⟩)
      go_ret
      exact ⟨rfl, rfl⟩
    · rw [decide_eq_true h0]
      go_enter Tryz.func115, Tryz.ntmps115
      go_wp2_with (go_at_call 94; refine hl.mono ?_; rintro e wq ⟨rfl, rfl⟩)
      go_ret
      exact ⟨rfl, rfl⟩
  · rw [decide_eq_false h0]
    clear hl
    go_enter Tryz.func115, Tryz.ntmps115
    go_wp2
    go_ret
    exact ⟨rfl, rfl⟩

theorem made_ints (n : Nat) : madeCells (Value.int .i64 0).cells (n * 1) = (List.replicate n (Value.int .i64 0)).toArray := by
  apply Array.ext'
  apply List.ext_getElem?
  intro j
  have hc : (Value.int .i64 0).cells = #[.int .i64 0] := rfl
  by_cases hj : j < n
  · simp [madeCells, hc, hj, Nat.mod_one]
  · rw [List.getElem?_eq_none (by simp [size_madeCells]; omega), List.getElem?_eq_none (by simp; omega)]
def othersBelow (own j : Nat) : List Nat := (List.range j).filter (fun i => i != own)
theorem othersBelow_succ (own j : Nat) : othersBelow own (j + 1) = othersBelow own j ++ (if j != own then [j] else []) := by
  unfold othersBelow
  rw [List.range_succ, List.filter_append]
  cases h : j != own <;> simp [h]
theorem othersBelow_le (own j : Nat) : (othersBelow own j).length ≤ j := by
  have := List.length_filter_le (fun i => i != own) (List.range j)
  simpa [othersBelow] using this

set_option maxRecDepth 100000 in
set_option maxHeartbeats 1000000 in
theorem lkOthers (n own : Nat) (hn : n ≤ 8) (w : World) :
    Calls Tryz.prog 116 #[.int .i64 n, .int .i64 own] w fun e w' => ∃ v, e = .returned v ∧ w'.ownsRow w.heap.size 3 1 v (othersOf n own).length (cellsOf (othersOf n own)) ∧ Kept (fun _ => False) w w' := by
  obtain ⟨i0, hi0, hz0, hz1, hz2⟩ := info_parts Tryz.infoInt
  have hmk : (Instr.makeSlice 84 (.int .i64 0) (.int .i64 n)).run Tryz.prog w = .ok (.slice (some ⟨w.heap.size, 0, none⟩) 0 n) (w.alloc (.cells (List.replicate n (.int .i64 0)).toArray 3)) := by
    have := run_make (P := Tryz.prog) w 84 3 i0 _ Tryz.underlying84 hi0 hz0 .i64 .i64 0 n (by omega) (by omega) (by rw [hz2]; omega) (by omega)
    rw [this, hz1, Int.toNat_natCast, made_ints]
    rfl
  have HS : Hid (∀ j, othersBelow own (j + 1) = othersBelow own j ++ (if j != own then [j] else [])) := othersBelow_succ own
  have HLE : Hid (∀ j, (othersBelow own j).length ≤ j) := othersBelow_le own
  have HE : Hid (othersBelow own n = othersOf n own) := rfl
  have H0 : Hid (othersBelow own 0 = []) := rfl
  generalize othersOf n own = RR at *
  generalize othersBelow own = L at *
  have ho0 := World.ownsRow_made (base := w.heap.size) (e := 3) (size := 1) w (List.replicate n (.int .i64 0)).toArray n (Nat.le_refl _) (by unfold maxLen; omega) (by simp)
  have k0 : Kept (fun _ => False) w (w.alloc (.cells (List.replicate n (.int .i64 0)).toArray 3)) := kept_alloc _ _
  generalize (List.replicate n (Value.int .i64 0)).toArray = CC at *
  go_enter Tryz.func116, Tryz.ntmps116
  go_wp2_with fail
  generalize w.alloc (.cells CC 3) = w1 at *
  clear hmk
  generalize hm : w.heap.size = m at *
  have HM : Hid (w.heap.size = m) := hm
  clear hm
  go_loopw [5, 10] (fun v i wr => ∃ j : Nat, i = .int .i64 j ∧ j ≤ n ∧ wr.ownsRow m 3 1 v (L j).length (cellsOf (L j)) ∧ Kept (fun _ => False) w wr) (fun _ i _ => n - (intOf i).toNat)
  case atStart => exact ⟨0, rfl, Nat.zero_le _, by rw [H0.out]; exact ho0, k0⟩
  case round =>
    clear ho0 k0
    obtain ⟨j, rfl, hj, ho, hK⟩ := hrel
    by_cases hlt : j < n
    · have h1 : (j : Int) < (n : Int) := by omega
      have h0 : (0 : Int) ≤ (j : Int) := by omega
      have hS := HS.out j
      by_cases hf : j = own
      · subst hf
        have HS2 : Hid (L (j + 1) = L j) := by show _ = _; simpa using hS
        have hx : ((j : Int) != (j : Int)) = false := by simp
        clear hS
        go_wp2_with fail
        go_roundw
        case rel => exact ⟨j + 1, by go_num, hlt, by rw [HS2.out]; exact ho, hK⟩
        case measure => simp [intOf]; omega
      · have HS2 : Hid (L (j + 1) = L j ++ [j]) := by show _ = _; rw [hS]; simp [hf]
        have hN : (L j).length ≤ 8 := by have := HLE.out j; omega
        have hx : ((j : Int) != (own : Int)) = true := by simp; omega
        clear hS hf
        have hmw : Hid (m ≤ wr.heap.size) := by
          have := hK.size
          rw [HM.out] at this
          exact this
        generalize hNN : (L j).length = NN at *
        have HNN : Hid ((L j).length = NN) := hNN
        generalize hLL : L j = LL at *
        clear hNN hLL
        go_wp2_with (at_builtin; refine wpList_append_lies _ rfl (.tmp 16) (.tmp 18) 84 rfl m 3 i0 _ 1 8 Tryz.underlying84 hi0 hz0 hz1 hz2 rfl (by omega) _ NN (cellsOf LL) rfl (ho.alloc _) ⟨wr.heap.size, 0, none⟩ 1 1 [.int .i64 (j : Int)] rfl (by simp) (World.news_of_block (cs := #[.int .i64 (j : Int)]) (t := 3) (fr := (0, 0)) (heap_alloc_new wr _)) (by simp [Value.oneCell']) (by omega) (by unfold maxLen; omega) (by omega) (by simp; have := hmw.out; omega) (wr.heap.size + 1) (by simp) ?_; intro g cap w5 hown5 hgrow hat hlt5)
        go_roundw
        case rel =>
          refine ⟨j + 1, by go_num, hlt, ?_, (hK.alloc _).grown hgrow (fun k e => .inr ?_)⟩
          · rw [HS2.out, cellsOf_append, List.length_append, HNN.out]
            exact hown5
          · have := (ho.lt k e).1
            rw [HM.out]
            exact this
        case measure => simp [intOf]; omega
    · have hj8 : j = n := by omega
      subst hj8
      go_wp2
      go_ret
      exact ⟨_, rfl, by rw [HM.out, ← HE.out]; exact ho, hK⟩

/-- A copy of victims that lie somewhere. -/
theorem own_vin0 {w : World} {base : Nat} {v : Value} {ys : List Vt} (h : w.ownsRow base 104 4 v ys.length (vtCells ys)) : ∃ la lc, v = .slice la ys.length lc ∧ VIn w la ys.length ys ∧ (la = none → ys.length = 0 ∧ lc = 0) := by
  rcases h.2 with ⟨rfl, hn⟩ | ⟨g, cap, cur, rfl, _⟩
  · exact ⟨none, 0, by rw [hn], ⟨rfl, fun h0 => by omega⟩, fun _ => ⟨hn, rfl⟩⟩
  · refine ⟨_, _, rfl, ⟨rfl, fun _ => ⟨g, 0, rfl, fun j u hu => ?_⟩⟩, fun e => by cases e⟩
    have hl := h.1
    have hj := (List.getElem?_eq_some_iff.1 hu).1
    rw [Nat.zero_add, h.cellAt j (by omega)]
    exact hu
set_option maxRecDepth 100000 in
set_option maxHeartbeats 1000000 in
theorem cloneVt (la : Option Addr) (n lc : Nat) (zs : List Vt) (w : World) (hL : VIn w la n zs) (hN : la = none → n = 0 ∧ lc = 0) (hb : n * 32 ≤ 140737488355328) :
    Calls Tryz.prog 145 #[.slice la n lc] w fun e w' => ∃ v', e = .returned v' ∧ w'.ownsRow w.heap.size 104 4 v' zs.length (vtCells zs) ∧ Kept (fun _ => False) w w' := by
  obtain ⟨i0, hi0, hz0, hz1, hz2⟩ := info_parts Tryz.infoVt
  have hE : ∀ a n c w, (binOp .eql 97 (.slice a n c) (.slice none 0 0)).run Tryz.prog w = .ok (.bool a.isNone) w := fun a n c w => Lib.run_eql_slice_nil w 97 104 a n c 0 0 Tryz.underlying97
  cases la with
  | none =>
    obtain ⟨rfl, rfl⟩ := hN rfl
    have hl : zs = [] := List.length_eq_zero_iff.1 hL.1.symm
    subst hl
    clear hL hN
    go_enter Tryz.func145, Tryz.ntmps145
    go_wp2
    go_ret
    exact ⟨_, rfl, World.ownsRow_nil _ _ _ _, Kept.refl _ _⟩
  | some ad =>
    have hcells : ∀ j u, (vtCells zs)[j]? = some u → (w.alloc (.cells #[] 104)).cell? (ad.add j) = some u := by
      intro j u hu
      have hj := (List.getElem?_eq_some_iff.1 hu).1
      rw [vtCells_length] at hj
      obtain ⟨g, off, e, hc⟩ := (hL.kept (kept_alloc w (.cells #[] 104))).2 (by have := hL.1; omega)
      simp only [Option.some.injEq] at e
      subst e
      rw [Addr.add_lit]
      exact hc j u hu
    have hlen : (vtCells zs).length = n * 4 := by rw [vtCells_length, ← hL.1]
    have hml : n ≤ maxLen := by unfold maxLen; omega
    have HL : Hid (n = zs.length) := hL.1
    clear hL hN
    go_enter Tryz.func145, Tryz.ntmps145
    go_wp2_with (at_builtin; refine wpList_append_own_at _ rfl (.tmp 5) (.tmp 6) 97 rfl w.heap.size 104 i0 _ 4 32 Tryz.underlying97 hi0 hz0 hz1 hz2 rfl (by omega) (.slice (some ⟨w.heap.size, 0, none⟩) 0 0) 0 [] rfl (World.ownsRow_made w #[] 0 (Nat.le_refl _) (Nat.zero_le _) rfl) ad n lc (vtCells zs) rfl hlen hcells (vtCells_one zs) (by omega) (by omega) (by simp) ?_; intro v' w1 hown' hgrow hnil hat)
    go_ret
    refine ⟨_, rfl, by rw [← HL.out]; simpa using hown', ((Kept.refl _ w).alloc _).grown hgrow (fun k e => ?_)⟩
    right
    simp [Value.ownBlock] at e
    omega

theorem lkAt0 : (lkL K t k vl vd vv ++ R)[0]? = some (boxI K (k.cells t vl vd vv) 219) := rfl
theorem lkAt1 : (lkL K t k vl vd vv ++ R)[1]? = some (tailI 3 1 vl k.left.length (cellsOf k.left)) := rfl
theorem lkAt2 : (lkL K t k vl vd vv ++ R)[2]? = some (ownI 85 1 vd k.ld.length (wCells k.ld)) := rfl
theorem lkAt3 : (lkL K t k vl vd vv ++ R)[3]? = some (ownI 104 4 vv k.vs.length (vtCells k.vs)) := rfl
theorem lkCell (h : St o (lkL K t k vl vd vv ++ R) w) (n : Nat) : w.cell? ⟨K, n, none⟩ = (k.cells t vl vd vv)[n]? := h.cell 0 lkAt0 n
theorem lkFrozen (h : St o (lkL K t k vl vd vv ++ R) w) (n : Nat) : w.frozen? ⟨K, n, none⟩ = false := h.frozen 0 lkAt0 n
theorem tail_len {e : TypeId} {sz : Nat} {n : Nat} {xs : List Value} (h : (tailI e sz v n xs).P w) : ∃ a cp, v = .slice a n cp := by
  rcases h.2 with ⟨rfl, a, cp, rfl⟩ | ⟨_, g, off, cap, cur, rfl, _⟩
  · exact ⟨_, _, rfl⟩
  · exact ⟨_, _, rfl⟩

theorem lkDone0 (h : St o (lkL K t k vl vd vv ++ R) w) :
    Calls Tryz.prog 205 #[.pointer (some ⟨K, 0, none⟩)] w fun e w' => e = .returned (.bool (decide (k.left = []))) ∧ w' = w := by
  have c3 : w.cell? ⟨K, 3, none⟩ = some vl := lkCell h 3
  obtain ⟨a, cp, rfl⟩ := tail_len (h.get 1 lkAt1)
  clear h
  have he : decide (k.left = []) = ((k.left.length : Int) == 0) := by
    cases k.left <;> simp
    omega
  rw [he]
  generalize k.left.length = n at *
  go_enter Tryz.func205, Tryz.ntmps205
  go_wp2
  go_ret
  exact ⟨rfl, rfl⟩
theorem lkVictims0 (h : St o (lkL K t k vl vd vv ++ R) w) (hk : k.vs.length ≤ 8) :
    Calls Tryz.prog 103 #[.pointer (some ⟨K, 0, none⟩)] w fun e w' => ∃ v', e = .returned v' ∧ w'.ownsRow w.heap.size 104 4 v' k.vs.length (vtCells k.vs) ∧ Kept (fun _ => False) w w' := by
  have c10 : w.cell? ⟨K, 10, none⟩ = some vv := lkCell h 10
  obtain ⟨la, lc, e, hV, hN⟩ := own_vin0 (show w.ownsRow 0 104 4 vv k.vs.length (vtCells k.vs) from h.get 3 lkAt3)
  have hc := cloneVt la k.vs.length lc k.vs w hV hN (by omega)
  rw [← e] at hc
  clear h hV hN e
  generalize vtCells k.vs = L at *
  go_enter Tryz.func103, Tryz.ntmps103
  go_wp2_with (go_at_call 145; refine hc.mono ?_; rintro e w' ⟨v', rfl, ho', hk⟩)
  go_ret
  exact ⟨_, rfl, ho', hk⟩

set_option maxRecDepth 100000 in
set_option maxHeartbeats 1000000 in
theorem lkPass0 (h : St o (lkL K t k vl vd vv ++ R) w) (h0 : k.left ≠ []) :
    Calls Tryz.prog 214 #[.pointer (some ⟨K, 0, none⟩)] w fun e w' => e = .returned (.tuple #[]) ∧ ∃ vl', St o (lkL K t k.pass vl' (.slice none 0 0) vv ++ R) w' := by
  obtain ⟨wr, left, iw, ⟨m0, m1, m2, m3⟩, ld, vs⟩ := k
  cases left with
  | nil => exact absurd rfl h0
  | cons s l =>
  obtain ⟨g, off, cap, rfl, hcap, _, _⟩ := h.tailForm 1 lkAt1 (by simp)
  simp only [List.length_cons] at hcap
  have HC : Hid (∀ v', ((∃ cap', l.length ≤ cap' ∧ v' = .slice (some ⟨g, off + 1, none⟩) l.length cap') ∨ (l.length = 0 ∧ ∃ a c, v' = .slice a l.length c)) → St o (lkL K t (Lk.pass ⟨wr, s :: l, iw, ⟨m0, m1, m2, m3⟩, ld, vs⟩) v' (.slice none 0 0) vv ++ R) (((((((w.setCell ⟨K, 3, none⟩ v').setCell ⟨K, 4, none⟩ (.bool false)).setCell ⟨K, 5, none⟩ (.int .i64 0)).setCell ⟨K, 6, none⟩ (.int .i64 0)).setCell ⟨K, 7, none⟩ (.int .i64 0)).setCell ⟨K, 8, none⟩ (.int .i64 0)).setCell ⟨K, 9, none⟩ (.slice none 0 0))) := by
    intro v' hc'
    have a1 := h.tailCut 1 lkAt1 hc'
    have a2 := a1.set 2 (A' := ownI 85 1 (.slice none 0 0) 0 []) rfl (Kept.refl _ _) (World.ownsRow_nil _ _ _ _) (own_nodup (.slice none 0 0)) (fun b hb => by simp [ownI, Value.ownBlock] at hb)
    have a3 := a2.write 0 rfl 3 v'
    have a4 := a3.write 0 rfl 4 (.bool false)
    have a5 := a4.write 0 rfl 5 (.int .i64 0)
    have a6 := a5.write 0 rfl 6 (.int .i64 0)
    have a7 := a6.write 0 rfl 7 (.int .i64 0)
    have a8 := a7.write 0 rfl 8 (.int .i64 0)
    exact a8.write 0 rfl 9 (.slice none 0 0)
  have c3 : w.cell? ⟨K, 3, none⟩ = some (.slice (some ⟨g, off, none⟩) (l.length + 1) cap) := lkCell h 3
  have c4 : w.cell? ⟨K, 4, none⟩ = some (.bool iw) := lkCell h 4
  have c5 : w.cell? ⟨K, 5, none⟩ = some (.int .i64 m0) := lkCell h 5
  have c6 : w.cell? ⟨K, 6, none⟩ = some (.int .i64 m1) := lkCell h 6
  have c7 : w.cell? ⟨K, 7, none⟩ = some (.int .i64 m2) := lkCell h 7
  have c8 : w.cell? ⟨K, 8, none⟩ = some (.int .i64 m3) := lkCell h 8
  have c9 : w.cell? ⟨K, 9, none⟩ = some vd := lkCell h 9
  have f3 := lkFrozen h 3
  have f4 := lkFrozen h 4
  have f5 := lkFrozen h 5
  have f6 := lkFrozen h 6
  have f7 := lkFrozen h 7
  have f8 := lkFrozen h 8
  have f9 := lkFrozen h 9
  clear h h0
  generalize l.length = n at *
  have hc1 : (1 : Int) ≤ (n : Int) + 1 := by omega
  have hc2 : (n : Int) + 1 ≤ (cap : Int) := by omega
  go_enter Tryz.func214, Tryz.ntmps214
  go_wp2
  all_goals go_end0
  all_goals (refine ⟨rfl, _, HC.out _ ?_⟩)
  all_goals (first | exact .inl ⟨_, by omega, rfl⟩ | exact .inr ⟨by omega, _, _, rfl⟩)
end
end Go.Proofs.YtgjmamgohidbiaaGreat
