/- A text, line by line. Parse: what was given up is caught at the face. -/
import Derived.Test.YtbpilhjomfkpaaaGreatDoorPsE
import Derived.Test.YtbpilhjomfkpaaaGreatDoorVfB
import Derived.Carry
import Derived.Defers
import Derived.Recover
namespace Go.Proofs.YtbpilhjomfkpaaaGreatDoor
open Go.RowKit
set_option linter.unusedVariables false
set_option linter.unusedSimpArgs false
attribute [local go_sem ↓] Go.wp_at_zero Go.wp_at_succ

theorem split_size (sep : ByteArray) : ∀ (k : Nat) (s : ByteArray), ∀ x ∈ Lib.splitB sep 0 k s, x.size ≤ s.size
  | 0, s, x, h => by rw [Lib.splitB_zero, List.mem_singleton] at h; rw [h]; exact Nat.le_refl _
  | k + 1, s, x, h => by
    unfold Lib.splitB at h
    split at h
    · rw [List.mem_singleton] at h; rw [h]; exact Nat.le_refl _
    · rcases List.mem_cons.1 h with h | h
      · rw [h, ByteArray.size_extract]; omega
      · have := split_size sep k _ x h
        rw [ByteArray.size_extract] at this
        omega
theorem lines_len (s : ByteArray) : (linesM s).length = Lib.countB s ⟨#[10]⟩ + 1 := Lib.splitB_all _ (by decide) 0 _ s rfl
/-- All lines of a text are such that the search for blanks was proved of them. -/
def PlainT (s : ByteArray) : Prop := ∀ x ∈ linesM s, Plain8 (saidM x.data.toList)
theorem takeAll_drop {l : List ByteArray} {j : Nat} (hj : j < l.length) (p : Pst) : takeAll (j : Int) (l.drop j) p = match takeM ((j : Int) + 1) (saidM (l.getD j ⟨#[]⟩).data.toList) p with | .error e => .error e | .ok p' => takeAll ((j + 1 : Nat) : Int) (l.drop (j + 1)) p' := by
  rw [List.drop_eq_getElem_cons hj]
  simp only [takeAll, List.getD_eq_getElem?_getD, List.getElem?_eq_getElem hj, Option.getD_some]
  cases takeM ((j : Int) + 1) (saidM l[j].data.toList) p <;> rfl
def finM (x : Except (Int × Int) Pst) : Except (Int × Int) (List Ins) :=
  match x with
  | .error e => .error e
  | .ok p =>
    match setAll p p.ds [] with
    | .error e => .error e
    | .ok l => if l = [] then .error (0, 150) else .ok l
theorem parseM_fin {s : ByteArray} (h : ¬ 65536 < s.size) : parseM s = finM (takeAll 0 (linesM s) ⟨[], []⟩) := by
  unfold parseM
  rw [if_neg h]
  rfl
theorem perm5 (a b c d e : It) : [a, b, c, d, e].Perm [c, e, d, a, b] :=
  (List.perm_append_comm (l₁ := [a, b]) (l₂ := [c, d, e])).trans ((List.Perm.swap e d [a, b]).cons c)
theorem St.only {o w : World} {A : It} {its : List It} (h : St o (A :: its) w) : St o [A] w :=
  ⟨by have := h.nodup; rw [List.flatMap_cons, List.nodup_append] at this; simpa using this.1, fun i hi => h.all i (List.mem_cons.2 (.inl (List.mem_singleton.1 hi))), fun i hi => h.high i (List.mem_cons.2 (.inl (List.mem_singleton.1 hi))), h.kept⟩
set_option maxRecDepth 100000 in
set_option maxHeartbeats 4000000 in
theorem parse_any (s : ByteArray) (w : World) (hE : Env w) (hP : PlainT s) (hs63 : s.size ≤ 9223372036854775807) :
    Calls Tryz.prog 67 #[.string s] w fun e w' => Res 123 w (fun l e w' => ∃ lv, e = .returned lv ∧ St w [ownI 91 2 lv l.length (insCells l)] w') (parseM s) e w' := by
  by_cases hs : 65536 < s.size
  · have e : parseM s = .error (0, 150) := by unfold parseM; rw [if_pos hs]
    rw [e]
    have t1 : (65536 : Int) < (s.size : Int) := by omega
    clear hP hE e
    go_enter Tryz.func67, Tryz.ntmps67
    go_wp2_with (go_at_call 83; refine (giveUp_any _ _ _).mono ?_; rintro e w3 ⟨rfl, rfl⟩)
    exact ⟨rfl, rfl, Kept.refl _ _⟩
  · rw [parseM_fin hs]
    have t1 : ¬ (65536 : Int) < (s.size : Int) := by omega
    have hmm := @run_makeMap Tryz.prog
    have k1 := kept_alloc w (.cells tabC 131)
    have s1 := (St.nil w).box tabC 131
    have s2 : St w [mapI (w.heap.size + 1) [], boxI w.heap.size tabC 131] ((w.alloc (.cells tabC 131)).alloc (.map #[] 0)) := by
      have := s1.push (mapI (w.heap.size + 1) []) (kept_alloc _ (.map #[] 0)) (by have h9 := mapL_made (w.alloc (.cells tabC 131)); rw [alloc_size] at h9; exact h9) (by simp [mapI]) (fun b hb => by rw [List.mem_singleton.1 hb, alloc_size]; exact Nat.le_refl _)
      exact this
    have s3 := s2.box (rdC w.heap.size (w.heap.size + 1) 0 (.slice none 0 0)) 147
    rw [alloc_size, alloc_size] at s3
    have hE3 := hE.kept s3.same
    have s4 := s3.box ((linesM s).map Value.string).toArray 9
    rw [alloc_size, alloc_size, alloc_size] at s4
    have hll := lines_len s
    have hls := split_size ⟨#[10]⟩ (Lib.countB s ⟨#[10]⟩) s
    have HS : Hid (RdS w [boxI (w.heap.size + 1 + 1 + 1) ((linesM s).map Value.string).toArray 9] (w.heap.size + 1 + 1) w.heap.size (w.heap.size + 1) 0 (.slice none 0 0) ⟨[], []⟩ ((((w.alloc (.cells tabC 131)).alloc (.map #[] 0)).alloc (.cells #[.slice (some ⟨w.heap.size, 0, none⟩) 23 23, .int .i64 0, .map (some (w.heap.size + 1)), .slice none 0 0] 147)).alloc (.cells ((linesM s).map Value.string).toArray 9))) := by
      have s5 := s4.own (e := 169) (z := 4) (Kept.refl _ _) (World.ownsRow_nil _ _ _ _)
      exact ⟨s5.perm (perm5 _ _ _ _ _), hE, List.Pairwise.nil, by simp, by simp, fun d hd => by cases hd⟩
    have hE3' : Env (((w.alloc (.cells tabC 131)).alloc (.map #[] 0)).alloc (.cells #[.slice (some ⟨w.heap.size, 0, none⟩) 23 23, .int .i64 0, .map (some (w.heap.size + 1)), .slice none 0 0] 147)) := hE3
    have hsp := split_any s hE3' (by omega)
    have esz : (((w.alloc (.cells tabC 131)).alloc (.map #[] 0)).alloc (.cells #[.slice (some ⟨w.heap.size, 0, none⟩) 23 23, .int .i64 0, .map (some (w.heap.size + 1)), .slice none 0 0] 147)).heap.size = w.heap.size + 1 + 1 + 1 := by simp
    rw [esz] at hsp
    clear s1 s2 s3 s4 k1 hE3 hE3' esz
    have HL : Hid (∀ x ∈ linesM s, x.size ≤ 65536) := fun x hx => Nat.le_trans (hls x hx) (by omega)
    have HP : Hid (∀ x ∈ linesM s, Plain8 (saidM x.data.toList)) := hP
    have HLL : Hid ((linesM s).length = Lib.countB s ⟨#[10]⟩ + 1) := hll
    have hcb : Lib.countB s ⟨#[10]⟩ ≤ s.size := Lib.countB_le ⟨#[10]⟩ (by decide) s.size s (Nat.le_refl _)
    have HEw : Hid (Env w) := hE
    generalize linesM s = ls at *
    generalize Lib.countB s ⟨#[10]⟩ = N at *
    clear hls hP hll hE
    have HF0 : Hid (finM (takeAll 0 ls ⟨[], []⟩) = finM (takeAll ((0 : Nat) : Int) (ls.drop 0) ⟨[], []⟩)) := rfl
    generalize finM (takeAll 0 ls ⟨[], []⟩) = X at *
    go_enter Tryz.func67, Tryz.ntmps67
    go_wp2_with (first | (go_at_call 46; refine (table_any _).mono ?_; rintro e w1 ⟨rfl, rfl⟩) | (go_at_call 84; refine hsp.mono ?_; rintro e w2 ⟨rfl, rfl⟩) | simp only [hmm])
    clear hsp
    generalize w.heap.size = H at *
    go_loopw [18] (fun i wr => ∃ (j : Nat) (p : Pst) (v : Value) (line : Int), i = .int .i64 j ∧ j ≤ N + 1 ∧ X = finM (takeAll (j : Int) (ls.drop j) p) ∧ RdS w [boxI (H + 1 + 1 + 1) (ls.map Value.string).toArray 9] (H + 1 + 1) H (H + 1) line v p wr) (fun i _ => N + 1 - (intOf i).toNat)
    case atStart => exact ⟨0, _, _, _, rfl, Nat.zero_le _, HF0.out, HS.out⟩
    case round =>
      clear HS HF0
      obtain ⟨j, p, v, line, rfl, hj, hx, hR⟩ := hrel
      have HX : Hid (X = finM (takeAll (j : Int) (ls.drop j) p)) := hx
      clear hx
      by_cases hlt : j < N + 1
      · have hlt' : j < ls.length := by have := HLL.out; omega
        have hmem : ls.getD j ⟨#[]⟩ ∈ ls := by rw [List.getD_eq_getElem?_getD, List.getElem?_eq_getElem hlt']; exact List.getElem_mem hlt'
        have cL : wr.cell? ⟨H + 1 + 1 + 1, j, none⟩ = some (.string (ls.getD j ⟨#[]⟩)) := by
          rw [hR.st.cell 4 rfl j, List.getElem?_toArray, List.getElem?_map, List.getElem?_eq_getElem hlt', List.getD_eq_getElem?_getD, List.getElem?_eq_getElem hlt']
          rfl
        have HX2 : Hid (X = match takeM ((j : Int) + 1) (saidM (ls.getD j ⟨#[]⟩).data.toList) p with | .error e => .error e | .ok p' => finM (takeAll ((j + 1 : Nat) : Int) (ls.drop (j + 1)) p')) := by
          show X = _
          rw [HX.out, takeAll_drop hlt']
          cases takeM ((j : Int) + 1) (saidM (ls.getD j ⟨#[]⟩).data.toList) p <;> rfl
        have hl1 := HL.out _ hmem
        have hp1 := HP.out _ hmem
        have eb := bs_data (ls.getD j ⟨#[]⟩)
        generalize ls.getD j ⟨#[]⟩ = x at *
        obtain ⟨xl, rfl⟩ : ∃ xl, x = bs xl := ⟨_, eb.symm⟩
        rw [bs_size] at hl1
        have ed : (bs xl).data.toList = xl := by simp
        rw [ed] at hp1 HX2
        clear eb ed hmem
        have c1 : wr.cell? ⟨H + 1 + 1, 1, none⟩ = some (.int .i64 line) := hR.st.cell 0 rfl 1
        have f1 : wr.frozen? ⟨H + 1 + 1, 1, none⟩ = false := hR.st.frozen 0 rfl 1
        have hR2 : RdS w [boxI (H + 1 + 1 + 1) (ls.map Value.string).toArray 9] (H + 1 + 1) H (H + 1) ((j : Int) + 1) v p (wr.setCell ⟨H + 1 + 1, 1, none⟩ (.int .i64 ((j : Int) + 1))) :=
          ⟨hR.st.write 0 rfl 1 (.int .i64 ((j : Int) + 1)), hR.env, hR.nd, hR.nl, hR.nds, hR.xs⟩
        have h0 : (0 : Int) ≤ (j : Int) := Int.natCast_nonneg _
        have h1 : (j : Int) < (N : Int) + 1 := by omega
        clear hR HX
        go_upto_region 8 with fail
        generalize wr.setCell ⟨H + 1 + 1, 1, none⟩ (.int .i64 ((j : Int) + 1)) = w5 at *
        have hsd := said_any xl w5 hR2.rdw.hE hl1
        have htk := fun W k => take_any (saidM xl) (Nat.le_trans (said_len xl) hl1) hp1 (hR2.calm (w' := W) k)
        clear cL c1 f1 hR2 hp1
        generalize saidM xl = sx at *
        cases hT : takeM ((j : Int) + 1) sx p with
        | error le =>
          obtain ⟨l', e'⟩ := le
          rw [hT] at htk
          have HX3 : Hid (X = .error (l', e')) := by have := HX2.out; rw [hT] at this; exact this
          simp only [Res] at htk
          clear HX2 hT
          go_wp2_with (first | (go_at_call 86; refine hsd.mono ?_; rintro e w6 ⟨rfl, k6⟩) | (go_at_call 85; refine (htk _ k6).mono ?_; rintro e w7 ⟨rfl, k7⟩))
          refine ⟨rfl, ?_⟩
          rw [HX3.out]
          exact ⟨rfl, k7⟩
        | ok p' =>
          rw [hT] at htk
          have HX3 : Hid (X = finM (takeAll ((j + 1 : Nat) : Int) (ls.drop (j + 1)) p')) := by have := HX2.out; rw [hT] at this; exact this
          simp only [Res] at htk
          clear HX2 hT
          go_wp2_with (first | (go_at_call 86; refine hsd.mono ?_; rintro e w6 ⟨rfl, k6⟩) | (go_at_call 85; refine (htk _ k6).mono ?_; rintro e w7 ⟨rfl, v7, h7⟩; replace h7 := hid h7; clear k6 htk))
          go_roundw
          case rel => exact ⟨j + 1, p', v7, (j : Int) + 1, by simp, by omega, HX3.out, h7.out⟩
          case measure => simp [intOf]; omega
      · have h1 : ¬ (j : Int) < (N : Int) + 1 := by omega
        have HX2 : Hid (X = finM (.ok p)) := by
          have := HX.out
          rwa [show ls.drop j = [] from List.drop_eq_nil_iff.2 (by have := HLL.out; omega)] at this
        have hpr := program_any hR
        clear hR HX
        cases hT : setAll p p.ds [] with
        | error le =>
          obtain ⟨l', e'⟩ := le
          rw [hT] at hpr
          have HX3 : Hid (X = .error (l', e')) := by have := HX2.out; simp only [finM, hT] at this; exact this
          simp only [Res] at hpr
          clear HX2 hT
          go_wp2_with (first | (go_at_call 87; refine hpr.mono ?_; rintro e w7 ⟨rfl, k7⟩))
          refine ⟨rfl, ?_⟩
          rw [HX3.out]
          exact ⟨rfl, k7⟩
        | ok l =>
          rw [hT] at hpr
          simp only [Res] at hpr
          by_cases hl0 : l = []
          · have HX3 : Hid (X = .error (0, 150)) := by have := HX2.out; simp only [finM, hT, hl0, if_true] at this; exact this
            subst hl0
            clear HX2 hT
            go_wp2_with fail
            refine hpr.mono ?_
            rintro e w7 ⟨lv, rfl, k7⟩
            obtain ⟨la, lc, rfl, _⟩ := own_iin (show w7.ownsRow 0 91 2 lv ([] : List Ins).length (insCells []) from k7.get 0 rfl)
            have HK := hid k7.same
            clear k7 hpr
            go_wp2_with (go_at_call 83; refine (giveUp_any _ _ _).mono ?_; rintro e w3 ⟨rfl, rfl⟩)
            refine ⟨rfl, ?_⟩
            rw [HX3.out]
            exact ⟨rfl, HK.out⟩
          · have HX3 : Hid (X = .ok l) := by have := HX2.out; simp only [finM, hT, hl0, if_false] at this; exact this
            have hln : ((l.length : Int) == 0) = false := by
              have : l.length ≠ 0 := fun e => hl0 (List.length_eq_zero_iff.1 e)
              simp; exact hl0
            clear HX2 hT hl0
            go_wp2_with fail
            refine hpr.mono ?_
            rintro e w7 ⟨lv, rfl, k7⟩
            obtain ⟨la, lc, rfl, _⟩ := own_iin (show w7.ownsRow 0 91 2 lv l.length (insCells l) from k7.get 0 rfl)
            have HK := hid k7
            clear k7 hpr
            go_wp2
            go_ret
            rw [HX3.out]
            exact ⟨_, rfl, HK.out⟩
end Go.Proofs.YtbpilhjomfkpaaaGreatDoor

namespace Go.Proofs.YtbpilhjomfkpaaaGreatDoor
open Go.RowKit
set_option linter.unusedVariables false
set_option linter.unusedSimpArgs false
attribute [local go_sem ↓] Go.wp_at_zero Go.wp_at_succ

theorem assert_gave (l e : Int) (w : World) : (Instr.typeAssert (.iface 123 (.agg #[.int .i64 l, .int .i64 e])) 20 123 true).run Tryz.prog w = .ok (.tuple #[.agg #[.int .i64 l, .int .i64 e], .bool true]) w := by kernel_rfl
theorem assert_none (w : World) : (Instr.typeAssert .nilIface 20 123 true).run Tryz.prog w = .ok (.tuple #[.agg #[.int .i64 0, .int .i64 0], .bool false]) w := by kernel_rfl
set_option maxRecDepth 100000 in
set_option maxHeartbeats 1000000 in
theorem catch_gave (a b c : Nat) (l e : Int) (w : World) (va vb vc : Value) (ha : w.heap[a]? = some (.cells #[va] 51 (0, 0))) (hb : w.heap[b]? = some (.cells #[vb] 3 (0, 0))) (hc : w.heap[c]? = some (.cells #[vc] 25 (0, 0))) (hab : a ≠ b) (hac : a ≠ c) (hbc : b ≠ c) :
    CallsD Tryz.prog 66 #[.pointer (some ⟨a, 0, none⟩), .pointer (some ⟨b, 0, none⟩), .pointer (some ⟨c, 0, none⟩)] (.panicking [{ v := .iface 123 (.agg #[.int .i64 l, .int .i64 e]), recovered := false }]) w fun x u' w' =>
      x = .returned (.tuple #[]) ∧ u' = .panicking [{ v := .iface 123 (.agg #[.int .i64 l, .int .i64 e]), recovered := true }] ∧ (w'.cell? ⟨a, 0, none⟩ = some (.slice none 0 0) ∧ w'.cell? ⟨b, 0, none⟩ = some (.int .i64 l) ∧ w'.cell? ⟨c, 0, none⟩ = some (.int .i64 e)) ∧ Kept (fun k => k = a ∨ k = b ∨ k = c) w w' := by
  refine callsD_of_wpS Tryz.func66 rfl fun c₀ cs hu => ?_
  apply wpS_seq
  apply wpS_region
  simp [wpOpsS, go_sem, recoverD, hu, Tryz.ntmps66, Exit.thenS, assert_gave, Array.replicate, List.replicate]
  have la := lt_of_heap ha
  have lb := lt_of_heap hb
  have lc := lt_of_heap hc
  have hA := (Below.heap_alloc w (.cells #[.int .i64 l, .int .i64 e] 123) a la).trans ha
  have hB := (Below.heap_alloc w (.cells #[.int .i64 l, .int .i64 e] 123) b lb).trans hb
  have hC := (Below.heap_alloc w (.cells #[.int .i64 l, .int .i64 e] 123) c lc).trans hc
  have hF : (w.alloc (.cells #[.int .i64 l, .int .i64 e] 123)).heap[w.heap.size]? = some (.cells #[.int .i64 l, .int .i64 e] 123 (0, 0)) := heap_alloc_new _ _
  have HK : Hid (Kept (fun k => k = a ∨ k = b ∨ k = c) w (w.alloc (.cells #[.int .i64 l, .int .i64 e] 123))) := (Kept.refl _ w).alloc _
  have na : a ≠ w.heap.size := by omega
  have nb : b ≠ w.heap.size := by omega
  have nc : c ≠ w.heap.size := by omega
  generalize w.alloc (.cells #[.int .i64 l, .int .i64 e] 123) = W at *
  generalize w.heap.size = M at *
  have ca : W.cell? ⟨a, 0, none⟩ = some va := cell_of_heap hA
  have cb : W.cell? ⟨b, 0, none⟩ = some vb := cell_of_heap hB
  have cc : W.cell? ⟨c, 0, none⟩ = some vc := cell_of_heap hC
  have fa : W.frozen? ⟨a, 0, none⟩ = false := frozen_of_heap hA
  have fb : W.frozen? ⟨b, 0, none⟩ = false := frozen_of_heap hB
  have fc : W.frozen? ⟨c, 0, none⟩ = false := frozen_of_heap hC
  have f0 : W.cell? ⟨M, 0, none⟩ = some (.int .i64 l) := cell_of_heap hF
  have f1 : W.cell? ⟨M, 1, none⟩ = some (.int .i64 e) := cell_of_heap hF
  clear hA hB hC hF ha hb hc la lb lc
  refine wpS_of_wp ?_
  go_wp2_with fail
  go_region
  have q1 : (((W.setCell ⟨a, 0, none⟩ (.slice none 0 0)).setCell ⟨b, 0, none⟩ (.int .i64 l)).setCell ⟨c, 0, none⟩ (.int .i64 e)).cell? ⟨a, 0, none⟩ = some (.slice none 0 0) := by
    rw [World.cell?_of_block (heap_setCell_far (by simpa using hac)), World.cell?_of_block (heap_setCell_far (by simpa using hab))]
    exact World.cell?_setCell_same _ _ _ ca
  have q2 : (((W.setCell ⟨a, 0, none⟩ (.slice none 0 0)).setCell ⟨b, 0, none⟩ (.int .i64 l)).setCell ⟨c, 0, none⟩ (.int .i64 e)).cell? ⟨b, 0, none⟩ = some (.int .i64 l) := by
    rw [World.cell?_of_block (heap_setCell_far (by simpa using hbc))]
    exact World.cell?_setCell_same _ _ _ (u := vb) (by rw [World.cell?_of_block (heap_setCell_far (by simpa using hab.symm)), cb])
  have q3 : (((W.setCell ⟨a, 0, none⟩ (.slice none 0 0)).setCell ⟨b, 0, none⟩ (.int .i64 l)).setCell ⟨c, 0, none⟩ (.int .i64 e)).cell? ⟨c, 0, none⟩ = some (.int .i64 e) :=
    World.cell?_setCell_same _ _ _ (u := vc) (by rw [World.cell?_of_block (heap_setCell_far (by simpa using hbc.symm)), World.cell?_of_block (heap_setCell_far (by simpa using hac.symm)), cc])
  have qk := (((HK.out.setCell (p := ⟨a, 0, none⟩) (.slice none 0 0) (.inl (.inl rfl))).setCell (p := ⟨b, 0, none⟩) (.int .i64 l) (.inl (.inr (.inl rfl)))).setCell (p := ⟨c, 0, none⟩) (.int .i64 e) (.inl (.inr (.inr rfl)))).drew
  exact ⟨rfl, _, rfl, .tuple #[], results_none rfl _ _ _, rfl, rfl, ⟨q1, q2, q3⟩, qk⟩
set_option maxRecDepth 100000 in
set_option maxHeartbeats 1000000 in
theorem catch_idle (a b c : Nat) (w : World) :
    CallsD Tryz.prog 66 #[.pointer (some ⟨a, 0, none⟩), .pointer (some ⟨b, 0, none⟩), .pointer (some ⟨c, 0, none⟩)] .returning w fun x u' w' => x = .returned (.tuple #[]) ∧ u' = .returning ∧ Kept (fun _ => False) w w' := by
  refine callsD_of_wpS Tryz.func66 rfl fun c₀ cs hu => ?_
  apply wpS_seq
  apply wpS_region
  simp [wpOpsS, go_sem, recoverD, hu, Tryz.ntmps66, Exit.thenS, assert_none, Array.replicate, List.replicate]
  refine wpS_of_wp ?_
  go_wp2
  have qk : Kept (fun _ => False) w (w.alloc (.cells #[.int .i64 0, .int .i64 0] 123)) := kept_alloc _ _
  refine ⟨rfl, .returning, ?_, .tuple #[], results_none rfl _ _ _, rfl, rfl, qk⟩
  cases c₀
  simp_all
theorem St.rebase {o o' w w' : World} {its : List It} (h : St o' its w) (hk : Kept (fun k => o.heap.size ≤ k) o w') (hs : o.heap.size ≤ o'.heap.size) (hl : ∀ k, o'.heap.size ≤ k → k < w.heap.size → w'.heap[k]? = w.heap[k]?) : St o its w' :=
  ⟨h.nodup, fun i hi => i.loc w w' (fun k hk => hl k (h.high i hi k hk) (i.old w (h.all i hi) k hk)) (h.all i hi), fun i hi b hb => Nat.le_trans hs (h.high i hi b hb), hk⟩
/-- What Parse answers. -/
def pAns (r : Except (Int × Int) (List Ins)) (la : Option Addr) (lc : Nat) : Value :=
  match r with
  | .error (l, e) => .tuple #[.slice none 0 0, .int .i64 l, .int .i64 e]
  | .ok l => .tuple #[.slice la l.length lc, .int .i64 0, .int .i64 0]
set_option maxRecDepth 100000 in
set_option maxHeartbeats 1000000 in
theorem Parse_any (s : ByteArray) (w : World) (hE : Env w) (hP : PlainT s) (hs63 : s.size ≤ 9223372036854775807) :
    Calls Tryz.prog 43 #[.string s] w fun e w' => match parseM s with
      | .error (l, x) => e = .returned (.tuple #[.slice none 0 0, .int .i64 l, .int .i64 x]) ∧ Kept (fun _ => False) w w'
      | .ok l => ∃ lv, e = .returned (.tuple #[lv, .int .i64 0, .int .i64 0]) ∧ St w [ownI 91 2 lv l.length (insCells l)] w' := by
  have hmf : ∀ (fn : Fn) (first cap : Array Value) (w : World), (Instr.makeFunc fn first cap).run Tryz.prog w = .ok (.func fn first cap) w := fun _ _ _ _ => rfl
  have k0 : Kept (fun _ => False) w (((w.alloc (.cells #[.slice none 0 0] 51)).alloc (.cells #[.int .i64 0] 3)).alloc (.cells #[.int .i64 0] 25)) := ((kept_alloc w _).alloc _).alloc _
  have hp := parse_any s _ (hE.kept k0) hP hs63
  have HB : Hid ((∀ W, Kept (fun _ => False) (((w.alloc (.cells #[.slice none 0 0] 51)).alloc (.cells #[.int .i64 0] 3)).alloc (.cells #[.int .i64 0] 25)) W → W.heap[w.heap.size]? = some (.cells #[.slice none 0 0] 51 (0, 0))) ∧ (∀ W, Kept (fun _ => False) (((w.alloc (.cells #[.slice none 0 0] 51)).alloc (.cells #[.int .i64 0] 3)).alloc (.cells #[.int .i64 0] 25)) W → W.heap[w.heap.size + 1]? = some (.cells #[.int .i64 0] 3 (0, 0))) ∧ (∀ W, Kept (fun _ => False) (((w.alloc (.cells #[.slice none 0 0] 51)).alloc (.cells #[.int .i64 0] 3)).alloc (.cells #[.int .i64 0] 25)) W → W.heap[w.heap.size + 1 + 1]? = some (.cells #[.int .i64 0] 25 (0, 0)))) := by
    have s3 := (((St.nil w).box #[.slice none 0 0] 51).box #[.int .i64 0] 3).box #[.int .i64 0] 25
    rw [alloc_size, alloc_size] at s3
    exact ⟨fun W k => (s3.calm k).get 2 rfl, fun W k => (s3.calm k).get 1 rfl, fun W k => (s3.calm k).get 0 rfl⟩
  generalize parseM s = X at *
  cases X with
  | error le =>
    obtain ⟨l, x⟩ := le
    simp only [Res] at hp ⊢
    go_enter_defers Tryz.func43, Tryz.ntmps43
    go_wp2_with (go_at_call 67; refine hp.mono ?_; rintro e w1 ⟨rfl, k1⟩)
    have ha : w1.heap[w.heap.size]? = some (.cells #[.slice none 0 0] 51 (0, 0)) := (HB.out.1 w1 k1)
    have hb : w1.heap[w.heap.size + 1]? = some (.cells #[.int .i64 0] 3 (0, 0)) := (HB.out.2.1 w1 k1)
    have hc : w1.heap[w.heap.size + 1 + 1]? = some (.cells #[.int .i64 0] 25 (0, 0)) := (HB.out.2.2 w1 k1)
    have HK := hid (k0.trans k1 (fun _ _ f => f))
    refine leaves_cons (f := 66) (args := #[.pointer (some ⟨w.heap.size, 0, none⟩), .pointer (some ⟨w.heap.size + 1, 0, none⟩), .pointer (some ⟨w.heap.size + 1 + 1, 0, none⟩)]) (by simp) (by simp [go_sem]) ?_
    refine (catch_gave w.heap.size (w.heap.size + 1) (w.heap.size + 1 + 1) l x w1 _ _ _ ha hb hc (by omega) (by omega) (by omega)).mono ?_
    rintro e u' w2 ⟨rfl, rfl, ⟨q1, q2, q3⟩, k2⟩
    have HK2 := hid (HK.out.trans k2 (fun i hi f => by omega))
    simp [Leaves, settle, results, Tryz.results43, go_sem, q1, q2, q3]
    exact HK2.out
  | ok l =>
    simp only [Res] at hp ⊢
    go_enter_defers Tryz.func43, Tryz.ntmps43
    go_wp2_with fail
    refine hp.mono ?_
    rintro e w1 ⟨lv, rfl, s1⟩
    obtain ⟨la, lc, rfl, _⟩ := own_iin (show w1.ownsRow 0 91 2 lv l.length (insCells l) from s1.get 0 rfl)
    have k1 := s1.same
    have ha : w1.heap[w.heap.size]? = some (.cells #[.slice none 0 0] 51 (0, 0)) := (HB.out.1 w1 k1)
    have hb : w1.heap[w.heap.size + 1]? = some (.cells #[.int .i64 0] 3 (0, 0)) := (HB.out.2.1 w1 k1)
    have hc : w1.heap[w.heap.size + 1 + 1]? = some (.cells #[.int .i64 0] 25 (0, 0)) := (HB.out.2.2 w1 k1)
    have a0 : w1.cell? ⟨w.heap.size, 0, none⟩ = some (.slice none 0 0) := cell_of_heap ha
    have b0 : w1.cell? ⟨w.heap.size + 1, 0, none⟩ = some (.int .i64 0) := cell_of_heap hb
    have c0 : w1.cell? ⟨w.heap.size + 1 + 1, 0, none⟩ = some (.int .i64 0) := cell_of_heap hc
    have a1 : w1.frozen? ⟨w.heap.size, 0, none⟩ = false := frozen_of_heap ha
    have b1 : w1.frozen? ⟨w.heap.size + 1, 0, none⟩ = false := frozen_of_heap hb
    have c1 : w1.frozen? ⟨w.heap.size + 1 + 1, 0, none⟩ = false := frozen_of_heap hc
    have HS := hid s1
    clear hp s1 k1
    go_wp2
    have z1 : (((w1.setCell ⟨w.heap.size, 0, none⟩ (.slice la l.length lc)).setCell ⟨w.heap.size + 1, 0, none⟩ (.int .i64 0)).setCell ⟨w.heap.size + 1 + 1, 0, none⟩ (.int .i64 0)).heap[w.heap.size]? = some (.cells #[.slice la l.length lc] 51 (0, 0)) := by
      rw [heap_setCell_far (by simp; omega), heap_setCell_far (by simp), heap_setCell_at ha]
      rfl
    have z2 : (((w1.setCell ⟨w.heap.size, 0, none⟩ (.slice la l.length lc)).setCell ⟨w.heap.size + 1, 0, none⟩ (.int .i64 0)).setCell ⟨w.heap.size + 1 + 1, 0, none⟩ (.int .i64 0)).heap[w.heap.size + 1]? = some (.cells #[.int .i64 0] 3 (0, 0)) := by
      rw [heap_setCell_far (by simp), heap_setCell_at (by rw [heap_setCell_far (by simp)]; exact hb)]
      rfl
    have z3 : (((w1.setCell ⟨w.heap.size, 0, none⟩ (.slice la l.length lc)).setCell ⟨w.heap.size + 1, 0, none⟩ (.int .i64 0)).setCell ⟨w.heap.size + 1 + 1, 0, none⟩ (.int .i64 0)).heap[w.heap.size + 1 + 1]? = some (.cells #[.int .i64 0] 25 (0, 0)) := by
      rw [heap_setCell_at (by rw [heap_setCell_far (by simp), heap_setCell_far (by simp; omega)]; exact hc)]
      rfl
    have HQ : Hid (St w [ownI 91 2 (.slice la l.length lc) l.length (insCells l)] (((w1.setCell ⟨w.heap.size, 0, none⟩ (.slice la l.length lc)).setCell ⟨w.heap.size + 1, 0, none⟩ (.int .i64 0)).setCell ⟨w.heap.size + 1 + 1, 0, none⟩ (.int .i64 0))) := by
      refine HS.out.rebase ?_ (by simp; omega) ?_
      · exact ((((k0.trans HS.out.same (fun _ _ f => f)).mono (fun _ _ f => f.elim)).setCell (p := ⟨w.heap.size, 0, none⟩) _ (.inl (Nat.le_refl _))).setCell (p := ⟨w.heap.size + 1, 0, none⟩) _ (.inl (Nat.le_succ _))).setCell (p := ⟨w.heap.size + 1 + 1, 0, none⟩) _ (.inl (Nat.le_trans (Nat.le_succ _) (Nat.le_succ _)))
      · intro k h1 h2
        simp at h1
        rw [heap_setCell_far (by simp; omega), heap_setCell_far (by simp; omega), heap_setCell_far (by simp; omega)]
    generalize ((w1.setCell ⟨w.heap.size, 0, none⟩ (.slice la l.length lc)).setCell ⟨w.heap.size + 1, 0, none⟩ (.int .i64 0)).setCell ⟨w.heap.size + 1 + 1, 0, none⟩ (.int .i64 0) = w4 at *
    refine leaves_cons (f := 66) (args := #[.pointer (some ⟨w.heap.size, 0, none⟩), .pointer (some ⟨w.heap.size + 1, 0, none⟩), .pointer (some ⟨w.heap.size + 1 + 1, 0, none⟩)]) (by simp) (by simp [go_sem]) ?_
    refine (catch_idle w.heap.size (w.heap.size + 1) (w.heap.size + 1 + 1) w4).mono ?_
    rintro e u' w5 ⟨rfl, rfl, k5⟩
    have q1 : w5.cell? ⟨w.heap.size, 0, none⟩ = some (.slice la l.length lc) := cell_of_heap ((k5.block _ (lt_of_heap z1) (fun f => f)).trans z1)
    have q2 : w5.cell? ⟨w.heap.size + 1, 0, none⟩ = some (.int .i64 0) := cell_of_heap ((k5.block _ (lt_of_heap z2) (fun f => f)).trans z2)
    have q3 : w5.cell? ⟨w.heap.size + 1 + 1, 0, none⟩ = some (.int .i64 0) := cell_of_heap ((k5.block _ (lt_of_heap z3) (fun f => f)).trans z3)
    have HQ2 := hid (HQ.out.calm k5)
    simp [Leaves, settle, results, Tryz.results43, go_sem, q1, q2, q3]
    exact HQ2.out
end Go.Proofs.YtbpilhjomfkpaaaGreatDoor
