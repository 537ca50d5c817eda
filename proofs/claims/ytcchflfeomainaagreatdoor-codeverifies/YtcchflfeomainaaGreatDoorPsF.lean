/- A text, line by line. -/
import Derived.Test.YtcchflfeomainaaGreatDoorPsE
import Derived.Test.YtcchflfeomainaaGreatDoorVfB
import Derived.Carry
namespace Go.Proofs.YtcchflfeomainaaGreatDoor
open Go.RowKit
set_option linter.unusedVariables false
set_option linter.unusedSimpArgs false
attribute [local go_sem ↓] Go.wp_at_zero Go.wp_at_succ

theorem split_size (sep : ByteArray) : ∀ (k : Nat) (s : ByteArray), ∀ x ∈ Lib.splitB sep 0 k s, x.size ≤ s.size
  | 0, s, x, h => by rw [Lib.splitB_zero, List.mem_singleton] at h; rw [h]; exact Nat.le_refl _
  | k + 1, s, x, h => by
    unfold Lib.splitB at h
    split at h
    · rw [List.mem_singleton] at h; rw [h]; exact Nat.le_refl _
    · rcases List.mem_cons.1 h with h | h
      · rw [h, ByteArray.size_extract]; omega
      · have := split_size sep k _ x h
        rw [ByteArray.size_extract] at this
        omega
theorem lines_len (s : ByteArray) : (linesM s).length = Lib.countB s ⟨#[10]⟩ + 1 := Lib.splitB_all _ (by decide) 0 _ s rfl
/-- All lines of a text are such that the search for blanks was proved of them. -/
def PlainT (s : ByteArray) : Prop := ∀ x ∈ linesM s, Plain8 (saidM x.data.toList)
theorem takeAll_drop {l : List ByteArray} {j : Nat} (hj : j < l.length) (p : Pst) : takeAll (j : Int) (l.drop j) p = match takeM ((j : Int) + 1) (saidM (l.getD j ⟨#[]⟩).data.toList) p with | .error e => .error e | .ok p' => takeAll ((j + 1 : Nat) : Int) (l.drop (j + 1)) p' := by
  rw [List.drop_eq_getElem_cons hj]
  simp only [takeAll, List.getD_eq_getElem?_getD, List.getElem?_eq_getElem hj, Option.getD_some]
  cases takeM ((j : Int) + 1) (saidM l[j].data.toList) p <;> rfl
def finM (x : Except (Int × Int) Pst) : Except (Int × Int) (List Ins) :=
  match x with
  | .error e => .error e
  | .ok p =>
    match setAll p p.ds [] with
    | .error e => .error e
    | .ok l => if l = [] then .error (0, 150) else .ok l
theorem parseM_fin {s : ByteArray} (h : ¬ 65536 < s.size) : parseM s = finM (takeAll 0 (linesM s) ⟨[], []⟩) := by
  unfold parseM
  rw [if_neg h]
  rfl
theorem perm5 (a b c d e : It) : [a, b, c, d, e].Perm [c, e, d, a, b] :=
  (List.perm_append_comm (l₁ := [a, b]) (l₂ := [c, d, e])).trans ((List.Perm.swap e d [a, b]).cons c)
theorem St.only {o w : World} {A : It} {its : List It} (h : St o (A :: its) w) : St o [A] w :=
  ⟨by have := h.nodup; rw [List.flatMap_cons, List.nodup_append] at this; simpa using this.1, fun i hi => h.all i (List.mem_cons.2 (.inl (List.mem_singleton.1 hi))), fun i hi => h.high i (List.mem_cons.2 (.inl (List.mem_singleton.1 hi))), h.kept⟩
set_option maxRecDepth 100000 in
set_option maxHeartbeats 4000000 in
theorem parse_any (s : ByteArray) (w : World) (hE : Env w) (hP : PlainT s) (hs63 : s.size ≤ 9223372036854775807) :
    Calls Tryz.prog 46 #[.string s] w fun e w' => Res 100 w (fun l e w' => ∃ lv, e = .returned lv ∧ St w [ownI 48 2 lv l.length (insCells l)] w') (parseM s) e w' := by
  by_cases hs : 65536 < s.size
  · have e : parseM s = .error (0, 150) := by unfold parseM; rw [if_pos hs]
    rw [e]
    have t1 : (65536 : Int) < (s.size : Int) := by omega
    clear hP hE e
    go_enter Tryz.func46, Tryz.ntmps46
    go_wp2_with (go_at_call 60; refine (giveUp_any _ _ _).mono ?_; rintro e w3 ⟨rfl, rfl⟩)
    exact ⟨rfl, rfl, Kept.refl _ _⟩
  · rw [parseM_fin hs]
    have t1 : ¬ (65536 : Int) < (s.size : Int) := by omega
    have hmm := @run_makeMap Tryz.prog
    have k1 := kept_alloc w (.cells tabC 57)
    have s1 := (St.nil w).box tabC 57
    have s2 : St w [mapI (w.heap.size + 1) [], boxI w.heap.size tabC 57] ((w.alloc (.cells tabC 57)).alloc (.map #[] 0)) := by
      have := s1.push (mapI (w.heap.size + 1) []) (kept_alloc _ (.map #[] 0)) (by have h9 := mapL_made (w.alloc (.cells tabC 57)); rw [alloc_size] at h9; exact h9) (by simp [mapI]) (fun b hb => by rw [List.mem_singleton.1 hb, alloc_size]; exact Nat.le_refl _)
      exact this
    have s3 := s2.box (rdC w.heap.size (w.heap.size + 1) 0 (.slice none 0 0)) 117
    rw [alloc_size, alloc_size] at s3
    have hE3 := hE.kept s3.same
    have s4 := s3.box ((linesM s).map Value.string).toArray 9
    rw [alloc_size, alloc_size, alloc_size] at s4
    have hll := lines_len s
    have hls := split_size ⟨#[10]⟩ (Lib.countB s ⟨#[10]⟩) s
    have HS : Hid (RdS w [boxI (w.heap.size + 1 + 1 + 1) ((linesM s).map Value.string).toArray 9] (w.heap.size + 1 + 1) w.heap.size (w.heap.size + 1) 0 (.slice none 0 0) ⟨[], []⟩ ((((w.alloc (.cells tabC 57)).alloc (.map #[] 0)).alloc (.cells #[.slice (some ⟨w.heap.size, 0, none⟩) 23 23, .int .i64 0, .map (some (w.heap.size + 1)), .slice none 0 0] 117)).alloc (.cells ((linesM s).map Value.string).toArray 9))) := by
      have s5 := s4.own (e := 129) (z := 4) (Kept.refl _ _) (World.ownsRow_nil _ _ _ _)
      exact ⟨s5.perm (perm5 _ _ _ _ _), hE, List.Pairwise.nil, by simp, by simp, fun d hd => by cases hd⟩
    have hE3' : Env (((w.alloc (.cells tabC 57)).alloc (.map #[] 0)).alloc (.cells #[.slice (some ⟨w.heap.size, 0, none⟩) 23 23, .int .i64 0, .map (some (w.heap.size + 1)), .slice none 0 0] 117)) := hE3
    have hsp := split_any s hE3' (by omega)
    have esz : (((w.alloc (.cells tabC 57)).alloc (.map #[] 0)).alloc (.cells #[.slice (some ⟨w.heap.size, 0, none⟩) 23 23, .int .i64 0, .map (some (w.heap.size + 1)), .slice none 0 0] 117)).heap.size = w.heap.size + 1 + 1 + 1 := by simp
    rw [esz] at hsp
    clear s1 s2 s3 s4 k1 hE3 hE3' esz
    have HL : Hid (∀ x ∈ linesM s, x.size ≤ 65536) := fun x hx => Nat.le_trans (hls x hx) (by omega)
    have HP : Hid (∀ x ∈ linesM s, Plain8 (saidM x.data.toList)) := hP
    have HLL : Hid ((linesM s).length = Lib.countB s ⟨#[10]⟩ + 1) := hll
    have hcb : Lib.countB s ⟨#[10]⟩ ≤ s.size := Lib.countB_le ⟨#[10]⟩ (by decide) s.size s (Nat.le_refl _)
    have HEw : Hid (Env w) := hE
    generalize linesM s = ls at *
    generalize Lib.countB s ⟨#[10]⟩ = N at *
    clear hls hP hll hE
    have HF0 : Hid (finM (takeAll 0 ls ⟨[], []⟩) = finM (takeAll ((0 : Nat) : Int) (ls.drop 0) ⟨[], []⟩)) := rfl
    generalize finM (takeAll 0 ls ⟨[], []⟩) = X at *
    go_enter Tryz.func46, Tryz.ntmps46
    go_wp2_with (first | (go_at_call 27; refine (table_any _).mono ?_; rintro e w1 ⟨rfl, rfl⟩) | (go_at_call 61; refine hsp.mono ?_; rintro e w2 ⟨rfl, rfl⟩) | simp only [hmm])
    clear hsp
    generalize w.heap.size = H at *
    go_loopw [18] (fun i wr => ∃ (j : Nat) (p : Pst) (v : Value) (line : Int), i = .int .i64 j ∧ j ≤ N + 1 ∧ X = finM (takeAll (j : Int) (ls.drop j) p) ∧ RdS w [boxI (H + 1 + 1 + 1) (ls.map Value.string).toArray 9] (H + 1 + 1) H (H + 1) line v p wr) (fun i _ => N + 1 - (intOf i).toNat)
    case atStart => exact ⟨0, _, _, _, rfl, Nat.zero_le _, HF0.out, HS.out⟩
    case round =>
      clear HS HF0
      obtain ⟨j, p, v, line, rfl, hj, hx, hR⟩ := hrel
      have HX : Hid (X = finM (takeAll (j : Int) (ls.drop j) p)) := hx
      clear hx
      by_cases hlt : j < N + 1
      · have hlt' : j < ls.length := by have := HLL.out; omega
        have hmem : ls.getD j ⟨#[]⟩ ∈ ls := by rw [List.getD_eq_getElem?_getD, List.getElem?_eq_getElem hlt']; exact List.getElem_mem hlt'
        have cL : wr.cell? ⟨H + 1 + 1 + 1, j, none⟩ = some (.string (ls.getD j ⟨#[]⟩)) := by
          rw [hR.st.cell 4 rfl j, List.getElem?_toArray, List.getElem?_map, List.getElem?_eq_getElem hlt', List.getD_eq_getElem?_getD, List.getElem?_eq_getElem hlt']
          rfl
        have HX2 : Hid (X = match takeM ((j : Int) + 1) (saidM (ls.getD j ⟨#[]⟩).data.toList) p with | .error e => .error e | .ok p' => finM (takeAll ((j + 1 : Nat) : Int) (ls.drop (j + 1)) p')) := by
          show X = _
          rw [HX.out, takeAll_drop hlt']
          cases takeM ((j : Int) + 1) (saidM (ls.getD j ⟨#[]⟩).data.toList) p <;> rfl
        have hl1 := HL.out _ hmem
        have hp1 := HP.out _ hmem
        have eb := bs_data (ls.getD j ⟨#[]⟩)
        generalize ls.getD j ⟨#[]⟩ = x at *
        obtain ⟨xl, rfl⟩ : ∃ xl, x = bs xl := ⟨_, eb.symm⟩
        rw [bs_size] at hl1
        have ed : (bs xl).data.toList = xl := by simp
        rw [ed] at hp1 HX2
        clear eb ed hmem
        have c1 : wr.cell? ⟨H + 1 + 1, 1, none⟩ = some (.int .i64 line) := hR.st.cell 0 rfl 1
        have f1 : wr.frozen? ⟨H + 1 + 1, 1, none⟩ = false := hR.st.frozen 0 rfl 1
        have hR2 : RdS w [boxI (H + 1 + 1 + 1) (ls.map Value.string).toArray 9] (H + 1 + 1) H (H + 1) ((j : Int) + 1) v p (wr.setCell ⟨H + 1 + 1, 1, none⟩ (.int .i64 ((j : Int) + 1))) :=
          ⟨hR.st.write 0 rfl 1 (.int .i64 ((j : Int) + 1)), hR.env, hR.nd, hR.nl, hR.nds, hR.xs⟩
        have h0 : (0 : Int) ≤ (j : Int) := Int.natCast_nonneg _
        have h1 : (j : Int) < (N : Int) + 1 := by omega
        clear hR HX
        go_upto_region 8 with fail
        generalize wr.setCell ⟨H + 1 + 1, 1, none⟩ (.int .i64 ((j : Int) + 1)) = w5 at *
        have hsd := said_any xl w5 hR2.rdw.hE hl1
        have htk := fun W k => take_any (saidM xl) (Nat.le_trans (said_len xl) hl1) hp1 (hR2.calm (w' := W) k)
        clear cL c1 f1 hR2 hp1
        generalize saidM xl = sx at *
        cases hT : takeM ((j : Int) + 1) sx p with
        | error le =>
          obtain ⟨l', e'⟩ := le
          rw [hT] at htk
          have HX3 : Hid (X = .error (l', e')) := by have := HX2.out; rw [hT] at this; exact this
          simp only [Res] at htk
          clear HX2 hT
          go_wp2_with (first | (go_at_call 63; refine hsd.mono ?_; rintro e w6 ⟨rfl, k6⟩) | (go_at_call 62; refine (htk _ k6).mono ?_; rintro e w7 ⟨rfl, k7⟩))
          refine ⟨rfl, ?_⟩
          rw [HX3.out]
          exact ⟨rfl, k7⟩
        | ok p' =>
          rw [hT] at htk
          have HX3 : Hid (X = finM (takeAll ((j + 1 : Nat) : Int) (ls.drop (j + 1)) p')) := by have := HX2.out; rw [hT] at this; exact this
          simp only [Res] at htk
          clear HX2 hT
          go_wp2_with (first | (go_at_call 63; refine hsd.mono ?_; rintro e w6 ⟨rfl, k6⟩) | (go_at_call 62; refine (htk _ k6).mono ?_; rintro e w7 ⟨rfl, v7, h7⟩; replace h7 := hid h7; clear k6 htk))
          go_roundw
          case rel => exact ⟨j + 1, p', v7, (j : Int) + 1, by simp, by omega, HX3.out, h7.out⟩
          case measure => simp [intOf]; omega
      · have h1 : ¬ (j : Int) < (N : Int) + 1 := by omega
        have HX2 : Hid (X = finM (.ok p)) := by
          have := HX.out
          rwa [show ls.drop j = [] from List.drop_eq_nil_iff.2 (by have := HLL.out; omega)] at this
        have hpr := program_any hR
        clear hR HX
        cases hT : setAll p p.ds [] with
        | error le =>
          obtain ⟨l', e'⟩ := le
          rw [hT] at hpr
          have HX3 : Hid (X = .error (l', e')) := by have := HX2.out; simp only [finM, hT] at this; exact this
          simp only [Res] at hpr
          clear HX2 hT
          go_wp2_with (first | (go_at_call 64; refine hpr.mono ?_; rintro e w7 ⟨rfl, k7⟩))
          refine ⟨rfl, ?_⟩
          rw [HX3.out]
          exact ⟨rfl, k7⟩
        | ok l =>
          rw [hT] at hpr
          simp only [Res] at hpr
          by_cases hl0 : l = []
          · have HX3 : Hid (X = .error (0, 150)) := by have := HX2.out; simp only [finM, hT, hl0, if_true] at this; exact this
            subst hl0
            clear HX2 hT
            go_wp2_with fail
            refine hpr.mono ?_
            rintro e w7 ⟨lv, rfl, k7⟩
            obtain ⟨la, lc, rfl, _⟩ := own_iin (show w7.ownsRow 0 48 2 lv ([] : List Ins).length (insCells []) from k7.get 0 rfl)
            have HK := hid k7.same
            clear k7 hpr
            go_wp2_with (go_at_call 60; refine (giveUp_any _ _ _).mono ?_; rintro e w3 ⟨rfl, rfl⟩)
            refine ⟨rfl, ?_⟩
            rw [HX3.out]
            exact ⟨rfl, HK.out⟩
          · have HX3 : Hid (X = .ok l) := by have := HX2.out; simp only [finM, hT, hl0, if_false] at this; exact this
            have hln : ((l.length : Int) == 0) = false := by
              have : l.length ≠ 0 := fun e => hl0 (List.length_eq_zero_iff.1 e)
              simp; exact hl0
            clear HX2 hT hl0
            go_wp2_with fail
            refine hpr.mono ?_
            rintro e w7 ⟨lv, rfl, k7⟩
            obtain ⟨la, lc, rfl, _⟩ := own_iin (show w7.ownsRow 0 48 2 lv l.length (insCells l) from k7.get 0 rfl)
            have HK := hid k7
            clear k7 hpr
            go_wp2
            go_ret
            rw [HX3.out]
            exact ⟨_, rfl, HK.out⟩
end Go.Proofs.YtcchflfeomainaaGreatDoor
