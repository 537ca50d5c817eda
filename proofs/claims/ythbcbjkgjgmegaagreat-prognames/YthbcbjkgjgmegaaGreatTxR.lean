/- What was written, as a list of its own. New; Begin, Commit, Abort. Commit, where something was written. -/
import Derived.Test.YthbcbjkgjgmegaaGreatTxC
import Derived.Test.YthbcbjkgjgmegaaGreatTxG
import Derived.Deep.Cut
import Derived.Deep.CutBlock
namespace Go.Proofs.YthbcbjkgjgmegaaGreat
open Go.RowKit
set_option linter.unusedVariables false
set_option linter.unusedSimpArgs false
attribute [local go_sem ↓] Go.wp_at_zero Go.wp_at_succ

/-- The first j pairs, then noughts. -/
def partP (ps : List Pr) (j : Nat) : List Value := prCells (ps.take j ++ List.replicate (ps.length - j) Pr.zero)
theorem prCells_set (l : List Pr) : ∀ j, j < l.length → ∀ p : Pr, ((prCells l).set (j * 2) (.int .i64 p.ce)).set (j * 2 + 1) (.int .i64 p.x) = prCells (l.set j p) := by
  induction l with
  | nil => intro j hj; simp at hj
  | cons a l ih =>
    intro j hj p
    cases j with
    | zero => simp [prCells]
    | succ j =>
      have := ih j (by simpa using hj) p
      rw [show (j + 1) * 2 = j * 2 + 1 + 1 by omega]
      simp only [prCells, List.set_cons_succ]
      rw [this]
theorem partP_len (ps : List Pr) (j : Nat) (hj : j ≤ ps.length) : (partP ps j).length = ps.length * 2 := by
  rw [partP, prCells_length]
  simp
  omega
theorem partP_all (ps : List Pr) : partP ps ps.length = prCells ps := by simp [partP]
theorem partP_zero (ps : List Pr) : partP ps 0 = prCells (List.replicate ps.length Pr.zero) := by simp [partP]
theorem partP_set (ps : List Pr) (j : Nat) (hj : j < ps.length) : ((partP ps j).set (j * 2) (.int .i64 (ps.getD j Pr.zero).ce)).set (j * 2 + 1) (.int .i64 (ps.getD j Pr.zero).x) = partP ps (j + 1) := by
  unfold partP
  rw [prCells_set _ j (by simp; omega)]
  congr 1
  apply List.ext_getElem?
  intro k
  rw [List.getElem?_set]
  by_cases e : j = k
  · subst e
    have : j < (ps.take (j + 1)).length := by simp; omega
    rw [if_pos rfl, if_pos (by simp; omega), List.getElem?_append_left this, List.getElem?_take, if_pos (by omega)]
    simp [List.getD_eq_getElem?_getD, hj]
  · rw [if_neg e]
    by_cases hk : k < j
    · rw [List.getElem?_append_left (by simp; omega), List.getElem?_append_left (by simp; omega), List.getElem?_take, List.getElem?_take, if_pos hk, if_pos (by omega)]
    · rw [List.getElem?_append_right (by simp; omega), List.getElem?_append_right (by simp; omega)]
      simp only [List.length_take, List.getElem?_replicate]
      rw [Nat.min_eq_left (by omega), Nat.min_eq_left (by omega)]
      by_cases hk2 : k < ps.length
      · rw [if_pos (by omega), if_pos (by omega)]
      · rw [if_neg (by omega), if_neg (by omega)]
theorem prCells_nought (n : Nat) : prCells (List.replicate n Pr.zero) = List.replicate (n * 2) (.int .i64 0) := by
  induction n with
  | zero => rfl
  | succ n ih =>
    rw [List.replicate_succ, prCells, ih, show (n + 1) * 2 = n * 2 + 1 + 1 by omega, List.replicate_succ, List.replicate_succ]
    rfl
theorem madePr (n : Nat) : madeCells (Value.agg #[.int .i64 0, .int .i64 0]).cells (n * 2) = (prCells (List.replicate n Pr.zero)).toArray := by
  rw [prCells_nought]
  apply Array.ext'
  apply List.ext_getElem?
  intro j
  have hc : (Value.agg #[.int .i64 0, .int .i64 0]).cells = #[.int .i64 0, .int .i64 0] := rfl
  by_cases hj : j < n * 2
  · rcases (show j % 2 = 0 ∨ j % 2 = 1 by omega) with e | e <;> simp [madeCells, hc, hj, e]
  · rw [List.getElem?_eq_none (by simp [size_madeCells]; omega), List.getElem?_eq_none (by simp; omega)]
theorem prPs_at (l : List Pr) (j : Nat) (hj : j < l.length) : (prPs l)[j]? = some (.int .i64 (l.getD j Pr.zero).ce, .int .i64 (l.getD j Pr.zero).x) := by
  simp [prPs, hj, List.getD_eq_getElem?_getD]
theorem prPs_length (l : List Pr) : (prPs l).length = l.length := by simp [prPs]

section
variable {o w : World} {its R : List It} {A : Ad} {c : Cfg} {P : TA} {cs : Array Value} {df : Int} {wt rds : List Pr} {tI dI : It}
set_option maxRecDepth 100000 in
set_option maxHeartbeats 1000000 in
theorem tWrites (h : St o (tG c P cs df wt rds tI dI ++ R) w) (h15 : cs[15]? = some (.pointer (some ⟨P.L, 0, none⟩))) (hl : wt.length ≤ 16) (hk : ∀ p, p ∈ wt → (Lit.int .i64 p.ce).wf = true) :
    Calls Tryz.prog 96 #[.pointer (some ⟨P.T, 0, none⟩)] w fun e w' => ∃ g, e = .returned (.slice (some ⟨g, 0, none⟩) wt.length wt.length) ∧ St o (ownI 220 2 (.slice (some ⟨g, 0, none⟩) wt.length wt.length) wt.length (prCells wt) :: (tG c P cs df wt rds tI dI ++ R)) w' := by
  obtain ⟨i0, hi0, hz0, hz1, hz2⟩ := info_parts Tryz.infoPr
  have c15 : w.cell? ⟨P.T, 15, none⟩ = some (.pointer (some ⟨P.L, 0, none⟩)) := (tCell h 15).trans h15
  have hL : Calls Tryz.prog 134 #[.pointer (some ⟨P.L, 0, none⟩)] w fun e w' => e = .returned (.int .i64 wt.length) ∧ w' = w := by
    have := lenA_any (show LogA w P.L 16 P.lv P.bm (prPs wt) from h.get 2 tAt2)
    rwa [prPs_length] at this
  have hmk : (Instr.makeSlice 131 (.int .i64 wt.length) (.int .i64 wt.length)).run Tryz.prog w = .ok (.slice (some ⟨w.heap.size, 0, none⟩) wt.length wt.length) (w.alloc (.cells (prCells (List.replicate wt.length Pr.zero)).toArray 220)) := by
    have := run_make (P := Tryz.prog) w 131 220 i0 _ Tryz.underlying131 hi0 hz0 .i64 .i64 wt.length wt.length (by omega) (by omega) (by rw [hz2]; omega) (by omega)
    rw [this, hz1, Int.toNat_natCast, madePr]
  have hS0 : St o (ownI 220 2 (.slice (some ⟨w.heap.size, 0, none⟩) wt.length wt.length) wt.length (partP wt 0) :: (tG c P cs df wt rds tI dI ++ R)) (w.alloc (.cells (prCells (List.replicate wt.length Pr.zero)).toArray 220)) := by
    rw [partP_zero]
    refine h.own (kept_alloc w _) ?_
    refine ⟨by rw [prCells_length]; simp, .inr ⟨w.heap.size, wt.length, (prCells (List.replicate wt.length Pr.zero)).toArray, rfl, Nat.le_refl _, heap_alloc_new w _, Nat.le_refl _, by unfold maxLen; omega, by simp [prCells_length], by rw [List.take_of_length_le (by simp [prCells_length])]⟩⟩
  have HPS : Hid (∀ j, j < wt.length → ((partP wt j).set (j * 2) (.int .i64 (wt.getD j Pr.zero).ce)).set (j * 2 + 1) (.int .i64 (wt.getD j Pr.zero).x) = partP wt (j + 1)) := fun j hj => partP_set wt j hj
  have HE : Hid (partP wt wt.length = prCells wt) := partP_all wt
  have HA : Hid (∀ W M j, j < wt.length → St o (ownI 220 2 (.slice (some ⟨M, 0, none⟩) wt.length wt.length) wt.length (partP wt j) :: (tG c P cs df wt rds tI dI ++ R)) W → W.cell? ⟨P.T, 15, none⟩ = some (.pointer (some ⟨P.L, 0, none⟩)) ∧ Calls Tryz.prog 135 #[.pointer (some ⟨P.L, 0, none⟩), .int .i64 (j : Nat)] W fun e w' => e = .returned (.tuple #[.int .i64 (wt.getD j Pr.zero).ce, .int .i64 (wt.getD j Pr.zero).x, .int .i64 0]) ∧ Kept (fun _ => False) W w') := by
    intro W M j hj hW
    refine ⟨(hW.cell 1 rfl 15).trans h15, ?_⟩
    refine atA_ok (show LogA W P.L 16 P.lv P.bm (prPs wt) from hW.get 3 rfl) (prPs_at wt j hj) ⟨_, rfl, hk _ ?_⟩
    rw [List.getD_eq_getElem?_getD, List.getElem?_eq_getElem hj]
    exact List.getElem_mem hj
  have HLN : Hid (∀ j, j ≤ wt.length → (partP wt j).length = wt.length * 2) := fun j hj => partP_len wt j hj
  clear h h15 hk
  generalize (prCells (List.replicate wt.length Pr.zero)).toArray = CC at *
  generalize wt.length = n at *
  go_enter Tryz.func96, Tryz.ntmps96
  go_wp2_with (first | (go_at_call 134; refine hL.mono ?_; rintro e wq ⟨rfl, rfl⟩))
  generalize wq.alloc (.cells CC 220) = w1 at *
  generalize wq.heap.size = M at *
  clear hmk hL
  go_loopw [4, 5, 6, 7, 16, 17, 18, 19, 20, 21, 22, 23, 24, 25, 26, 27, 28, 29, 30, 31, 32, 33, 34, 35] (fun _ _ _ _ i _ _ _ _ _ _ _ _ _ _ _ _ _ _ _ _ _ _ _ W => ∃ j : Nat, i = .int .i64 j ∧ j ≤ n ∧ Hid (St o (ownI 220 2 (.slice (some ⟨M, 0, none⟩) n n) n (partP wt j) :: (tG c P cs df wt rds tI dI ++ R)) W)) (fun _ _ _ _ i _ _ _ _ _ _ _ _ _ _ _ _ _ _ _ _ _ _ _ _ => n - (intOf i).toNat)
  case atStart => exact ⟨0, rfl, Nat.zero_le _, hid hS0⟩
  case round =>
    clear hS0
    obtain ⟨j, rfl, hj, HS⟩ := hrel
    by_cases hlt : j < n
    · have h1 : (j : Int) < (n : Int) := by omega
      have h2 : (0 : Int) ≤ (j : Int) := by omega
      obtain ⟨c15, hA⟩ := HA.out wr M j hlt HS.out
      have HP := HPS.out j hlt
      generalize wt.getD j Pr.zero = p at *
      obtain ⟨ce, xx⟩ := p
      simp only at hA HP
      go_wp2_with fail
      refine hA.mono ?_
      rintro e w2 ⟨rfl, k2⟩
      have s2 := HS.out.calm k2
      clear hA HS k2 c15
      have hl2 := HLN.out j hj
      obtain ⟨u0, hu0⟩ : ∃ u0, (partP wt j)[j * 2]? = some u0 := ⟨_, List.getElem?_eq_getElem (by omega)⟩
      obtain ⟨u1, hu1⟩ : ∃ u1, (partP wt j)[j * 2 + 1]? = some u1 := ⟨_, List.getElem?_eq_getElem (by omega)⟩
      have e0 : w2.cell? ⟨M, j * 2, none⟩ = some u0 := (s2.ownCell 0 rfl (j * 2) (by omega)).trans hu0
      have e1 : w2.cell? ⟨M, j * 2 + 1, none⟩ = some u1 := (s2.ownCell 0 rfl (j * 2 + 1) (by omega)).trans hu1
      have f0 : w2.frozen? ⟨M, j * 2, none⟩ = false := s2.ownFrozen 0 rfl _
      have f1 : w2.frozen? ⟨M, j * 2 + 1, none⟩ = false := s2.ownFrozen 0 rfl _
      have HC : Hid (St o (ownI 220 2 (.slice (some ⟨M, 0, none⟩) n n) n (partP wt (j + 1)) :: (tG c P cs df wt rds tI dI ++ R)) ((w2.setCell ⟨M, j * 2, none⟩ (.int .i64 ce)).setCell ⟨M, j * 2 + 1, none⟩ (.int .i64 xx))) := by
        rw [← HP]
        exact (s2.ownSet 0 rfl (j * 2) (by omega) (.int .i64 ce)).ownSet 0 rfl (j * 2 + 1) (by omega) (.int .i64 xx)
      clear s2 hu0 hu1 HP hl2
      go_wp2_with fail
      go_roundw
      case rel => exact ⟨j + 1, by go_num, hlt, HC⟩
      case measure => simp [intOf]; omega
    · obtain rfl : j = n := by omega
      have HF : Hid (St o (ownI 220 2 (.slice (some ⟨M, 0, none⟩) j j) j (prCells wt) :: (tG c P cs df wt rds tI dI ++ R)) wr) := by
        rw [← HE.out]
        exact HS.out
      clear HS HPS HE HA HLN
      go_wp2
      go_ret
      exact ⟨M, rfl, HF.out⟩
end
end Go.Proofs.YthbcbjkgjgmegaaGreat

namespace Go.Proofs.YthbcbjkgjgmegaaGreat
open Go.RowKit
set_option linter.unusedVariables false
set_option linter.unusedSimpArgs false
attribute [local go_sem ↓] Go.wp_at_zero Go.wp_at_succ
section
variable {o w : World} {its R : List It} {A : Ad} {c : Cfg} {z : SSt} {v u : Value} {P : TA} {x : Tt} {cs : Array Value} {df : Int} {wt rds : List Pr} {tI dI : It} {dg tv rv : Value} {th l1 l2 l3 sp : Int} {f : Frm}
theorem tNew_out (p : Value) (th : Int) (hn : ¬ (1 ≤ th ∧ th ≤ 8)) (w : World) : Calls Tryz.prog 37 #[p, .int .i64 th] w fun e w' => e = .returned (.tuple #[.pointer none, .int .i64 1]) ∧ w' = w := by
  by_cases h1 : th < 1
  · clear hn
    go_enter Tryz.func37, Tryz.ntmps37
    go_wp2
    go_ret2
    exact ⟨rfl, rfl⟩
  · have h2 : 8 < th := by omega
    clear hn
    go_enter Tryz.func37, Tryz.ntmps37
    go_wp2
    go_ret2
    exact ⟨rfl, rfl⟩
theorem St.newLog (h : St o its w) {w' : World} {p bm : Nat} (hl : LogA w' p 16 (.slice none 0 0) bm []) (k : Kept (fun _ => False) w w') (hp : w.heap.size ≤ p) (hb : w.heap.size ≤ bm) : St o (logI Tryz.prog 261 289 2 3 OKi p 16 (.slice none 0 0) bm [] :: its) w' :=
  h.push _ k hl hl.nodup (fun b hb' => by
    simp only [logI, foot, Value.ownBlock, Option.toList, List.mem_cons, List.not_mem_nil, or_false] at hb'
    rcases hb' with rfl | rfl
    · exact hp
    · exact hb)
theorem St.noReads (h : St o its w) : St o (ownI 220 2 (.slice none 0 0) 0 [] :: its) w :=
  h.push _ (Kept.refl _ w) (World.ownsRow_nil w 0 220 2) (own_nodup (.slice none 0 0)) (fun b hb => by simp [ownI, Value.ownBlock] at hb)

set_option maxRecDepth 100000 in
set_option maxHeartbeats 1000000 in
theorem tNew_st (h : St o its w) (i : Nat) (hi : its[i]? = some (spI A c z v u)) (hf : c.fits = true) (h1 : 1 ≤ th) (h8 : th ≤ 8) :
    Calls Tryz.prog 37 #[spp A, .int .i64 th] w fun e w' => ∃ P, e = .returned (.tuple #[.pointer (some ⟨P.T, 0, none⟩), .int .i64 0]) ∧ St o (txI c A P (Tt.new th) :: its) w' := by
  have s0 := h.nilI.nilI.noReads
  have hc := spConfig s0 (i + 3) (show (_ :: _ :: _ :: its)[i + 3]? = _ from hi)
  have n1 : ¬ th < 1 := by omega
  have n2 : ¬ 8 < th := by omega
  clear h hi h1 h8 s0
  unfold spp at hc ⊢
  go_enter Tryz.func37, Tryz.ntmps37
  go_wp2_with fail
  refine hc.mono ?_
  rintro e w1 ⟨rfl, s1⟩
  have hq := new_st s1 c hf
  clear hc s1
  generalize hcv : c.val = CV at *
  have HCV : Hid (c.val = CV) := hcv
  clear hcv
  go_wp2_with fail
  refine hq.mono ?_
  rintro e w2 ⟨J, rfl, s2⟩
  clear hq
  have hL := newA_yes 16 w2 (by decide) (by decide)
  go_wp2_with fail
  refine hL.mono ?_
  rintro e w3 ⟨rfl, l3, k3⟩
  have s3 := (s2.newLog l3 k3 (Nat.le_succ _) (Nat.le_refl _)).swap
  clear hL s2 l3 k3
  generalize w2.heap.size = B at *
  have s4 := s3.box #[.pointer (some ⟨A.sp, 0, none⟩), .int .i64 th, .pointer (some ⟨J, 0, none⟩), .iface 200 (.agg #[]), .int .i64 0, .int .i64 0, .int .i64 0, .int .i64 0, .nilFunc, .int .i64 0, .int .i64 0, .int .i64 0, .int .u64 0, .int .u64 0, .slice none 0 0, .pointer (some ⟨B + 1, 0, none⟩)] 207
  have H4 := hid s4
  clear s3 s4
  go_wp2
  go_ret2
  exact ⟨⟨w3.heap.size, J, B + 1, B, 0, 0, 0, 0, 0, .slice none 0 0, .slice none 0 0, .nilFunc, .nilFunc, .nilFunc, .nilFunc, .nilFunc, ⟨0, 0, 0, 0, 0⟩⟩, rfl, St.unite (l := txL c A ⟨w3.heap.size, J, B + 1, B, 0, 0, 0, 0, 0, .slice none 0 0, .slice none 0 0, .nilFunc, .nilFunc, .nilFunc, .nilFunc, .nilFunc, ⟨0, 0, 0, 0, 0⟩⟩ (Tt.new th)) H4.out⟩

set_option maxRecDepth 100000 in
theorem tBegin_no (h : St o (txL c A P x ++ R) w) (sp : Int) (hp : x.dg.phase ≠ 0) : Calls Tryz.prog 194 #[.pointer (some ⟨P.T, 0, none⟩), .int .i64 sp] w fun e w' => e = .returned (.int .i64 4) ∧ St o (txL c A P x ++ R) w' := by
  have hq := tPhase h
  have e0 : (x.dg.phase != 0) = true := by simpa using hp
  clear h hp
  generalize x.dg.phase = ph at *
  go_enter Tryz.func194, Tryz.ntmps194
  go_wp2_with fail
  refine hq.mono ?_
  rintro e w1 ⟨rfl, s1⟩
  have H1 := hid s1
  clear hq s1
  go_wp2
  go_ret
  exact ⟨rfl, H1.out⟩
set_option maxRecDepth 100000 in
theorem tRead_no (h : St o (txL c A P x ++ R) w) (ce : Int) (hp : x.dg.phase ≠ 2) : Calls Tryz.prog 196 #[.pointer (some ⟨P.T, 0, none⟩), .int .i64 ce] w fun e w' => e = .returned (.int .i64 4) ∧ St o (txL c A P x ++ R) w' := by
  have hq := tPhase h
  have e0 : (x.dg.phase != 2) = true := by simpa using hp
  clear h hp
  generalize x.dg.phase = ph at *
  go_enter Tryz.func196, Tryz.ntmps196
  go_wp2_with fail
  refine hq.mono ?_
  rintro e w1 ⟨rfl, s1⟩
  have H1 := hid s1
  clear hq s1
  go_wp2
  go_ret
  exact ⟨rfl, H1.out⟩
set_option maxRecDepth 100000 in
theorem tWrite_no (h : St o (txL c A P x ++ R) w) (ce xv : Int) (hp : x.dg.phase ≠ 2) : Calls Tryz.prog 197 #[.pointer (some ⟨P.T, 0, none⟩), .int .i64 ce, .int .i64 xv] w fun e w' => e = .returned (.int .i64 4) ∧ St o (txL c A P x ++ R) w' := by
  have hq := tPhase h
  have e0 : (x.dg.phase != 2) = true := by simpa using hp
  clear h hp
  generalize x.dg.phase = ph at *
  go_enter Tryz.func197, Tryz.ntmps197
  go_wp2_with fail
  refine hq.mono ?_
  rintro e w1 ⟨rfl, s1⟩
  have H1 := hid s1
  clear hq s1
  go_wp2
  go_ret
  exact ⟨rfl, H1.out⟩
set_option maxRecDepth 100000 in
theorem tCommit_no (h : St o (txL c A P x ++ R) w)  (hp : x.dg.phase ≠ 2) : Calls Tryz.prog 198 #[.pointer (some ⟨P.T, 0, none⟩)] w fun e w' => e = .returned (.int .i64 4) ∧ St o (txL c A P x ++ R) w' := by
  have hq := tPhase h
  have e0 : (x.dg.phase != 2) = true := by simpa using hp
  clear h hp
  generalize x.dg.phase = ph at *
  go_enter Tryz.func198, Tryz.ntmps198
  go_wp2_with fail
  refine hq.mono ?_
  rintro e w1 ⟨rfl, s1⟩
  have H1 := hid s1
  clear hq s1
  go_wp2
  go_ret
  exact ⟨rfl, H1.out⟩
set_option maxRecDepth 100000 in
theorem tAbort_no (h : St o (txL c A P x ++ R) w) (e0 : Int) (hp : x.dg.phase ≠ 2) : Calls Tryz.prog 107 #[.pointer (some ⟨P.T, 0, none⟩), .int .i64 e0] w fun e w' => e = .returned (.int .i64 4) ∧ St o (txL c A P x ++ R) w' := by
  have hq := tPhase h
  have e0 : (x.dg.phase != 2) = true := by simpa using hp
  clear h hp
  generalize x.dg.phase = ph at *
  go_enter Tryz.func107, Tryz.ntmps107
  go_wp2_with fail
  refine hq.mono ?_
  rintro e w1 ⟨rfl, s1⟩
  have H1 := hid s1
  clear hq s1
  go_wp2
  go_ret
  exact ⟨rfl, H1.out⟩
set_option maxRecDepth 100000 in
theorem tAbort_arg (h : St o (txL c A P x ++ R) w) (hp : x.dg.phase = 2) : Calls Tryz.prog 107 #[.pointer (some ⟨P.T, 0, none⟩), .int .i64 0] w fun e w' => e = .returned (.int .i64 1) ∧ St o (txL c A P x ++ R) w' := by
  have hq := tPhase h
  rw [hp] at hq
  clear h hp
  go_enter Tryz.func107, Tryz.ntmps107
  go_wp2_with fail
  refine hq.mono ?_
  rintro e w1 ⟨rfl, s1⟩
  have H1 := hid s1
  clear hq s1
  go_wp2
  go_ret
  exact ⟨rfl, H1.out⟩
theorem phase_two {d : Dg} (h : d.phase = 2) : d = .act := by cases d <;> simp [Dg.phase] at h <;> rfl
theorem phase_zero {d : Dg} (h : d.phase = 0) : d = .rest := by cases d <;> simp [Dg.phase] at h <;> rfl
set_option maxRecDepth 100000 in
theorem tAbort_ok (h : St o (txL c A P x ++ R) w) (hp : x.dg.phase = 2) {e0 : Int} (h0 : e0 ≠ 0) : Calls Tryz.prog 107 #[.pointer (some ⟨P.T, 0, none⟩), .int .i64 e0] w fun e w' => e = .returned (.int .i64 0) ∧ St o (txL c A P (x.abort e0) ++ R) w' := by
  have hq := tPhase h
  have hx : x.abort e0 = { x with dg := .abo 5 e0 0 } := by
    have hE : x.abortE e0 = 0 := by
      unfold Tt.abortE
      rw [if_neg (show ¬ x.dg.phase ≠ 2 by omega), if_neg h0]
    unfold Tt.abort
    rw [if_pos hE]
  rw [hx]
  rw [hp] at hq
  have ha := phase_two hp
  obtain ⟨th, dg, lo, le, lx, sp, fr, rds, wt, df⟩ := x
  simp only at ha
  subst ha
  have b0 : (e0 == 0) = false := by simpa using h0
  clear h hp hx h0
  go_enter Tryz.func107, Tryz.ntmps107
  go_wp2_with fail
  refine hq.mono ?_
  rintro e w1 ⟨rfl, s1⟩
  clear hq
  have s1 : St o (tG c P (tC A P th (.iface 427 (.agg #[])) lo le lx sp (tlV P sp) fr P.rv) df wt rds (tlI A P th sp) (joinI []) ++ R) w1 := s1
  obtain ⟨q1, q2, q3⟩ := tStore (nv := .iface 271 (.agg #[.int .i64 5, .int .i64 e0, .int .i64 0])) s1
  have H3 := hid q3
  clear s1 q3
  go_wp2
  go_ret
  exact ⟨rfl, H3.out⟩
set_option maxRecDepth 100000 in
theorem tCommit_leave (h : St o (txL c A P x ++ R) w) (hp : x.dg.phase = 2) (h0 : x.wr = []) (n : Nat) : Calls Tryz.prog 198 #[.pointer (some ⟨P.T, 0, none⟩)] w fun e w' => e = .returned (.int .i64 0) ∧ St o (txL c A P (x.commit c n) ++ R) w' := by
  have hq := tPhase h
  have hx : x.commit c n = { x with dg := .leav } := by
    unfold Tt.commit
    rw [if_neg (show ¬ x.dg.phase ≠ 2 by omega), if_pos h0]
  rw [hx]
  rw [hp] at hq
  have ha := phase_two hp
  obtain ⟨th, dg, lo, le, lx, sp, fr, rds, wt, df⟩ := x
  simp only at ha h0
  subst ha h0
  clear h hp hx
  go_enter Tryz.func198, Tryz.ntmps198
  go_wp2_with fail
  refine hq.mono ?_
  rintro e w1 ⟨rfl, s1⟩
  clear hq
  have s1 : St o (tG c P (tC A P th (.iface 427 (.agg #[])) lo le lx sp (tlV P sp) fr P.rv) df [] rds (tlI A P th sp) (joinI []) ++ R) w1 := s1
  have c15 : w1.cell? ⟨P.T, 15, none⟩ = some (.pointer (some ⟨P.L, 0, none⟩)) := tCell s1 15
  have hL := lenA_any (show LogA w1 P.L 16 P.lv P.bm (prPs []) from s1.get 2 tAt2)
  rw [show ((prPs []).length : Int) = 0 from rfl] at hL
  obtain ⟨q1, q2, q3⟩ := tStore (nv := .iface 324 (.agg #[])) s1
  have H3 := hid q3
  clear s1 q3
  go_wp2_with (go_at_call 134; refine hL.mono ?_; rintro e wq ⟨rfl, rfl⟩)
  go_ret
  exact ⟨rfl, H3.out⟩
end
end Go.Proofs.YthbcbjkgjgmegaaGreat

namespace Go.Proofs.YthbcbjkgjgmegaaGreat
open Go.RowKit
set_option linter.unusedVariables false
set_option linter.unusedSimpArgs false
attribute [local go_sem ↓] Go.wp_at_zero Go.wp_at_succ
section
variable {o w : World} {its R : List It} {A : Ad} {c : Cfg} {z : SSt} {v u : Value} {P : TA} {x : Tt} {df : Int} {wt rds : List Pr} {th sp : Int} {fr : Frm}
set_option maxRecDepth 100000 in
set_option maxHeartbeats 4000000 in
theorem tCommit_ok (h : St o (txL c A P x ++ spI A c z v u :: R) w) (hp : x.dg.phase = 2) (h0 : x.wr ≠ []) (hl : x.wr.length ≤ 16) (hk : ∀ p, p ∈ x.wr → (Lit.int .i64 p.ce).wf = true) (hf : c.fits = true) (hz : (z.hs.length : Int) = c.sl) (hs0 : 0 ≤ x.fr.sl) (hck : ckE c (x.fr.sl.toNat : Nat) x.th x.sp x.wr = 0) :
    Calls Tryz.prog 198 #[.pointer (some ⟨P.T, 0, none⟩)] w fun e w' => e = .returned (.int .i64 0) ∧ ∃ P', P'.T = P.T ∧ P'.B.J = P'.J ∧ St o (txL c A P' (x.commit c z.hs.length) ++ spI A c z v u :: R) w' := by
  have hq := tPhase h
  have hx : x.commit c z.hs.length = { x with dg := .com (Cm.new x.fr.sl.toNat x.fr.gn x.th x.sp x.wr (ofR (cesOf x.wr) c.bi).1 z.hs.length) } := by
    unfold Tt.commit
    rw [if_neg (show ¬ x.dg.phase ≠ 2 by omega), if_neg h0]
  rw [hx]
  rw [hp] at hq
  have ha := phase_two hp
  obtain ⟨th, dg, lo, le, lx, sp, fr, rds, wt, df⟩ := x
  simp only at *
  subst ha
  clear h hp hx
  have HLK : Hid (wt.length ≤ 16 ∧ ∀ p, p ∈ wt → (Lit.int .i64 p.ce).wf = true) := ⟨hl, hk⟩
  have hln : ((wt.length : Int) == 0) = false := by
    have := List.length_pos_iff.2 h0
    simp; omega
  clear h0 hk
  go_enter Tryz.func198, Tryz.ntmps198
  go_wp2_with fail
  refine hq.mono ?_
  rintro e w1 ⟨rfl, s1⟩
  clear hq
  have s1 : St o (tG c P (tC A P th (.iface 427 (.agg #[])) lo le lx sp (tlV P sp) fr P.rv) df wt rds (tlI A P th sp) (joinI []) ++ spI A c z v u :: R) w1 := s1
  have c15 : w1.cell? ⟨P.T, 15, none⟩ = some (.pointer (some ⟨P.L, 0, none⟩)) := tCell s1 15
  have hL := lenA_any (show LogA w1 P.L 16 P.lv P.bm (prPs wt) from s1.get 2 tAt2)
  rw [prPs_length] at hL
  have q9 : w1.cell? ⟨P.T, 9, none⟩ = some (.int .i64 fr.sl) := tCell s1 9
  have q10 : w1.cell? ⟨P.T, 10, none⟩ = some (.int .i64 fr.gn) := tCell s1 10
  have q1 : w1.cell? ⟨P.T, 1, none⟩ = some (.int .i64 th) := tCell s1 1
  have q7 : w1.cell? ⟨P.T, 7, none⟩ = some (.int .i64 sp) := tCell s1 7
  have kA : Calls Tryz.prog 96 #[.pointer (some ⟨P.T, 0, none⟩)] w1.drew fun e w' => ∃ g, e = .returned (.slice (some ⟨g, 0, none⟩) wt.length wt.length) ∧ (w'.cell? ⟨P.T, 9, none⟩ = some (.int .i64 fr.sl) ∧ w'.cell? ⟨P.T, 10, none⟩ = some (.int .i64 fr.gn) ∧ w'.cell? ⟨P.T, 1, none⟩ = some (.int .i64 th) ∧ w'.cell? ⟨P.T, 7, none⟩ = some (.int .i64 sp)) ∧ Hid (St o (ownI 220 2 (.slice (some ⟨g, 0, none⟩) wt.length wt.length) wt.length (prCells wt) :: (tG c P (tC A P th (.iface 427 (.agg #[])) lo le lx sp (tlV P sp) fr P.rv) df wt rds (tlI A P th sp) (joinI []) ++ spI A c z v u :: R)) w') := by
    refine (tWrites s1.drew rfl HLK.out.1 HLK.out.2).mono ?_
    rintro e w' ⟨g, he, q⟩
    exact ⟨g, he, ⟨q.cell 1 rfl 9, q.cell 1 rfl 10, q.cell 1 rfl 1, q.cell 1 rfl 7⟩, q⟩
  have kB : Calls Tryz.prog 96 #[.pointer (some ⟨P.T, 0, none⟩)] (w1.alloc (.cells #[.int .i64 0, .int .i64 0, .int .i64 0, .int .i64 0, .slice none 0 0] 326)).drew fun e w' => ∃ g, e = .returned (.slice (some ⟨g, 0, none⟩) wt.length wt.length) ∧ (w'.cell? ⟨P.T, 9, none⟩ = some (.int .i64 fr.sl) ∧ w'.cell? ⟨P.T, 10, none⟩ = some (.int .i64 fr.gn) ∧ w'.cell? ⟨P.T, 1, none⟩ = some (.int .i64 th) ∧ w'.cell? ⟨P.T, 7, none⟩ = some (.int .i64 sp)) ∧ Hid (St o (boxI w1.heap.size #[.int .i64 0, .int .i64 0, .int .i64 0, .int .i64 0, .slice none 0 0] 326 :: ownI 220 2 (.slice (some ⟨g, 0, none⟩) wt.length wt.length) wt.length (prCells wt) :: (tG c P (tC A P th (.iface 427 (.agg #[])) lo le lx sp (tlV P sp) fr P.rv) df wt rds (tlI A P th sp) (joinI []) ++ spI A c z v u :: R)) w') := by
    have sb := s1.box #[.int .i64 0, .int .i64 0, .int .i64 0, .int .i64 0, .slice none 0 0] 326
    have p := List.perm_append_comm (l₁ := [boxI w1.heap.size #[.int .i64 0, .int .i64 0, .int .i64 0, .int .i64 0, .slice none 0 0] 326]) (l₂ := tG c P (tC A P th (.iface 427 (.agg #[])) lo le lx sp (tlV P sp) fr P.rv) df wt rds (tlI A P th sp) (joinI []) ++ spI A c z v u :: R)
    have p2 : (boxI w1.heap.size #[.int .i64 0, .int .i64 0, .int .i64 0, .int .i64 0, .slice none 0 0] 326 :: (tG c P (tC A P th (.iface 427 (.agg #[])) lo le lx sp (tlV P sp) fr P.rv) df wt rds (tlI A P th sp) (joinI []) ++ spI A c z v u :: R)).Perm (tG c P (tC A P th (.iface 427 (.agg #[])) lo le lx sp (tlV P sp) fr P.rv) df wt rds (tlI A P th sp) (joinI []) ++ (spI A c z v u :: (R ++ [boxI w1.heap.size #[.int .i64 0, .int .i64 0, .int .i64 0, .int .i64 0, .slice none 0 0] 326]))) := by simpa using p
    refine (tWrites (sb.perm p2).drew rfl HLK.out.1 HLK.out.2).mono ?_
    rintro e w' ⟨g, he, q⟩
    have q2 : St o (boxI w1.heap.size #[.int .i64 0, .int .i64 0, .int .i64 0, .int .i64 0, .slice none 0 0] 326 :: ownI 220 2 (.slice (some ⟨g, 0, none⟩) wt.length wt.length) wt.length (prCells wt) :: (tG c P (tC A P th (.iface 427 (.agg #[])) lo le lx sp (tlV P sp) fr P.rv) df wt rds (tlI A P th sp) (joinI []) ++ spI A c z v u :: R)) w' := (q.perm (p2.symm.cons _)).swap
    exact ⟨g, he, ⟨q2.cell 2 rfl 9, q2.cell 2 rfl 10, q2.cell 2 rfl 1, q2.cell 2 rfl 7⟩, q2⟩
  have lk : P.T < w1.heap.size := World.block_lt_of_cell? w1 _ q9
  have n1 : ¬ P.T = w1.heap.size := by omega
  have n2 : ¬ w1.heap.size = P.T := by omega
  clear s1
  go_upto_region 6 with (go_at_call 134; refine hL.mono ?_; rintro e wq ⟨rfl, rfl⟩)
  clear hL c15 lk
  go_cut [3] from 20 (fun b wx => ∃ X g, b = .pointer (some ⟨X, 0, none⟩) ∧ Hid (St o (boxI X #[.int .i64 fr.sl, .int .i64 fr.gn, .int .i64 th, .int .i64 sp, .slice (some ⟨g, 0, none⟩) wt.length wt.length] 326 :: ownI 220 2 (.slice (some ⟨g, 0, none⟩) wt.length wt.length) wt.length (prCells wt) :: (tG c P (tC A P th (.iface 427 (.agg #[])) lo le lx sp (tlV P sp) fr P.rv) df wt rds (tlI A P th sp) (joinI []) ++ spI A c z v u :: R)) wx))
  case first =>
    go_region_held3 (fun W => W.cell? ⟨P.T, 9, none⟩ = some (.int .i64 fr.sl) ∧ W.cell? ⟨P.T, 10, none⟩ = some (.int .i64 fr.gn) ∧ W.cell? ⟨P.T, 1, none⟩ = some (.int .i64 th) ∧ W.cell? ⟨P.T, 7, none⟩ = some (.int .i64 sp)) (first | go_keep | exact rS | (obtain ⟨z6, z0, z2, z3⟩ := rS; exact ⟨by go_simp, by go_simp, by go_simp, by go_simp⟩))
      (first | (go_at_call 96; first
        | (with_reducible refine kA.mono ?_; rintro e w2 ⟨g, rfl, rS, HA⟩)
        | (with_reducible refine kB.mono ?_; rintro e w2 ⟨g, rfl, rS, HB⟩; have b0 : w2.cell? ⟨wq.heap.size, 0, none⟩ = some (.int .i64 0) := HB.out.cell 0 rfl 0; have b1 : w2.cell? ⟨wq.heap.size, 1, none⟩ = some (.int .i64 0) := HB.out.cell 0 rfl 1; have b2 : w2.cell? ⟨wq.heap.size, 2, none⟩ = some (.int .i64 0) := HB.out.cell 0 rfl 2; have b3 : w2.cell? ⟨wq.heap.size, 3, none⟩ = some (.int .i64 0) := HB.out.cell 0 rfl 3; have b4 : w2.cell? ⟨wq.heap.size, 4, none⟩ = some (.slice none 0 0) := HB.out.cell 0 rfl 4; have f0 : w2.frozen? ⟨wq.heap.size, 0, none⟩ = false := HB.out.frozen 0 rfl 0; have f1 : w2.frozen? ⟨wq.heap.size, 1, none⟩ = false := HB.out.frozen 0 rfl 1; have f2 : w2.frozen? ⟨wq.heap.size, 2, none⟩ = false := HB.out.frozen 0 rfl 2; have f3 : w2.frozen? ⟨wq.heap.size, 3, none⟩ = false := HB.out.frozen 0 rfl 3; have f4 : w2.frozen? ⟨wq.heap.size, 4, none⟩ = false := HB.out.frozen 0 rfl 4)))
    all_goals
      go_wp2_with fail
      go_meet
      first
        | exact ⟨_, g, rfl, HA.out.box _ _⟩
        | exact ⟨_, g, rfl, ((((HB.out.write 0 rfl 0 _).write 0 rfl 1 _).write 0 rfl 2 _).write 0 rfl 3 _).write 0 rfl 4 _⟩
  case rest =>
    obtain ⟨X, g, rfl, HX⟩ := hcut
    clear kA kB q9 q10 q1 q7 n1 n2
    have s3 := HX.out
    have b0 : wc.cell? ⟨X, 0, none⟩ = some (.int .i64 fr.sl) := s3.cell 0 rfl 0
    have b1 : wc.cell? ⟨X, 1, none⟩ = some (.int .i64 fr.gn) := s3.cell 0 rfl 1
    have b2 : wc.cell? ⟨X, 2, none⟩ = some (.int .i64 th) := s3.cell 0 rfl 2
    have b3 : wc.cell? ⟨X, 3, none⟩ = some (.int .i64 sp) := s3.cell 0 rfl 3
    have b4 : wc.cell? ⟨X, 4, none⟩ = some (.slice (some ⟨g, 0, none⟩) wt.length wt.length) := s3.cell 0 rfl 4
    have a0 : wc.cell? ⟨P.T, 0, none⟩ = some (spp A) := s3.cell 2 rfl 0
    have a2 : wc.cell? ⟨P.T, 2, none⟩ = some (.pointer (some ⟨P.J, 0, none⟩)) := s3.cell 2 rfl 2
    have hPI : ∀ W, St o (boxI X #[.int .i64 fr.sl, .int .i64 fr.gn, .int .i64 th, .int .i64 sp, .slice (some ⟨g, 0, none⟩) wt.length wt.length] 326 :: ownI 220 2 (.slice (some ⟨g, 0, none⟩) wt.length wt.length) wt.length (prCells wt) :: (tG c P (tC A P th (.iface 427 (.agg #[])) lo le lx sp (tlV P sp) fr P.rv) df wt rds (tlI A P th sp) (joinI []) ++ spI A c z v u :: R)) W → PIn W (some ⟨g, 0, none⟩) wt.length wt := by
      intro W hW
      obtain ⟨la', lc', e', hP, _⟩ := own_pin (ys := wt) (show W.ownsRow 0 220 2 (.slice (some ⟨g, 0, none⟩) wt.length wt.length) wt.length (prCells wt) from hW.get 1 rfl)
      simp only [Value.slice.injEq] at e'
      obtain ⟨rfl, -, -⟩ := e'
      exact hP
    have hN : Calls Tryz.prog 223 #[spp A, .pointer (some ⟨P.J, 0, none⟩), .agg #[.int .i64 fr.sl, .int .i64 fr.gn, .int .i64 th, .int .i64 sp, .slice (some ⟨g, 0, none⟩) wt.length wt.length]] wc.drew fun e w' => ∃ B vl dl dv, e = .returned (.tuple #[.pointer (some ⟨B.X, 0, none⟩), .int .i64 0]) ∧ (w'.cell? ⟨P.T, 0, none⟩ = some (spp A) ∧ w'.cell? ⟨P.T, 2, none⟩ = some (.pointer (some ⟨P.J, 0, none⟩)) ∧ w'.cell? ⟨X, 0, none⟩ = some (.int .i64 fr.sl) ∧ w'.cell? ⟨X, 1, none⟩ = some (.int .i64 fr.gn) ∧ w'.cell? ⟨X, 2, none⟩ = some (.int .i64 th) ∧ w'.cell? ⟨X, 3, none⟩ = some (.int .i64 sp) ∧ w'.cell? ⟨X, 4, none⟩ = some (.slice (some ⟨g, 0, none⟩) wt.length wt.length)) ∧ B.J = P.J ∧ Hid (St o (cmI A B 0 (Cm.new fr.sl.toNat fr.gn th sp wt (ofR (cesOf wt) c.bi).1 z.hs.length) vl (.slice none 0 0) (.slice none 0 0) dl dv :: (tG c P (tC A P th (.iface 427 (.agg #[])) lo le lx sp (tlV P sp) fr P.rv) df wt rds (tlI A P th sp) (joinI []) ++ spI A c z v u :: R)) w') := by
      have hsn : fr.sl = ((fr.sl.toNat : Nat) : Int) := by omega
      have q := cmNew_st s3.drew 8 rfl hf hz P.J fr.sl.toNat fr.gn th sp (some ⟨g, 0, none⟩) wt.length wt.length wt hPI (by omega) hck
      rw [← hsn] at q
      refine q.mono ?_
      rintro e w' ⟨B, vl, dl, dv, he, hBJ, r⟩
      have r2 := St.popAt (pre := [_]) r
      have r3 := St.popAt (pre := [_]) r2
      exact ⟨B, vl, dl, dv, he, ⟨r.cell 3 rfl 0, r.cell 3 rfl 2, r.cell 1 rfl 0, r.cell 1 rfl 1, r.cell 1 rfl 2, r.cell 1 rfl 3, r.cell 1 rfl 4⟩, hBJ, r3⟩
    clear s3 HX hPI hck hz hf hl
    unfold spp at a0 hN
    go_upto_region 7 with fail
    go_region_held3 (fun W => W.cell? ⟨P.T, 0, none⟩ = some (.pointer (some ⟨A.sp, 0, none⟩)) ∧ W.cell? ⟨P.T, 2, none⟩ = some (.pointer (some ⟨P.J, 0, none⟩)) ∧ W.cell? ⟨X, 0, none⟩ = some (.int .i64 fr.sl) ∧ W.cell? ⟨X, 1, none⟩ = some (.int .i64 fr.gn) ∧ W.cell? ⟨X, 2, none⟩ = some (.int .i64 th) ∧ W.cell? ⟨X, 3, none⟩ = some (.int .i64 sp) ∧ W.cell? ⟨X, 4, none⟩ = some (.slice (some ⟨g, 0, none⟩) wt.length wt.length)) (first | go_keep | exact rS)
      (first | (go_at_call 223; refine hN.mono ?_; rintro e w4 ⟨B, vl, dl, dv, rfl, rS, hBJ, HS4⟩))
    clear hN a0 a2 b0 b1 b2 b3 b4 rS
    have s5 := tLay HS4.out
    obtain ⟨e1, e2, e3⟩ := tStore (nv := .iface 331 (.agg #[.pointer (some ⟨B.X, 0, none⟩)])) s5
    have H3 := hid e3
    have HBJ := hid hBJ
    clear s5 HS4 e3 hBJ
    go_wp2
    go_ret
    exact ⟨rfl, { P with B := B, D := 0, vl := vl, vd := .slice none 0 0, vv := .slice none 0 0, dl := dl, dv := dv }, rfl, HBJ.out, H3.out⟩
end
end Go.Proofs.YthbcbjkgjgmegaaGreat
