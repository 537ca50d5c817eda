/- The document's first example. -/
import Derived.Test.YtgjmamgohidbiaaGreatCmU
namespace Go.Proofs.YtgjmamgohidbiaaGreat
open Go.RowKit
set_option linter.unusedVariables false
set_option linter.unusedSimpArgs false
attribute [local go_sem ↓] Go.wp_at_zero Go.wp_at_succ

def upC : Cfg := ⟨1, 1, 8, 1, 0, 0⟩
theorem upLive : LiveOk upC := ⟨rfl, rfl, rfl, rfl⟩
def upP : List Pr := [⟨0, 7⟩]
def upX : Cm := Cm.new 0 1 1 5 upP (ofR (cesOf upP) upC.bi).1 (liveZ upC).hs.length
def upS : Nat → SSt × Cm × Int
  | 0 => (liveZ upC, upX, 0)
  | j + 1 => ((upS j).1.commits (upS j).2.1, (upS j).2.1.next upC (upS j).1 (upS j).2.2, (upS j).2.1.nextDf upC (upS j).1 (upS j).2.2)
theorem up_ck : ckE upC (0 : Nat) 1 5 upP = 0 := by decide +kernel
theorem up_sg : (ofR (cesOf upP) upC.bi).1.ok := ⟨by decide +kernel, by decide +kernel⟩
theorem up_len {z : SSt} {n : Nat} (h : z.ok upC n) : z.hs.length = 1 := by
  have := h.hl
  simp only [upC] at this
  omega
theorem up_ok (j : Nat) : (upS j).1.ok upC (2 + j) := by
  induction j with
  | zero => exact upLive.ok
  | succ j ih => exact ih.commits _
theorem up_ws (j : Nat) : WsOk (upS j).1.ws := by
  induction j with
  | zero => exact WsOk.rep 2
  | succ j ih =>
    rw [show (upS (j + 1)).1.ws = (upS j).1.ws from SSt.commits_ws _ _]
    exact ih
theorem up_fit (j : Nat) : (upS j).2.1.fit 1 := by
  induction j with
  | zero => exact Cm.fit_new up_ck up_sg (by decide) rfl
  | succ j ih => exact ih.next upC (up_ws j) _
theorem up_df (j : Nat) : 0 ≤ (upS j).2.2 := by
  induction j with
  | zero => exact Int.le_refl _
  | succ j ih => exact Cm.nextDf_nn _ _ _ ih
theorem up_facts (j : Nat) (h : j < 5) : (upS j).2.1.done = false ∧ (upS j).2.1.ans (upS j).1 = 1 := by
  have : j = 0 ∨ j = 1 ∨ j = 2 ∨ j = 3 ∨ j = 4 := by omega
  rcases this with rfl | rfl | rfl | rfl | rfl
  all_goals exact ⟨by decide +kernel, by decide +kernel⟩
theorem up_end : (upS 5).2.1.done = true ∧ (upS 5).2.1.end_ = 0 ∧ (upS 5).2.1.won = true ∧ (upS 5).2.1.num = 1 ∧ (upS 5).2.1.ans (upS 5).1 = 3 ∧ (upS 5).1.x.n = 2 ∧ (upS 5).1.x.o = 0 ∧ (upS 5).1.xs = [7] :=
  ⟨by decide +kernel, by decide +kernel, by decide +kernel, by decide +kernel, by decide +kernel, by decide +kernel, by decide +kernel, by decide +kernel⟩
theorem up_first : (upS 0).2.1.end_ = 4 := by decide +kernel
theorem buildPr (W : World) (a b : Int) : (Instr.buildSlice 45 1 #[(0, .agg #[.int .i64 a, .int .i64 b])]).run Tryz.prog W = .ok (.slice (some ⟨W.heap.size, 0, none⟩) 1 1) (W.alloc (.cells #[.int .i64 a, .int .i64 b] 59)) := by kernel_rfl
theorem own_new2 {e : TypeId} (w : World) (a b : Value) : (w.alloc (.cells #[a, b] e)).ownsRow w.heap.size e 2 (.slice (some ⟨w.heap.size, 0, none⟩) 1 1) 1 [a, b] :=
  ⟨by simp, .inr ⟨w.heap.size, 1, #[a, b], rfl, Nat.le_refl _, heap_alloc_new w _, Nat.le_refl _, by unfold maxLen; omega, by simp, by simp⟩⟩
theorem St.row2 {o w : World} {its : List It} (h : St o its w) (a b : Value) (e : TypeId) : St o (ownI e 2 (.slice (some ⟨w.heap.size, 0, none⟩) 1 1) 1 [a, b] :: its) (w.alloc (.cells #[a, b] e)) := h.own (kept_alloc w _) (own_new2 w a b)

set_option maxRecDepth 100000 in
set_option maxHeartbeats 4000000 in
theorem up_any (w : World) : Calls Tryz.prog 9 #[] w fun e w' => e = .returned (.bool true) ∧ Kept (fun _ => False) w w' := by
  obtain ⟨i0, hi0, hz0, hz1, hz2⟩ := info_parts Tryz.infoPr
  have hq := lives_st (St.nil w) upLive
  rw [show upC.val = .agg #[.int .i64 1, .int .i64 1, .int .i64 8, .int .i64 1, .int .i64 0, .int .i64 0] from rfl] at hq
  have hb := fun W => buildPr W 0 7
  have hb0 := fun W => buildPr W 0 0
  go_enter Tryz.func9, Tryz.ntmps9
  go_wp2_with fail
  refine hq.mono ?_
  rintro e w1 ⟨A, J, v1, rfl, s1⟩
  clear hq
  unfold spp
  have s2 := s1.row2 (.int .i64 0) (.int .i64 7) 59
  clear s1
  have s3 := s2.box #[.int .i64 0, .int .i64 1, .int .i64 1, .int .i64 5, .slice (some ⟨w1.heap.size, 0, none⟩) 1 1] 47
  clear s2
  have hsz : (w1.alloc (.cells #[.int .i64 0, .int .i64 7] 59)).heap.size = w1.heap.size + 1 := Array.size_push _
  rw [hsz] at s3
  clear hsz
  go_upto_region 5 with fail
  generalize (w1.alloc (.cells #[.int .i64 0, .int .i64 7] 59)).alloc (.cells #[.int .i64 0, .int .i64 1, .int .i64 1, .int .i64 5, .slice (some ⟨w1.heap.size, 0, none⟩) 1 1] 47) = w2 at *
  generalize w1.heap.size + 1 = MO at *
  generalize w1.heap.size = MP at *
  have b0 : w2.cell? ⟨MO, 0, none⟩ = some (.int .i64 0) := s3.cell 0 rfl 0
  have b1 : w2.cell? ⟨MO, 1, none⟩ = some (.int .i64 1) := s3.cell 0 rfl 1
  have b2 : w2.cell? ⟨MO, 2, none⟩ = some (.int .i64 1) := s3.cell 0 rfl 2
  have b3 : w2.cell? ⟨MO, 3, none⟩ = some (.int .i64 5) := s3.cell 0 rfl 3
  have b4 : w2.cell? ⟨MO, 4, none⟩ = some (.slice (some ⟨MP, 0, none⟩) 1 1) := s3.cell 0 rfl 4
  have hPI : ∀ W, St w [boxI MO #[.int .i64 0, .int .i64 1, .int .i64 1, .int .i64 5, .slice (some ⟨MP, 0, none⟩) 1 1] 47, ownI 59 2 (.slice (some ⟨MP, 0, none⟩) 1 1) 1 [.int .i64 0, .int .i64 7], boxI J (jd upC 0) 146, spI A upC (liveZ upC) v1 (.slice none 0 0)] W → PIn W (some ⟨MP, 0, none⟩) 1 upP := by
    intro W hW
    obtain ⟨la', lc', e', hP, _⟩ := own_pin (ys := upP) (show W.ownsRow 0 59 2 (.slice (some ⟨MP, 0, none⟩) 1 1) 1 (prCells upP) from hW.get 1 rfl)
    simp only [Value.slice.injEq] at e'
    obtain ⟨rfl, -, -⟩ := e'
    exact hP
  have hq := cmNew_st s3 3 rfl upLive.f (by rw [up_len upLive.ok]; rfl) J 0 1 1 5 (some ⟨MP, 0, none⟩) 1 1 upP hPI (by omega) up_ck
  unfold spp at hq
  clear s3 hPI
  go_wp2_with fail
  refine hq.mono ?_
  rintro e w3 ⟨B, vl, dl, dv, rfl, hBJ, s4⟩
  subst hBJ
  clear hq b0 b1 b2 b3 b4
  have s5 : St w [cmI A B 0 (upS 0).2.1 vl (.slice none 0 0) (.slice none 0 0) dl dv, boxI MO #[.int .i64 0, .int .i64 1, .int .i64 1, .int .i64 5, .slice (some ⟨MP, 0, none⟩) 1 1] 47, ownI 59 2 (.slice (some ⟨MP, 0, none⟩) 1 1) 1 [.int .i64 0, .int .i64 7], boxI B.J (jd upC 0) 146, spI A upC (upS 0).1 v1 (.slice none 0 0)] w3 := s4
  clear s4
  have ho : w3.ownsRow 0 59 2 (.slice (some ⟨MP, 0, none⟩) 1 1) 1 [.int .i64 0, .int .i64 7] := s5.get 2 rfl
  have b4 : w3.cell? ⟨MO, 4, none⟩ = some (.slice (some ⟨MP, 0, none⟩) 1 1) := s5.cell 1 rfl 4
  have HS5 : Hid _ := s5
  clear s5
  go_upto_region 7 with (at_builtin; refine wpList_append_lies _ rfl (.tmp 30) (.tmp 32) 45 rfl 0 59 i0 _ 2 16 Tryz.underlying45 hi0 hz0 hz1 hz2 rfl (by omega) _ 1 [.int .i64 0, .int .i64 7] rfl (ho.alloc _) ⟨w3.heap.size, 0, none⟩ 1 1 [.int .i64 0, .int .i64 0] rfl (by simp) (World.news_of_block (cs := #[.int .i64 0, .int .i64 0]) (t := 59) (fr := (0, 0)) (heap_alloc_new w3 _)) (by simp [Value.oneCell']) (by omega) (by unfold maxLen; omega) (by omega) (Nat.zero_le _) (w3.heap.size + 1) (by simp) ?_; intro g cap w4 hown4 hgrow hat hlt4; have s6 := HS5.out.growAt 2 rfl hown4 hgrow hat; have e4 : w4.cell? ⟨MO, 4, none⟩ = some (.slice (some ⟨MP, 0, none⟩) 1 1) := s6.cell 1 rfl 4; have f4 : w4.frozen? ⟨MO, 4, none⟩ = false := s6.frozen 1 rfl 4; have H7 : Hid _ := s6.write 1 rfl 4 (.slice (some ⟨g, 0, none⟩) 2 cap); clear s6 hown4 hgrow hat hlt4 HS5 ho b4)
  have s8 : St w [cmI A B 0 (upS 0).2.1 vl (.slice none 0 0) (.slice none 0 0) dl dv, boxI MO #[.int .i64 0, .int .i64 1, .int .i64 1, .int .i64 5, .slice (some ⟨g, 0, none⟩) 2 cap] 47, ownI 59 2 (.slice (some ⟨g, 0, none⟩) 2 cap) 2 [.int .i64 0, .int .i64 7, .int .i64 0, .int .i64 0], boxI B.J (jd upC 0) 146, spI A upC (upS 0).1 v1 (.slice none 0 0)] (w4.setCell ⟨MO, 4, none⟩ (.slice (some ⟨g, 0, none⟩) 2 cap)) := H7.out
  clear H7 e4 f4
  generalize w4.setCell ⟨MO, 4, none⟩ (.slice (some ⟨g, 0, none⟩) 2 cap) = w5 at *
  have b0 : w5.cell? ⟨MO, 0, none⟩ = some (.int .i64 0) := s8.cell 1 rfl 0
  have b1 : w5.cell? ⟨MO, 1, none⟩ = some (.int .i64 1) := s8.cell 1 rfl 1
  have b2 : w5.cell? ⟨MO, 2, none⟩ = some (.int .i64 1) := s8.cell 1 rfl 2
  have b3 : w5.cell? ⟨MO, 3, none⟩ = some (.int .i64 5) := s8.cell 1 rfl 3
  have b4 : w5.cell? ⟨MO, 4, none⟩ = some (.slice (some ⟨g, 0, none⟩) 2 cap) := s8.cell 1 rfl 4
  have hPI : ∀ W, St w [cmI A B 0 (upS 0).2.1 vl (.slice none 0 0) (.slice none 0 0) dl dv, boxI MO #[.int .i64 0, .int .i64 1, .int .i64 1, .int .i64 5, .slice (some ⟨g, 0, none⟩) 2 cap] 47, ownI 59 2 (.slice (some ⟨g, 0, none⟩) 2 cap) 2 [.int .i64 0, .int .i64 7, .int .i64 0, .int .i64 0], boxI B.J (jd upC 0) 146, spI A upC (upS 0).1 v1 (.slice none 0 0)] W → PIn W (some ⟨g, 0, none⟩) 2 [⟨0, 7⟩, ⟨0, 0⟩] := by
    intro W hW
    obtain ⟨la', lc', e', hP, _⟩ := own_pin (ys := [⟨0, 7⟩, ⟨0, 0⟩]) (show W.ownsRow 0 59 2 (.slice (some ⟨g, 0, none⟩) 2 cap) 2 (prCells [⟨0, 7⟩, ⟨0, 0⟩]) from hW.get 2 rfl)
    simp only [Value.slice.injEq] at e'
    obtain ⟨rfl, -, -⟩ := e'
    exact hP
  have hk : ckE upC 0 1 5 [⟨0, 7⟩, ⟨0, 0⟩] = 1 := by decide +kernel
  have hq := cmNew_out s8 4 rfl upLive.f B.J 0 1 1 5 (some ⟨g, 0, none⟩) 2 cap [⟨0, 7⟩, ⟨0, 0⟩] hPI (by omega) (by rw [hk]; decide)
  rw [hk] at hq
  unfold spp at hq
  clear s8 hPI hk
  go_wp2_with fail
  refine hq.mono ?_
  rintro e w6 ⟨rfl, s9⟩
  clear hq b0 b1 b2 b3 b4
  have s10 := St.popAt (pre := [_]) s9
  have s11 : St w [cmI A B 0 (upS 0).2.1 vl (.slice none 0 0) (.slice none 0 0) dl dv, boxI B.J (jd upC 0) 146, spI A upC (upS 0).1 v1 (.slice none 0 0)] w6 := St.popAt (pre := [_]) s10
  clear s9 s10
  have hq := cmEnd s11 0 rfl
  rw [up_first] at hq
  have HS : Hid (∃ D v vl vd vv dl dv, St w [cmI A B D (upS 0).2.1 vl vd vv dl dv, boxI B.J (jd upC (upS 0).2.2) 146, spI A upC (upS 0).1 v (.slice none 0 0)] w6) := ⟨_, _, _, _, _, _, _, s11⟩
  clear s11
  go_wp2_with (go_at_call 33; refine hq.mono ?_; rintro e wq ⟨rfl, rfl⟩)
  clear hq
  obtain ⟨w7, hw7⟩ : ∃ y, y = wq := ⟨_, rfl⟩
  subst hw7
  have HUF : Hid (∀ j, j < 5 → (upS j).2.1.done = false ∧ (upS j).2.1.ans (upS j).1 = 1) := up_facts
  go_loopw [9, 61, 62, 63, 64, 65, 66, 67, 68, 69, 70, 71] (fun i _ _ _ _ _ _ _ _ _ _ _ wr => ∃ j : Nat, i = .int .i64 j ∧ j ≤ 5 ∧ Hid (∃ D v vl vd vv dl dv, St w [cmI A B D (upS j).2.1 vl vd vv dl dv, boxI B.J (jd upC (upS j).2.2) 146, spI A upC (upS j).1 v (.slice none 0 0)] wr)) (fun i _ _ _ _ _ _ _ _ _ _ _ _ => 5 - (intOf i).toNat)
  case atStart => exact ⟨0, rfl, by omega, HS⟩
  case round =>
    clear HS
    obtain ⟨j, rfl, hj, HR⟩ := hrel
    by_cases hlt : j < 5
    · have h1 : (j : Int) < 5 := by omega
      obtain ⟨D, v, vl, vd, vv, dl, dv, sj⟩ := HR.out
      obtain ⟨u1, u2⟩ := HUF.out j hlt
      have hd := cmDone sj 0 rfl
      rw [u1] at hd
      have hq := cmStep sj 2 1 0 (by decide) (by decide) (by decide) rfl rfl rfl upLive.f (up_df j) (by rw [up_len (up_ok j)]; exact up_fit j) (up_ok j) (by omega) (up_ws j)
      rw [u2] at hq
      clear HR sj u1 u2
      go_wp2_with (go_at_call 32; refine hd.mono ?_; rintro e wq ⟨rfl, rfl⟩)
      refine hq.mono ?_
      rintro e w8 ⟨rfl, D', v', vl', vd', vv', dl', dv', s8⟩
      have H8 : Hid (∃ D v vl vd vv dl dv, St w [cmI A B D (upS (j + 1)).2.1 vl vd vv dl dv, boxI B.J (jd upC (upS (j + 1)).2.2) 146, spI A upC (upS (j + 1)).1 v (.slice none 0 0)] w8) := ⟨_, _, _, _, _, _, _, s8⟩
      clear hq hd s8
      go_wp2_with fail
      go_roundw
      case rel => exact ⟨j + 1, by go_num, by omega, H8⟩
      case measure => simp [intOf]; omega
    · obtain rfl : j = 5 := by omega
      obtain ⟨D, v, vl, vd, vv, dl, dv, sj⟩ := HR.out
      clear HR HUF
      obtain ⟨a1, a2, a3, a4, a5, a6, a7, a8⟩ := up_end
      have hq := spView sj 2 rfl (up_ok 5).wl (up_ok 5).h1 (up_ok 5).h8
      rw [a6, a7, a8] at hq
      unfold spp at hq
      clear sj
      go_wp2_with fail
      refine hq.mono ?_
      rintro e w9 ⟨va, vb, rfl, s9⟩
      clear hq
      have o9 : w9.ownsRow 0 2 1 va 1 [.int .i64 7] := s9.get 0 rfl
      obtain ⟨q, ca, rfl, _, _⟩ := o9.form (by simp)
      obtain ⟨pb, cb, rfl⟩ := own_form (n := (upS 5).1.hs.length) (s9.get 1 rfl)
      clear o9
      have s10 := s9.box #[.slice (some ⟨q, 0, none⟩) 1 ca, .int .i64 2, .int .i64 0, .slice pb (upS 5).1.hs.length cb] 95
      clear s9
      generalize hHL : (upS 5).1.hs.length = HL at *
      go_upto_region 16 with fail
      generalize w9.alloc (.cells #[.slice (some ⟨q, 0, none⟩) 1 ca, .int .i64 2, .int .i64 0, .slice pb HL cb] 95) = w10 at *
      generalize w9.heap.size = V at *
      have e0 : w10.cell? ⟨V, 0, none⟩ = some (.slice (some ⟨q, 0, none⟩) 1 ca) := s10.cell 0 rfl 0
      have e1 : w10.cell? ⟨V, 1, none⟩ = some (.int .i64 2) := s10.cell 0 rfl 1
      have e2 : w10.cell? ⟨V, 2, none⟩ = some (.int .i64 0) := s10.cell 0 rfl 2
      have g0 : w10.cell? ⟨q, 0, none⟩ = some (.int .i64 7) := s10.ownCell 1 rfl 0 (by decide)
      have hd := cmDone s10 3 rfl
      have hE := cmEnd s10 3 rfl
      have hW := cmWon s10 3 rfl
      have hN := cmNumber s10 3 rfl
      rw [a1] at hd
      rw [a2] at hE
      rw [a3] at hW
      rw [a4] at hN
      have hst := cmStep s10 5 4 3 (by decide) (by decide) (by decide) rfl rfl rfl upLive.f (up_df 5) (by rw [up_len (up_ok 5)]; exact up_fit 5) (up_ok 5) (by omega) (up_ws 5)
      rw [a5] at hst
      have heq := fun W => eqGt 2 0 W
      clear s10 a1 a2 a3 a4 a5 a6 a7 a8 hHL
      go_wp2_with (first | (go_at_call 32; refine hd.mono ?_; rintro e wq ⟨rfl, rfl⟩) | (go_at_call 33; refine hE.mono ?_; rintro e wq ⟨rfl, rfl⟩) | (go_at_call 34; refine hW.mono ?_; rintro e wq ⟨rfl, rfl⟩) | (go_at_call 38; refine hN.mono ?_; rintro e wq ⟨rfl, rfl⟩) | simp only [heq])
      refine hst.mono ?_
      rintro e w11 ⟨rfl, D', v', vl', vd', vv', dl', dv', s11⟩
      clear hst hd hE hW hN e0 e1 e2 g0
      have hc := spConfig s11 5 rfl
      unfold spp Cfg.val upC at hc
      simp only at hc
      clear s11
      go_wp2_with fail
      refine hc.mono ?_
      rintro e w12 ⟨rfl, s12⟩
      have HK : Hid _ := s12.same
      clear hc s12
      have hm := most_any upC 1 w12
      rw [show mostV upC 1 = 4 by decide +kernel, show upC.val = .agg #[.int .i64 1, .int .i64 1, .int .i64 8, .int .i64 1, .int .i64 0, .int .i64 0] from rfl] at hm
      go_wp2_with fail
      refine hm.mono ?_
      rintro e w13 ⟨rfl, k13⟩
      have HK2 : Hid _ := HK.out.trans k13 (fun _ _ f => f)
      clear hm k13 HK
      go_wp2
      go_ret
      exact ⟨rfl, HK2.out⟩
end Go.Proofs.YtgjmamgohidbiaaGreat
