/- The law ReadPlays, step by step. -/
import Derived.Test.YtajfjkhbimehbaaGreatPlaysRel11
import Derived.Test.YtajfjkhbimehbaaGreatRSpD
import Derived.Test.YtajfjkhbimehbaaGreatOps
import Derived.Test.YtajfjkhbimehbaaGreatMask
import Derived.Test.YtajfjkhbimehbaaGreatUp
import Derived.Deep.RegionHeld3
namespace Go.Proofs.YtajfjkhbimehbaaGreat
open Go.RowKit
set_option linter.unusedVariables false
set_option linter.unusedSimpArgs false
attribute [local go_sem ↓] Go.wp_at_zero Go.wp_at_succ

theorem cfg_facts {o w : World} {its : List It} {C : Nat} {c : Cfg} (h : St o its w) (i : Nat) (hi : its[i]? = some (boxI C #[.int .i64 c.ce, .int .i64 c.sl, .int .i64 c.bi, .int .i64 c.ta, .int .i64 c.ba, .int .i64 c.de] 23)) : w.cell? ⟨C, 0, none⟩ = some (.int .i64 c.ce) ∧ w.cell? ⟨C, 1, none⟩ = some (.int .i64 c.sl) ∧ w.cell? ⟨C, 2, none⟩ = some (.int .i64 c.bi) ∧ w.cell? ⟨C, 3, none⟩ = some (.int .i64 c.ta) ∧ w.cell? ⟨C, 4, none⟩ = some (.int .i64 c.ba) ∧ w.cell? ⟨C, 5, none⟩ = some (.int .i64 c.de) :=
  ⟨h.cell i hi 0, h.cell i hi 1, h.cell i hi 2, h.cell i hi 3, h.cell i hi 4, h.cell i hi 5⟩
theorem x_same {ms : List Mc} {m k1 k2 : Nat} {b b' : Rd} (h : ms[m]? = some (some (k1, k2, b))) : (ms.set m (some (k1, k2, b'))).map ptr1 = ms.map ptr1 := by
  rw [List.map_set]
  apply List.ext_getElem?
  intro j
  rw [List.getElem?_set]
  split
  · rename_i e
    subst e
    have hl := (List.getElem?_eq_some_iff.1 h).1
    have hg : ms[m] = some (k1, k2, b) := by rw [List.getElem?_eq_getElem hl] at h; simpa using h
    simp [hl, hg, ptr1]
  · rfl
theorem y_same {ms : List Mc} {m k1 k2 : Nat} {b b' : Rd} (h : ms[m]? = some (some (k1, k2, b))) : (ms.set m (some (k1, k2, b'))).map ptr2 = ms.map ptr2 := by
  rw [List.map_set]
  apply List.ext_getElem?
  intro j
  rw [List.getElem?_set]
  split
  · rename_i e
    subst e
    have hl := (List.getElem?_eq_some_iff.1 h).1
    have hg : ms[m] = some (k1, k2, b) := by rw [List.getElem?_eq_getElem hl] at h; simpa using h
    simp [hl, hg, ptr2]
  · rfl
theorem anyH_mono {P : Program} {md : Region.Mode} {ops : Array Oper} {Q : Exit → Act → World → Prop} {S S' : World → Prop} (hS : ∀ W, S W → S' W) : ∀ (fuel : Nat) (listed : Array Bool) (a : Act) (w : World), wpAnyH P md ops Q S fuel listed a w → wpAnyH P md ops Q S' fuel listed a w
  | 0, _, _, _, h => h
  | fuel + 1, _, _, _, h => ⟨h.1, fun i hi => wpOp_mono (fun a' w' h' => ⟨hS w' h'.1, anyH_mono hS fuel _ a' w' h'.2⟩) (h.2 i hi)⟩
/-- What the told step finds. -/
theorem told_at {w W : World} {c : Cfg} {A : Ad} {B : Bd} {X Y : Nat} {ms : List Mc} {z : SSt} {v u p q : Value} (h : St w (plL A B c X Y ms z v u p q) W) {m k1 k2 : Nat} {b : Rd} (hx : ms[m]? = some (some (k1, k2, b))) (hr : RFit c b) :
    Calls Tryz.prog 17 #[.pointer (some ⟨k1, 0, none⟩), .pointer (some ⟨k2, 0, none⟩)] W fun e w' => e = .returned (.bool true) ∧ St w (plL A B c X Y ms z v u p q) w' := by
  have h1 : St w ([rdI k1 A.sp b, rrI k2 B.sp b] ++ (plL A B c X Y ms z v u p q).eraseIdx (m + 4)) W := h.open (m + 4) (mc_at hx)
  refine (told_st h1 0 1 rfl rfl hr).mono ?_
  rintro e w' ⟨he, h2⟩
  have hm : (plL A B c X Y ms z v u p q)[m + 4]? = some (mcI A.sp B.sp (some (k1, k2, b))) := mc_at hx
  have h3 := St.shut (its := plL A B c X Y ms z v u p q) (i := m + 4) (l := [rdI k1 A.sp b, rrI k2 B.sp b]) hm h2
  rw [show joinI [rdI k1 A.sp b, rrI k2 B.sp b] = mcI A.sp B.sp (some (k1, k2, b)) from rfl, set_back hm] at h3
  exact ⟨he, h3⟩

set_option maxRecDepth 100000 in
set_option maxHeartbeats 8000000 in
theorem plays_walk (c : Cfg) (la : Option Addr) (ln lc : Nat) (zs : List Int) (sa : Option Addr) (len cap : Nat) (ops : Nat → OpD) (w : World) (hN : NumsIn w la ln zs) (hln : ln ≤ 17592186044416) (hs : ScriptAt w sa len ops) (hlen : len ≤ 4611686018424) :
    Calls Tryz.prog 3 #[c.val, .slice la ln lc, .slice sa len cap] w fun e w' => e = .returned (.bool true) ∧ Kept (fun _ => False) w w' := by
  have HS : Hid (ScriptAt w sa len ops) := hs
  have HN : Hid (NumsIn w la ln zs) := hN
  clear hN
  clear hs
  have hlen' : (len : Int) ≤ 4611686018424 := by omega
  have h0 := (St.nil w).box #[.int .i64 c.ce, .int .i64 c.sl, .int .i64 c.bi, .int .i64 c.ta, .int .i64 c.ba, .int .i64 c.de] 23
  unfold Cfg.val
  go_enter Tryz.func3, Tryz.ntmps3
  go_upto_region 1 with fail
  generalize w.alloc (.cells #[.int .i64 c.ce, .int .i64 c.sl, .int .i64 c.bi, .int .i64 c.ta, .int .i64 c.ba, .int .i64 c.de] 23) = W0 at *
  generalize w.heap.size = C at *
  go_wp2_with fail
  refine (up_any _).mono ?_
  rintro e w1 ⟨rfl, k1⟩
  have h1 : St w [boxI C #[.int .i64 c.ce, .int .i64 c.sl, .int .i64 c.bi, .int .i64 c.ta, .int .i64 c.ba, .int .i64 c.de] 23] w1 := h0.calm k1
  clear h0 k1
  by_cases hfc : c.fits = true
  · have OKC := SSt.ok_zero c hfc 0
    obtain ⟨c0, c1, c2, c3, c4, c5⟩ := cfg_facts h1 0 rfl
    have hq : Calls Tryz.prog 5 #[.agg #[.int .i64 c.ce, .int .i64 c.sl, .int .i64 c.bi, .int .i64 c.ta, .int .i64 c.ba, .int .i64 c.de]] w1 _ := spNew_st h1 c hfc
    go_wp2_with fail
    refine hq.mono ?_
    rintro e w2 ⟨A, rfl, h2⟩
    clear hq c0 c1 c2 c3 c4 c5 h1
    unfold spp
    obtain ⟨c0, c1, c2, c3, c4, c5⟩ := cfg_facts h2 1 rfl
    have hq : Calls Tryz.prog 6 #[.agg #[.int .i64 c.ce, .int .i64 c.sl, .int .i64 c.bi, .int .i64 c.ta, .int .i64 c.ba, .int .i64 c.de]] w2 _ := rpNew_st h2 c hfc
    go_wp2_with fail
    refine hq.mono ?_
    rintro e w3 ⟨B, rfl, h3⟩
    clear hq c0 c1 c2 c3 c4 c5 h2 hfc
    unfold rpp
    have h4 : St w [spI A c (SSt.zero c) (.slice none 0 0) (.slice none 0 0), rpI B c (SSt.zero c) (.slice none 0 0) (.slice none 0 0)] w3 := (h3.perm (List.Perm.swap ..)).perm (List.perm_append_singleton (boxI C #[.int .i64 c.ce, .int .i64 c.sl, .int .i64 c.bi, .int .i64 c.ta, .int .i64 c.ba, .int .i64 c.de] 23) [_, _]) |>.pop
    have hap : ∀ a, la = some a → 0 < ln → a.block ≠ B.c := by
      intro a ha h0
      obtain ⟨g, o', e, hc⟩ := HN.out.2 h0
      have e2 : a = ⟨g, o', none⟩ := by rw [ha] at e; exact Option.some.inj e
      have l1 : g < w.heap.size := World.block_lt_of_cell? w _ (hc 0 h0)
      have l2 : w.heap.size ≤ B.c := (h4.open 1 rfl).high _ (List.mem_of_getElem? rpAt2) B.c (by simp [rrRowI])
      rw [e2]
      show g ≠ B.c
      omega
    have qF : Calls Tryz.prog 7 #[.pointer (some ⟨A.sp, 0, none⟩), .slice la ln lc] w3.drew fun e w' => e = .returned (.int .i64 (fillErr (SSt.zero c).xs zs)) ∧ w'.cell? ⟨B.sp, 7, none⟩ = some (.pointer (some ⟨B.r, 0, none⟩)) ∧ Hid (St w [spI A c ((SSt.zero c).fill zs) (.slice none 0 0) (.slice none 0 0), rpI B c (SSt.zero c) (.slice none 0 0) (.slice none 0 0)] w') := by
      refine (spFill (lc := lc) h4.drew 0 rfl OKC (by omega) (HN.out.kept h4.drew.same) hln).mono ?_
      rintro e w' ⟨he, h'⟩
      exact ⟨he, rpCell h' 1 rfl 7, h'⟩
    have qG : Hid (∀ W, Hid (St w [spI A c ((SSt.zero c).fill zs) (.slice none 0 0) (.slice none 0 0), rpI B c (SSt.zero c) (.slice none 0 0) (.slice none 0 0)] W) → Calls Tryz.prog 8 #[.pointer (some ⟨B.r, 0, none⟩), .slice la ln lc] W fun e w' => e = .returned (.int .i64 (fillErr (SSt.zero c).xs zs)) ∧ w'.cell? ⟨B.sp, 7, none⟩ = some (.pointer (some ⟨B.r, 0, none⟩)) ∧ Hid (St w [spI A c ((SSt.zero c).fill zs) (.slice none 0 0) (.slice none 0 0), rpI B c ((SSt.zero c).fill zs) (.slice none 0 0) (.slice none 0 0)] w')) := fun W hW => by
      refine (rpFill (lc := lc) hW.out 1 rfl (HN.out.kept hW.out.same) hln hap).mono ?_
      rintro e w' ⟨he, h'⟩
      exact ⟨he, rpCell h' 1 rfl 7, h'⟩
    have b7 : w3.cell? ⟨B.sp, 7, none⟩ = some (.pointer (some ⟨B.r, 0, none⟩)) := rpCell h4 1 rfl 7
    have OKF := OKC.fill zs
    clear h3 h4 OKC hap HN
    generalize fillErr (SSt.zero c).xs zs = FE at *
    have tFE : (FE != FE) = false := by simp
    generalize (SSt.zero c).fill zs = zF at *
    go_upto_region 8 with fail
    go_region_held3 (fun W => W.cell? ⟨B.sp, 7, none⟩ = some (.pointer (some ⟨B.r, 0, none⟩))) (first | go_keep | exact rS)
      (first | (go_at_call 7; refine qF.mono ?_; rintro e wf ⟨rfl, rS, HF⟩) | (go_at_call 8; refine (qG.out _ HF).mono ?_; rintro e wf ⟨rfl, rS, HF⟩))
    have h4 := HF.out
    clear qF qG b7 rS HF
    obtain ⟨w3, hw3⟩ : ∃ y, y = wf := ⟨_, rfl⟩
    subst hw3
    have h5 := (h4.box #[.pointer none, .pointer none, .pointer none, .pointer none] 43).box #[.pointer none, .pointer none, .pointer none, .pointer none] 45
    rw [alloc_size] at h5
    clear h4
    go_upto_region 12 with fail
    generalize (w3.alloc (.cells #[.pointer none, .pointer none, .pointer none, .pointer none] 43)).alloc (.cells #[.pointer none, .pointer none, .pointer none, .pointer none] 45) = w4 at *
    generalize w3.heap.size + 1 = Y at *
    generalize w3.heap.size = X at *
    have hR0 : PRel w c A B X Y 0 [none, none, none, none] w4 := by
      refine ⟨zF, .slice none 0 0, .slice none 0 0, .slice none 0 0, .slice none 0 0, rfl, OKF, ?_, ?_⟩
      · intro m k1 k2 b hm
        have : m = 0 ∨ m = 1 ∨ m = 2 ∨ m = 3 ∨ 4 ≤ m := by omega
        rcases this with rfl | rfl | rfl | rfl | h4
        all_goals first | (simp at hm) | (rw [List.getElem?_eq_none (by simpa using h4)] at hm; cases hm)
      · have h6 := h5.swap
        have e : ∀ {l : List It}, St w l w4 → St w (l ++ [joinI [], joinI [], joinI [], joinI []]) w4 := by
          intro l hl
          have j0 : ∀ {l : List It}, St w l w4 → St w (joinI [] :: l) w4 := fun hl => St.unite (l := []) hl
          have := j0 (j0 (j0 (j0 hl)))
          exact this.perm (List.perm_append_comm (l₁ := [joinI [], joinI [], joinI [], joinI []]))
        exact e h6
    clear h5 OKF
    go_wp2_with fail
    go_loopw [14, 16, 17, 18, 19, 20, 21] (fun iv _ _ _ _ _ _ wr => ∃ (kk : Nat) (ms : List Mc), iv = .int .i64 kk ∧ kk ≤ len ∧ PRel w c A B X Y kk ms wr) (fun iv _ _ _ _ _ _ _ => len - (intOf iv).toNat)
    case atStart => exact ⟨0, _, rfl, Nat.zero_le _, hR0⟩
    case round =>
      clear hR0
      obtain ⟨kk, ms, rfl, hkk, z, v, u, p, q, hm4, ok, fit, hS⟩ := hrel
      have hk0 : (0 : Int) ≤ (kk : Int) := Int.natCast_nonneg _
      by_cases hlt : kk < len
      · have hlt1 : (kk : Int) < (len : Int) := by omega
        obtain ⟨b, off, hsa, hops⟩ : ∃ b off, sa = some ⟨b, off, none⟩ ∧ ∀ i, i < len → OpAt w b (off + i * 10) (ops i) := by
          rcases HS.out with h | h
          · omega
          · exact h
        subst hsa
        have hop := (hops kk hlt).kept hS.same
        clear hops
        generalize ops kk = op at *
        obtain ⟨o0, o1, o2, o3, o4, o5, o6, o7, o8, o9, wa, wb⟩ := hop
        obtain ⟨kind, om, oi, on, ox, fa, fb, fc, fd0, fe0⟩ := op
        simp only at o0 o1 o2 o3 o4 o5 o6 o7 o8 o9 wa wb
        obtain ⟨fd, rfl, hfd⟩ := wf_word wa
        obtain ⟨fe, rfl, hfe⟩ := wf_word wb
        clear wa wb
        obtain ⟨m, hm, hm4'⟩ : ∃ m : Nat, bits .and .i64 om 3 = (m : Int) ∧ m < 4 := ⟨(om % 4).toNat, by rw [and3]; omega, by omega⟩
        have hm0 : (0 : Int) ≤ (m : Int) := by omega
        have hm3 : (m : Int) < 4 := by omega
        obtain ⟨x, hx⟩ : ∃ x, ms[m]? = some x := ⟨_, List.getElem?_eq_getElem (by omega)⟩
        have h0 := hS.box #[.int .i64 kind, .int .i64 om, .int .i64 oi, .int .i64 on, .int .i64 ox, .int .i64 fa, .int .i64 fb, .int .i64 fc, .int .u64 (fd : Nat), .int .u64 (fe : Nat)] 52
        clear hS
        go_upto_region 16 with fail
        generalize wr.alloc (.cells #[.int .i64 kind, .int .i64 om, .int .i64 oi, .int .i64 on, .int .i64 ox, .int .i64 fa, .int .i64 fb, .int .i64 fc, .int .u64 (fd : Nat), .int .u64 (fe : Nat)] 52) = W0 at *
        generalize wr.heap.size = O at *
        have a1 : W0.cell? ⟨O, 1, none⟩ = some (.int .i64 om) := h0.cell 0 rfl 1
        have hq : Calls Tryz.prog 9 #[.pointer (some ⟨A.sp, 0, none⟩), .int .i64 m] W0 _ := spTurn h0 3 rfl ok (by omega) m
        clear h0
        go_wp2_with fail
        refine hq.mono ?_
        rintro e w1 ⟨rfl, h1⟩
        clear hq a1 o0 o1 o2 o3 o4 o5 o6 o7 o8 o9
        have hb6 : w1.cell? ⟨B.sp, 6, none⟩ = some (.pointer (some ⟨B.m, 0, none⟩)) := rpCell h1 4 rfl 6
        have hq := rpTurn h1 4 rfl ok (by omega) m
        clear h1
        go_wp2_with fail
        refine hq.mono ?_
        rintro e w2 ⟨rfl, h2⟩
        have h3 : St w (boxI O #[.int .i64 kind, .int .i64 om, .int .i64 oi, .int .i64 on, .int .i64 ox, .int .i64 fa, .int .i64 fb, .int .i64 fc, .int .u64 (fd : Nat), .int .u64 (fe : Nat)] 52 :: plL A B c X Y ms (z.turn m) v u p q) w2 := h2
        clear hq hb6 h2
        have okT := ok.turn (m : Int)
        have d0 : w2.cell? ⟨O, 0, none⟩ = some (.int .i64 kind) := h3.cell 0 rfl 0
        have d1 : w2.cell? ⟨O, 1, none⟩ = some (.int .i64 om) := h3.cell 0 rfl 1
        have d2 : w2.cell? ⟨O, 2, none⟩ = some (.int .i64 oi) := h3.cell 0 rfl 2
        have d3 : w2.cell? ⟨O, 3, none⟩ = some (.int .i64 on) := h3.cell 0 rfl 3
        have d4 : w2.cell? ⟨O, 4, none⟩ = some (.int .i64 ox) := h3.cell 0 rfl 4
        have d5 : w2.cell? ⟨O, 5, none⟩ = some (.int .i64 fa) := h3.cell 0 rfl 5
        have d6 : w2.cell? ⟨O, 6, none⟩ = some (.int .i64 fb) := h3.cell 0 rfl 6
        have d7 : w2.cell? ⟨O, 7, none⟩ = some (.int .i64 fc) := h3.cell 0 rfl 7
        have d8 : w2.cell? ⟨O, 8, none⟩ = some (.int .u64 fd) := h3.cell 0 rfl 8
        have d9 : w2.cell? ⟨O, 9, none⟩ = some (.int .u64 fe) := h3.cell 0 rfl 9
        have hX : w2.cell? ⟨X, m, none⟩ = some (ptr1 x) := (h3.cell 1 rfl m).trans (x_at hx)
        have hY : w2.cell? ⟨Y, m, none⟩ = some (ptr2 x) := (h3.cell 2 rfl m).trans (y_at hx)
        by_cases k20 : kind = 20
        · subst k20

          by_cases hn : inN c.ce oi = true ∧ inN c.sl fa = true
          · as_aux_lemma =>
              have hq := rdNew_st h3 3 rfl fa fb fc ⟨fd, fe⟩ oi ⟨hfd, hfe⟩ hn.1 hn.2
              unfold spp at hq
              go_wp2_with fail
              refine hq.mono ?_
              rintro e w4 ⟨k1, rfl, h4⟩
              clear hq h3 d0 d1 d2 d3 d4 d5 d6 d7 d8 d9 hX hY
              have d2 : w4.cell? ⟨O, 2, none⟩ = some (.int .i64 oi) := h4.cell 1 rfl 2
              have d5 : w4.cell? ⟨O, 5, none⟩ = some (.int .i64 fa) := h4.cell 1 rfl 5
              have d6 : w4.cell? ⟨O, 6, none⟩ = some (.int .i64 fb) := h4.cell 1 rfl 6
              have d7 : w4.cell? ⟨O, 7, none⟩ = some (.int .i64 fc) := h4.cell 1 rfl 7
              have d8 : w4.cell? ⟨O, 8, none⟩ = some (.int .u64 fd) := h4.cell 1 rfl 8
              have d9 : w4.cell? ⟨O, 9, none⟩ = some (.int .u64 fe) := h4.cell 1 rfl 9
              have hq := rqNew_st h4 5 rfl fa fb fc ⟨fd, fe⟩ oi (bitsOf c.bi oi) hn.1 hn.2
              unfold rpp at hq
              clear h4
              go_wp2_with fail
              refine hq.mono ?_
              rintro e w5 ⟨k2, rfl, h5⟩
              clear hq d2 d5 d6 d7 d8 d9
              obtain ⟨ax, x0⟩ : ∃ a, w5.cell? ⟨X, m, none⟩ = some (.pointer a) := by
                have := (h5.cell 3 rfl m).trans (x_at hx)
                cases x with
                | none => exact ⟨_, this⟩
                | some x => exact ⟨_, this⟩
              have x1 : w5.frozen? ⟨X, m, none⟩ = false := h5.frozen 3 rfl m
              obtain ⟨ay, y0⟩ : ∃ a, w5.cell? ⟨Y, m, none⟩ = some (.pointer a) := by
                have := (h5.cell 4 rfl m).trans (y_at hx)
                cases x with
                | none => exact ⟨_, this⟩
                | some x => exact ⟨_, this⟩
              have nxy : ¬ X = Y := h5.ne 3 4 rfl rfl (by omega) (by simp [xI, boxI]) (by simp [yI, boxI])
              have nyx : ¬ Y = X := fun e => nxy e.symm
              have y1 : w5.frozen? ⟨Y, m, none⟩ = false := h5.frozen 4 rfl m
              have h6 : St w (boxI O #[.int .i64 20, .int .i64 om, .int .i64 oi, .int .i64 on, .int .i64 ox, .int .i64 fa, .int .i64 fb, .int .i64 fc, .int .u64 (fd : Nat), .int .u64 (fe : Nat)] 52 :: plL A B c X Y (ms.set m (some (k1, k2, Rd.new fa fb fc ⟨fd, fe⟩ oi (bitsOf c.bi oi)))) (z.turn m) v u p q) ((w5.setCell ⟨X, m, none⟩ (.pointer (some ⟨k1, 0, none⟩))).setCell ⟨Y, m, none⟩ (.pointer (some ⟨k2, 0, none⟩))) := by
                have a := (h5.write 3 rfl m (ptr1 (some (k1, k2, Rd.new fa fb fc ⟨fd, fe⟩ oi (bitsOf c.bi oi))))).write 4 rfl m (ptr2 (some (k1, k2, Rd.new fa fb fc ⟨fd, fe⟩ oi (bitsOf c.bi oi))))
                rw [x_set, y_set] at a
                have a2 := St.swap a
                have a3 := St.swapIn (l := [rdI k1 A.sp (Rd.new fa fb fc ⟨fd, fe⟩ oi (bitsOf c.bi oi)), rrI k2 B.sp (Rd.new fa fb fc ⟨fd, fe⟩ oi (bitsOf c.bi oi))]) (pre := [boxI O #[.int .i64 20, .int .i64 om, .int .i64 oi, .int .i64 on, .int .i64 ox, .int .i64 fa, .int .i64 fb, .int .i64 fc, .int .u64 (fd : Nat), .int .u64 (fe : Nat)] 52, xI X (ms.set m (some (k1, k2, Rd.new fa fb fc ⟨fd, fe⟩ oi (bitsOf c.bi oi)))), yI Y (ms.set m (some (k1, k2, Rd.new fa fb fc ⟨fd, fe⟩ oi (bitsOf c.bi oi)))), spI A c (z.turn m) v u, rpI B c (z.turn m) p q]) a2 (mc_at hx)
                rw [show joinI [rdI k1 A.sp (Rd.new fa fb fc ⟨fd, fe⟩ oi (bitsOf c.bi oi)), rrI k2 B.sp (Rd.new fa fb fc ⟨fd, fe⟩ oi (bitsOf c.bi oi))] = mcI A.sp B.sp (some (k1, k2, Rd.new fa fb fc ⟨fd, fe⟩ oi (bitsOf c.bi oi))) from rfl, mc_set] at a3
                exact a3
              have hxy : (ms.set m (some (k1, k2, Rd.new fa fb fc ⟨fd, fe⟩ oi (bitsOf c.bi oi))))[m]? = some (some (k1, k2, Rd.new fa fb fc ⟨fd, fe⟩ oi (bitsOf c.bi oi))) := List.getElem?_set_self (by omega)
              have fit2 := fit.set m k1 k2 (RFit.new ⟨hfd, hfe⟩ : RFit c (Rd.new fa fb fc ⟨fd, fe⟩ oi (bitsOf c.bi oi)))
              have hlen4 : (ms.set m (some (k1, k2, Rd.new fa fb fc ⟨fd, fe⟩ oi (bitsOf c.bi oi)))).length = 4 := by simpa using hm4
              clear h5
              generalize Rd.new fa fb fc ⟨fd, fe⟩ oi (bitsOf c.bi oi) = bN at *
              go_upto_region 33 with fail
              generalize (w5.setCell ⟨X, m, none⟩ (.pointer (some ⟨k1, 0, none⟩))).setCell ⟨Y, m, none⟩ (.pointer (some ⟨k2, 0, none⟩)) = w6 at *
              have h7 := h6.pop
              have hrf := fit2 m k1 k2 bN hxy
              obtain ⟨PP, hPd⟩ : ∃ PP : World → Prop, PP = fun W => St w (plL A B c X Y (ms.set m (some (k1, k2, bN))) (z.turn m) v u p q) W := ⟨_, rfl⟩
              have HTT : Hid (∀ W, PP W → Calls Tryz.prog 17 #[.pointer (some ⟨k1, 0, none⟩), .pointer (some ⟨k2, 0, none⟩)] W fun e w' => e = .returned (.bool true) ∧ PP w') := fun W hW => by
                rw [hPd] at hW ⊢
                exact told_at hW hxy hrf
              have CH : Hid (∀ W, PP W → W.cell? ⟨X, m, none⟩ = some (.pointer (some ⟨k1, 0, none⟩)) ∧ W.cell? ⟨Y, m, none⟩ = some (.pointer (some ⟨k2, 0, none⟩)) ∧ PP W) := fun W hW => by
                have hW' := hW
                rw [hPd] at hW'
                exact ⟨(hW'.cell 0 rfl m).trans (x_at hxy), (hW'.cell 1 rfl m).trans (y_at hxy), hW⟩
              have HRR : Hid (∀ W, PP W → PRel w c A B X Y (kk + 1) (ms.set m (some (k1, k2, bN))) W) := fun W hW => by
                rw [hPd] at hW
                exact ⟨_, _, _, _, _, hlen4, okT, fit2, hW⟩
              have hD : PP w6.drew := by rw [hPd]; exact h7.drew
              clear h6 h7 hPd hxy fit2 fit okT ok x0 x1 y0 y1 hx hrf hlen4
              have tX := (CH.out _ hD).1
              have tY := (CH.out _ hD).2.1
              have tX' : w6.cell? ⟨X, m, none⟩ = some (.pointer (some ⟨k1, 0, none⟩)) := tX
              have tY' : w6.cell? ⟨Y, m, none⟩ = some (.pointer (some ⟨k2, 0, none⟩)) := tY
              go_region_held3 (fun W => W.cell? ⟨X, m, none⟩ = some (.pointer (some ⟨k1, 0, none⟩)) ∧ W.cell? ⟨Y, m, none⟩ = some (.pointer (some ⟨k2, 0, none⟩)) ∧ PP W)
                (exact CH.out _ hD)
                (first | (go_at_call 17; refine (HTT.out _ hD).mono ?_; rintro e wx ⟨rfl, hD⟩))
              have HR : Hid _ := HRR.out _ hD
              clear HTT CH HRR hD
              go_wp2
              go_roundw
              case rel => exact ⟨kk + 1, _, by go_num, by omega, HR.out⟩
              case measure => simp [intOf]; omega
          · as_aux_lemma =>
              have hq := rdNew_out h3 3 rfl fa fb fc ⟨fd, fe⟩ oi hn
              unfold spp at hq
              clear hX hY
              go_wp2_with fail
              refine hq.mono ?_
              rintro e w4 ⟨rfl, h4⟩
              clear hq h3 d0 d1 d2 d3 d4 d5 d6 d7 d8 d9
              have d2 : w4.cell? ⟨O, 2, none⟩ = some (.int .i64 oi) := h4.cell 0 rfl 2
              have d5 : w4.cell? ⟨O, 5, none⟩ = some (.int .i64 fa) := h4.cell 0 rfl 5
              have d6 : w4.cell? ⟨O, 6, none⟩ = some (.int .i64 fb) := h4.cell 0 rfl 6
              have d7 : w4.cell? ⟨O, 7, none⟩ = some (.int .i64 fc) := h4.cell 0 rfl 7
              have d8 : w4.cell? ⟨O, 8, none⟩ = some (.int .u64 fd) := h4.cell 0 rfl 8
              have d9 : w4.cell? ⟨O, 9, none⟩ = some (.int .u64 fe) := h4.cell 0 rfl 9
              have hq := rqNew_out h4 4 rfl fa fb fc ⟨fd, fe⟩ oi hn
              unfold rpp at hq
              clear h4
              go_wp2_with fail
              refine hq.mono ?_
              rintro e w5 ⟨rfl, h3⟩
              clear hq d2 d5 d6 d7 d8 d9
              have hX : w5.cell? ⟨X, m, none⟩ = some (ptr1 x) := (h3.cell 1 rfl m).trans (x_at hx)
              have hY : w5.cell? ⟨Y, m, none⟩ = some (ptr2 x) := (h3.cell 2 rfl m).trans (y_at hx)
              obtain ⟨ax, x0⟩ : ∃ a, w5.cell? ⟨X, m, none⟩ = some (.pointer a) := by
                cases x with
                | none => exact ⟨_, hX⟩
                | some x => exact ⟨_, hX⟩
              obtain ⟨ay, y0⟩ : ∃ a, w5.cell? ⟨Y, m, none⟩ = some (.pointer a) := by
                cases x with
                | none => exact ⟨_, hY⟩
                | some x => exact ⟨_, hY⟩
              clear hX hY
              have nxy : ¬ X = Y := h3.ne 1 2 rfl rfl (by omega) (by simp [xI, boxI]) (by simp [yI, boxI])
              have nyx : ¬ Y = X := fun e => nxy e.symm
              have x1 : w5.frozen? ⟨X, m, none⟩ = false := h3.frozen 1 rfl m
              have y1 : w5.frozen? ⟨Y, m, none⟩ = false := h3.frozen 2 rfl m
              have h6 : St w (boxI O #[.int .i64 20, .int .i64 om, .int .i64 oi, .int .i64 on, .int .i64 ox, .int .i64 fa, .int .i64 fb, .int .i64 fc, .int .u64 (fd : Nat), .int .u64 (fe : Nat)] 52 :: plL A B c X Y (ms.set m none) (z.turn m) v u p q) ((w5.setCell ⟨X, m, none⟩ (.pointer none)).setCell ⟨Y, m, none⟩ (.pointer none)) := by
                have a := (h3.write 1 rfl m (ptr1 none)).write 2 rfl m (ptr2 none)
                rw [x_set, y_set] at a
                have a3 := St.swapIn (l := []) (pre := [boxI O #[.int .i64 20, .int .i64 om, .int .i64 oi, .int .i64 on, .int .i64 ox, .int .i64 fa, .int .i64 fb, .int .i64 fc, .int .u64 (fd : Nat), .int .u64 (fe : Nat)] 52, xI X (ms.set m none), yI Y (ms.set m none), spI A c (z.turn m) v u, rpI B c (z.turn m) p q]) a (mc_at hx)
                rw [show joinI [] = mcI A.sp B.sp none from rfl, mc_set] at a3
                exact a3
              have hxy : (ms.set m none)[m]? = some none := List.getElem?_set_self (by omega)
              have fit2 := fit.drop m
              clear h3
              go_upto_region 33 with fail
              generalize (w5.setCell ⟨X, m, none⟩ (.pointer none)).setCell ⟨Y, m, none⟩ (.pointer none) = w6 at *
              have h7 := h6.pop
              have tX : w6.cell? ⟨X, m, none⟩ = some (.pointer none) := (h7.cell 0 rfl m).trans (x_at hxy)
              have tY : w6.cell? ⟨Y, m, none⟩ = some (.pointer none) := (h7.cell 1 rfl m).trans (y_at hxy)
              have HE : Hid (∀ n, PRel w c A B X Y (kk + 1) (ms.set m none) (w6.drewN n)) := fun n => ⟨_, _, _, _, _, by simpa using hm4, okT, fit2, h7.calm ((Kept.refl _ w6).drewN n)⟩
              clear h6 h7 hxy fit2 fit okT ok x0 y0 x1 y1 hx
              go_quiet (fail)
              go_wp2
              go_roundw
              case rel => exact ⟨kk + 1, _, by go_num, by omega, HE.out _⟩
              case measure => simp [intOf]; omega
        have e20 : (kind == 20) = false := by simpa using k20
        by_cases k21 : kind = 21
        · subst k21
          cases x with
          | none =>
            have HE : Hid (PRel w c A B X Y (kk + 1) ms w2) := ⟨_, _, _, _, _, hm4, okT, fit, h3.pop⟩
            clear h3 okT ok fit hx
            simp only [ptr1, ptr2] at hX hY
            go_wp2
            go_roundw
            case rel => exact ⟨kk + 1, ms, by go_num, by omega, HE.out⟩
            case measure => simp [intOf]; omega
          | some x =>
            obtain ⟨k1, k2, b⟩ := x
            simp only [ptr1, ptr2] at hX hY
            · as_aux_lemma =>
                have hbf := fit m k1 k2 b hx
                have h4 : St w (rdI k1 A.sp b :: rrI k2 B.sp b :: boxI O #[.int .i64 21, .int .i64 om, .int .i64 oi, .int .i64 on, .int .i64 ox, .int .i64 fa, .int .i64 fb, .int .i64 fc, .int .u64 (fd : Nat), .int .u64 (fe : Nat)] 52 :: xI X ms :: yI Y ms :: spI A c (z.turn m) v u :: rpI B c (z.turn m) p q :: (ms.map (mcI A.sp B.sp)).eraseIdx m) w2 := h3.open (m + 5) (mc_at hx)
                have hq : Calls Tryz.prog 13 #[.pointer (some ⟨k1, 0, none⟩)] w2 fun e w' => e = .returned (.int .i64 (b.ans (z.turn m))) ∧ ∃ v', St w (rdI k1 A.sp (b.next (z.turn m)) :: rrI k2 B.sp b :: boxI O #[.int .i64 21, .int .i64 om, .int .i64 oi, .int .i64 on, .int .i64 ox, .int .i64 fa, .int .i64 fb, .int .i64 fc, .int .u64 (fd : Nat), .int .u64 (fe : Nat)] 52 :: xI X ms :: yI Y ms :: spI A c ((z.turn m).reads b) v' u :: rpI B c (z.turn m) p q :: (ms.map (mcI A.sp B.sp)).eraseIdx m) w' := rdStep h4 5 0 (by omega) rfl rfl okT (by omega) hbf.fit
                clear h3 h4
                go_wp2_with fail
                refine hq.mono ?_
                rintro e w4 ⟨rfl, v4, h5⟩
                clear hq hX hY d0 d1 d2 d3 d4 d5 d6 d7 d8 d9
                have okG : ((z.turn m).reads b).ok c (kk + 1 + 1) := ok.readsT b
                have fit2 : FitAll c (ms.set m (some (k1, k2, b.next (z.turn m)))) := fit.set m k1 k2 (hbf.next (z.turn m))
                have hR : Calls Tryz.prog 14 #[.pointer (some ⟨k2, 0, none⟩)] w4.drew fun e w' => e = .returned (.int .i64 (b.ans (z.turn m))) ∧ (w'.cell? ⟨Y, m, none⟩ = some (.pointer (some ⟨k2, 0, none⟩)) ∧ w'.cell? ⟨A.sp, 0, none⟩ = some (.pointer (some ⟨A.m, 0, none⟩)) ∧ w'.cell? ⟨B.sp, 6, none⟩ = some (.pointer (some ⟨B.m, 0, none⟩))) ∧ w'.cell? ⟨B.m, 2, none⟩ = some (.int .i64 ((z.turn m).reads b).s.dn) ∧ Hid (∃ q', St w (boxI O #[.int .i64 21, .int .i64 om, .int .i64 oi, .int .i64 on, .int .i64 ox, .int .i64 fa, .int .i64 fb, .int .i64 fc, .int .u64 (fd : Nat), .int .u64 (fe : Nat)] 52 :: plL A B c X Y (ms.set m (some (k1, k2, b.next (z.turn m)))) ((z.turn m).reads b) v4 u q' q) w') := by
                  refine (rrStep h5.drew 6 1 (by omega) rfl rfl okT (by omega) hbf).mono ?_
                  rintro e w' ⟨he, q', h6⟩
                  have h7 : St w (rdI k1 A.sp (b.next (z.turn m)) :: rrI k2 B.sp (b.next (z.turn m)) :: boxI O #[.int .i64 21, .int .i64 om, .int .i64 oi, .int .i64 on, .int .i64 ox, .int .i64 fa, .int .i64 fb, .int .i64 fc, .int .u64 (fd : Nat), .int .u64 (fe : Nat)] 52 :: xI X ms :: yI Y ms :: spI A c ((z.turn m).reads b) v4 u :: rpI B c ((z.turn m).reads b) q' q :: (ms.map (mcI A.sp B.sp)).eraseIdx m) w' := h6
                  refine ⟨he, ⟨(h7.cell 4 rfl m).trans (y_at hx), spCell h7 5 rfl 0, rpCell h7 6 rfl 6⟩, cell_of_heap (rpMeter h7 6 rfl).heap, q', ?_⟩
                  have a3 := St.shut (its := boxI O #[.int .i64 21, .int .i64 om, .int .i64 oi, .int .i64 on, .int .i64 ox, .int .i64 fa, .int .i64 fb, .int .i64 fc, .int .u64 (fd : Nat), .int .u64 (fe : Nat)] 52 :: xI X ms :: yI Y ms :: spI A c ((z.turn m).reads b) v4 u :: rpI B c ((z.turn m).reads b) q' q :: ms.map (mcI A.sp B.sp)) (i := m + 5) (l := [rdI k1 A.sp (b.next (z.turn m)), rrI k2 B.sp (b.next (z.turn m))]) (mc_at hx) h7
                  have a4 : St w (boxI O #[.int .i64 21, .int .i64 om, .int .i64 oi, .int .i64 on, .int .i64 ox, .int .i64 fa, .int .i64 fb, .int .i64 fc, .int .u64 (fd : Nat), .int .u64 (fe : Nat)] 52 :: xI X ms :: yI Y ms :: spI A c ((z.turn m).reads b) v4 u :: rpI B c ((z.turn m).reads b) q' q :: (ms.map (mcI A.sp B.sp)).set m (mcI A.sp B.sp (some (k1, k2, b.next (z.turn m))))) w' := a3
                  rw [mc_set] at a4
                  have ex : xI X ms = xI X (ms.set m (some (k1, k2, b.next (z.turn m)))) := by unfold xI; rw [x_same hx]
                  have ey : yI Y ms = yI Y (ms.set m (some (k1, k2, b.next (z.turn m)))) := by unfold yI; rw [y_same hx]
                  rw [ex, ey] at a4
                  exact a4
                have hY : w4.cell? ⟨Y, m, none⟩ = some (.pointer (some ⟨k2, 0, none⟩)) := (h5.cell 4 rfl m).trans (y_at hx)
                have hA4 : w4.cell? ⟨A.sp, 0, none⟩ = some (.pointer (some ⟨A.m, 0, none⟩)) := spCell h5 5 rfl 0
                have hB4 : w4.cell? ⟨B.sp, 6, none⟩ = some (.pointer (some ⟨B.m, 0, none⟩)) := rpCell h5 6 rfl 6
                have hxy : (ms.set m (some (k1, k2, b.next (z.turn m))))[m]? = some (some (k1, k2, b.next (z.turn m))) := List.getElem?_set_self (by omega)
                have hlen4 : (ms.set m (some (k1, k2, b.next (z.turn m)))).length = 4 := by simpa using hm4
                clear h5 okT ok fit hbf hx
                generalize (z.turn m).reads b = z' at *
                generalize b.next (z.turn m) = b' at *
                generalize b.ans (z.turn m) = r at *
                have D1 : ∀ W, Hid (∃ q', St w (boxI O #[.int .i64 21, .int .i64 om, .int .i64 oi, .int .i64 on, .int .i64 ox, .int .i64 fa, .int .i64 fb, .int .i64 fc, .int .u64 (fd : Nat), .int .u64 (fe : Nat)] 52 :: plL A B c X Y (ms.set m (some (k1, k2, b'))) z' v4 u q' q) W) → Calls Tryz.prog 15 #[.pointer (some ⟨A.m, 0, none⟩)] W fun e w' => e = .returned (.int .i64 z'.s.dn) ∧ w' = W := by
                  intro W hW
                  obtain ⟨q', hW⟩ := hW.out
                  exact spDone hW 3 rfl
                generalize z'.s.dn = dn at *
                have tr : (r != r) = false := by simp
                have td : (dn != dn) = false := by simp
                go_upto_region 31 with fail
                refine wp_region_held_drew (S := fun W => W.cell? ⟨Y, m, none⟩ = some (.pointer (some ⟨k2, 0, none⟩)) ∧ W.cell? ⟨A.sp, 0, none⟩ = some (.pointer (some ⟨A.m, 0, none⟩)) ∧ W.cell? ⟨B.sp, 6, none⟩ = some (.pointer (some ⟨B.m, 0, none⟩))) (by kernel_rfl) ⟨hY, hA4, hB4⟩ (fun hHeld => ?_)
                refine wpAnyH_take (i := 0) (oi := { dst := some 154, op := Op.move (Operand.tmp 21), type := 3, pos := "law.go:152", after := #[], guard := none }) (v := ?v0) rfl (by kernel_rfl) (by kernel_rfl) (by kernel_rfl) (fun _ _ _ h => h) (Or.inl ⟨by rfl, ?hy0⟩) (by assumption) ?_
                case hy0 => (intro W hSw; (try dsimp only at hSw); go_simp; (try with_reducible rfl))
                try simp only [Act.put, List.setIfInBounds_toArray, List.set_cons_zero, List.set_cons_succ]
                refine wpAnyH_take (i := 1) (oi := { dst := some 155, op := Op.move (Operand.tmp 16), type := 3, pos := "law.go:152", after := #[], guard := none }) (v := ?v1) rfl (by kernel_rfl) (by kernel_rfl) (by kernel_rfl) (fun _ _ _ h => h) (Or.inl ⟨by rfl, ?hy1⟩) (by assumption) ?_
                case hy1 => (intro W hSw; (try dsimp only at hSw); go_simp; (try with_reducible rfl))
                try simp only [Act.put, List.setIfInBounds_toArray, List.set_cons_zero, List.set_cons_succ]
                refine wpAnyH_take (i := 2) (oi := { dst := some 156, op := Op.indexAddr 45 (Operand.tmp 13) (Operand.tmp 155), type := 0, pos := "law.go:152", after := #[{ on := 1, ground := Ground.data }], guard := none }) (v := ?v2) rfl (by kernel_rfl) (by kernel_rfl) (by kernel_rfl) (fun _ _ _ h => h) (Or.inl ⟨by rfl, ?hy2⟩) (by assumption) ?_
                case hy2 => (intro W hSw; (try dsimp only at hSw); go_simp; (try with_reducible rfl))
                try simp only [Act.put, List.setIfInBounds_toArray, List.set_cons_zero, List.set_cons_succ]
                refine wpAnyH_take (i := 3) (oi := { dst := some 157, op := Op.load 44 (Operand.tmp 156), type := 44, pos := "law.go:152", after := #[{ on := 2, ground := Ground.data }], guard := none }) (v := ?v3) rfl (by kernel_rfl) (by kernel_rfl) (by kernel_rfl) (fun _ _ _ h => h) (Or.inl ⟨by rfl, ?hy3⟩) (by assumption) ?_
                case hy3 => (intro W hSw; (try dsimp only at hSw); go_simp; (try with_reducible rfl))
                try simp only [Act.put, List.setIfInBounds_toArray, List.set_cons_zero, List.set_cons_succ]
                refine wpAnyH_ready (rs := [4]) (by kernel_rfl) (by simp) ?_
                refine AllReadyH.cons (o := { dst := some 158, op := Op.call { callee := Callee.value (Operand.func 14), args := #[Operand.tmp 157], argTypes := #[44] }, type := 3, pos := "law.go:152", after := #[{ on := 3, ground := Ground.data }], guard := none }) rfl (fun K hK => ?_) AllReadyH.nil
                go_simp
                refine hR.mono ?_
                rintro e w6 ⟨rfl, rS, y4, HS6⟩
                go_wp2_with fail
                refine hK.out _ _ rS (fun hHeld => ?_)
                clear hK K
                try simp only [Act.put, List.setIfInBounds_toArray, List.set_cons_zero, List.set_cons_succ]
                refine anyH_mono (S := fun W => W.cell? ⟨Y, m, none⟩ = some (.pointer (some ⟨k2, 0, none⟩)) ∧ W.cell? ⟨A.sp, 0, none⟩ = some (.pointer (some ⟨A.m, 0, none⟩)) ∧ W.cell? ⟨B.sp, 6, none⟩ = some (.pointer (some ⟨B.m, 0, none⟩)) ∧ W.cell? ⟨B.m, 2, none⟩ = some (.int .i64 dn)) (fun W h => ⟨h.1, h.2.1, h.2.2.1⟩) _ _ _ _ ?_
                have hHeld2 : w6.cell? ⟨Y, m, none⟩ = some (.pointer (some ⟨k2, 0, none⟩)) ∧ w6.cell? ⟨A.sp, 0, none⟩ = some (.pointer (some ⟨A.m, 0, none⟩)) ∧ w6.cell? ⟨B.sp, 6, none⟩ = some (.pointer (some ⟨B.m, 0, none⟩)) ∧ w6.cell? ⟨B.m, 2, none⟩ = some (.int .i64 dn) := ⟨rS.1, rS.2.1, rS.2.2, y4⟩
                clear hHeld
                refine wpAnyH_take (i := 5) (oi := { dst := some 159, op := Op.binOp BinOp.neq 3 (Operand.tmp 154) (Operand.tmp 158) 3, type := 4, pos := "law.go:152", after := #[{ on := 0, ground := Ground.data }, { on := 4, ground := Ground.data }], guard := none }) (v := ?v5) rfl (by kernel_rfl) (by kernel_rfl) (by kernel_rfl) (fun _ _ _ h => h) (Or.inl ⟨by rfl, ?hy5⟩) (by assumption) ?_
                case hy5 => (intro W hSw; (try dsimp only at hSw); go_simp; (try with_reducible rfl))
                try simp only [Act.put, List.setIfInBounds_toArray, List.set_cons_zero, List.set_cons_succ]
                refine wpAnyH_take (i := 6) (oi := { dst := some 160, op := Op.move (Operand.tmp 159), type := 4, pos := "law.go:152", after := #[{ on := 5, ground := Ground.data }, { on := 4, ground := Ground.chain }], guard := none }) (v := ?v6) rfl (by kernel_rfl) (by kernel_rfl) (by kernel_rfl) (fun _ _ _ h => h) (Or.inl ⟨by rfl, ?hy6⟩) (by assumption) ?_
                case hy6 => (intro W hSw; (try dsimp only at hSw); go_simp; (try with_reducible rfl))
                try simp only [Act.put, List.setIfInBounds_toArray, List.set_cons_zero, List.set_cons_succ]
                refine wpAnyH_take (i := 7) (oi := { dst := some 161, op := Op.move (Operand.tmp 8), type := 27, pos := "law.go:152", after := #[{ on := 6, ground := Ground.guard }], guard := some (6, false) }) (v := ?v7) rfl (by kernel_rfl) (by kernel_rfl) (by kernel_rfl) (fun _ _ _ h => h) (Or.inl ⟨by rfl, ?hy7⟩) (by assumption) ?_
                case hy7 => (intro W hSw; (try dsimp only at hSw); go_simp; (try with_reducible rfl))
                try simp only [Act.put, List.setIfInBounds_toArray, List.set_cons_zero, List.set_cons_succ]
                refine wpAnyH_take (i := 8) (oi := { dst := some 162, op := Op.nilCheck (Operand.tmp 161), type := 0, pos := "law.go:152", after := #[{ on := 7, ground := Ground.data }, { on := 6, ground := Ground.guard }], guard := some (6, false) }) (v := ?v8) rfl (by kernel_rfl) (by kernel_rfl) (by kernel_rfl) (fun _ _ _ h => h) (Or.inl ⟨by rfl, ?hy8⟩) (by assumption) ?_
                case hy8 => (intro W hSw; (try dsimp only at hSw); go_simp; (try with_reducible rfl))
                try simp only [Act.put, List.setIfInBounds_toArray, List.set_cons_zero, List.set_cons_succ]
                refine wpAnyH_take (i := 9) (oi := { dst := some 163, op := Op.fieldAddr 64 (Operand.tmp 162) 0, type := 0, pos := "law.go:152", after := #[{ on := 8, ground := Ground.data }, { on := 6, ground := Ground.guard }], guard := some (6, false) }) (v := ?v9) rfl (by kernel_rfl) (by kernel_rfl) (by kernel_rfl) (fun _ _ _ h => h) (Or.inl ⟨by rfl, ?hy9⟩) (by assumption) ?_
                case hy9 => (intro W hSw; (try dsimp only at hSw); go_simp; (try with_reducible rfl))
                try simp only [Act.put, List.setIfInBounds_toArray, List.set_cons_zero, List.set_cons_succ]
                refine wpAnyH_take (i := 10) (oi := { dst := some 164, op := Op.load 59 (Operand.tmp 163), type := 59, pos := "law.go:152", after := #[{ on := 9, ground := Ground.data }, { on := 6, ground := Ground.guard }], guard := some (6, false) }) (v := ?v10) rfl (by kernel_rfl) (by kernel_rfl) (by kernel_rfl) (fun _ _ _ h => h) (Or.inl ⟨by rfl, ?hy10⟩) (by assumption) ?_
                case hy10 => (intro W hSw; (try dsimp only at hSw); go_simp; (try with_reducible rfl))
                try simp only [Act.put, List.setIfInBounds_toArray, List.set_cons_zero, List.set_cons_succ]
                refine wpAnyH_take (i := 12) (oi := { dst := some 166, op := Op.move (Operand.tmp 10), type := 31, pos := "law.go:152", after := #[{ on := 6, ground := Ground.guard }], guard := some (6, false) }) (v := ?v12) rfl (by kernel_rfl) (by kernel_rfl) (by kernel_rfl) (fun _ _ _ h => h) (Or.inl ⟨by rfl, ?hy12⟩) (by assumption) ?_
                case hy12 => (intro W hSw; (try dsimp only at hSw); go_simp; (try with_reducible rfl))
                try simp only [Act.put, List.setIfInBounds_toArray, List.set_cons_zero, List.set_cons_succ]
                refine wpAnyH_take (i := 13) (oi := { dst := some 167, op := Op.nilCheck (Operand.tmp 166), type := 0, pos := "law.go:152", after := #[{ on := 12, ground := Ground.data }, { on := 6, ground := Ground.guard }], guard := some (6, false) }) (v := ?v13) rfl (by kernel_rfl) (by kernel_rfl) (by kernel_rfl) (fun _ _ _ h => h) (Or.inl ⟨by rfl, ?hy13⟩) (by assumption) ?_
                case hy13 => (intro W hSw; (try dsimp only at hSw); go_simp; (try with_reducible rfl))
                try simp only [Act.put, List.setIfInBounds_toArray, List.set_cons_zero, List.set_cons_succ]
                refine wpAnyH_take (i := 14) (oi := { dst := some 168, op := Op.fieldAddr 41 (Operand.tmp 167) 1, type := 0, pos := "law.go:152", after := #[{ on := 13, ground := Ground.data }, { on := 6, ground := Ground.guard }], guard := some (6, false) }) (v := ?v14) rfl (by kernel_rfl) (by kernel_rfl) (by kernel_rfl) (fun _ _ _ h => h) (Or.inl ⟨by rfl, ?hy14⟩) (by assumption) ?_
                case hy14 => (intro W hSw; (try dsimp only at hSw); go_simp; (try with_reducible rfl))
                try simp only [Act.put, List.setIfInBounds_toArray, List.set_cons_zero, List.set_cons_succ]
                refine wpAnyH_take (i := 15) (oi := { dst := some 169, op := Op.load 35 (Operand.tmp 168), type := 35, pos := "law.go:152", after := #[{ on := 14, ground := Ground.data }, { on := 6, ground := Ground.guard }], guard := some (6, false) }) (v := ?v15) rfl (by kernel_rfl) (by kernel_rfl) (by kernel_rfl) (fun _ _ _ h => h) (Or.inl ⟨by rfl, ?hy15⟩) (by assumption) ?_
                case hy15 => (intro W hSw; (try dsimp only at hSw); go_simp; (try with_reducible rfl))
                try simp only [Act.put, List.setIfInBounds_toArray, List.set_cons_zero, List.set_cons_succ]
                refine wpAnyH_take (i := 16) (oi := { dst := some 170, op := Op.nilCheck (Operand.tmp 169), type := 0, pos := "law.go:152", after := #[{ on := 15, ground := Ground.data }, { on := 6, ground := Ground.guard }], guard := some (6, false) }) (v := ?v16) rfl (by kernel_rfl) (by kernel_rfl) (by kernel_rfl) (fun _ _ _ h => h) (Or.inl ⟨by rfl, ?hy16⟩) (by assumption) ?_
                case hy16 => (intro W hSw; (try dsimp only at hSw); go_simp; (try with_reducible rfl))
                try simp only [Act.put, List.setIfInBounds_toArray, List.set_cons_zero, List.set_cons_succ]
                refine wpAnyH_take (i := 17) (oi := { dst := some 171, op := Op.fieldAddr 67 (Operand.tmp 170) 2, type := 0, pos := "law.go:152", after := #[{ on := 16, ground := Ground.data }, { on := 6, ground := Ground.guard }], guard := some (6, false) }) (v := ?v17) rfl (by kernel_rfl) (by kernel_rfl) (by kernel_rfl) (fun _ _ _ h => h) (Or.inl ⟨by rfl, ?hy17⟩) (by assumption) ?_
                case hy17 => (intro W hSw; (try dsimp only at hSw); go_simp; (try with_reducible rfl))
                try simp only [Act.put, List.setIfInBounds_toArray, List.set_cons_zero, List.set_cons_succ]
                refine wpAnyH_take (i := 18) (oi := { dst := some 172, op := Op.load 3 (Operand.tmp 171), type := 3, pos := "law.go:152", after := #[{ on := 17, ground := Ground.data }, { on := 6, ground := Ground.guard }], guard := some (6, false) }) (v := ?v18) rfl (by kernel_rfl) (by kernel_rfl) (by kernel_rfl) (fun _ _ _ h => h) (Or.inl ⟨by rfl, ?hy18⟩) (by assumption) ?_
                case hy18 => (intro W hSw; (try dsimp only at hSw); go_simp; (try with_reducible rfl))
                try simp only [Act.put, List.setIfInBounds_toArray, List.set_cons_zero, List.set_cons_succ]
                refine wpAnyH_ready (rs := [11]) (by kernel_rfl) (by simp) ?_
                refine AllReadyH.cons (o := { dst := some 165, op := Op.call { callee := Callee.value (Operand.func 15), args := #[Operand.tmp 164], argTypes := #[59] }, type := 3, pos := "law.go:152", after := #[{ on := 10, ground := Ground.data }, { on := 6, ground := Ground.chain }, { on := 6, ground := Ground.guard }], guard := some (6, false) }) rfl (fun K hK => ?_) AllReadyH.nil
                go_simp
                refine (D1 _ HS6).mono ?_
                rintro e wq ⟨rfl, rfl⟩
                go_wp2_with fail
                refine hK.out _ _ hHeld2 (fun hHeld => ?_)
                clear hK K
                try simp only [Act.put, List.setIfInBounds_toArray, List.set_cons_zero, List.set_cons_succ]
                refine wpAnyH_take (i := 19) (oi := { dst := some 173, op := Op.binOp BinOp.neq 3 (Operand.tmp 165) (Operand.tmp 172) 3, type := 4, pos := "law.go:152", after := #[{ on := 11, ground := Ground.data }, { on := 18, ground := Ground.data }, { on := 6, ground := Ground.guard }], guard := some (6, false) }) (v := ?v19) rfl (by kernel_rfl) (by kernel_rfl) (by kernel_rfl) (fun _ _ _ h => h) (Or.inl ⟨by rfl, ?hy19⟩) (by assumption) ?_
                case hy19 => (intro W hSw; (try dsimp only at hSw); go_simp; (try with_reducible rfl))
                try simp only [Act.put, List.setIfInBounds_toArray, List.set_cons_zero, List.set_cons_succ]
                refine wpAnyH_take (i := 20) (oi := { dst := some 174, op := Op.pick (Operand.tmp 160) (Operand.const (Value.bool true)) (Operand.tmp 173), type := 4, pos := "law.go:152", after := #[{ on := 6, ground := Ground.data }, { on := 19, ground := Ground.data }], guard := none }) (v := ?v20) rfl (by kernel_rfl) (by kernel_rfl) (by kernel_rfl) (fun _ _ _ h => h) (Or.inl ⟨by rfl, ?hy20⟩) (by assumption) ?_
                case hy20 => (intro W hSw; (try dsimp only at hSw); go_simp; (try with_reducible rfl))
                try simp only [Act.put, List.setIfInBounds_toArray, List.set_cons_zero, List.set_cons_succ]
                refine wpAnyH_done (by kernel_rfl) ?_ _
                obtain ⟨q9, h8⟩ := HS6.out
                have h7 := h8.pop
                have hrf := fit2 m k1 k2 b' hxy
                obtain ⟨PP, hPd⟩ : ∃ PP : World → Prop, PP = fun W => St w (plL A B c X Y (ms.set m (some (k1, k2, b'))) z' v4 u q9 q) W := ⟨_, rfl⟩
                have HTT : Hid (∀ W, PP W → Calls Tryz.prog 17 #[.pointer (some ⟨k1, 0, none⟩), .pointer (some ⟨k2, 0, none⟩)] W fun e w' => e = .returned (.bool true) ∧ PP w') := fun W hW => by
                  rw [hPd] at hW ⊢
                  exact told_at hW hxy hrf
                have CH : Hid (∀ W, PP W → W.cell? ⟨X, m, none⟩ = some (.pointer (some ⟨k1, 0, none⟩)) ∧ W.cell? ⟨Y, m, none⟩ = some (.pointer (some ⟨k2, 0, none⟩)) ∧ PP W) := fun W hW => by
                  have hW' := hW
                  rw [hPd] at hW'
                  exact ⟨(hW'.cell 0 rfl m).trans (x_at hxy), (hW'.cell 1 rfl m).trans (y_at hxy), hW⟩
                have HRR : Hid (∀ W, PP W → PRel w c A B X Y (kk + 1) (ms.set m (some (k1, k2, b'))) W) := fun W hW => by
                  rw [hPd] at hW
                  exact ⟨_, _, _, _, _, hlen4, okG, fit2, hW⟩
                have hD : PP wq.drew := by rw [hPd]; exact h7.drew
                clear h8 h7 hPd hxy fit2 okG hrf hlen4 HS6 hR D1 hY hA4 hB4 rS y4 hHeld hHeld2
                have tX := (CH.out _ hD).1
                have tY := (CH.out _ hD).2.1
                have tX' : wq.cell? ⟨X, m, none⟩ = some (.pointer (some ⟨k1, 0, none⟩)) := tX
                have tY' : wq.cell? ⟨Y, m, none⟩ = some (.pointer (some ⟨k2, 0, none⟩)) := tY
                go_upto_region 33 with fail
                go_region_held3 (fun W => W.cell? ⟨X, m, none⟩ = some (.pointer (some ⟨k1, 0, none⟩)) ∧ W.cell? ⟨Y, m, none⟩ = some (.pointer (some ⟨k2, 0, none⟩)) ∧ PP W)
                  (exact CH.out _ hD)
                  (first | (go_at_call 17; refine (HTT.out _ hD).mono ?_; rintro e wx ⟨rfl, hD⟩))
                have HR : Hid _ := HRR.out _ hD
                clear HTT CH HRR hD
                go_wp2
                go_roundw
                case rel => exact ⟨kk + 1, _, by go_num, by omega, HR.out⟩
                case measure => simp [intOf]; omega
        have e21 : (kind == 21) = false := by simpa using k21
        have hraw : Calls Tryz.prog 16 #[.pointer (some ⟨A.sp, 0, none⟩), .pointer (some ⟨B.sp, 0, none⟩), .agg #[.int .i64 kind, .int .i64 om, .int .i64 oi, .int .i64 on, .int .i64 ox, .int .i64 fa, .int .i64 fb, .int .i64 fc, .int .u64 (fd : Nat), .int .u64 (fe : Nat)]] w2 fun e w' => e = .returned (.bool true) ∧ ∃ z' v1 u1 v2 u2, St w (boxI O #[.int .i64 kind, .int .i64 om, .int .i64 oi, .int .i64 on, .int .i64 ox, .int .i64 fa, .int .i64 fb, .int .i64 fc, .int .u64 (fd : Nat), .int .u64 (fe : Nat)] 52 :: plL A B c X Y ms z' v1 u1 v2 u2) w' ∧ z'.ok c (kk + 1 + 1) := by
          by_cases k3 : kind = 3
          · subst k3; exact raw_store h3 3 4 (by omega) rfl rfl ok (by omega) om oi on ox fa fb fc fd fe
          have e3 : (kind == 3) = false := by simpa using k3
          by_cases k5 : kind = 5
          · subst k5; exact raw_take h3 3 4 (by omega) rfl rfl ok (by omega) om oi on ox fa fb fc fd fe
          have e5 : (kind == 5) = false := by simpa using k5
          by_cases k6 : kind = 6
          · subst k6; exact raw_give h3 3 4 (by omega) rfl rfl ok (by omega) om oi on ox fa fb fc fd fe
          have e6 : (kind == 6) = false := by simpa using k6
          by_cases k7 : kind = 7
          · subst k7; exact raw_claim h3 3 4 (by omega) rfl rfl ok (by omega) om oi on ox fa fb fc fd fe
          have e7 : (kind == 7) = false := by simpa using k7
          by_cases k8 : kind = 8
          · subst k8; exact raw_ready h3 3 4 (by omega) rfl rfl ok (by omega) om oi on ox fa fb fc fd fe
          have e8 : (kind == 8) = false := by simpa using k8
          by_cases k9 : kind = 9
          · subst k9; exact raw_doom h3 3 4 (by omega) rfl rfl ok (by omega) om oi on ox fa fb fc fd fe
          have e9 : (kind == 9) = false := by simpa using k9
          by_cases k10 : kind = 10
          · subst k10; exact raw_free h3 3 4 (by omega) rfl rfl ok (by omega) om oi on ox fa fb fc fd fe
          have e10 : (kind == 10) = false := by simpa using k10
          by_cases k12 : kind = 12
          · subst k12; exact raw_put h3 3 4 (by omega) rfl rfl ok (by omega) om oi on ox fa fb fc fd fe
          have e12 : (kind == 12) = false := by simpa using k12
          exact raw_none h3 3 4 (by omega) rfl rfl ok (by omega) kind om oi on ox fa fb fc fd fe e3 e5 e6 e7 e8 e9 e10 e12
        clear h3 okT ok hX hY
        go_wp2_with fail
        refine hraw.mono ?_
        rintro e w4 ⟨rfl, z', v1, u1, v2, u2, h4, ok'⟩
        clear hraw d0 d1 d2 d3 d4 d5 d6 d7 d8 d9
        have h7 := h4.pop
        have HE : Hid (∀ n, PRel w c A B X Y (kk + 1) ms (w4.drewN n)) := fun n => ⟨_, _, _, _, _, hm4, ok', fit, h7.calm ((Kept.refl _ w4).drewN n)⟩
        cases x with
        | none =>
          have tX : w4.cell? ⟨X, m, none⟩ = some (.pointer none) := (h7.cell 0 rfl m).trans (x_at hx)
          have tY : w4.cell? ⟨Y, m, none⟩ = some (.pointer none) := (h7.cell 1 rfl m).trans (y_at hx)
          clear h4 h7 ok' fit hx
          go_upto_region 33 with fail
          go_quiet (fail)
          go_wp2
          go_roundw
          case rel => exact ⟨kk + 1, ms, by go_num, by omega, HE.out _⟩
          case measure => simp [intOf]; omega
        | some x =>
          obtain ⟨k1, k2, b⟩ := x
          have hxy := hx
          have hrf := fit m k1 k2 b hxy
          obtain ⟨PP, hPd⟩ : ∃ PP : World → Prop, PP = fun W => St w (plL A B c X Y ms z' v1 u1 v2 u2) W := ⟨_, rfl⟩
          have HTT : Hid (∀ W, PP W → Calls Tryz.prog 17 #[.pointer (some ⟨k1, 0, none⟩), .pointer (some ⟨k2, 0, none⟩)] W fun e w' => e = .returned (.bool true) ∧ PP w') := fun W hW => by
            rw [hPd] at hW ⊢
            exact told_at hW hxy hrf
          have CH : Hid (∀ W, PP W → W.cell? ⟨X, m, none⟩ = some (.pointer (some ⟨k1, 0, none⟩)) ∧ W.cell? ⟨Y, m, none⟩ = some (.pointer (some ⟨k2, 0, none⟩)) ∧ PP W) := fun W hW => by
            have hW' := hW
            rw [hPd] at hW'
            exact ⟨(hW'.cell 0 rfl m).trans (x_at hxy), (hW'.cell 1 rfl m).trans (y_at hxy), hW⟩
          have HRR : Hid (∀ W, PP W → PRel w c A B X Y (kk + 1) ms W) := fun W hW => by
            rw [hPd] at hW
            exact ⟨_, _, _, _, _, hm4, ok', fit, hW⟩
          have hD : PP w4.drew := by rw [hPd]; exact h7.drew
          clear h4 h7 hPd ok' fit hx hxy hrf HE
          have tX := (CH.out _ hD).1
          have tY := (CH.out _ hD).2.1
          have tX' : w4.cell? ⟨X, m, none⟩ = some (.pointer (some ⟨k1, 0, none⟩)) := tX
          have tY' : w4.cell? ⟨Y, m, none⟩ = some (.pointer (some ⟨k2, 0, none⟩)) := tY
          go_upto_region 33 with fail
          go_region_held3 (fun W => W.cell? ⟨X, m, none⟩ = some (.pointer (some ⟨k1, 0, none⟩)) ∧ W.cell? ⟨Y, m, none⟩ = some (.pointer (some ⟨k2, 0, none⟩)) ∧ PP W)
            (exact CH.out _ hD)
            (first | (go_at_call 17; refine (HTT.out _ hD).mono ?_; rintro e wx ⟨rfl, hD⟩))
          have HR : Hid _ := HRR.out _ hD
          clear HTT CH HRR hD
          go_wp2
          go_roundw
          case rel => exact ⟨kk + 1, _, by go_num, by omega, HR.out⟩
          case measure => simp [intOf]; omega
      · have hlt1 : ¬ (kk : Int) < (len : Int) := by omega
        have hq := same_st hS 2 3 rfl rfl ok (by omega)
        unfold spp rpp at hq
        clear hS HS fit
        go_wp2_with fail
        refine hq.mono ?_
        rintro e w5 ⟨rfl, h5⟩
        have HK : Hid (Kept (fun _ => False) w w5) := h5.same
        clear h5 hq
        go_wp2
        go_ret
        exact ⟨rfl, HK.out⟩
  · replace hfc : c.fits = false := by simpa using hfc
    obtain ⟨c0, c1, c2, c3, c4, c5⟩ := cfg_facts h1 0 rfl
    have hq : Calls Tryz.prog 5 #[.agg #[.int .i64 c.ce, .int .i64 c.sl, .int .i64 c.bi, .int .i64 c.ta, .int .i64 c.ba, .int .i64 c.de]] w1 _ := spNew_out c hfc w1
    go_wp2_with fail
    refine hq.mono ?_
    rintro e w2 ⟨rfl, k2⟩
    have h2 := h1.calm k2
    clear hq c0 c1 c2 c3 c4 c5 h1 k2
    obtain ⟨c0, c1, c2, c3, c4, c5⟩ := cfg_facts h2 0 rfl
    have hq : Calls Tryz.prog 6 #[.agg #[.int .i64 c.ce, .int .i64 c.sl, .int .i64 c.bi, .int .i64 c.ta, .int .i64 c.ba, .int .i64 c.de]] w2 _ := rpNew_out c hfc w2
    go_wp2_with fail
    refine hq.mono ?_
    rintro e w3 ⟨rfl, k3⟩
    have HK : Hid (Kept (fun _ => False) w w3) := (h2.calm k3).same
    clear hq c0 c1 c2 c3 c4 c5 h2 k3
    go_wp2
    go_ret
    exact ⟨rfl, HK.out⟩
end Go.Proofs.YtajfjkhbimehbaaGreat
