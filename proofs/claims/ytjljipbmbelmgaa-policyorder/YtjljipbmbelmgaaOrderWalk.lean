/- The law PolicyOrder, step by step. -/
import Derived.Test.YtjljipbmbelmgaaLent
import Derived.Test.YtjljipbmbelmgaaUp
import Derived.Test.YtjljipbmbelmgaaOrder
import Derived.Test.YtjljipbmbelmgaaRest
namespace Go.Proofs.Ytjljipbmbelmgaa
open Go.RowKit
set_option linter.unusedVariables false
set_option linter.unusedSimpArgs false
attribute [local go_sem ↓] Go.wp_at_zero Go.wp_at_succ

theorem own_any {w : World} {base m : Nat} {v : Value} {ys : List Vt} (h : w.ownsRow base 46 4 v m (vtCells ys)) : ∃ la lc, v = .slice la m lc ∧ VIn w la m ys := by
  have hl := h.1
  rw [vtCells_length] at hl
  have hm : m = ys.length := by omega
  rcases h.2 with ⟨h1, h0⟩ | ⟨g, c3, _, h1, hb, hg, _⟩
  · subst h1
    subst h0
    exact ⟨none, 0, rfl, hm, fun h => by omega⟩
  · subst h1
    refine ⟨_, _, rfl, ?_⟩
    have := own_vin h ys [] (by simp)
    rwa [← hm] at this

set_option maxRecDepth 100000 in
set_option maxHeartbeats 2000000 in
theorem order_walk (c : Cfg) (sp df : Int) (la : Option Addr) (n lc : Nat) (zs : List Vt) (t : Vt) (w : World) (hL : VIn w la n zs) (hR : n ≤ lc ∧ lc * 32 ≤ 140737488351232 ∧ (la = none → n = 0 ∧ lc = 0)) :
    Calls Try.prog 6 #[c.val, .int .i64 sp, .int .i64 df, .slice la n lc, t.val] w fun e w' => e = .returned (.bool true) ∧ Kept (fun _ => False) w w' := by
  obtain ⟨i0, hi0, hz0, hz1, hz2⟩ := info_parts Try.infoVt
  have h0 := ((St.nil w).box #[.int .i64 c.ce, .int .i64 c.sl, .int .i64 c.bi, .int .i64 c.ta, .int .i64 c.ba, .int .i64 c.de] 23).box #[.int .i64 t.so, .int .i64 t.ge, .int .i64 t.sp, .int .i64 t.th] 46
  have HL : Hid (VIn w la n zs) := hL
  have HN : Hid (n = zs.length) := hL.1
  have hn : n ≤ 4398046510976 := by omega
  have hlt0 : w.heap.size < w.heap.size + 1 := by omega
  clear hL hR
  simp only [alloc_size] at h0
  unfold Cfg.val Vt.val
  go_enter Try.func6, Try.ntmps6
  go_upto_region 1 with fail
  generalize (w.alloc (.cells #[.int .i64 c.ce, .int .i64 c.sl, .int .i64 c.bi, .int .i64 c.ta, .int .i64 c.ba, .int .i64 c.de] 23)).alloc (.cells #[.int .i64 t.so, .int .i64 t.ge, .int .i64 t.sp, .int .i64 t.th] 46) = W0 at *
  generalize w.heap.size + 1 = M at *
  generalize w.heap.size = B at *
  clear hlt0
  go_wp2_with fail
  refine (up_any _).mono ?_
  rintro e w1 ⟨rfl, k1⟩
  have h1 := h0.calm k1
  clear h0 k1
  have c0 : w1.cell? ⟨B, 0, none⟩ = some (.int .i64 c.ce) := h1.cell 1 rfl 0
  have c1 : w1.cell? ⟨B, 1, none⟩ = some (.int .i64 c.sl) := h1.cell 1 rfl 1
  have c2 : w1.cell? ⟨B, 2, none⟩ = some (.int .i64 c.bi) := h1.cell 1 rfl 2
  have c3 : w1.cell? ⟨B, 3, none⟩ = some (.int .i64 c.ta) := h1.cell 1 rfl 3
  have c4 : w1.cell? ⟨B, 4, none⟩ = some (.int .i64 c.ba) := h1.cell 1 rfl 4
  have c5 : w1.cell? ⟨B, 5, none⟩ = some (.int .i64 c.de) := h1.cell 1 rfl 5
  have hq : Calls Try.prog 9 #[.agg #[.int .i64 c.ce, .int .i64 c.sl, .int .i64 c.bi, .int .i64 c.ta, .int .i64 c.ba, .int .i64 c.de], .int .i64 sp, .int .i64 df, .slice la n lc] w1 _ := verdict_any c sp df la n lc zs w1 (HL.out.kept h1.same) (by omega)
  have HV : Hid (∀ ys : List Vt, ys.length = n → anyOld sp ys = anyOld sp zs → vdV c sp df ys = vdV c sp df zs ∧ (vdV c sp df zs = vdV c sp df (ys ++ [t]) ∨ vdV c sp df zs = 1)) := fun ys e1 e2 => by
    have e := vdV_congr c sp df (zs := ys) (ys := zs) (e1.trans HN.out) e2
    exact ⟨e, by rw [← e]; exact vdV_more c sp df ys t⟩
  generalize vdV c sp df zs = V at *
  generalize hE : vdE c df = E at *
  have HE : Hid (vdE c df = E) := hE
  clear hE
  go_wp2_with fail
  refine hq.mono ?_
  rintro e w2 ⟨rfl, k2⟩
  have h2 := (h1.calm k2).own (Kept.refl _ _) (World.ownsRow_nil w2 w2.heap.size 46 4)
  clear hq h1 k2 c0 c1 c2 c3 c4 c5
  go_wp2_with fail
  go_loopw [14, 15] (fun v i wr => ∃ m : Nat, i = .int .i64 ((n : Int) - 1 - m) ∧ m ≤ n ∧ St w [ownI 46 4 v m (vtCells (bk zs m)), boxI M #[.int .i64 t.so, .int .i64 t.ge, .int .i64 t.sp, .int .i64 t.th] 46, boxI B #[.int .i64 c.ce, .int .i64 c.sl, .int .i64 c.bi, .int .i64 c.ta, .int .i64 c.ba, .int .i64 c.de] 23] wr) (fun v i _ => (intOf i + 1).toNat)
  case atStart => exact ⟨0, by simp, Nat.zero_le _, h2⟩
  case round =>
    obtain ⟨m, rfl, hm, h3⟩ := hrel
    clear h2
    by_cases hlt : m < n
    · obtain ⟨i, hi⟩ : ∃ i : Nat, (n : Int) - 1 - m = (i : Int) := ⟨n - 1 - m, by omega⟩
      have hi2 : i < zs.length := by have := HN.out; omega
      have HB : Hid (bk zs (m + 1) = bk zs m ++ [⟨i, -i, zs[i].sp, 0⟩]) := by
        show bk zs (m + 1) = _
        rw [bk_succ, show zs.length - 1 - m = i by have := HN.out; omega]
        simp [bkAt, hi2]
      have HI : Hid ((n : Int) - 1 - ((m + 1 : Nat) : Int) = (i : Int) - 1) := (by show (n : Int) - 1 - ((m + 1 : Nat) : Int) = (i : Int) - 1; omega)
      obtain ⟨g0, o0, rfl, _⟩ := HL.out.2 (by omega)
      obtain ⟨v0, v1, v2, v3⟩ := (HL.out.kept h3.same).cells hi2
      clear v0 v1 v3
      rw [hi]
      generalize zs[i].sp = ts at *
      have hown : wr.ownsRow 0 46 4 u14 m (vtCells (bk zs m)) := h3.get 0 rfl
      obtain ⟨la1, lc1, rfl, _⟩ := own_any hown
      have HS : Hid (∀ g cap w3, w3.ownsRow 0 46 4 (.slice (some ⟨g, 0, none⟩) (m + 1) cap) (m + 1) (vtCells (bk zs m) ++ [.int .i64 i, .int .i64 (-i), .int .i64 ts, .int .i64 0]) → (wr.alloc (.cells #[.int .i64 i, .int .i64 (-i), .int .i64 ts, .int .i64 0] 46)).grownBy w3 (Value.slice la1 m lc1).ownBlock → ((Value.slice la1 m lc1).ownBlock = some g ∨ g = wr.heap.size + 1) → St w [ownI 46 4 (.slice (some ⟨g, 0, none⟩) (m + 1) cap) (m + 1) (vtCells (bk zs (m + 1))), boxI M #[.int .i64 t.so, .int .i64 t.ge, .int .i64 t.sp, .int .i64 t.th] 46, boxI B #[.int .i64 c.ce, .int .i64 c.sl, .int .i64 c.bi, .int .i64 c.ta, .int .i64 c.ba, .int .i64 c.de] 23] w3) := by
        intro g cap w3 p hg ha
        have e : vtCells (bk zs (m + 1)) = vtCells (bk zs m) ++ [.int .i64 i, .int .i64 (-i), .int .i64 ts, .int .i64 0] := by
          rw [HB.out, vtCells_append]; rfl
        rw [e]
        refine h3.ownGrow 0 rfl p (((Kept.refl _ wr).alloc _).grown hg (fun k e => .inl e)) ?_
        rcases ha with e | e
        · exact .inl (by rw [e]; rfl)
        · exact .inr ⟨g, rfl, by omega⟩
      have hi0' : (0 : Int) ≤ (i : Int) := Int.natCast_nonneg _
      have hi1 : (i : Int) < (n : Int) := by omega
      generalize vtCells (bk zs m) = L at *
      clear h3 hi HB
      go_wp2_with (at_builtin; refine wpList_append_lies _ rfl (.tmp 36) (.tmp 46) 24 rfl 0 46 i0 _ 4 32 Try.underlying24 hi0 hz0 hz1 hz2 rfl (by omega) (.slice la1 m lc1) m L rfl (hown.alloc _) ⟨wr.heap.size, 0, none⟩ 1 1 [.int .i64 i, .int .i64 (-i), .int .i64 ts, .int .i64 0] rfl rfl (World.news_of_block (cs := #[.int .i64 i, .int .i64 (-i), .int .i64 ts, .int .i64 0]) (t := 46) (fr := (0, 0)) (heap_alloc_new wr _)) (by simp [Value.oneCell']) (by omega) (by unfold maxLen; omega) (by omega) (by simp) (wr.heap.size + 1) (by simp) ?_; intro g cap w3 ho3 hg3 ha3 hl3)
      go_roundw
      case rel => exact ⟨m + 1, by rw [HI.out], by omega, HS.out _ _ _ ho3 hg3 ha3⟩
      case measure => simp [intOf]
    · obtain rfl : m = n := by omega
      have hi1 : ¬ (0 : Int) ≤ (m : Int) - 1 - (m : Int) := by omega
      have hown : wr.ownsRow 0 46 4 u14 m (vtCells (bk zs m)) := h3.get 0 rfl
      obtain ⟨la1, lc1, rfl, hv1⟩ := own_any hown
      clear hown
      have hc := HV.out (bk zs m) (bk_length zs m) (by rw [HN.out]; exact anyOld_bk sp zs)
      have hq : Calls Try.prog 9 #[.agg #[.int .i64 c.ce, .int .i64 c.sl, .int .i64 c.bi, .int .i64 c.ta, .int .i64 c.ba, .int .i64 c.de], .int .i64 sp, .int .i64 df, .slice la1 m lc1] wr fun e w' => e = .returned (.tuple #[.int .i64 V, .int .i64 E]) ∧ Kept (fun _ => False) wr w' := by
        have := verdict_any c sp df la1 m lc1 (bk zs m) wr hv1 (by omega)
        rw [hc.1, HE.out] at this
        exact this
      obtain ⟨D, hD⟩ : ∃ D : Int, vdV c sp df (bk zs m ++ [t]) = D := ⟨_, rfl⟩
      have HD : Hid (V = D ∨ V = 1) := by rw [← hD]; exact hc.2
      have C9 : Hid (∀ g cap W, St w [ownI 46 4 (.slice (some ⟨g, 0, none⟩) (m + 1) cap) (m + 1) (vtCells (bk zs m) ++ [.int .i64 t.so, .int .i64 t.ge, .int .i64 t.sp, .int .i64 t.th]), boxI M #[.int .i64 t.so, .int .i64 t.ge, .int .i64 t.sp, .int .i64 t.th] 46, boxI B #[.int .i64 c.ce, .int .i64 c.sl, .int .i64 c.bi, .int .i64 c.ta, .int .i64 c.ba, .int .i64 c.de] 23] W → Calls Try.prog 9 #[.agg #[.int .i64 c.ce, .int .i64 c.sl, .int .i64 c.bi, .int .i64 c.ta, .int .i64 c.ba, .int .i64 c.de], .int .i64 sp, .int .i64 df, .slice (some ⟨g, 0, none⟩) (m + 1) cap] W fun e w' => e = .returned (.tuple #[.int .i64 D, .int .i64 E]) ∧ Kept (fun _ => False) w w') := by
        intro g cap W hW
        have ho : W.ownsRow 0 46 4 (.slice (some ⟨g, 0, none⟩) (m + 1) cap) (m + 1) (vtCells (bk zs m ++ [t])) := by
          rw [vtCells_append]; exact hW.get 0 rfl
        have hv := own_vin ho (bk zs m ++ [t]) [] (by simp)
        rw [show (bk zs m ++ [t]).length = m + 1 by simp [bk_length]] at hv
        have := verdict_any c sp df _ (m + 1) cap (bk zs m ++ [t]) W hv (by omega)
        rw [hD, HE.out] at this
        refine this.mono ?_
        rintro e w' ⟨he, hk⟩
        exact ⟨he, hW.same.trans hk (fun _ _ f => f)⟩
      clear hc hD hv1 HE HV
      have c0 : wr.cell? ⟨B, 0, none⟩ = some (.int .i64 c.ce) := h3.cell 2 rfl 0
      have c1 : wr.cell? ⟨B, 1, none⟩ = some (.int .i64 c.sl) := h3.cell 2 rfl 1
      have c2 : wr.cell? ⟨B, 2, none⟩ = some (.int .i64 c.bi) := h3.cell 2 rfl 2
      have c3 : wr.cell? ⟨B, 3, none⟩ = some (.int .i64 c.ta) := h3.cell 2 rfl 3
      have c4 : wr.cell? ⟨B, 4, none⟩ = some (.int .i64 c.ba) := h3.cell 2 rfl 4
      have c5 : wr.cell? ⟨B, 5, none⟩ = some (.int .i64 c.de) := h3.cell 2 rfl 5
      go_wp2_with fail
      refine hq.mono ?_
      rintro e w4 ⟨rfl, k4⟩
      have h4 := h3.calm k4
      clear hq h3 k4 c0 c1 c2 c3 c4 c5
      have hown : w4.ownsRow 0 46 4 (.slice la1 m lc1) m (vtCells (bk zs m)) := h4.get 0 rfl
      have HS : Hid (∀ g cap w3, w3.ownsRow 0 46 4 (.slice (some ⟨g, 0, none⟩) (m + 1) cap) (m + 1) (vtCells (bk zs m) ++ [.int .i64 t.so, .int .i64 t.ge, .int .i64 t.sp, .int .i64 t.th]) → ((w4.alloc (.cells #[.int .i64 t.so, .int .i64 t.ge, .int .i64 t.sp, .int .i64 t.th] 46)).drew).grownBy w3 (Value.slice la1 m lc1).ownBlock → ((Value.slice la1 m lc1).ownBlock = some g ∨ g = w4.heap.size + 1) → St w [ownI 46 4 (.slice (some ⟨g, 0, none⟩) (m + 1) cap) (m + 1) (vtCells (bk zs m) ++ [.int .i64 t.so, .int .i64 t.ge, .int .i64 t.sp, .int .i64 t.th]), boxI M #[.int .i64 t.so, .int .i64 t.ge, .int .i64 t.sp, .int .i64 t.th] 46, boxI B #[.int .i64 c.ce, .int .i64 c.sl, .int .i64 c.bi, .int .i64 c.ta, .int .i64 c.ba, .int .i64 c.de] 23] w3) := by
        intro g cap w3 p hg ha
        refine h4.ownGrow 0 rfl p ((((Kept.refl _ w4).alloc _).drew).grown hg (fun k e => .inl e)) ?_
        rcases ha with e | e
        · exact .inl (by rw [e]; rfl)
        · exact .inr ⟨g, rfl, by omega⟩
      have CB : Hid (∀ W v k L, St w [ownI 46 4 v k L, boxI M #[.int .i64 t.so, .int .i64 t.ge, .int .i64 t.sp, .int .i64 t.th] 46, boxI B #[.int .i64 c.ce, .int .i64 c.sl, .int .i64 c.bi, .int .i64 c.ta, .int .i64 c.ba, .int .i64 c.de] 23] W → W.cell? ⟨B, 0, none⟩ = some (.int .i64 c.ce) ∧ W.cell? ⟨B, 1, none⟩ = some (.int .i64 c.sl) ∧ W.cell? ⟨B, 2, none⟩ = some (.int .i64 c.bi) ∧ W.cell? ⟨B, 3, none⟩ = some (.int .i64 c.ta) ∧ W.cell? ⟨B, 4, none⟩ = some (.int .i64 c.ba) ∧ W.cell? ⟨B, 5, none⟩ = some (.int .i64 c.de) ∧ W.cell? ⟨M, 0, none⟩ = some (.int .i64 t.so) ∧ W.cell? ⟨M, 1, none⟩ = some (.int .i64 t.ge) ∧ W.cell? ⟨M, 2, none⟩ = some (.int .i64 t.sp) ∧ W.cell? ⟨M, 3, none⟩ = some (.int .i64 t.th)) := fun W v k L h => ⟨h.cell 2 rfl 0, h.cell 2 rfl 1, h.cell 2 rfl 2, h.cell 2 rfl 3, h.cell 2 rfl 4, h.cell 2 rfl 5, h.cell 1 rfl 0, h.cell 1 rfl 1, h.cell 1 rfl 2, h.cell 1 rfl 3⟩
      obtain ⟨c0, c1, c2, c3, c4, c5, m0, m1, m2, m3⟩ := CB.out _ _ _ _ h4.drew
      obtain ⟨a0, a1, a2, a3, a4, a5, n0, n1, n2, n3⟩ := CB.out _ _ _ _ h4
      have hlB : B < w4.heap.size := World.block_lt_of_cell? w4 _ a0
      have b0 : ∀ cs ty, (w4.alloc (.cells cs ty)).cell? ⟨B, 0, none⟩ = some (.int .i64 c.ce) := fun cs ty => by rw [World.cell?_alloc_past _ _ _ hlB]; exact a0
      have b1 : ∀ cs ty, (w4.alloc (.cells cs ty)).cell? ⟨B, 1, none⟩ = some (.int .i64 c.sl) := fun cs ty => by rw [World.cell?_alloc_past _ _ _ hlB]; exact a1
      have b2 : ∀ cs ty, (w4.alloc (.cells cs ty)).cell? ⟨B, 2, none⟩ = some (.int .i64 c.bi) := fun cs ty => by rw [World.cell?_alloc_past _ _ _ hlB]; exact a2
      have b3 : ∀ cs ty, (w4.alloc (.cells cs ty)).cell? ⟨B, 3, none⟩ = some (.int .i64 c.ta) := fun cs ty => by rw [World.cell?_alloc_past _ _ _ hlB]; exact a3
      have b4 : ∀ cs ty, (w4.alloc (.cells cs ty)).cell? ⟨B, 4, none⟩ = some (.int .i64 c.ba) := fun cs ty => by rw [World.cell?_alloc_past _ _ _ hlB]; exact a4
      have b5 : ∀ cs ty, (w4.alloc (.cells cs ty)).cell? ⟨B, 5, none⟩ = some (.int .i64 c.de) := fun cs ty => by rw [World.cell?_alloc_past _ _ _ hlB]; exact a5
      have hbs := buildVt w4 t.so t.ge t.sp t.th
      have hbs' := buildVt w4.drew t.so t.ge t.sp t.th
      clear h4
      generalize vtCells (bk zs m) = L at *
      go_wp2_with fail
      go_region_law
        ((first | (refine step_append_lies _ (by rfl) _ _ _ (by rfl) 0 46 i0 _ 4 32 Try.underlying24 hi0 hz0 hz1 hz2 rfl (by omega) (.slice la1 m lc1) m L (by rfl) ((hown.alloc _).drew) ⟨w4.heap.size, 0, none⟩ 1 1 [.int .i64 t.so, .int .i64 t.ge, .int .i64 t.sp, .int .i64 t.th] (by rfl) (by rfl) (World.news_of_block (cs := #[.int .i64 t.so, .int .i64 t.ge, .int .i64 t.sp, .int .i64 t.th]) (t := 46) (fr := (0, 0)) (heap_alloc_new w4 _)) (by simp [Value.oneCell']) (by omega) (by unfold maxLen; omega) (by omega) (Nat.zero_le _) (w4.heap.size + 1) (by simp) ?_; intro g cap w5 ho5 hg5 ha5 hl5; have h5 := HS.out _ _ _ ho5 hg5 ha5; obtain ⟨d0, d1, d2, d3, d4, d5, e0, e1, e2, e3⟩ := CB.out _ _ _ _ h5) | (go_simp; go_at_call 9; refine (C9.out _ _ _ h5).mono ?_; rintro e w6 ⟨rfl, k6⟩)))
      all_goals
        by_cases hvd : V = D
        · subst hvd
          go_wp2
          go_ret
          exact ⟨rfl, k6⟩
        · have t1 : (V == D) = false := by simp [hvd]
          obtain rfl : V = 1 := HD.out.resolve_left hvd
          clear hvd HD
          go_wp2
          go_ret
          exact ⟨rfl, k6⟩
end Go.Proofs.Ytjljipbmbelmgaa
