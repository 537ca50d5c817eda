/- The law ReadWaits, step by step. -/
import Derived.Test.YtajfjkhbimehbaaUp
import Derived.Test.YtajfjkhbimehbaaRdN
import Derived.Test.YtajfjkhbimehbaaOps
namespace Go.Proofs.Ytajfjkhbimehbaa
open Go.RowKit
set_option linter.unusedVariables false
set_option linter.unusedSimpArgs false
attribute [local go_sem ↓] Go.wp_at_zero Go.wp_at_succ

/-- What the law keeps of a read: it may go on, its slot and its cell are there. -/
structure WInv (b : Int) (z : SSt) (r : Rd) : Prop where
  fit : r.fit
  sl : r.sl = 0
  ce : 0 ≤ r.ce ∧ r.ce < 8
theorem WInv.next {b : Int} {z : SSt} {r : Rd} (h : WInv b z r) : WInv b (z.reads r) (r.next z) := by
  obtain ⟨h1, h2, h3, h4⟩ := r.next_frame z
  exact ⟨h.fit.next z, h1.trans h.sl, by rw [h3]; exact h.ce⟩

set_option maxRecDepth 100000 in
set_option maxHeartbeats 4000000 in
theorem waits_walk (bits_ cell : Int) (sa : Option Addr) (sl sc : Nat) (f : Nat → OpD) (w : World) (hS : ScriptAt w sa sl f) (hsl : sl * 80 ≤ 140737488351232) :
    Calls Try.prog 4 #[.int .i64 bits_, .int .i64 cell, .slice sa sl sc] w fun e w' => e = .returned (.bool true) ∧ Kept (fun _ => False) w w' := by
  obtain ⟨b, hb, b1, b8⟩ : ∃ n : Int, 1 + bits .and .i64 bits_ 127 = n ∧ 1 ≤ n ∧ n ≤ 128 := ⟨1 + bits_ % 128, by rw [show bits .and .i64 bits_ 127 = bits_ % 128 from and_mask bits_ 7 (by decide)], by omega, by omega⟩
  obtain ⟨c, hc, c0, c8⟩ : ∃ n : Int, bits .and .i64 cell 7 = n ∧ 0 ≤ n ∧ n < 8 := ⟨cell % 8, by rw [and7], by omega, by omega⟩
  have hfc : (rdC 8 b).fits = true := rdC_fits (by omega) ⟨b1, b8⟩
  have HSC : Hid (ScriptAt w sa sl f) := hS
  have hsl' : (sl : Int) ≤ 1759218604390 := by omega
  clear hS
  go_enter Try.func4, Try.ntmps4
  go_wp2_with fail
  refine (up_any _).mono ?_
  rintro e w1 ⟨rfl, k1⟩
  have hq := reader_st ((St.nil w).calm k1) 8 b hfc
  clear k1
  go_wp2_with (simp only [hb])
  refine hq.mono ?_
  rintro e w2 ⟨A, v2, rfl, s2⟩
  clear hq
  unfold spp
  have hq := rdNew_st s2 0 rfl 0 1 1 Sg.zero c Sg.ok_zero (show inN 8 c = true from (inN_iff _ _).2 ⟨c0, c8⟩) rfl
  unfold spp at hq
  clear s2
  go_wp2_with (simp only [hc])
  refine hq.mono ?_
  rintro e w4 ⟨K, rfl, s4⟩
  have H4 : Hid (∃ z r v, WInv b z r ∧ z.ok (rdC 8 b) (2 + 2 * 0) ∧ St w [rdI K A.sp r, spI A (rdC 8 b) z v (.slice none 0 0)] w4) := ⟨_, _, _, ⟨Rd.fit_new Sg.ok_zero (bitsOf_ok _ _), rfl, c0, c8⟩, rdZ_ok hfc, s4⟩
  clear hq s4
  go_wp2_with fail
  go_loopw [12, 13, 14, 15, 16] (fun a _ _ _ _ wr => ∃ i : Nat, a = .int .i64 i ∧ i ≤ sl ∧ Hid (∃ z r v, WInv b z r ∧ z.ok (rdC 8 b) (2 + 2 * i) ∧ St w [rdI K A.sp r, spI A (rdC 8 b) z v (.slice none 0 0)] wr)) (fun a _ _ _ _ _ => sl - (intOf a).toNat)
  case atStart => exact ⟨0, rfl, Nat.zero_le _, H4⟩
  case round =>
    clear H4
    obtain ⟨i, rfl, hi, HZ⟩ := hrel
    have hi0 : (0 : Int) ≤ (i : Int) := by omega
    obtain ⟨z, r, v, inv, ok, hS⟩ := HZ.out
    clear HZ
    have hd := rdDone hS 0 rfl inv.fit.st
    by_cases hlt : i < sl
    · have hi1 : (i : Int) < (sl : Int) := by omega
      by_cases h4 : r.st = 4
      · as_aux_lemma =>
          rw [show (r.st == 4) = true from by simpa using h4] at hd
          have HK : Hid (Kept (fun _ => False) w wr) := hS.same
          clear hS inv ok
          go_wp2_with (go_at_call 14; refine hd.mono ?_; rintro e wq ⟨rfl, rfl⟩)
          go_ret
          exact ⟨rfl, HK.out⟩
      · rw [show (r.st == 4) = false from by simpa using h4] at hd
        obtain ⟨sb, so, rfl, hops⟩ := HSC.out.resolve_left (by omega)
        have hop := (hops i hlt).kept hS.same
        have o0 := hop.c0
        have HOP : Hid (∀ W, Kept (fun _ => False) w W → W.cell? ⟨sb, so + i * 10 + 2, none⟩ = some (.int .i64 (f i).i)) := fun W hk => ((hops i hlt).kept hk).c2
        clear hops hop
        generalize (f i).kind = kd at *
        generalize (f i).i = oi at *
        obtain ⟨tq, htq, tq2⟩ : ∃ q : Nat, bits .and .i64 oi 1 = (q : Int) ∧ q < 2 := ⟨(oi % 2).toNat, by rw [and1]; omega, by omega⟩
        have q0 : (0 : Int) ≤ (tq : Int) := by omega
        have q1 : (tq : Int) < 2 := by omega
        by_cases k5 : kd = 5
        · subst k5
          as_aux_lemma =>
            have hg : Calls Try.prog 20 #[.pointer (some ⟨A.sp, 0, none⟩)] wr.drew fun e w' => e = .returned (.pointer (some ⟨A.g, 0, none⟩)) ∧ (w'.cell? ⟨sb, so + i * 10 + 2, none⟩ = some (.int .i64 oi)) ∧ Hid (St w [rdI K A.sp r, spI A (rdC 8 b) z v (.slice none 0 0)] w') := by
              refine (spGate hS.drew 1 rfl).mono ?_
              rintro e w' ⟨he, rfl⟩
              exact ⟨he, HOP.out _ hS.drew.same, hS.drew⟩
            have ht : ∀ W, Hid (St w [rdI K A.sp r, spI A (rdC 8 b) z v (.slice none 0 0)] W) → Calls Try.prog 21 #[.pointer (some ⟨A.g, 0, none⟩), .int .i64 (IntKind.i64.wrap (2 + (tq : Int)))] W fun e w' => e = .returned (.tuple #[.int .i64 (takeR z.x (IntKind.i64.wrap (2 + (tq : Int)))), .int .i64 (takeE z.x (IntKind.i64.wrap (2 + (tq : Int))))]) ∧ (w'.cell? ⟨sb, so + i * 10 + 2, none⟩ = some (.int .i64 oi)) ∧ Hid (∃ z r v, WInv b z r ∧ z.ok (rdC 8 b) (2 + 2 * (i + 1)) ∧ St w [rdI K A.sp r, spI A (rdC 8 b) z v (.slice none 0 0)] w') := by
              intro W hW
              refine (spTake hW.out 1 rfl ok (by omega) (IntKind.i64.wrap (2 + (tq : Int)))).mono ?_
              rintro e w' ⟨he, v', h'⟩
              exact ⟨he, HOP.out _ h'.same, _, _, v', ⟨inv.fit, inv.sl, inv.ce⟩, (ok.take _).more (by omega), h'⟩
            have c2 : wr.cell? ⟨sb, so + i * 10 + 2, none⟩ = some (.int .i64 oi) := HOP.out _ hS.same
            generalize hT1 : takeR z.x (IntKind.i64.wrap (2 + (tq : Int))) = R1 at ht
            generalize hT2 : takeE z.x (IntKind.i64.wrap (2 + (tq : Int))) = R2 at ht
            clear hT2
            clear hS inv ok HOP HSC h4 hT1
            go_upto_region 22 with (go_at_call 14; refine hd.mono ?_; rintro e wq ⟨rfl, rfl⟩)
            go_region_held3 (fun W => W.cell? ⟨sb, so + i * 10 + 2, none⟩ = some (.int .i64 oi)) (first | go_keep | exact rS)
              (first | (go_at_call 20; refine hg.mono ?_; rintro e w5 ⟨rfl, rS, HS5⟩) | (go_at_call 21; refine (ht _ HS5).mono ?_; rintro e w6 ⟨rfl, rS, H6⟩))
            clear hg ht rS
            go_wp2
            go_roundw
            case rel => exact ⟨i + 1, by go_num, by omega, H6⟩
            case measure => simp [intOf]; omega
        · have k5' : (kd == 5) = false := by simpa using k5
          by_cases k6 : kd = 6
          · subst k6
            as_aux_lemma =>
              have hg : Calls Try.prog 20 #[.pointer (some ⟨A.sp, 0, none⟩)] wr.drew fun e w' => e = .returned (.pointer (some ⟨A.g, 0, none⟩)) ∧ (w'.cell? ⟨sb, so + i * 10 + 2, none⟩ = some (.int .i64 oi)) ∧ Hid (St w [rdI K A.sp r, spI A (rdC 8 b) z v (.slice none 0 0)] w') := by
                refine (spGate hS.drew 1 rfl).mono ?_
                rintro e w' ⟨he, rfl⟩
                exact ⟨he, HOP.out _ hS.drew.same, hS.drew⟩
              have ht : ∀ W, Hid (St w [rdI K A.sp r, spI A (rdC 8 b) z v (.slice none 0 0)] W) → Calls Try.prog 22 #[.pointer (some ⟨A.g, 0, none⟩), .int .i64 (IntKind.i64.wrap (2 + (tq : Int)))] W fun e w' => e = .returned (.int .i64 (giveE z.x (IntKind.i64.wrap (2 + (tq : Int))))) ∧ (w'.cell? ⟨sb, so + i * 10 + 2, none⟩ = some (.int .i64 oi)) ∧ Hid (∃ z r v, WInv b z r ∧ z.ok (rdC 8 b) (2 + 2 * (i + 1)) ∧ St w [rdI K A.sp r, spI A (rdC 8 b) z v (.slice none 0 0)] w') := by
                intro W hW
                refine (spGive hW.out 1 rfl ok (by omega) (IntKind.i64.wrap (2 + (tq : Int)))).mono ?_
                rintro e w' ⟨he, v', h'⟩
                exact ⟨he, HOP.out _ h'.same, _, _, v', ⟨inv.fit, inv.sl, inv.ce⟩, (ok.give _).more (by omega), h'⟩
              have c2 : wr.cell? ⟨sb, so + i * 10 + 2, none⟩ = some (.int .i64 oi) := HOP.out _ hS.same
              generalize hT1 : giveE z.x (IntKind.i64.wrap (2 + (tq : Int))) = R1 at ht
              skip
              clear hS inv ok HOP HSC h4 hT1
              go_upto_region 24 with (go_at_call 14; refine hd.mono ?_; rintro e wq ⟨rfl, rfl⟩)
              go_region_held3 (fun W => W.cell? ⟨sb, so + i * 10 + 2, none⟩ = some (.int .i64 oi)) (first | go_keep | exact rS)
                (first | (go_at_call 20; refine hg.mono ?_; rintro e w5 ⟨rfl, rS, HS5⟩) | (go_at_call 22; refine (ht _ HS5).mono ?_; rintro e w6 ⟨rfl, rS, H6⟩))
              clear hg ht rS
              go_wp2
              go_roundw
              case rel => exact ⟨i + 1, by go_num, by omega, H6⟩
              case measure => simp [intOf]; omega
          · have k6' : (kd == 6) = false := by simpa using k6
            clear k5 k6 HOP q0 q1 htq tq2
            have hok1 := ok.turn 1
            have ht := spTurn hS 1 rfl ok (by omega) 1
            have inv1 : WInv b (z.turn 1) r := ⟨inv.fit, inv.sl, inv.ce⟩
            have x0 : 0 ≤ z.x.n := ok.g0
            have x1 : z.x.n ≤ 4611686018427 := by have := ok.g1; omega
            have hs1 : 0 ≤ r.sl ∧ r.sl < (z.turn 1).hs.length := by
              have := ok.h1
              rw [inv.sl]
              exact ⟨by omega, by show (0 : Int) < (z.hs.length : Int); omega⟩
            have hc1 : cin (z.turn 1).xs r.ce = true := by
              have := ok.cl
              show cin z.xs r.ce = true
              simp only [cin, Bool.and_eq_true, decide_eq_true_eq]
              have hx : (z.xs.length : Int) = 8 := this
              rw [hx]
              exact inv.ce
            obtain ⟨ka, kb, kc, hno, hk2, -⟩ := SSt.reads_note inv.fit h4 hs1 hc1
            have HN : Hid (((z.turn 1).reads r).s = (z.turn 1).s.note ka kb kc true) := hno
            have hdn : ((z.turn 1).reads r).s.dn = 1 := by rw [hno]; rfl
            have hll : ((z.turn 1).reads r).s.l = z.s.l ++ [⟨(z.turn 1).s.st, (z.turn 1).s.th, ka, kb, kc, true⟩] := by rw [hno]; rfl
            have hans : r.ans (z.turn 1) = if r.st = 2 ∧ z.x.n % 2 ≠ 0 then 2 else 1 := by
              unfold Rd.ans
              rw [if_neg h4]
              rfl
            have hok2 := hok1.reads r
            have inv2 := inv1.next
            have HE : Hid (∀ v9 w9, St w [rdI K A.sp (r.next (z.turn 1)), spI A (rdC 8 b) ((z.turn 1).reads r) v9 (.slice none 0 0)] w9 → ∃ z r v, WInv b z r ∧ z.ok (rdC 8 b) (2 + 2 * (i + 1)) ∧ St w [rdI K A.sp r, spI A (rdC 8 b) z v (.slice none 0 0)] w9) := fun v9 w9 h9 => ⟨_, _, v9, inv2, hok2, h9⟩
            have HOK2 : Hid (((z.turn 1).reads r).ok (rdC 8 b) (2 + 2 * i + 1 + 1)) := hok2
            have HFIT : Hid r.fit := inv.fit
            have HOK1 : Hid ((z.turn 1).ok (rdC 8 b) (2 + 2 * i + 1)) := hok1
            clear hS inv inv1 inv2 hok1 hok2 ok hno hs1 hc1
            go_wp2_with (go_at_call 14; refine hd.mono ?_; rintro e wq ⟨rfl, rfl⟩)
            unfold spp at ht
            refine ht.mono ?_
            rintro e w5 ⟨rfl, h5⟩
            clear ht hd
            have hg := spGate h5 1 rfl
            have hn := spNow h5 1 rfl
            unfold spp at hg
            unfold Gt.val at hn
            clear h5
            have hF := gtField_n z.x.n z.x.o
            go_wp2_with (go_at_call 20; refine hg.mono ?_; rintro e wq ⟨rfl, rfl⟩)
            refine hn.mono ?_
            rintro e w6 ⟨rfl, h6⟩
            clear hn hg
            have hst := rdStep h6 1 0 (by omega) rfl rfl HOK1.out (by omega) HFIT.out
            rw [hans] at hst
            clear h6
            have hzt : (z.turn 1).x = z.x := rfl
            rcases even_cases z.x.n with ⟨ev, ev'⟩ | ⟨ev, ev'⟩
            · have evv : (z.x.n % 2 == 1) = false := by simp; omega
              rw [if_neg (fun h => h.2 ev)] at hst
              have HEV : Hid (z.x.n % 2 = 0) := ev
              clear ev ev' hk2 hans
              as_aux_lemma =>
                go_wp2_with fail
                refine hst.mono ?_
                rintro e w7 ⟨rfl, v7, h7⟩
                clear hst
                have m0 : w7.cell? ⟨A.sp, 0, none⟩ = some (.pointer (some ⟨A.m, 0, none⟩)) := spCell h7 1 rfl 0
                have hl := spLog h7 1 rfl HOK2.out (by omega)
                have HR : Hid (∃ z r v, WInv b z r ∧ z.ok (rdC 8 b) (2 + 2 * (i + 1)) ∧ St w [rdI K A.sp r, spI A (rdC 8 b) z v (.slice none 0 0)] w7) := HE.out _ _ h7
                clear h7
                go_wp2_with fail
                refine hl.mono ?_
                rintro e w8 ⟨v8, rfl, h8⟩
                rw [hll, List.length_append, List.length_singleton] at h8
                obtain ⟨p, cl, rfl⟩ := h8.form 0 rfl (by omega)
                have l2 : w8.cell? ⟨p, z.s.l.length * 6 + 2, none⟩ = some (.int .i64 ka) := (h8.ownCell 0 rfl _ (by omega)).trans (logCells_last _ _)
                have m1 : w8.cell? ⟨A.sp, 0, none⟩ = some (.pointer (some ⟨A.m, 0, none⟩)) := spCell h8 2 rfl 0
                have hdo := spDone h8 2 rfl
                rw [hdn] at hdo
                have H8 : Hid (∃ z r v, WInv b z r ∧ z.ok (rdC 8 b) (2 + 2 * (i + 1)) ∧ St w [rdI K A.sp r, spI A (rdC 8 b) z v (.slice none 0 0)] w8) := HE.out _ _ h8.pop
                have zl : (z.s.l.length : Int) ≤ 4611686018427 := by
                  have := HOK1.out.met.len
                  have h9 : (z.turn 1).s.l.length = z.s.l.length := rfl
                  omega
                have zl0 : (0 : Int) ≤ (z.s.l.length : Int) := by omega
                have zl1 : (((z.s.l.length + 1 : Nat) : Int) == 0) = false := by simp; omega
                have zl2 : ((z.s.l.length + 1 : Nat) : Int) - 1 = (z.s.l.length : Int) := by omega
                have zl3 : (z.s.l.length : Int) < ((z.s.l.length + 1 : Nat) : Int) := by omega
                clear hl h8 hll hdn HE HOK1 HOK2 HFIT HN HR
                generalize z.s.l.length = ZL at *
                generalize hkz : (ka == 2) = kz at *
                go_wp2_with (first | (go_at_call 26; refine hdo.mono ?_; rintro e wq ⟨rfl, rfl⟩) | simp only [zl2])
                go_roundw
                case rel => exact ⟨i + 1, by go_num, by omega, H8⟩
                case measure => simp [intOf]; omega
            · have evv : (z.x.n % 2 == 1) = true := by simp; omega
              have HEV : Hid (z.x.n % 2 ≠ 0) := ev
              by_cases h2 : r.st = 2
              · rw [if_pos ⟨h2, ev⟩] at hst
                have hka : (ka == 2) = true := by rw [hk2]; simpa using h2
                clear ev ev' h2 hk2 hans
                as_aux_lemma =>
                  go_wp2_with fail
                  refine hst.mono ?_
                  rintro e w7 ⟨rfl, v7, h7⟩
                  clear hst
                  have m0 : w7.cell? ⟨A.sp, 0, none⟩ = some (.pointer (some ⟨A.m, 0, none⟩)) := spCell h7 1 rfl 0
                  have hl := spLog h7 1 rfl HOK2.out (by omega)
                  have HR : Hid (∃ z r v, WInv b z r ∧ z.ok (rdC 8 b) (2 + 2 * (i + 1)) ∧ St w [rdI K A.sp r, spI A (rdC 8 b) z v (.slice none 0 0)] w7) := HE.out _ _ h7
                  clear h7
                  go_wp2_with fail
                  refine hl.mono ?_
                  rintro e w8 ⟨v8, rfl, h8⟩
                  rw [hll, List.length_append, List.length_singleton] at h8
                  obtain ⟨p, cl, rfl⟩ := h8.form 0 rfl (by omega)
                  have l2 : w8.cell? ⟨p, z.s.l.length * 6 + 2, none⟩ = some (.int .i64 ka) := (h8.ownCell 0 rfl _ (by omega)).trans (logCells_last _ _)
                  have m1 : w8.cell? ⟨A.sp, 0, none⟩ = some (.pointer (some ⟨A.m, 0, none⟩)) := spCell h8 2 rfl 0
                  have hdo := spDone h8 2 rfl
                  rw [hdn] at hdo
                  have H8 : Hid (∃ z r v, WInv b z r ∧ z.ok (rdC 8 b) (2 + 2 * (i + 1)) ∧ St w [rdI K A.sp r, spI A (rdC 8 b) z v (.slice none 0 0)] w8) := HE.out _ _ h8.pop
                  have zl : (z.s.l.length : Int) ≤ 4611686018427 := by
                    have := HOK1.out.met.len
                    have h9 : (z.turn 1).s.l.length = z.s.l.length := rfl
                    omega
                  have zl0 : (0 : Int) ≤ (z.s.l.length : Int) := by omega
                  have zl1 : (((z.s.l.length + 1 : Nat) : Int) == 0) = false := by simp; omega
                  have zl2 : ((z.s.l.length + 1 : Nat) : Int) - 1 = (z.s.l.length : Int) := by omega
                  have zl3 : (z.s.l.length : Int) < ((z.s.l.length + 1 : Nat) : Int) := by omega
                  clear hl h8 hll hdn HE HOK1 HOK2 HFIT HN HR
                  generalize z.s.l.length = ZL at *
                  skip
                  go_wp2_with (first | (go_at_call 26; refine hdo.mono ?_; rintro e wq ⟨rfl, rfl⟩) | simp only [zl2])
                  go_roundw
                  case rel => exact ⟨i + 1, by go_num, by omega, H8⟩
                  case measure => simp [intOf]; omega
              · rw [if_neg (fun h => h2 h.1)] at hst
                have hka : (ka == 2) = false := by rw [hk2]; simpa using h2
                clear ev ev' h2 hk2 hans
                as_aux_lemma =>
                  go_wp2_with fail
                  refine hst.mono ?_
                  rintro e w7 ⟨rfl, v7, h7⟩
                  clear hst
                  have m0 : w7.cell? ⟨A.sp, 0, none⟩ = some (.pointer (some ⟨A.m, 0, none⟩)) := spCell h7 1 rfl 0
                  have hl := spLog h7 1 rfl HOK2.out (by omega)
                  have HR : Hid (∃ z r v, WInv b z r ∧ z.ok (rdC 8 b) (2 + 2 * (i + 1)) ∧ St w [rdI K A.sp r, spI A (rdC 8 b) z v (.slice none 0 0)] w7) := HE.out _ _ h7
                  clear h7
                  go_wp2_with fail
                  refine hl.mono ?_
                  rintro e w8 ⟨v8, rfl, h8⟩
                  rw [hll, List.length_append, List.length_singleton] at h8
                  obtain ⟨p, cl, rfl⟩ := h8.form 0 rfl (by omega)
                  have l2 : w8.cell? ⟨p, z.s.l.length * 6 + 2, none⟩ = some (.int .i64 ka) := (h8.ownCell 0 rfl _ (by omega)).trans (logCells_last _ _)
                  have m1 : w8.cell? ⟨A.sp, 0, none⟩ = some (.pointer (some ⟨A.m, 0, none⟩)) := spCell h8 2 rfl 0
                  have hdo := spDone h8 2 rfl
                  rw [hdn] at hdo
                  have H8 : Hid (∃ z r v, WInv b z r ∧ z.ok (rdC 8 b) (2 + 2 * (i + 1)) ∧ St w [rdI K A.sp r, spI A (rdC 8 b) z v (.slice none 0 0)] w8) := HE.out _ _ h8.pop
                  have zl : (z.s.l.length : Int) ≤ 4611686018427 := by
                    have := HOK1.out.met.len
                    have h9 : (z.turn 1).s.l.length = z.s.l.length := rfl
                    omega
                  have zl0 : (0 : Int) ≤ (z.s.l.length : Int) := by omega
                  have zl1 : (((z.s.l.length + 1 : Nat) : Int) == 0) = false := by simp; omega
                  have zl2 : ((z.s.l.length + 1 : Nat) : Int) - 1 = (z.s.l.length : Int) := by omega
                  have zl3 : (z.s.l.length : Int) < ((z.s.l.length + 1 : Nat) : Int) := by omega
                  clear hl h8 hll hdn HE HOK1 HOK2 HFIT HN HR
                  generalize z.s.l.length = ZL at *
                  skip
                  go_wp2_with (first | (go_at_call 26; refine hdo.mono ?_; rintro e wq ⟨rfl, rfl⟩) | simp only [zl2])
                  go_roundw
                  case rel => exact ⟨i + 1, by go_num, by omega, H8⟩
                  case measure => simp [intOf]; omega
    · as_aux_lemma =>
        have hi1 : ¬ (i : Int) < (sl : Int) := by omega
        have HK : Hid (Kept (fun _ => False) w wr) := hS.same
        clear hS inv ok hd
        go_wp2
        go_ret
        exact ⟨rfl, HK.out⟩
end Go.Proofs.Ytajfjkhbimehbaa
