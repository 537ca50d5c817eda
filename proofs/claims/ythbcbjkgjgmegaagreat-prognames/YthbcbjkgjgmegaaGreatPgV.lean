/- The document's first example: programs. The document's first example, walked. -/
import Derived.Test.YthbcbjkgjgmegaaGreatPgO
import Derived.Test.YthbcbjkgjgmegaaGreatSpE
import Derived.LoopN
namespace Go.Proofs.YthbcbjkgjgmegaaGreat
open Go.RowKit
set_option linter.unusedVariables false
set_option linter.unusedSimpArgs false
attribute [local go_sem ↓] Go.wp_at_zero Go.wp_at_succ
section
variable {o w : World} {its R : List It} {A : Ad} {c : Cfg} {z : SSt} {v u : Value} {Q : PA} {x : Pg} {X : Nat}
theorem PH.turn (h : PH o c A X R z x w) {k : Nat} (ok : z.ok c k) (hk : k ≤ 900000000) (t : Int) : Calls Tryz.prog 24 #[spp A, .int .i64 t] w fun r w' => r = .returned (.tuple #[]) ∧ PH o c A X R (z.turn t) x w' := by
  obtain ⟨Q, v, u, rfl, hJ, hn, h⟩ := h
  refine (spTurn h 6 rfl ok (by omega) t).mono ?_
  rintro r w' ⟨he, q⟩
  exact ⟨he, Q, v, u, rfl, hJ, hn, q⟩
theorem St.mv2 {a b : List It} {s X1 X2 : It} (h : St o (X1 :: X2 :: (a ++ s :: (b ++ R))) w) : St o (a ++ s :: (b ++ X1 :: X2 :: R)) w := by
  have p := (List.perm_append_comm (l₁ := [X1, X2]) (l₂ := a ++ s :: b)).append_right R
  exact h.perm (by simpa using p)
theorem PH.view (h : PH o c A X R z x w) {k : Nat} (ok : z.ok c k) : Calls Tryz.prog 30 #[spp A] w fun r w' => ∃ va vs, r = .returned (.agg #[va, .int .i64 z.x.n, .int .i64 z.x.o, vs]) ∧ PH o c A X (ownI 2 1 va z.xs.length (clCells z.xs) :: ownI 249 8 vs z.hs.length (slCells (slots z.hs z.ws)) :: R) z x w' := by
  obtain ⟨Q, v, u, rfl, hJ, hn, h⟩ := h
  refine (spView h 6 rfl ok.wl ok.h1 ok.h8).mono ?_
  rintro r w' ⟨va, vs, he, q⟩
  exact ⟨va, vs, he, Q, v, u, rfl, hJ, hn, q.mv2⟩
end
/-- A program and its space that may be, behind so many calls. -/
structure Team1 (c : Cfg) (z : SSt) (x : Pg) (k : Nat) : Prop where
  ok : z.ok c k
  ws : WsOk z.ws
  fit : x.fit c z.hs.length k
  rng : x.rng
  xs : All64 z.xs
theorem Team1.step {c : Cfg} {z : SSt} {x : Pg} {k : Nat} (h : Team1 c z x k) (t : Int) : Team1 c (x.step c (z.turn t)).z (x.step c (z.turn t)).x (k + 5) := by
  have hz := h.ok.turn t
  have hs : 1 ≤ (z.turn t).s.st := by have := h.ok.met.st0; show 1 ≤ z.s.st + 1; omega
  have hx := h.fit.more (Nat.le_succ k)
  have hw : WsOk (z.turn t).ws := h.ws
  obtain ⟨h1, h2⟩ := hx.stepZ hz rfl h.ok.hl h.ok.h1 h.ok.h8 hw hs
  obtain ⟨h3, h4⟩ := h.rng.step (z := z.turn t) h.xs c
  refine ⟨(hz.stepP x).more (by omega), h1, ?_, h3, h4⟩
  rw [h2]
  exact (hx.step (z := z.turn t) rfl h.ok.hl h.ok.h1 h.ok.h8 hw hs).more (by omega)
def upq : Cfg := ⟨4, 2, 8, 1, 0, 0⟩
theorem upq_fits : upq.fits = true := by decide
def upl : List Ins := [⟨16, 0⟩, ⟨1, 1⟩, ⟨1, 7⟩, ⟨18, 0⟩, ⟨1, 1⟩, ⟨17, 0⟩, ⟨21, 0⟩, ⟨19, 0⟩]
theorem upl_ok : (checkM upl).1 = 0 := by decide +kernel
def uG (s : SSt × Pg) : SSt × Pg := ((s.2.step upq (s.1.turn 1)).z, (s.2.step upq (s.1.turn 1)).x)
def uP : Nat → SSt × Pg
  | 0 => (SSt.zero upq, Pg.new 1 upl)
  | j + 1 => uG (uP j)
theorem Pg.fit_new {th : Int} (h1 : 1 ≤ th) (h8 : th ≤ 8) (c : Cfg) {l : List Ins} (hc : (checkM l).1 = 0) {n : Nat} (hn : 1 ≤ n) (k : Nat) : (Pg.new th l).fit c n k :=
  ⟨Tt.fit_new h1 h8 c hn k, ⟨hc, Int.le_refl _, Int.natCast_nonneg _, Int.le_refl _, Int.natCast_nonneg _, Nat.zero_le _, rfl, Nat.zero_le _, rfl, Int.le_refl _, Int.le_refl _, Int.natCast_nonneg _, Nat.zero_le _⟩, fun h => absurd rfl h, fun h => (by cases h), trivial⟩
theorem Team1.new {c : Cfg} (hf : c.fits = true) {th : Int} (h1 : 1 ≤ th) (h8 : th ≤ 8) {l : List Ins} (hc : (checkM l).1 = 0) (hr : ∀ i ∈ l, I64 i.a) : Team1 c (SSt.zero c) (Pg.new th l) 0 :=
  have h0 := SSt.ok_zero c hf 0
  ⟨h0, WsOk.rep _, Pg.fit_new h1 h8 c hc h0.h1 0, Pg.rng_new th hr, All64.rep _⟩
theorem uP_ok : ∀ j, Team1 upq (uP j).1 (uP j).2 (5 * j)
  | 0 => Team1.new upq_fits (by decide) (by decide) upl_ok (by
      intro i hi
      simp only [upl, List.mem_cons, List.not_mem_nil, or_false] at hi
      rcases hi with rfl | rfl | rfl | rfl | rfl | rfl | rfl | rfl <;> exact ⟨by decide, by decide⟩)
  | j + 1 => by
    have := (uP_ok j).step 1
    rw [show 5 * (j + 1) = 5 * j + 5 by omega]
    exact this
theorem up_end : (uP 200).2.dn = true ∧ (uP 200).2.er = 0 ∧ (uP 200).2.td = [7] ∧ (uP 200).1.xs = [0, 7, 0, 0] := ⟨by decide +kernel, by decide +kernel, by decide +kernel, by decide +kernel⟩
end Go.Proofs.YthbcbjkgjgmegaaGreat

namespace Go.Proofs.YthbcbjkgjgmegaaGreat
open Go.RowKit
set_option linter.unusedVariables false
set_option linter.unusedSimpArgs false
attribute [local go_sem ↓] Go.wp_at_zero Go.wp_at_succ
theorem mem_end {o w : World} {pre : List It} {B : It} {R : List It} (h : St o (pre ++ B :: R) w) : B.P w := h.all B (by simp)
theorem upl_in {o W : World} {L : Nat} {pre R : List It} (h : St o (pre ++ boxI L #[.int .i64 16, .int .i64 0, .int .i64 1, .int .i64 1, .int .i64 1, .int .i64 7, .int .i64 18, .int .i64 0, .int .i64 1, .int .i64 1, .int .i64 17, .int .i64 0, .int .i64 21, .int .i64 0, .int .i64 19, .int .i64 0] 79 :: R) W) : IIn W (some ⟨L, 0, none⟩) 8 upl := by
  have q := mem_end h
  refine ⟨rfl, fun _ => ⟨L, 0, rfl, fun j u hu => ?_⟩⟩
  rw [Nat.zero_add]
  refine (cell_of_heap q).trans ?_
  rw [show (#[.int .i64 16, .int .i64 0, .int .i64 1, .int .i64 1, .int .i64 1, .int .i64 7, .int .i64 18, .int .i64 0, .int .i64 1, .int .i64 1, .int .i64 17, .int .i64 0, .int .i64 21, .int .i64 0, .int .i64 19, .int .i64 0] : Array Value) = (insCells upl).toArray from rfl, List.getElem?_toArray]
  exact hu
theorem turn_st (z : SSt) (h : 0 ≤ z.s.st) (t : Int) : 1 ≤ (z.turn t).s.st := by show 1 ≤ z.s.st + 1; omega
theorem step_done {x : Pg} {c : Cfg} {z : SSt} (h : x.dn = true) : x.step c z = ⟨x, z, 4⟩ := by unfold Pg.step; rw [if_pos h]
set_option maxRecDepth 100000 in
set_option maxHeartbeats 4000000 in
theorem up16_any (w : World) : Calls Tryz.prog 9 #[] w fun e w' => e = .returned (.bool true) ∧ Kept (fun _ => False) w w' := by
  have hq := spNew_st (St.nil w) upq upq_fits
  rw [show upq.val = .agg #[.int .i64 4, .int .i64 2, .int .i64 8, .int .i64 1, .int .i64 0, .int .i64 0] from rfl] at hq
  have hb : ∀ W : World, (Instr.buildSlice 25 8 #[(0, .agg #[.int .i64 16, .int .i64 0]), (1, .agg #[.int .i64 1, .int .i64 1]), (2, .agg #[.int .i64 1, .int .i64 7]), (3, .agg #[.int .i64 18, .int .i64 0]), (4, .agg #[.int .i64 1, .int .i64 1]), (5, .agg #[.int .i64 17, .int .i64 0]), (6, .agg #[.int .i64 21, .int .i64 0]), (7, .agg #[.int .i64 19, .int .i64 0])]).run Tryz.prog W = .ok (.slice (some ⟨W.heap.size, 0, none⟩) 8 8) (W.alloc (.cells #[.int .i64 16, .int .i64 0, .int .i64 1, .int .i64 1, .int .i64 1, .int .i64 7, .int .i64 18, .int .i64 0, .int .i64 1, .int .i64 1, .int .i64 17, .int .i64 0, .int .i64 21, .int .i64 0, .int .i64 19, .int .i64 0] 79)) := fun W => by kernel_rfl
  go_enter Tryz.func9, Tryz.ntmps9
  go_wp2_with fail
  refine hq.mono ?_
  rintro e w1 ⟨A, rfl, s1⟩
  clear hq
  unfold spp
  have s2 := (s1.box #[.int .i64 16, .int .i64 0, .int .i64 1, .int .i64 1, .int .i64 1, .int .i64 7, .int .i64 18, .int .i64 0, .int .i64 1, .int .i64 1, .int .i64 17, .int .i64 0, .int .i64 21, .int .i64 0, .int .i64 19, .int .i64 0] 79).swap
  have hq := pNew_ok (th := 1) (l := upl) (la := some ⟨w1.heap.size, 0, none⟩) (n := 8) (lc := 8) s2 upq_fits (by decide) (by decide) (fun W pre h => upl_in h) (fun e => by cases e) upl_ok
  unfold spp at hq
  clear s1 s2
  go_wp2_with (simp only [hb])
  refine hq.mono ?_
  rintro e w3 ⟨X, rfl, s3⟩
  clear hq
  have hq := pNew_out A.sp 9 (by decide) (.slice (some ⟨w1.heap.size, 0, none⟩) 8 8) w3
  go_wp2_with fail
  refine hq.mono ?_
  rintro e w4 ⟨rfl, rfl⟩
  clear hq hb
  generalize w1.heap.size = L at *
  have HS : Hid (PH w upq A X [boxI L #[.int .i64 16, .int .i64 0, .int .i64 1, .int .i64 1, .int .i64 1, .int .i64 7, .int .i64 18, .int .i64 0, .int .i64 1, .int .i64 1, .int .i64 17, .int .i64 0, .int .i64 21, .int .i64 0, .int .i64 19, .int .i64 0] 79] (uP 0).1 (uP 0).2 w4) := s3
  clear s3
  go_wp2_with fail
  go_loopw [8, 55, 56, 57, 58, 59, 60, 61, 62] (fun i _ _ _ _ _ _ _ _ wr => ∃ j : Nat, i = .int .i64 j ∧ j ≤ 200 ∧ Hid (PH w upq A X [boxI L #[.int .i64 16, .int .i64 0, .int .i64 1, .int .i64 1, .int .i64 1, .int .i64 7, .int .i64 18, .int .i64 0, .int .i64 1, .int .i64 1, .int .i64 17, .int .i64 0, .int .i64 21, .int .i64 0, .int .i64 19, .int .i64 0] 79] (uP j).1 (uP j).2 wr)) (fun i _ _ _ _ _ _ _ _ _ => 200 - (intOf i).toNat)
  case atStart => exact ⟨0, rfl, by omega, HS⟩
  case round =>
    clear HS
    obtain ⟨j, rfl, hj, HR⟩ := hrel
    have ht := uP_ok j
    by_cases hlt : j < 200
    · have h1 : (j : Int) < 200 := by omega
      have hq := HR.out.turn ht.ok (by omega) 1
      have HN : Hid (∀ W, PH w upq A X [boxI L #[.int .i64 16, .int .i64 0, .int .i64 1, .int .i64 1, .int .i64 1, .int .i64 7, .int .i64 18, .int .i64 0, .int .i64 1, .int .i64 1, .int .i64 17, .int .i64 0, .int .i64 21, .int .i64 0, .int .i64 19, .int .i64 0] 79] ((uP j).2.step upq ((uP j).1.turn 1)).z ((uP j).2.step upq ((uP j).1.turn 1)).x W → PH w upq A X [boxI L #[.int .i64 16, .int .i64 0, .int .i64 1, .int .i64 1, .int .i64 1, .int .i64 7, .int .i64 18, .int .i64 0, .int .i64 1, .int .i64 1, .int .i64 17, .int .i64 0, .int .i64 21, .int .i64 0, .int .i64 19, .int .i64 0] 79] (uP (j + 1)).1 (uP (j + 1)).2 W) := fun W h => h
      have HT := hid ht
      clear HR ht
      generalize uP j = s at *
      unfold spp at hq
      go_wp2_with fail
      refine hq.mono ?_
      rintro e w5 ⟨rfl, s5⟩
      clear hq
      have hq := s5.step (HT.out.fit.more (Nat.le_succ _)) HT.out.rng (HT.out.ok.turn 1) (by omega) upq_fits rfl HT.out.ws (turn_st _ HT.out.ok.met.st0 1)
      clear s5
      have HN' := HN
      generalize (s.2.step upq (s.1.turn 1)).a = an at *
      go_wp2_with fail
      refine hq.mono ?_
      rintro e w6 ⟨rfl, s6⟩
      have H6 := hid (HN'.out _ s6)
      clear hq s6 HT HN HN'
      go_wp2_with fail
      go_roundw
      case rel => exact ⟨j + 1, by go_num, by omega, H6⟩
      case measure => simp [intOf]; omega
    · obtain rfl : j = 200 := by omega
      clear hlt hj
      obtain ⟨e1, e2, e3, e4⟩ := up_end
      have hst : 1 ≤ (uP 200).1.s.st := by decide +kernel
      generalize uP 200 = s at *
      obtain ⟨z, x⟩ := s
      simp only at *
      have hq := HR.out.state ht.fit.co (by omega)
      clear HR
      go_wp2_with fail
      refine hq.mono ?_
      rintro e w5 ⟨vs, vt, vh, rfl, s5⟩
      clear hq
      have hone : ∃ ga gc, vt = .slice (some ⟨ga, 0, none⟩) 1 gc ∧ w5.cell? ⟨ga, 0, none⟩ = some (.int .i64 7) := by
        have q := s5.get 1 (show _ = some (ownI 2 1 vt x.td.length (clCells x.td)) from rfl)
        have q : w5.ownsRow 0 2 1 vt 1 [.int .i64 7] := by rw [e3] at q; exact q
        obtain ⟨g, cap, e, _, _⟩ := q.form (by decide)
        subst e
        exact ⟨g, cap, rfl, q.cellAt 0 (by decide)⟩
      obtain ⟨ga, gc, rfl, ct0⟩ := hone
      obtain ⟨pa, pc, rfl⟩ := own_form (s5.get 2 (show _ = some (ownI 2 1 vs x.fm.st.length (clCells x.fm.st)) from rfl))
      obtain ⟨qa, qc, rfl⟩ := own_form (s5.get 0 (show _ = some (ownI 2 1 vh x.hd.length (clCells x.hd)) from rfl))
      rw [e1, e2]
      have s6 := s5.box #[.int .i64 x.fm.pl, .slice pa x.fm.st.length pc, .int .i64 (x.fm.lo.getD 0 0), .int .i64 (x.fm.lo.getD 1 0), .int .i64 (x.fm.lo.getD 2 0), .int .i64 (x.fm.lo.getD 3 0), .int .i64 (x.fm.lo.getD 4 0), .int .i64 (x.fm.lo.getD 5 0), .int .i64 (x.fm.lo.getD 6 0), .int .i64 (x.fm.lo.getD 7 0), .slice (some ⟨ga, 0, none⟩) 1 gc, .slice qa x.hd.length qc, .bool x.inside, .int .i64 x.sm, .int .i64 x.tr, .bool true, .int .i64 0] 40
      have HZ : Hid (Team1 upq z x (5 * 200) ∧ x.dn = true ∧ z.xs = [0, 7, 0, 0] ∧ 1 ≤ z.s.st ∧ x.td = [7]) := ⟨ht, e1, e4, hst, e3⟩
      clear s5 ht e1 e2 e3 e4 hst
      have H6 := hid s6
      clear s6
      generalize x.fm.lo.getD 0 0 = b0 at *
      generalize x.fm.lo.getD 1 0 = b1 at *
      generalize x.fm.lo.getD 2 0 = b2 at *
      generalize x.fm.lo.getD 3 0 = b3 at *
      generalize x.fm.lo.getD 4 0 = b4 at *
      generalize x.fm.lo.getD 5 0 = b5 at *
      generalize x.fm.lo.getD 6 0 = b6 at *
      generalize x.fm.lo.getD 7 0 = b7 at *
      generalize x.fm.pl = pl at *
      generalize x.sm = sm at *
      generalize x.tr = tr at *
      generalize x.inside = inn at *
      generalize hns : x.fm.st.length = ns at *
      generalize hnh : x.hd.length = nh at *
      have HNS : Hid (x.fm.st.length = ns ∧ x.hd.length = nh) := ⟨hns, hnh⟩
      clear hns hnh
      go_upto_region 15 with fail
      have s6 := H6.out
      clear H6
      clear ct0
      generalize w5.alloc (.cells #[.int .i64 pl, .slice pa ns pc, .int .i64 b0, .int .i64 b1, .int .i64 b2, .int .i64 b3, .int .i64 b4, .int .i64 b5, .int .i64 b6, .int .i64 b7, .slice (some ⟨ga, 0, none⟩) 1 gc, .slice qa nh qc, .bool inn, .int .i64 sm, .int .i64 tr, .bool true, .int .i64 0] 40) = w6 at *
      generalize w5.heap.size = B1 at *
      have hq := s6.view HZ.out.1.ok
      unfold spp at hq
      clear s6
      go_wp2_with fail
      refine hq.mono ?_
      rintro e w7 ⟨va, vs2, rfl, s7⟩
      clear hq
      have hva : ∃ ca cc, va = .slice (some ⟨ca, 0, none⟩) 4 cc := by
        have q := s7.get 0 (show _ = some (ownI 2 1 va z.xs.length (clCells z.xs)) from rfl)
        have q : w7.ownsRow 0 2 1 va 4 [.int .i64 0, .int .i64 7, .int .i64 0, .int .i64 0] := by rw [HZ.out.2.2.1] at q; exact q
        obtain ⟨g, cap, e, _, _⟩ := q.form (by decide)
        exact ⟨g, cap, e⟩
      obtain ⟨ca, cc, rfl⟩ := hva
      obtain ⟨sa, sc, rfl⟩ := own_form (s7.get 1 (show _ = some (ownI 249 8 vs2 z.hs.length (slCells (slots z.hs z.ws))) from rfl))
      have H8 := hid (s7.box #[.slice (some ⟨ca, 0, none⟩) 4 cc, .int .i64 z.x.n, .int .i64 z.x.o, .slice sa z.hs.length sc] 73)
      clear s7
      generalize z.x.n = gn at *
      generalize z.x.o = go at *
      go_upto_region 16 with fail
      have s8 := H8.out
      clear H8
      generalize w7.alloc (.cells #[.slice (some ⟨ca, 0, none⟩) 4 cc, .int .i64 gn, .int .i64 go, .slice sa z.hs.length sc] 73) = w8 at *
      generalize w7.heap.size = B2 at *
      have hq := s8.step HZ.out.1.fit HZ.out.1.rng HZ.out.1.ok (by omega) upq_fits rfl HZ.out.1.ws HZ.out.2.2.2.1
      rw [step_done HZ.out.2.1] at hq
      simp only at hq
      clear s8
      go_wp2_with fail
      refine hq.mono ?_
      rintro e w9 ⟨rfl, s9⟩
      clear hq
      have hq := s9.done
      rw [HZ.out.2.1] at hq
      go_wp2_with fail
      refine hq.mono ?_
      rintro e w10 ⟨rfl, rfl⟩
      clear hq
      have x15 : w10.cell? ⟨B1, 15, none⟩ = some (.bool true) := s9.cell 3 rfl 15
      have x16 : w10.cell? ⟨B1, 16, none⟩ = some (.int .i64 0) := s9.cell 3 rfl 16
      have x10 : w10.cell? ⟨B1, 10, none⟩ = some (.slice (some ⟨ga, 0, none⟩) 1 gc) := s9.cell 3 rfl 10
      have v0 : w10.cell? ⟨B2, 0, none⟩ = some (.slice (some ⟨ca, 0, none⟩) 4 cc) := s9.cell 0 rfl 0
      have y0 : w10.cell? ⟨ga, 0, none⟩ = some (.int .i64 7) := by
        have q := s9.get 5 (show _ = some (ownI 2 1 (.slice (some ⟨ga, 0, none⟩) 1 gc) x.td.length (clCells x.td)) from rfl)
        have q : w10.ownsRow 0 2 1 (.slice (some ⟨ga, 0, none⟩) 1 gc) 1 [.int .i64 7] := by rw [HZ.out.2.2.2.2] at q; exact q
        exact q.cellAt 0 (by decide)
      have y1 : w10.cell? ⟨ca, 1, none⟩ = some (.int .i64 7) := by
        have q := s9.get 1 (show _ = some (ownI 2 1 (.slice (some ⟨ca, 0, none⟩) 4 cc) z.xs.length (clCells z.xs)) from rfl)
        have q : w10.ownsRow 0 2 1 (.slice (some ⟨ca, 0, none⟩) 4 cc) 4 [.int .i64 0, .int .i64 7, .int .i64 0, .int .i64 0] := by rw [HZ.out.2.2.1] at q; exact q
        exact q.cellAt 1 (by decide)
      have HK := hid s9.same
      clear s9 HZ HNS
      go_wp2
      go_ret
      exact ⟨rfl, HK.out⟩
end Go.Proofs.YthbcbjkgjgmegaaGreat
