/- Steps of a begin. Steps of a read. Steps of a commit, of an abort. A step of a thread, whatever is under way. -/
import Derived.Test.YthbcbjkgjgmegaaGreatTxC
import Derived.Test.YthbcbjkgjgmegaaGreatTxG
namespace Go.Proofs.YthbcbjkgjgmegaaGreat
open Go.RowKit
set_option linter.unusedVariables false
set_option linter.unusedSimpArgs false
attribute [local go_sem ↓] Go.wp_at_zero Go.wp_at_succ
section
variable {o w : World} {its R : List It} {A : Ad} {c : Cfg} {z : SSt} {v u : Value} {P : TA} {x : Tt} {cs : Array Value} {df : Int} {wt rds : List Pr} {tI dI : It} {dg tv rv : Value} {th l1 l2 l3 sp : Int} {f : Frm}
/-- What the next read goes out from is stored. -/
theorem tFromSet (h : St o (tG c P (tC A P th dg l1 l2 l3 sp tv f rv) df wt rds tI dI ++ R) w) (a b d : Int) (s : Sg) : St o (tG c P (tC A P th dg l1 l2 l3 sp tv ⟨a, b, d, s⟩ rv) df wt rds tI dI ++ R) (((((w.setCell ⟨P.T, 9, none⟩ (.int .i64 a)).setCell ⟨P.T, 10, none⟩ (.int .i64 b)).setCell ⟨P.T, 11, none⟩ (.int .i64 d)).setCell ⟨P.T, 12, none⟩ (.int .u64 s.lo)).setCell ⟨P.T, 13, none⟩ (.int .u64 s.hi)) :=
  ((((h.write 0 tAt0 9 (.int .i64 a)).write 0 rfl 10 (.int .i64 b)).write 0 rfl 11 (.int .i64 d)).write 0 rfl 12 (.int .u64 s.lo)).write 0 rfl 13 (.int .u64 s.hi)

set_option maxRecDepth 100000 in
set_option maxHeartbeats 2000000 in
theorem st_beg {b : Bg} (h : St o (tG c P (tC A P th dg l1 l2 l3 sp (tlV P sp) f rv) df wt rds (tlI A P th sp) (bgI P.K A.t b) ++ spI A c z v u :: R) w) (hs : sp ≠ 0) {n : Nat} (ok : z.ok c n) (hn : n ≤ 1000000000) (hb : b.fine)
    {Q : Ending → World → Prop}
    (q1 : (b.next z).st ≠ 3 → ∀ v' w', St o (tG c P (tC A P th dg l1 l2 l3 sp (tlV P sp) f rv) df wt rds (tlI A P th sp) (bgI P.K A.t (b.next z)) ++ spI A c (z.goes b) v' u :: R) w' → Q (.returned (.tuple #[.int .i64 b.ans, .iface 318 (.agg #[.pointer (some ⟨P.K, 0, none⟩)])])) w')
    (q2 : (b.next z).st = 3 → (b.next z).e = 0 → ∀ v' u' w', St o (tG c P (tC A P th dg 1 0 0 sp (tlV P sp) ⟨(b.next z).sl, (b.next z).gn, 1, Sg.zero⟩ rv) df wt rds (tlI A P th sp) (joinI []) ++ spI A c ((z.goes b).noted ⟨1, 0, th, sp, 0, 0, false, (z.goes b).x.n, 0, 0⟩) v' u' :: R) w' → Q (.returned (.tuple #[.int .i64 b.ans, .iface 427 (.agg #[])])) w')
    (q3 : (b.next z).st = 3 → (b.next z).e ≠ 0 → ∀ v' u' w', St o (tG c P (tC A P th dg 1 (b.next z).e 0 sp (tlV P sp) f rv) df wt rds (tlI A P th sp) (joinI []) ++ spI A c (if (b.next z).e = 6 then (z.goes b).noted ⟨6, 0, th, sp, 0, 0, false, (z.goes b).x.n, 6, 0⟩ else z.goes b) v' u' :: R) w' → Q (.returned (.tuple #[.int .i64 b.ans, .iface 200 (.agg #[])])) w') :
    Calls Tryz.prog 356 #[.agg #[.pointer (some ⟨P.K, 0, none⟩)], .pointer (some ⟨P.T, 0, none⟩)] w Q := by
  have h0 := h.box #[.pointer (some ⟨P.K, 0, none⟩)] 318
  have hq := bgStep h0 7 6 (by decide) rfl rfl ok (by omega) hb
  have hev : (z.goes b).ev.length ≤ 2000000000 := by
    have e : (z.goes b).ev = z.ev := by unfold SSt.goes; split <;> (try split) <;> (try split) <;> rfl
    rw [e]
    have := ok.el
    omega
  have d0 : (w.alloc (.cells #[.pointer (some ⟨P.K, 0, none⟩)] 318)).cell? ⟨w.heap.size, 0, none⟩ = some (.pointer (some ⟨P.K, 0, none⟩)) := h0.cell 0 rfl 0
  clear h ok h0
  generalize z.goes b = z' at *
  generalize b.next z = b' at *
  have Q1 := hid q1
  have Q2 := hid q2
  have Q3 := hid q3
  clear q1 q2 q3
  generalize b.ans = an at *
  go_enter Tryz.func356, Tryz.ntmps356
  go_upto_region 1 with fail
  generalize w.alloc (.cells #[.pointer (some ⟨P.K, 0, none⟩)] 318) = W0 at *
  generalize w.heap.size = B at *
  go_wp2_with fail
  refine hq.mono ?_
  rintro e w1 ⟨rfl, v', s1⟩
  clear hq d0
  have s1 : St o (boxI B #[.pointer (some ⟨P.K, 0, none⟩)] 318 :: (tG c P (tC A P th dg l1 l2 l3 sp (tlV P sp) f rv) df wt rds (tlI A P th sp) (bgI P.K A.t b') ++ spI A c z' v' u :: R)) w1 := s1
  have d0 : w1.cell? ⟨B, 0, none⟩ = some (.pointer (some ⟨P.K, 0, none⟩)) := s1.cell 0 rfl 0
  have hd := bgDone s1 6 rfl
  by_cases h3 : b'.st = 3
  · have e3 : (b'.st == 3) = true := by simp [h3]
    rw [e3] at hd
    have hsl := bgSlot s1 6 rfl
    have HS1 := hid (tDrop s1.pop)
    clear s1 e3
    go_wp2_with fail
    refine hd.mono ?_
    rintro e wq ⟨rfl, rfl⟩
    clear hd
    by_cases he : b'.e = 0
    · have q1 : b'.slotA = b'.sl := if_pos ⟨h3, he⟩
      have q2 : b'.slotB = b'.gn := if_pos ⟨h3, he⟩
      have q3 : b'.slotE = 0 := (if_pos h3).trans he
      rw [q1, q2, q3] at hsl
      clear q1 q2 q3
      go_wp2_with fail
      refine hsl.mono ?_
      rintro e w2 ⟨rfl, q, rfl⟩
      clear hsl d0
      have s2 := HS1.out.calm ((Kept.refl _ wq).drewN q)
      generalize wq.drewN q = w2 at *
      have a4 : w2.cell? ⟨P.T, 4, none⟩ = some (.int .i64 l1) := tCell s2 4
      have a5 : w2.cell? ⟨P.T, 5, none⟩ = some (.int .i64 l2) := tCell s2 5
      have a6 : w2.cell? ⟨P.T, 6, none⟩ = some (.int .i64 l3) := tCell s2 6
      have b4 := tFrozen s2 4
      have b5 := tFrozen s2 5
      have b6 := tFrozen s2 6
      have s3 := tLastSet s2 1 0 0
      clear s2 HS1
      go_upto_region 8 with fail
      generalize (((w2.setCell ⟨P.T, 4, none⟩ (.int .i64 1)).setCell ⟨P.T, 5, none⟩ (.int .i64 0)).setCell ⟨P.T, 6, none⟩ (.int .i64 0)) = w3 at *
      clear a4 a5 a6 b4 b5 b6
      have a9 : w3.cell? ⟨P.T, 9, none⟩ = some (.int .i64 f.sl) := tCell s3 9
      have a10 : w3.cell? ⟨P.T, 10, none⟩ = some (.int .i64 f.gn) := tCell s3 10
      have a11 : w3.cell? ⟨P.T, 11, none⟩ = some (.int .i64 f.sn) := tCell s3 11
      have a12 : w3.cell? ⟨P.T, 12, none⟩ = some (.int .u64 f.sg.lo) := tCell s3 12
      have a13 : w3.cell? ⟨P.T, 13, none⟩ = some (.int .u64 f.sg.hi) := tCell s3 13
      have b9 := tFrozen s3 9
      have b10 := tFrozen s3 10
      have b11 := tFrozen s3 11
      have b12 := tFrozen s3 12
      have b13 := tFrozen s3 13
      have s4 : St o (tG c P (tC A P th dg 1 0 0 sp (tlV P sp) ⟨b'.sl, b'.gn, 1, Sg.zero⟩ rv) df wt rds (tlI A P th sp) (joinI []) ++ spI A c z' v' u :: R) (((((w3.setCell ⟨P.T, 9, none⟩ (.int .i64 b'.sl)).setCell ⟨P.T, 10, none⟩ (.int .i64 b'.gn)).setCell ⟨P.T, 11, none⟩ (.int .i64 1)).setCell ⟨P.T, 12, none⟩ (.int .u64 0)).setCell ⟨P.T, 13, none⟩ (.int .u64 0)) := tFromSet s3 b'.sl b'.gn 1 Sg.zero
      clear s3
      go_upto_region 9 with fail
      generalize (((((w3.setCell ⟨P.T, 9, none⟩ (.int .i64 b'.sl)).setCell ⟨P.T, 10, none⟩ (.int .i64 b'.gn)).setCell ⟨P.T, 11, none⟩ (.int .i64 1)).setCell ⟨P.T, 12, none⟩ (.int .u64 0)).setCell ⟨P.T, 13, none⟩ (.int .u64 0)) = w4 at *
      clear a9 a10 a11 a12 a13 b9 b10 b11 b12 b13
      have c8 : w4.cell? ⟨P.T, 8, none⟩ = some (.func (.func 244) #[] #[.pointer (some ⟨P.c1, 0, none⟩), .pointer (some ⟨P.c2, 0, none⟩), .pointer (some ⟨P.c3, 0, none⟩)]) := (tCell s4 8).trans (tlV_on hs)
      have hgn : Calls Tryz.prog 360 #[.pointer (some ⟨P.T, 0, none⟩)] w4.drew fun e w' => e = .returned (.int .i64 z'.x.n) ∧ w'.cell? ⟨P.T, 8, none⟩ = some (.func (.func 244) #[] #[.pointer (some ⟨P.c1, 0, none⟩), .pointer (some ⟨P.c2, 0, none⟩), .pointer (some ⟨P.c3, 0, none⟩)]) ∧ Hid (St o (tG c P (tC A P th dg 1 0 0 sp (tlV P sp) ⟨b'.sl, b'.gn, 1, Sg.zero⟩ rv) df wt rds (tlI A P th sp) (joinI []) ++ spI A c z' v' u :: R) w') := by
        refine (tGateNow s4.drew).mono ?_
        rintro e w' ⟨he, s⟩
        exact ⟨he, (tCell s 8).trans (tlV_on hs), s⟩
      have htl : ∀ W, Hid (St o (tG c P (tC A P th dg 1 0 0 sp (tlV P sp) ⟨b'.sl, b'.gn, 1, Sg.zero⟩ rv) df wt rds (tlI A P th sp) (joinI []) ++ spI A c z' v' u :: R) W) → Calls Tryz.prog 244 #[.agg #[.int .i64 1, .int .i64 0, .int .i64 0, .int .i64 0, .int .i64 0, .int .i64 0, .bool false, .int .i64 z'.x.n, .int .i64 0, .int .i64 0], .pointer (some ⟨P.c1, 0, none⟩), .pointer (some ⟨P.c2, 0, none⟩), .pointer (some ⟨P.c3, 0, none⟩)] W fun e w' => e = .returned (.tuple #[]) ∧ w'.cell? ⟨P.T, 8, none⟩ = some (.func (.func 244) #[] #[.pointer (some ⟨P.c1, 0, none⟩), .pointer (some ⟨P.c2, 0, none⟩), .pointer (some ⟨P.c3, 0, none⟩)]) ∧ ∃ u', Hid (St o (tG c P (tC A P th dg 1 0 0 sp (tlV P sp) ⟨b'.sl, b'.gn, 1, Sg.zero⟩ rv) df wt rds (tlI A P th sp) (joinI []) ++ spI A c (z'.noted ⟨1, 0, th, sp, 0, 0, false, z'.x.n, 0, 0⟩) v' u' :: R) w') := by
        intro W hW
        refine (tTell hW.out hs hev _ _ _ _ _ _ _).mono ?_
        rintro e w' ⟨he, u', s⟩
        exact ⟨he, (tCell s 8).trans (tlV_on hs), u', s⟩
      clear s4 hs hev
      go_region_held3 (fun W => W.cell? ⟨P.T, 8, none⟩ = some (.func (.func 244) #[] #[.pointer (some ⟨P.c1, 0, none⟩), .pointer (some ⟨P.c2, 0, none⟩), .pointer (some ⟨P.c3, 0, none⟩)])) (first | go_keep | exact rS)
        (first | (go_at_call 360; refine hgn.mono ?_; rintro e w5 ⟨rfl, rS, HS5⟩) | (go_at_call 244; refine (htl _ HS5).mono ?_; rintro e w6 ⟨rfl, rS, u', HS6⟩))
      clear hgn htl c8 HS5 rS
      go_wp2
      exact Q2.out h3 he v' u' _ HS6.out
    · have q1 : b'.slotA = 0 := if_neg (fun h => he h.2)
      have q2 : b'.slotB = 0 := if_neg (fun h => he h.2)
      have q3 : b'.slotE = b'.e := if_pos h3
      rw [q1, q2, q3] at hsl
      have e0 : (b'.e == 0) = false := by simpa using he
      clear q1 q2 q3
      have Q4 : Hid (∀ v' u' w', St o (tG c P (tC A P th dg 1 b'.e 0 sp (tlV P sp) f rv) df wt rds (tlI A P th sp) (joinI []) ++ spI A c (if b'.e = 6 then z'.noted ⟨6, 0, th, sp, 0, 0, false, z'.x.n, 6, 0⟩ else z') v' u' :: R) w' → Q (.returned (.tuple #[.int .i64 an, .iface 200 (.agg #[])])) w') := Q3.out h3 he
      clear h3 he Q1 Q2 Q3
      generalize b'.e = er at *
      go_wp2_with fail
      refine hsl.mono ?_
      rintro e w2 ⟨rfl, q, rfl⟩
      clear hsl d0
      have s2 := HS1.out.calm ((Kept.refl _ wq).drewN q)
      generalize wq.drewN q = w2 at *
      have a4 : w2.cell? ⟨P.T, 4, none⟩ = some (.int .i64 l1) := tCell s2 4
      have a5 : w2.cell? ⟨P.T, 5, none⟩ = some (.int .i64 l2) := tCell s2 5
      have a6 : w2.cell? ⟨P.T, 6, none⟩ = some (.int .i64 l3) := tCell s2 6
      have b4 := tFrozen s2 4
      have b5 := tFrozen s2 5
      have b6 := tFrozen s2 6
      have s4 := tLastSet s2 1 er 0
      clear s2 HS1
      by_cases h6 : er = 6
      · subst h6
        go_upto_region 12 with fail
        generalize (((w2.setCell ⟨P.T, 4, none⟩ (.int .i64 1)).setCell ⟨P.T, 5, none⟩ (.int .i64 6)).setCell ⟨P.T, 6, none⟩ (.int .i64 0)) = w4 at *
        clear a4 a5 a6 b4 b5 b6
        have c8 : w4.cell? ⟨P.T, 8, none⟩ = some (.func (.func 244) #[] #[.pointer (some ⟨P.c1, 0, none⟩), .pointer (some ⟨P.c2, 0, none⟩), .pointer (some ⟨P.c3, 0, none⟩)]) := (tCell s4 8).trans (tlV_on hs)
        have hgn : Calls Tryz.prog 360 #[.pointer (some ⟨P.T, 0, none⟩)] w4.drew fun e w' => e = .returned (.int .i64 z'.x.n) ∧ w'.cell? ⟨P.T, 8, none⟩ = some (.func (.func 244) #[] #[.pointer (some ⟨P.c1, 0, none⟩), .pointer (some ⟨P.c2, 0, none⟩), .pointer (some ⟨P.c3, 0, none⟩)]) ∧ Hid (St o (tG c P (tC A P th dg 1 6 0 sp (tlV P sp) f rv) df wt rds (tlI A P th sp) (joinI []) ++ spI A c z' v' u :: R) w') := by
          refine (tGateNow s4.drew).mono ?_
          rintro e w' ⟨he, s⟩
          exact ⟨he, (tCell s 8).trans (tlV_on hs), s⟩
        have htl : ∀ W, Hid (St o (tG c P (tC A P th dg 1 6 0 sp (tlV P sp) f rv) df wt rds (tlI A P th sp) (joinI []) ++ spI A c z' v' u :: R) W) → Calls Tryz.prog 244 #[.agg #[.int .i64 6, .int .i64 0, .int .i64 0, .int .i64 0, .int .i64 0, .int .i64 0, .bool false, .int .i64 z'.x.n, .int .i64 6, .int .i64 0], .pointer (some ⟨P.c1, 0, none⟩), .pointer (some ⟨P.c2, 0, none⟩), .pointer (some ⟨P.c3, 0, none⟩)] W fun e w' => e = .returned (.tuple #[]) ∧ w'.cell? ⟨P.T, 8, none⟩ = some (.func (.func 244) #[] #[.pointer (some ⟨P.c1, 0, none⟩), .pointer (some ⟨P.c2, 0, none⟩), .pointer (some ⟨P.c3, 0, none⟩)]) ∧ ∃ u', Hid (St o (tG c P (tC A P th dg 1 6 0 sp (tlV P sp) f rv) df wt rds (tlI A P th sp) (joinI []) ++ spI A c (z'.noted ⟨6, 0, th, sp, 0, 0, false, z'.x.n, 6, 0⟩) v' u' :: R) w') := by
          intro W hW
          refine (tTell hW.out hs hev _ _ _ _ _ _ _).mono ?_
          rintro e w' ⟨he, u', s⟩
          exact ⟨he, (tCell s 8).trans (tlV_on hs), u', s⟩
        clear s4 hs hev
        go_region_held3 (fun W => W.cell? ⟨P.T, 8, none⟩ = some (.func (.func 244) #[] #[.pointer (some ⟨P.c1, 0, none⟩), .pointer (some ⟨P.c2, 0, none⟩), .pointer (some ⟨P.c3, 0, none⟩)])) (first | go_keep | exact rS)
          (first | (go_at_call 360; refine hgn.mono ?_; rintro e w5 ⟨rfl, rS, HS5⟩) | (go_at_call 244; refine (htl _ HS5).mono ?_; rintro e w6 ⟨rfl, rS, u', HS6⟩))
        clear hgn htl c8 HS5 rS
        go_wp2
        exact Q4.out v' u' _ HS6.out
      · have e6 : (er == 6) = false := by simpa using h6
        have H4 := hid s4
        clear s4
        go_wp2
        refine Q4.out v' u _ ?_
        rw [if_neg h6]
        exact H4.out
  · have e3 : (b'.st == 3) = false := by simpa using h3
    rw [e3] at hd
    have H1 := hid s1.pop
    clear s1 e3
    go_wp2_with (go_at_call 358; refine hd.mono ?_; rintro e wq ⟨rfl, rfl⟩)
    clear hd
    go_quiet (fail)
    go_wp2
    exact Q1.out h3 v' _ (H1.out.calm ((Kept.refl _ wq).drewN _))
end
end Go.Proofs.YthbcbjkgjgmegaaGreat

namespace Go.Proofs.YthbcbjkgjgmegaaGreat
open Go.RowKit
set_option linter.unusedVariables false
set_option linter.unusedSimpArgs false
attribute [local go_sem ↓] Go.wp_at_zero Go.wp_at_succ
theorem buildPr (W : World) (a b : Int) : (Instr.buildSlice 131 1 #[(0, .agg #[.int .i64 a, .int .i64 b])]).run Tryz.prog W = .ok (.slice (some ⟨W.heap.size, 0, none⟩) 1 1) (W.alloc (.cells #[.int .i64 a, .int .i64 b] 220)) := by kernel_rfl
section
variable {o w : World} {its R : List It} {A : Ad} {c : Cfg} {z : SSt} {v u : Value} {P : TA} {x : Tt} {cs : Array Value} {df : Int} {wt rds : List Pr} {tI dI : It} {dg tv rv : Value} {th l1 l2 l3 sp : Int} {f : Frm}
theorem prCells_snoc (l : List Pr) (p : Pr) : prCells (l ++ [p]) = prCells l ++ [.int .i64 p.ce, .int .i64 p.x] := by rw [prCells_append]; rfl
/-- Behind the append the value is among those read. -/
theorem tRead {w2 w1 : World} {X : It} {g cap : Nat} {ob : Obj} (p : Pr) (h : St o (X :: (tG c P (tC A P th dg l1 l2 l3 sp tv f P.rv) df wt rds tI dI ++ R)) w2) (hown : w1.ownsRow 0 220 2 (.slice (some ⟨g, 0, none⟩) (rds.length + 1) cap) (rds.length + 1) (prCells rds ++ [.int .i64 p.ce, .int .i64 p.x])) (hgrow : ((w2.alloc ob).drew).grownBy w1 P.rv.ownBlock) (hat : P.rv.ownBlock = some g ∨ g = w2.heap.size + 1) :
    St o (X :: (tG c { P with rv := .slice (some ⟨g, 0, none⟩) (rds.length + 1) cap } (tC A P th dg l1 l2 l3 sp tv f (.slice (some ⟨g, 0, none⟩) (rds.length + 1) cap)) df wt (rds ++ [p]) tI dI ++ R)) (w1.setCell ⟨P.T, 14, none⟩ (.slice (some ⟨g, 0, none⟩) (rds.length + 1) cap)) ∧ w1.cell? ⟨P.T, 14, none⟩ = some P.rv ∧ w1.frozen? ⟨P.T, 14, none⟩ = false := by
  have e := prCells_snoc rds p
  rw [← e] at hown
  have a1 := h.growAtD 4 rfl hown hgrow hat
  have a2 := a1.write 1 rfl 14 (.slice (some ⟨g, 0, none⟩) (rds.length + 1) cap)
  refine ⟨?_, a1.cell 1 rfl 14, a1.frozen 1 rfl 14⟩
  show St o (_ :: _ :: _ :: _ :: ownI 220 2 (.slice (some ⟨g, 0, none⟩) (rds.length + 1) cap) (rds ++ [p]).length (prCells (rds ++ [p])) :: _ :: _ :: R) _
  rw [show (rds ++ [p]).length = rds.length + 1 by simp]
  exact a2

set_option maxRecDepth 100000 in
set_option maxHeartbeats 4000000 in
theorem st_rd {r : Rd} (h : St o (tG c P (tC A P th dg l1 l2 l3 sp (tlV P sp) f P.rv) df wt rds (tlI A P th sp) (rdI P.K A.sp r) ++ spI A c z v u :: R) w) (hs : sp ≠ 0) {n : Nat} (ok : z.ok c n) (hn : n ≤ 1000000000) (hr : r.fit) (hrl : rds.length ≤ 2000000000)
    {Q : Ending → World → Prop}
    (q1 : (r.next z).st ≠ 4 → ∀ v' w', St o (tG c P (tC A P th dg l1 l2 l3 sp (tlV P sp) f P.rv) df wt rds (tlI A P th sp) (rdI P.K A.sp (r.next z)) ++ spI A c (z.reads r) v' u :: R) w' → Q (.returned (.tuple #[.int .i64 (r.ans z), .iface 323 (.agg #[.pointer (some ⟨P.K, 0, none⟩), .int .i64 r.ce])])) w')
    (q2 : (r.next z).st = 4 → (r.next z).e = 0 → ∀ v' u' rv' w', St o (tG c { P with rv := rv' } (tC A P th dg 2 0 (r.next z).va sp (tlV P sp) ⟨(r.next z).sl, (r.next z).gn, (r.next z).sn, (r.next z).sg⟩ rv') df wt (rds ++ [⟨r.ce, (r.next z).va⟩]) (tlI A P th sp) (joinI []) ++ spI A c ((z.reads r).noted ⟨2, 0, th, sp, r.ce, (r.next z).va, false, (r.next z).sn, 0, 0⟩) v' u' :: R) w' → Q (.returned (.tuple #[.int .i64 (r.ans z), .iface 427 (.agg #[])])) w')
    (q3 : (r.next z).st = 4 → (r.next z).e ≠ 0 → ∀ v' w', St o (tG c P (tC A P th dg l1 l2 l3 sp (tlV P sp) f P.rv) df wt rds (tlI A P th sp) (joinI []) ++ spI A c (z.reads r) v' u :: R) w' → Q (.returned (.tuple #[.int .i64 (r.ans z), .iface 271 (.agg #[.int .i64 2, .int .i64 (r.next z).e, .int .i64 0])])) w') :
    Calls Tryz.prog 367 #[.agg #[.pointer (some ⟨P.K, 0, none⟩), .int .i64 r.ce], .pointer (some ⟨P.T, 0, none⟩)] w Q := by
  obtain ⟨i0, hi0, hz0, hz1, hz2⟩ := info_parts Tryz.infoPr
  have h0 := h.box #[.pointer (some ⟨P.K, 0, none⟩), .int .i64 r.ce] 323
  have hq := rdStep h0 7 6 (by decide) rfl rfl ok (by omega) hr
  have hr4 := (hr.next z).st
  have hev : (z.reads r).ev.length ≤ 2000000000 := by
    have e : (z.reads r).ev = z.ev := by unfold SSt.reads; split <;> (try split) <;> (try split) <;> (try split) <;> rfl
    rw [e]
    have := ok.el
    omega
  have d0 : (w.alloc (.cells #[.pointer (some ⟨P.K, 0, none⟩), .int .i64 r.ce] 323)).cell? ⟨w.heap.size, 0, none⟩ = some (.pointer (some ⟨P.K, 0, none⟩)) := h0.cell 0 rfl 0
  clear h ok h0 hr
  generalize z.reads r = z' at *
  generalize r.next z = r' at *
  generalize r.ans z = an at *
  generalize r.ce = ce at *
  have Q1 := hid q1
  have Q2 := hid q2
  have Q3 := hid q3
  clear q1 q2 q3
  go_enter Tryz.func367, Tryz.ntmps367
  go_upto_region 1 with fail
  generalize w.alloc (.cells #[.pointer (some ⟨P.K, 0, none⟩), .int .i64 ce] 323) = W0 at *
  generalize w.heap.size = B at *
  go_wp2_with fail
  refine hq.mono ?_
  rintro e w1 ⟨rfl, v', s1⟩
  clear hq d0
  have s1 : St o (boxI B #[.pointer (some ⟨P.K, 0, none⟩), .int .i64 ce] 323 :: (tG c P (tC A P th dg l1 l2 l3 sp (tlV P sp) f P.rv) df wt rds (tlI A P th sp) (rdI P.K A.sp r') ++ spI A c z' v' u :: R)) w1 := s1
  have d0 : w1.cell? ⟨B, 0, none⟩ = some (.pointer (some ⟨P.K, 0, none⟩)) := s1.cell 0 rfl 0
  have d1 : w1.cell? ⟨B, 1, none⟩ = some (.int .i64 ce) := s1.cell 0 rfl 1
  have hd := rdDone s1 6 rfl hr4
  by_cases h4 : r'.st = 4
  · have e4 : (r'.st == 4) = true := by simp [h4]
    rw [e4] at hd
    have hv := rdValue s1 6 rfl
    have HS1 := hid s1
    clear s1 e4
    go_wp2_with fail
    refine hd.mono ?_
    rintro e wq ⟨rfl, rfl⟩
    clear hd
    by_cases he : r'.e = 0
    · have q1 : r'.valX = r'.va := if_pos he
      rw [q1, he] at hv
      have Q4 := hid (Q2.out h4 he)
      clear h4 q1 Q1 Q2 Q3
      go_wp2_with fail
      refine hv.mono ?_
      rintro e w2 ⟨rfl, q, rfl⟩
      clear hv d0
      have s2 := HS1.out.calm ((Kept.refl _ wq).drewN q)
      generalize wq.drewN q = w2 at *
      have d0 : w2.cell? ⟨B, 0, none⟩ = some (.pointer (some ⟨P.K, 0, none⟩)) := s2.cell 0 rfl 0
      have hf := rdFrom s2 6 rfl
      clear s2 HS1 d1
      unfold Rd.fromV at hf
      go_wp2_with fail
      refine hf.mono ?_
      rintro e w3 ⟨rfl, s3⟩
      clear hf d0
      obtain ⟨sl', gn', sn', sg', ce', bi', st', va', er'⟩ := r'
      simp only at he Q4 s3 ⊢
      have s3 := s3.set 6 rfl (Kept.refl _ w3) (A' := joinI []) (fun B hB => by cases hB) List.nodup_nil (fun b hb => by cases hb)
      have s3 : St o (boxI B #[.pointer (some ⟨P.K, 0, none⟩), .int .i64 ce] 323 :: (tG c P (tC A P th dg l1 l2 l3 sp (tlV P sp) f P.rv) df wt rds (tlI A P th sp) (joinI []) ++ spI A c z' v' u :: R)) w3 := s3
      have a9 : w3.cell? ⟨P.T, 9, none⟩ = some (.int .i64 f.sl) := s3.cell 1 rfl 9
      have a10 : w3.cell? ⟨P.T, 10, none⟩ = some (.int .i64 f.gn) := s3.cell 1 rfl 10
      have a11 : w3.cell? ⟨P.T, 11, none⟩ = some (.int .i64 f.sn) := s3.cell 1 rfl 11
      have a12 : w3.cell? ⟨P.T, 12, none⟩ = some (.int .u64 f.sg.lo) := s3.cell 1 rfl 12
      have a13 : w3.cell? ⟨P.T, 13, none⟩ = some (.int .u64 f.sg.hi) := s3.cell 1 rfl 13
      have b9 : w3.frozen? ⟨P.T, 9, none⟩ = false := s3.frozen 1 rfl 9
      have b10 : w3.frozen? ⟨P.T, 10, none⟩ = false := s3.frozen 1 rfl 10
      have b11 : w3.frozen? ⟨P.T, 11, none⟩ = false := s3.frozen 1 rfl 11
      have b12 : w3.frozen? ⟨P.T, 12, none⟩ = false := s3.frozen 1 rfl 12
      have b13 : w3.frozen? ⟨P.T, 13, none⟩ = false := s3.frozen 1 rfl 13
      have s4 : St o (boxI B #[.pointer (some ⟨P.K, 0, none⟩), .int .i64 ce] 323 :: (tG c P (tC A P th dg l1 l2 l3 sp (tlV P sp) ⟨sl', gn', sn', sg'⟩ P.rv) df wt rds (tlI A P th sp) (joinI []) ++ spI A c z' v' u :: R)) (((((w3.setCell ⟨P.T, 9, none⟩ (.int .i64 sl')).setCell ⟨P.T, 10, none⟩ (.int .i64 gn')).setCell ⟨P.T, 11, none⟩ (.int .i64 sn')).setCell ⟨P.T, 12, none⟩ (.int .u64 sg'.lo)).setCell ⟨P.T, 13, none⟩ (.int .u64 sg'.hi)) := ((((s3.write 1 rfl 9 (.int .i64 sl')).write 1 rfl 10 (.int .i64 gn')).write 1 rfl 11 (.int .i64 sn')).write 1 rfl 12 (.int .u64 sg'.lo)).write 1 rfl 13 (.int .u64 sg'.hi)
      clear s3
      go_upto_region 8 with fail
      generalize (((((w3.setCell ⟨P.T, 9, none⟩ (.int .i64 sl')).setCell ⟨P.T, 10, none⟩ (.int .i64 gn')).setCell ⟨P.T, 11, none⟩ (.int .i64 sn')).setCell ⟨P.T, 12, none⟩ (.int .u64 sg'.lo)).setCell ⟨P.T, 13, none⟩ (.int .u64 sg'.hi)) = w4 at *
      clear a9 a10 a11 a12 a13 b9 b10 b11 b12 b13
      have hown4 : w4.ownsRow 0 220 2 P.rv rds.length (prCells rds) := s4.get 4 rfl
      have c14 : w4.cell? ⟨P.T, 14, none⟩ = some P.rv := s4.cell 1 rfl 14
      have f14 : w4.frozen? ⟨P.T, 14, none⟩ = false := s4.frozen 1 rfl 14
      have d1 : w4.cell? ⟨B, 1, none⟩ = some (.int .i64 ce) := s4.cell 0 rfl 1
      have hbs := buildPr w4 ce va'
      have hbs' := buildPr w4.drew ce va'
      obtain ⟨la, lc, hrv⟩ := own_form (show (ownI 220 2 P.rv rds.length (prCells rds)).P w4 from hown4)
      have HV : Hid (∀ g cap w1, w1.ownsRow 0 220 2 (.slice (some ⟨g, 0, none⟩) (rds.length + 1) cap) (rds.length + 1) (prCells rds ++ [.int .i64 ce, .int .i64 va']) → ((w4.alloc (.cells #[.int .i64 ce, .int .i64 va'] 220)).drew).grownBy w1 (Value.ownBlock (.slice la rds.length lc)) → (Value.ownBlock (.slice la rds.length lc) = some g ∨ g = w4.heap.size + 1) →
          St o (boxI B #[.pointer (some ⟨P.K, 0, none⟩), .int .i64 ce] 323 :: (tG c { P with rv := .slice (some ⟨g, 0, none⟩) (rds.length + 1) cap } (tC A P th dg l1 l2 l3 sp (tlV P sp) ⟨sl', gn', sn', sg'⟩ (.slice (some ⟨g, 0, none⟩) (rds.length + 1) cap)) df wt (rds ++ [⟨ce, va'⟩]) (tlI A P th sp) (joinI []) ++ spI A c z' v' u :: R)) (w1.setCell ⟨P.T, 14, none⟩ (.slice (some ⟨g, 0, none⟩) (rds.length + 1) cap)) ∧ w1.cell? ⟨P.T, 14, none⟩ = some (.slice la rds.length lc) ∧ w1.frozen? ⟨P.T, 14, none⟩ = false) := by
        intro g cap w1 p1 p2 p3
        rw [← hrv] at p2 p3 ⊢
        exact tRead ⟨ce, va'⟩ s4 p1 p2 p3
      rw [hrv] at hown4 c14
      have cA : ∀ cc t, (w4.alloc (.cells cc t)).cell? ⟨P.T, 14, none⟩ = some (.slice la rds.length lc) := fun cc t => by rw [World.cell?_of_block (Below.heap_alloc w4 _ P.T (World.block_lt_of_cell? w4 _ c14))]; exact c14
      have fA : ∀ cc t, (w4.alloc (.cells cc t)).frozen? ⟨P.T, 14, none⟩ = false := fun cc t => by rw [frozen?_alloc_cells]; exact f14
      clear s4 hrv
      have HHS : Hid (sp ≠ 0) := hs
      have HEV : Hid (z'.ev.length ≤ 2000000000) := hev
      clear hs hev
      generalize hRN : prCells rds = RC at *
      generalize hRL : rds.length = rn at *
      have HRC : Hid (prCells rds = RC ∧ rds.length = rn) := ⟨hRN, hRL⟩
      clear hRN hRL
      go_region_law
        ((refine step_append_lies _ (by rfl) _ _ _ (by rfl) 0 220 i0 _ 2 16 Tryz.underlying131 hi0 hz0 hz1 hz2 rfl (by omega) (.slice la rn lc) rn RC (by rfl) ((hown4.alloc _).drew)
            ⟨w4.heap.size, 0, none⟩ 1 1 [.int .i64 ce, .int .i64 va'] (by rfl) (by rfl) (World.news_of_block (cs := #[.int .i64 ce, .int .i64 va']) (t := 220) (fr := (0, 0)) (heap_alloc_new w4 _)) (by simp [Value.oneCell'])
            (by omega) (by unfold maxLen; omega) (by omega) (Nat.zero_le _) (w4.heap.size + 1) (by simp) ?_; intro g cap w5 hown1 hgrow hat hlt
          obtain ⟨s6, e14, ef14⟩ := HV.out g cap w5 hown1 hgrow hat
          have H6 := hid s6
          clear HV s6 hown1 hgrow hat hlt))
      all_goals
        clear c14 f14 cA fA d1 hbs hbs' hown4
        generalize w5.setCell ⟨P.T, 14, none⟩ (.slice (some ⟨g, 0, none⟩) (rn + 1) cap) = w6 at *
        have s6 := H6.out
        have a4 : w6.cell? ⟨P.T, 4, none⟩ = some (.int .i64 l1) := s6.cell 1 rfl 4
        have a5 : w6.cell? ⟨P.T, 5, none⟩ = some (.int .i64 l2) := s6.cell 1 rfl 5
        have a6 : w6.cell? ⟨P.T, 6, none⟩ = some (.int .i64 l3) := s6.cell 1 rfl 6
        have b4 : w6.frozen? ⟨P.T, 4, none⟩ = false := s6.frozen 1 rfl 4
        have b5 : w6.frozen? ⟨P.T, 5, none⟩ = false := s6.frozen 1 rfl 5
        have b6 : w6.frozen? ⟨P.T, 6, none⟩ = false := s6.frozen 1 rfl 6
        have s7 : St o (boxI B #[.pointer (some ⟨P.K, 0, none⟩), .int .i64 ce] 323 :: (tG c { P with rv := .slice (some ⟨g, 0, none⟩) (rn + 1) cap } (tC A P th dg 2 0 va' sp (tlV P sp) ⟨sl', gn', sn', sg'⟩ (.slice (some ⟨g, 0, none⟩) (rn + 1) cap)) df wt (rds ++ [⟨ce, va'⟩]) (tlI A P th sp) (joinI []) ++ spI A c z' v' u :: R)) (((w6.setCell ⟨P.T, 4, none⟩ (.int .i64 2)).setCell ⟨P.T, 5, none⟩ (.int .i64 0)).setCell ⟨P.T, 6, none⟩ (.int .i64 va')) := ((s6.write 1 rfl 4 (.int .i64 2)).write 1 rfl 5 (.int .i64 0)).write 1 rfl 6 (.int .i64 va')
        clear s6 H6
        go_upto_region 10 with fail
        generalize (((w6.setCell ⟨P.T, 4, none⟩ (.int .i64 2)).setCell ⟨P.T, 5, none⟩ (.int .i64 0)).setCell ⟨P.T, 6, none⟩ (.int .i64 va')) = w7 at *
        clear a4 a5 a6 b4 b5 b6
        have c8 : w7.cell? ⟨P.T, 8, none⟩ = some (.func (.func 244) #[] #[.pointer (some ⟨P.c1, 0, none⟩), .pointer (some ⟨P.c2, 0, none⟩), .pointer (some ⟨P.c3, 0, none⟩)]) := (s7.cell 1 rfl 8).trans (tlV_on HHS.out)
        have c11 : w7.cell? ⟨P.T, 11, none⟩ = some (.int .i64 sn') := s7.cell 1 rfl 11
        have c1 : w7.cell? ⟨B, 1, none⟩ = some (.int .i64 ce) := s7.cell 0 rfl 1
        have ht : Calls Tryz.prog 244 #[.agg #[.int .i64 2, .int .i64 0, .int .i64 0, .int .i64 0, .int .i64 ce, .int .i64 va', .bool false, .int .i64 sn', .int .i64 0, .int .i64 0], .pointer (some ⟨P.c1, 0, none⟩), .pointer (some ⟨P.c2, 0, none⟩), .pointer (some ⟨P.c3, 0, none⟩)] w7.drew fun e w' => e = .returned (.tuple #[]) ∧ (w'.cell? ⟨P.T, 8, none⟩ = some (.func (.func 244) #[] #[.pointer (some ⟨P.c1, 0, none⟩), .pointer (some ⟨P.c2, 0, none⟩), .pointer (some ⟨P.c3, 0, none⟩)]) ∧ w'.cell? ⟨P.T, 11, none⟩ = some (.int .i64 sn') ∧ w'.cell? ⟨B, 1, none⟩ = some (.int .i64 ce)) ∧ ∃ u', Hid (St o (tG c { P with rv := .slice (some ⟨g, 0, none⟩) (rn + 1) cap } (tC A P th dg 2 0 va' sp (tlV P sp) ⟨sl', gn', sn', sg'⟩ (.slice (some ⟨g, 0, none⟩) (rn + 1) cap)) df wt (rds ++ [⟨ce, va'⟩]) (tlI A P th sp) (joinI []) ++ spI A c (z'.noted ⟨2, 0, th, sp, ce, va', false, sn', 0, 0⟩) v' u' :: R) w') := by
          refine (tell_st s7.drew 7 5 (by decide) rfl rfl HHS.out HEV.out 2 ce va' false sn' 0 0).mono ?_
          rintro e w' ⟨he, u', s⟩
          have s : St o (boxI B #[.pointer (some ⟨P.K, 0, none⟩), .int .i64 ce] 323 :: (tG c { P with rv := .slice (some ⟨g, 0, none⟩) (rn + 1) cap } (tC A P th dg 2 0 va' sp (tlV P sp) ⟨sl', gn', sn', sg'⟩ (.slice (some ⟨g, 0, none⟩) (rn + 1) cap)) df wt (rds ++ [⟨ce, va'⟩]) (tlI A P th sp) (joinI []) ++ spI A c (z'.noted ⟨2, 0, th, sp, ce, va', false, sn', 0, 0⟩) v' u' :: R)) w' := s
          exact ⟨he, ⟨(s.cell 1 rfl 8).trans (tlV_on HHS.out), s.cell 1 rfl 11, s.cell 0 rfl 1⟩, u', s.pop⟩
        clear s7
        go_region_held3 (fun W => W.cell? ⟨P.T, 8, none⟩ = some (.func (.func 244) #[] #[.pointer (some ⟨P.c1, 0, none⟩), .pointer (some ⟨P.c2, 0, none⟩), .pointer (some ⟨P.c3, 0, none⟩)]) ∧ W.cell? ⟨P.T, 11, none⟩ = some (.int .i64 sn') ∧ W.cell? ⟨B, 1, none⟩ = some (.int .i64 ce)) (first | go_keep | exact rS)
          (first | (go_at_call 244; refine ht.mono ?_; rintro e w8 ⟨rfl, rS, u', HS8⟩))
        clear ht c8 c11 c1 rS
        go_wp2
        exact Q4.out v' u' _ _ HS8.out
    · have q1 : r'.valX = 0 := if_neg he
      have e0 : (r'.e != 0) = true := by simpa using he
      rw [q1] at hv
      have Q4 := hid (Q3.out h4 he)
      clear h4 he q1 Q1 Q2 Q3
      generalize r'.e = er at *
      go_wp2_with fail
      refine hv.mono ?_
      rintro e w2 ⟨rfl, q, rfl⟩
      have H2 := hid (tDrop (HS1.out.calm ((Kept.refl _ wq).drewN q)).pop)
      clear hv d0 d1 HS1
      generalize wq.drewN q = w2 at *
      go_wp2
      exact Q4.out v' _ H2.out
  · have e4 : (r'.st == 4) = false := by simpa using h4
    rw [e4] at hd
    have H1 := hid s1.pop
    clear s1 e4
    go_wp2_with (go_at_call 369; refine hd.mono ?_; rintro e wq ⟨rfl, rfl⟩)
    clear hd
    go_quiet (fail)
    go_wp2
    exact Q1.out h4 v' _ (H1.out.calm ((Kept.refl _ wq).drewN _))
end
end Go.Proofs.YthbcbjkgjgmegaaGreat

namespace Go.Proofs.YthbcbjkgjgmegaaGreat
open Go.RowKit
set_option linter.unusedVariables false
set_option linter.unusedSimpArgs false
attribute [local go_sem ↓] Go.wp_at_zero Go.wp_at_succ
def comW (th sp : Int) (y y' : Cm) (z : SSt) : SSt := if y'.won && !y.won then z.noted ⟨4, 0, th, sp, 0, 0, false, y'.num, 0, 0⟩ else z
def comA (th sp : Int) (y' : Cm) (by_ : Int) (z : SSt) : SSt := if y'.done && !(y'.e == 0) then z.noted ⟨5, 0, th, sp, 0, 0, false, 0, y'.e, if y'.e = 7 then by_ else 0⟩ else z
section
variable {o w : World} {its R : List It} {A : Ad} {c : Cfg} {z : SSt} {v u : Value} {P : TA} {x : Tt} {cs : Array Value} {df : Int} {wt rds : List Pr} {tI dI : It} {dg tv rv : Value} {th l1 l2 l3 sp : Int} {f : Frm}

theorem tEnd {S X : It} : (tG c P cs df wt rds tI dI ++ S :: (R ++ [X]))[7 + R.length]? = some X := by
  have e : tG c P cs df wt rds tI dI ++ S :: (R ++ [X]) = (tG c P cs df wt rds tI dI ++ S :: R) ++ [X] := by simp
  rw [e, List.getElem?_append_right (by simp [tG]; omega)]
  have e2 : 7 + R.length - (tG c P cs df wt rds tI dI ++ S :: R).length = 0 := by simp [tG]; omega
  rw [e2]
  rfl
set_option maxRecDepth 100000 in
set_option maxHeartbeats 1000000 in
theorem st_abo {op er xv : Int} (h : St o (tG c P (tC A P th dg l1 l2 l3 sp (tlV P sp) f rv) df wt rds (tlI A P th sp) dI ++ spI A c z v u :: R) w) (hs : sp ≠ 0) {n : Nat} (ok : z.ok c n) (hn : n ≤ 1000000000) (h0 : 0 ≤ f.sl) (h1 : f.sl < z.hs.length) :
    Calls Tryz.prog 345 #[.agg #[.int .i64 op, .int .i64 er, .int .i64 xv], .pointer (some ⟨P.T, 0, none⟩)] w fun e w' => e = .returned (.tuple #[.int .i64 1, .iface 200 (.agg #[])]) ∧ ∃ v' u', St o (tG c P (tC A P th dg op er xv sp (tlV P sp) f rv) df wt rds (tlI A P th sp) dI ++ spI A c ((z.op (freeOp f.gn) f.sl).noted ⟨5, 0, th, sp, 0, 0, false, 0, er, if er = 7 then (nowAt z.hs f.sl).wy else 0⟩) v' u' :: R) w' := by
  have h00 := h.box #[.int .i64 op, .int .i64 er, .int .i64 xv] 271
  have hB : St o ((tG c P (tC A P th dg l1 l2 l3 sp (tlV P sp) f rv) df wt rds (tlI A P th sp) dI ++ spI A c z v u :: (R ++ [boxI w.heap.size #[.int .i64 op, .int .i64 er, .int .i64 xv] 271]))) (w.alloc (.cells #[.int .i64 op, .int .i64 er, .int .i64 xv] 271)) := by
    refine h00.perm ?_
    have := (List.perm_append_comm (l₁ := [boxI w.heap.size #[.int .i64 op, .int .i64 er, .int .i64 xv] 271]) (l₂ := tG c P (tC A P th dg l1 l2 l3 sp (tlV P sp) f rv) df wt rds (tlI A P th sp) dI ++ spI A c z v u :: R))
    simpa using this
  have hq := tDoomer hB ok h0 h1
  have hev : (z.op (freeOp f.gn) f.sl).ev.length ≤ 2000000000 := Nat.le_trans ok.el (Nat.le_trans hn (by decide))
  have HFr : Hid (∀ W, St o (tG c P (tC A P th dg l1 l2 l3 sp (tlV P sp) f rv) df wt rds (tlI A P th sp) dI ++ spI A c z v u :: (R ++ [boxI w.heap.size #[.int .i64 op, .int .i64 er, .int .i64 xv] 271])) W → Calls Tryz.prog 331 #[.pointer (some ⟨P.T, 0, none⟩)] W fun e w' => e = .returned (.tuple #[]) ∧ ∃ v', St o (tG c P (tC A P th dg l1 l2 l3 sp (tlV P sp) f rv) df wt rds (tlI A P th sp) dI ++ spI A c (z.op (freeOp f.gn) f.sl) v' u :: (R ++ [boxI w.heap.size #[.int .i64 op, .int .i64 er, .int .i64 xv] 271])) w') := fun W hW => tFree hW ok hn
  clear h h00 hB h0 h1 ok
  generalize z.op (freeOp f.gn) f.sl = z' at *
  generalize (nowAt z.hs f.sl).wy = WY at *
  obtain ⟨EV, hEV⟩ : ∃ y, y = (if er = 7 then WY else 0) := ⟨_, rfl⟩
  rw [← hEV]
  have HEV := hid hEV
  clear hEV
  go_enter Tryz.func345, Tryz.ntmps345
  go_upto_region 1 with fail
  generalize w.alloc (.cells #[.int .i64 op, .int .i64 er, .int .i64 xv] 271) = W0 at *
  generalize w.heap.size = M at *
  go_wp2_with fail
  refine hq.mono ?_
  rintro e w1 ⟨rfl, s1⟩
  have hq2 := HFr.out _ s1
  clear hq s1 HFr
  go_wp2_with fail
  refine hq2.mono ?_
  rintro e w2 ⟨rfl, v', s2⟩
  clear hq2
  have e0 : w2.cell? ⟨M, 0, none⟩ = some (.int .i64 op) := s2.cell (7 + R.length) tEnd 0
  have e1 : w2.cell? ⟨M, 1, none⟩ = some (.int .i64 er) := s2.cell (7 + R.length) tEnd 1
  have e2 : w2.cell? ⟨M, 2, none⟩ = some (.int .i64 xv) := s2.cell (7 + R.length) tEnd 2
  have a4 : w2.cell? ⟨P.T, 4, none⟩ = some (.int .i64 l1) := tCell s2 4
  have a5 : w2.cell? ⟨P.T, 5, none⟩ = some (.int .i64 l2) := tCell s2 5
  have a6 : w2.cell? ⟨P.T, 6, none⟩ = some (.int .i64 l3) := tCell s2 6
  have b4 := tFrozen s2 4
  have b5 := tFrozen s2 5
  have b6 := tFrozen s2 6
  have s3 := tLastSet s2 op er xv
  clear s2
  go_upto_region 4 with fail
  generalize (((w2.setCell ⟨P.T, 4, none⟩ (.int .i64 op)).setCell ⟨P.T, 5, none⟩ (.int .i64 er)).setCell ⟨P.T, 6, none⟩ (.int .i64 xv)) = w3 at *
  clear a4 a5 a6 b4 b5 b6 e0 e1 e2
  have e1 : w3.cell? ⟨M, 1, none⟩ = some (.int .i64 er) := s3.cell (7 + R.length) tEnd 1
  have hq := tTellAbort s3 hs hev er WY
  rw [← HEV.out] at hq
  clear s3
  go_wp2_with fail
  refine hq.mono ?_
  rintro e w4 ⟨rfl, u', s4⟩
  have H4 : Hid (St o (tG c P (tC A P th dg op er xv sp (tlV P sp) f rv) df wt rds (tlI A P th sp) dI ++ spI A c (z'.noted ⟨5, 0, th, sp, 0, 0, false, 0, er, EV⟩) v' u' :: R) w4) := by
    have p := (List.perm_append_comm (l₁ := tG c P (tC A P th dg op er xv sp (tlV P sp) f rv) df wt rds (tlI A P th sp) dI ++ spI A c (z'.noted ⟨5, 0, th, sp, 0, 0, false, 0, er, EV⟩) v' u' :: R) (l₂ := [boxI M #[.int .i64 op, .int .i64 er, .int .i64 xv] 271]))
    exact (s4.perm (by simpa using p)).pop
  clear s4 hq e1
  go_wp2
  go_ret2
  exact ⟨rfl, v', u', H4.out⟩

set_option maxRecDepth 100000 in
set_option maxHeartbeats 4000000 in
theorem st_com {y : Cm} (h : St o (tG c P (tC A P th dg l1 l2 l3 sp (tlV P sp) f rv) df wt rds (tlI A P th sp) (cmI A P.B P.D y P.vl P.vd P.vv P.dl P.dv) ++ spI A c z v u :: R) w) (hJ : P.B.J = P.J) (hs : sp ≠ 0) {n : Nat} (ok : z.ok c n) (hn : n ≤ 1000000000) (h0 : 0 ≤ f.sl) (h1 : f.sl < z.hs.length) (hf : c.fits = true) (hdf : 0 ≤ df) (hy : y.fit z.hs.length) (hw : WsOk z.ws)
    {Q : Ending → World → Prop}
    (q1 : (y.next c z df).done = false → ∀ D' v' u' vl' vd' vv' dl' dv' w', St o (tG c P (tC A P th dg l1 l2 l3 sp (tlV P sp) f rv) (y.nextDf c z df) wt rds (tlI A P th sp) (cmI A P.B D' (y.next c z df) vl' vd' vv' dl' dv') ++ spI A c (comW th sp y (y.next c z df) (z.commits y)) v' u' :: R) w' → Q (.returned (.tuple #[.int .i64 (y.ans z), .iface 331 (.agg #[.pointer (some ⟨P.B.X, 0, none⟩)])])) w')
    (q2 : (y.next c z df).done = true → ∀ v' u' w', St o (tG c P (tC A P th dg 4 (y.next c z df).e 0 sp (tlV P sp) f rv) (y.nextDf c z df) wt rds (tlI A P th sp) (joinI []) ++ spI A c (comA th sp (y.next c z df) (nowAt z.hs f.sl).wy (comW th sp y (y.next c z df) (z.commits y))) v' u' :: R) w' → Q (.returned (.tuple #[.int .i64 (y.ans z), .iface 200 (.agg #[])])) w') :
    Calls Tryz.prog 376 #[.agg #[.pointer (some ⟨P.B.X, 0, none⟩)], .pointer (some ⟨P.T, 0, none⟩)] w Q := by
  have h00 := h.box #[.pointer (some ⟨P.B.X, 0, none⟩)] 331
  obtain ⟨PP, hPd⟩ : ∃ PP : World → Prop, PP = fun W => St o (boxI w.heap.size #[.pointer (some ⟨P.B.X, 0, none⟩)] 331 :: (tG c P (tC A P th dg l1 l2 l3 sp (tlV P sp) f rv) df wt rds (tlI A P th sp) (cmI A P.B P.D y P.vl P.vd P.vv P.dl P.dv) ++ spI A c z v u :: R)) W := ⟨_, rfl⟩
  have hD : PP (w.alloc (.cells #[.pointer (some ⟨P.B.X, 0, none⟩)] 331)).drew := by rw [hPd]; exact h00.drew
  have CH : Hid (∀ W, PP W → W.cell? ⟨w.heap.size, 0, none⟩ = some (.pointer (some ⟨P.B.X, 0, none⟩)) ∧ PP W) := by
    intro W hW
    have h' := hW
    rw [hPd] at h'
    exact ⟨h'.cell 0 rfl 0, hW⟩
  have CD : Hid (∀ W, PP W → Calls Tryz.prog 346 #[.pointer (some ⟨P.T, 0, none⟩)] W fun e w' => e = .returned (.int .i64 (nowAt z.hs f.sl).wy) ∧ PP w') := by
    intro W hW
    rw [hPd] at hW ⊢
    have p := List.perm_append_comm (l₁ := [boxI w.heap.size #[.pointer (some ⟨P.B.X, 0, none⟩)] 331]) (l₂ := tG c P (tC A P th dg l1 l2 l3 sp (tlV P sp) f rv) df wt rds (tlI A P th sp) (cmI A P.B P.D y P.vl P.vd P.vv P.dl P.dv) ++ spI A c z v u :: R)
    have p2 : (boxI w.heap.size #[.pointer (some ⟨P.B.X, 0, none⟩)] 331 :: (tG c P (tC A P th dg l1 l2 l3 sp (tlV P sp) f rv) df wt rds (tlI A P th sp) (cmI A P.B P.D y P.vl P.vd P.vv P.dl P.dv) ++ spI A c z v u :: R)).Perm (tG c P (tC A P th dg l1 l2 l3 sp (tlV P sp) f rv) df wt rds (tlI A P th sp) (cmI A P.B P.D y P.vl P.vd P.vv P.dl P.dv) ++ spI A c z v u :: (R ++ [boxI w.heap.size #[.pointer (some ⟨P.B.X, 0, none⟩)] 331])) := by simpa using p
    refine (tDoomer (hW.perm p2) ok h0 h1).mono ?_
    rintro e w' ⟨he, s⟩
    exact ⟨he, s.perm p2.symm⟩
  have CW : Hid (∀ W, PP W → Calls Tryz.prog 377 #[.pointer (some ⟨P.B.X, 0, none⟩)] W fun e w' => e = .returned (.bool y.won) ∧ PP w') := by
    intro W hW
    have h' := hW
    rw [hPd] at h'
    refine (cmWon h' 6 rfl).mono ?_
    rintro e w' ⟨he, rfl⟩
    exact ⟨he, hW⟩
  have CS : Hid (∀ W, PP W → Calls Tryz.prog 378 #[.pointer (some ⟨P.B.X, 0, none⟩)] W fun e w' => e = .returned (.int .i64 (y.ans z)) ∧ ∃ D' v' vl' vd' vv' dl' dv', St o (boxI w.heap.size #[.pointer (some ⟨P.B.X, 0, none⟩)] 331 :: (tG c P (tC A P th dg l1 l2 l3 sp (tlV P sp) f rv) (y.nextDf c z df) wt rds (tlI A P th sp) (cmI A P.B D' (y.next c z df) vl' vd' vv' dl' dv') ++ spI A c (z.commits y) v' u :: R)) w') := by
    intro W hW
    rw [hPd] at hW
    refine (cmStep hW 7 2 6 (by decide) (by decide) (by decide) rfl (by rw [hJ]; rfl) rfl hf hdf hy ok (by omega) hw).mono ?_
    rintro e w' ⟨he, D', v', vl', vd', vv', dl', dv', s⟩
    refine ⟨he, D', v', vl', vd', vv', dl', dv', ?_⟩
    rw [hJ] at s
    exact s
  have hev1 : (z.commits y).ev.length ≤ 1999999999 := by
    have := (ok.commits y).el
    omega
  clear h h00 hPd ok h0 h1 hy hw hJ
  have Q1 := hid q1
  have Q2 := hid q2
  clear q1 q2
  generalize hzW : comW th sp y (y.next c z df) (z.commits y) = zW at *
  unfold comW at hzW
  generalize y.next c z df = y' at *
  generalize y.nextDf c z df = df' at *
  generalize z.commits y = z1 at *
  generalize y.ans z = an at *
  generalize (nowAt z.hs f.sl).wy = WY at *
  generalize hwn : y.won = wn at *
  have HZW := hid hzW
  have hEW : zW.ev.length ≤ 2000000000 := by
    rw [← hzW]
    split
    · simp only [SSt.noted, List.length_append, List.length_singleton]; omega
    · omega
  have HEVW := hid hEW
  clear hEW
  clear hwn hzW
  go_enter Tryz.func376, Tryz.ntmps376
  go_upto_region 1 with fail
  generalize w.alloc (.cells #[.pointer (some ⟨P.B.X, 0, none⟩)] 331) = W0 at *
  generalize w.heap.size = M at *
  obtain ⟨m0, _⟩ := CH.out _ hD
  go_region_held3 (fun W => W.cell? ⟨M, 0, none⟩ = some (.pointer (some ⟨P.B.X, 0, none⟩)) ∧ PP W) (exact CH.out _ hD)
    (first | (go_at_call 346; refine (CD.out _ hD).mono ?_; rintro e wx ⟨rfl, hD⟩) | (go_at_call 377; refine (CW.out _ hD).mono ?_; rintro e wx ⟨rfl, hD⟩))
  have hq := CS.out _ hD
  obtain ⟨m1, _⟩ := CH.out _ hD
  clear CH CD CW CS m0 hD
  go_wp2_with fail
  refine hq.mono ?_
  rintro e w2 ⟨rfl, D', v', vl', vd', vv', dl', dv', s2⟩
  clear hq m1
  have d0 : w2.cell? ⟨M, 0, none⟩ = some (.pointer (some ⟨P.B.X, 0, none⟩)) := s2.cell 0 rfl 0
  have hW := cmWon s2 6 rfl
  generalize hyw : y'.won = yw at *
  by_cases hfl : yw = true ∧ wn = false
  · obtain ⟨rfl, rfl⟩ := hfl
    have hzW := HZW.out
    simp only [Bool.not_false, Bool.and_self, if_true] at hzW
    have hN : Calls Tryz.prog 379 #[.pointer (some ⟨P.B.X, 0, none⟩)] w2.drew _ := cmNumber s2.drew 6 rfl
    have c8 : w2.cell? ⟨P.T, 8, none⟩ = some (.func (.func 244) #[] #[.pointer (some ⟨P.c1, 0, none⟩), .pointer (some ⟨P.c2, 0, none⟩), .pointer (some ⟨P.c3, 0, none⟩)]) := (s2.cell 1 rfl 8).trans (tlV_on hs)
    have ht : Calls Tryz.prog 244 #[.agg #[.int .i64 4, .int .i64 0, .int .i64 0, .int .i64 0, .int .i64 0, .int .i64 0, .bool false, .int .i64 y'.num, .int .i64 0, .int .i64 0], .pointer (some ⟨P.c1, 0, none⟩), .pointer (some ⟨P.c2, 0, none⟩), .pointer (some ⟨P.c3, 0, none⟩)] w2.drew fun e w' => e = .returned (.tuple #[]) ∧ (w'.cell? ⟨P.T, 8, none⟩ = some (.func (.func 244) #[] #[.pointer (some ⟨P.c1, 0, none⟩), .pointer (some ⟨P.c2, 0, none⟩), .pointer (some ⟨P.c3, 0, none⟩)]) ∧ w'.cell? ⟨M, 0, none⟩ = some (.pointer (some ⟨P.B.X, 0, none⟩))) ∧ ∃ u', Hid (St o (boxI M #[.pointer (some ⟨P.B.X, 0, none⟩)] 331 :: (tG c P (tC A P th dg l1 l2 l3 sp (tlV P sp) f rv) df' wt rds (tlI A P th sp) (cmI A P.B D' y' vl' vd' vv' dl' dv') ++ spI A c zW v' u' :: R)) w') := by
      refine (tell_st s2.drew 7 5 (by decide) rfl rfl hs (by omega) 4 0 0 false y'.num 0 0).mono ?_
      rintro e w' ⟨he, u', s⟩
      rw [hzW] at s
      have s : St o (boxI M #[.pointer (some ⟨P.B.X, 0, none⟩)] 331 :: (tG c P (tC A P th dg l1 l2 l3 sp (tlV P sp) f rv) df' wt rds (tlI A P th sp) (cmI A P.B D' y' vl' vd' vv' dl' dv') ++ spI A c zW v' u' :: R)) w' := s
      exact ⟨he, ⟨(s.cell 1 rfl 8).trans (tlV_on hs), s.cell 0 rfl 0⟩, u', s⟩
    clear s2 HZW hzW hyw
    go_upto_region 4 with (go_at_call 377; refine hW.mono ?_; rintro e wq ⟨rfl, rfl⟩)
    clear hW
    generalize y'.num = yn at *
    go_region_held3 (fun W => W.cell? ⟨P.T, 8, none⟩ = some (.func (.func 244) #[] #[.pointer (some ⟨P.c1, 0, none⟩), .pointer (some ⟨P.c2, 0, none⟩), .pointer (some ⟨P.c3, 0, none⟩)]) ∧ W.cell? ⟨M, 0, none⟩ = some (.pointer (some ⟨P.B.X, 0, none⟩))) (first | go_keep | exact rS)
      (first | (go_at_call 379; refine hN.mono ?_; rintro e wx2 ⟨rfl, rfl⟩) | (go_at_call 244; refine ht.mono ?_; rintro e w3 ⟨rfl, rS, u', HS3⟩))
    clear hN ht c8 d0 rS
    have s3 := HS3.out
    have hev3 : zW.ev.length ≤ 2000000000 := HEVW.out
    clear HS3
    have hd := cmDone s3 6 rfl
    have d0 : w3.cell? ⟨M, 0, none⟩ = some (.pointer (some ⟨P.B.X, 0, none⟩)) := s3.cell 0 rfl 0
    cases hdn : y'.done with
    | false =>
      rw [hdn] at hd
      have H3 := hid s3.pop
      clear s3
      go_wp2_with (go_at_call 374; refine hd.mono ?_; rintro e wq ⟨rfl, rfl⟩)
      clear hd
      go_quiet (fail)
      go_wp2
      exact Q1.out hdn D' v' u' vl' vd' vv' dl' dv' _ (H3.out.calm ((Kept.refl _ wq).drewN _))
    | true =>
      rw [hdn] at hd
      have hE := cmEnd s3 6 rfl
      have eE : y'.end_ = y'.e := by unfold Cm.end_; rw [hdn]; rfl
      rw [eE] at hE
      clear eE
      have Q3 := hid (Q2.out hdn)
      have H3 := hid (tDrop s3.pop)
      unfold comA at Q3
      rw [hdn] at Q3
      clear s3 hdn Q1 Q2
      generalize y'.e = er at *
      go_wp2_with fail
      refine hd.mono ?_
      rintro e wq1 ⟨rfl, rfl⟩
      clear hd
      go_wp2_with fail
      refine hE.mono ?_
      rintro e wq2 ⟨rfl, rfl⟩
      clear hE d0
      have s4 := H3.out
      have a4 : wq2.cell? ⟨P.T, 4, none⟩ = some (.int .i64 l1) := tCell s4 4
      have a5 : wq2.cell? ⟨P.T, 5, none⟩ = some (.int .i64 l2) := tCell s4 5
      have a6 : wq2.cell? ⟨P.T, 6, none⟩ = some (.int .i64 l3) := tCell s4 6
      have b4 := tFrozen s4 4
      have b5 := tFrozen s4 5
      have b6 := tFrozen s4 6
      have s5 := tLastSet s4 4 er 0
      clear s4 H3
      go_upto_region 8 with fail
      generalize (((wq2.setCell ⟨P.T, 4, none⟩ (.int .i64 4)).setCell ⟨P.T, 5, none⟩ (.int .i64 er)).setCell ⟨P.T, 6, none⟩ (.int .i64 0)) = w5 at *
      clear a4 a5 a6 b4 b5 b6
      have a5 : w5.cell? ⟨P.T, 5, none⟩ = some (.int .i64 er) := tCell s5 5
      by_cases h0 : er = 0
      · subst h0
        have H5 := hid s5
        clear s5
        go_wp2
        exact Q3.out v' u' _ H5.out
      · have b0 : (er != 0) = true := by simpa using h0
        have hq := tTellAbort s5 hs hev3 er WY
        have Q4 : Hid (∀ v' u' w', St o (tG c P (tC A P th dg 4 er 0 sp (tlV P sp) f rv) df' wt rds (tlI A P th sp) (joinI []) ++ spI A c (zW.noted ⟨5, 0, th, sp, 0, 0, false, 0, er, if er = 7 then WY else 0⟩) v' u' :: R) w' → Q (.returned (.tuple #[.int .i64 an, .iface 200 (.agg #[])])) w') := by
          have q := Q3.out
          rw [if_pos (by simp [h0])] at q
          exact q
        generalize (if er = 7 then WY else 0) = EV at *
        clear s5 Q3 h0
        go_wp2_with fail
        refine hq.mono ?_
        rintro e w6 ⟨rfl, u2, s6⟩
        have H6 := hid s6
        clear hq s6 a5
        go_wp2
        exact Q4.out v' u2 _ H6.out
  · have hzW : z1 = zW := by
      have := HZW.out
      rw [if_neg] at this
      · exact this
      · cases yw <;> cases wn <;> simp at hfl ⊢
    subst hzW
    have s3 := s2
    have hev3 : z1.ev.length ≤ 2000000000 := HEVW.out
    clear HZW s2 hyw
    cases yw with
    | false =>
      clear hfl
      go_upto_region 5 with (go_at_call 377; refine hW.mono ?_; rintro e wq0 ⟨rfl, rfl⟩)
      clear hW d0
      have hd := cmDone s3 6 rfl
      have d0 : wq0.cell? ⟨M, 0, none⟩ = some (.pointer (some ⟨P.B.X, 0, none⟩)) := s3.cell 0 rfl 0
      cases hdn : y'.done with
      | false =>
        rw [hdn] at hd
        have H3 := hid s3.pop
        clear s3
        go_wp2_with (go_at_call 374; refine hd.mono ?_; rintro e wq ⟨rfl, rfl⟩)
        clear hd
        go_quiet (fail)
        go_wp2
        exact Q1.out hdn D' v' u vl' vd' vv' dl' dv' _ (H3.out.calm ((Kept.refl _ wq).drewN _))
      | true =>
        rw [hdn] at hd
        have hE := cmEnd s3 6 rfl
        have eE : y'.end_ = y'.e := by unfold Cm.end_; rw [hdn]; rfl
        rw [eE] at hE
        clear eE
        have Q3 := hid (Q2.out hdn)
        have H3 := hid (tDrop s3.pop)
        unfold comA at Q3
        rw [hdn] at Q3
        clear s3 hdn Q1 Q2
        generalize y'.e = er at *
        go_wp2_with fail
        refine hd.mono ?_
        rintro e wq1 ⟨rfl, rfl⟩
        clear hd
        go_wp2_with fail
        refine hE.mono ?_
        rintro e wq2 ⟨rfl, rfl⟩
        clear hE d0
        have s4 := H3.out
        have a4 : wq2.cell? ⟨P.T, 4, none⟩ = some (.int .i64 l1) := tCell s4 4
        have a5 : wq2.cell? ⟨P.T, 5, none⟩ = some (.int .i64 l2) := tCell s4 5
        have a6 : wq2.cell? ⟨P.T, 6, none⟩ = some (.int .i64 l3) := tCell s4 6
        have b4 := tFrozen s4 4
        have b5 := tFrozen s4 5
        have b6 := tFrozen s4 6
        have s5 := tLastSet s4 4 er 0
        clear s4 H3
        go_upto_region 8 with fail
        generalize (((wq2.setCell ⟨P.T, 4, none⟩ (.int .i64 4)).setCell ⟨P.T, 5, none⟩ (.int .i64 er)).setCell ⟨P.T, 6, none⟩ (.int .i64 0)) = w5 at *
        clear a4 a5 a6 b4 b5 b6
        have a5 : w5.cell? ⟨P.T, 5, none⟩ = some (.int .i64 er) := tCell s5 5
        by_cases h0 : er = 0
        · subst h0
          have H5 := hid s5
          clear s5
          go_wp2
          exact Q3.out v' u _ H5.out
        · have b0 : (er != 0) = true := by simpa using h0
          have hq := tTellAbort s5 hs hev3 er WY
          have Q4 : Hid (∀ v' u' w', St o (tG c P (tC A P th dg 4 er 0 sp (tlV P sp) f rv) df' wt rds (tlI A P th sp) (joinI []) ++ spI A c (z1.noted ⟨5, 0, th, sp, 0, 0, false, 0, er, if er = 7 then WY else 0⟩) v' u' :: R) w' → Q (.returned (.tuple #[.int .i64 an, .iface 200 (.agg #[])])) w') := by
            have q := Q3.out
            rw [if_pos (by simp [h0])] at q
            exact q
          generalize (if er = 7 then WY else 0) = EV at *
          clear s5 Q3 h0
          go_wp2_with fail
          refine hq.mono ?_
          rintro e w6 ⟨rfl, u2, s6⟩
          have H6 := hid s6
          clear hq s6 a5
          go_wp2
          exact Q4.out v' u2 _ H6.out
    | true =>
      obtain rfl : wn = true := by cases wn <;> simp at hfl ⊢
      clear hfl
      go_upto_region 5 with (go_at_call 377; refine hW.mono ?_; rintro e wq0 ⟨rfl, rfl⟩)
      clear hW d0
      have hd := cmDone s3 6 rfl
      have d0 : wq0.cell? ⟨M, 0, none⟩ = some (.pointer (some ⟨P.B.X, 0, none⟩)) := s3.cell 0 rfl 0
      cases hdn : y'.done with
      | false =>
        rw [hdn] at hd
        have H3 := hid s3.pop
        clear s3
        go_wp2_with (go_at_call 374; refine hd.mono ?_; rintro e wq ⟨rfl, rfl⟩)
        clear hd
        go_quiet (fail)
        go_wp2
        exact Q1.out hdn D' v' u vl' vd' vv' dl' dv' _ (H3.out.calm ((Kept.refl _ wq).drewN _))
      | true =>
        rw [hdn] at hd
        have hE := cmEnd s3 6 rfl
        have eE : y'.end_ = y'.e := by unfold Cm.end_; rw [hdn]; rfl
        rw [eE] at hE
        clear eE
        have Q3 := hid (Q2.out hdn)
        have H3 := hid (tDrop s3.pop)
        unfold comA at Q3
        rw [hdn] at Q3
        clear s3 hdn Q1 Q2
        generalize y'.e = er at *
        go_wp2_with fail
        refine hd.mono ?_
        rintro e wq1 ⟨rfl, rfl⟩
        clear hd
        go_wp2_with fail
        refine hE.mono ?_
        rintro e wq2 ⟨rfl, rfl⟩
        clear hE d0
        have s4 := H3.out
        have a4 : wq2.cell? ⟨P.T, 4, none⟩ = some (.int .i64 l1) := tCell s4 4
        have a5 : wq2.cell? ⟨P.T, 5, none⟩ = some (.int .i64 l2) := tCell s4 5
        have a6 : wq2.cell? ⟨P.T, 6, none⟩ = some (.int .i64 l3) := tCell s4 6
        have b4 := tFrozen s4 4
        have b5 := tFrozen s4 5
        have b6 := tFrozen s4 6
        have s5 := tLastSet s4 4 er 0
        clear s4 H3
        go_upto_region 8 with fail
        generalize (((wq2.setCell ⟨P.T, 4, none⟩ (.int .i64 4)).setCell ⟨P.T, 5, none⟩ (.int .i64 er)).setCell ⟨P.T, 6, none⟩ (.int .i64 0)) = w5 at *
        clear a4 a5 a6 b4 b5 b6
        have a5 : w5.cell? ⟨P.T, 5, none⟩ = some (.int .i64 er) := tCell s5 5
        by_cases h0 : er = 0
        · subst h0
          have H5 := hid s5
          clear s5
          go_wp2
          exact Q3.out v' u _ H5.out
        · have b0 : (er != 0) = true := by simpa using h0
          have hq := tTellAbort s5 hs hev3 er WY
          have Q4 : Hid (∀ v' u' w', St o (tG c P (tC A P th dg 4 er 0 sp (tlV P sp) f rv) df' wt rds (tlI A P th sp) (joinI []) ++ spI A c (z1.noted ⟨5, 0, th, sp, 0, 0, false, 0, er, if er = 7 then WY else 0⟩) v' u' :: R) w' → Q (.returned (.tuple #[.int .i64 an, .iface 200 (.agg #[])])) w') := by
            have q := Q3.out
            rw [if_pos (by simp [h0])] at q
            exact q
          generalize (if er = 7 then WY else 0) = EV at *
          clear s5 Q3 h0
          go_wp2_with fail
          refine hq.mono ?_
          rintro e w6 ⟨rfl, u2, s6⟩
          have H6 := hid s6
          clear hq s6 a5
          go_wp2
          exact Q4.out v' u2 _ H6.out
end
end Go.Proofs.YthbcbjkgjgmegaaGreat

namespace Go.Proofs.YthbcbjkgjgmegaaGreat
open Go.RowKit
set_option linter.unusedVariables false
set_option linter.unusedSimpArgs false
section
variable {o w : World} {its R : List It} {A : Ad} {c : Cfg} {z : SSt} {v u : Value} {P : TA} {x : Tt}
set_option maxHeartbeats 1000000 in
theorem tStep (h : St o (txL c A P x ++ spI A c z v u :: R) w) {n k : Nat} (ok : z.ok c n) (hn : n ≤ 1000000000) (hx : x.fit c z.hs.length k) (hkk : k ≤ 1000000000) (hf : c.fits = true) (hw : WsOk z.ws) (hJ : ∀ y, x.dg = .com y → P.B.J = P.J) :
    Calls Tryz.prog 108 #[.pointer (some ⟨P.T, 0, none⟩)] w fun e w' => e = .returned (.int .i64 (x.ans z)) ∧ ∃ P' v' u', P'.T = P.T ∧ (∀ y, (x.next c z).dg = .com y → P'.B.J = P'.J) ∧ St o (txL c A P' (x.next c z) ++ spI A c (z.steps c x) v' u' :: R) w' := by
  obtain ⟨th, dg, lo, le, lx, sp, fr, rds, wt, df⟩ := x
  have hs : dg.phase ≠ 0 → sp ≠ 0 := fun hp => by have := hx.lv hp; simp only at this; omega
  cases dg with
  | rest =>
    refine (by_rest (a := 3) (Q := fun w' => ∃ P' v' u', P'.T = P.T ∧ (∀ y, Dg.rest = .com y → P'.B.J = P'.J) ∧ St o (txL c A P' ⟨th, .rest, lo, le, lx, sp, fr, rds, wt, df⟩ ++ spI A c z v' u' :: R) w') h ((st_rest (.pointer (some ⟨P.T, 0, none⟩)) w).mono ?_)).mono ?_
    · rintro e w' ⟨rfl, k⟩
      obtain ⟨q1, q2, q3⟩ := tStore (nv := .iface 200 (.agg #[])) (h.calm k)
      exact ⟨_, _, rfl, q1, q2, P, v, u, rfl, fun y e => (by cases e), q3⟩
    · rintro e w' ⟨he, q⟩
      exact ⟨he, q⟩
  | act =>
    refine (by_act (a := 3) (Q := fun w' => ∃ P' v' u', P'.T = P.T ∧ (∀ y, Dg.act = .com y → P'.B.J = P'.J) ∧ St o (txL c A P' ⟨th, .act, lo, le, lx, sp, fr, rds, wt, df⟩ ++ spI A c z v' u' :: R) w') h ((st_act (.pointer (some ⟨P.T, 0, none⟩)) w).mono ?_)).mono ?_
    · rintro e w' ⟨rfl, k⟩
      obtain ⟨q1, q2, q3⟩ := tStore (nv := .iface 427 (.agg #[])) (h.calm k)
      exact ⟨_, _, rfl, q1, q2, P, v, u, rfl, fun y e => (by cases e), q3⟩
    · rintro e w' ⟨he, q⟩
      exact ⟨he, q⟩
  | beg b =>
    have hsp := hs (by simp [Dg.phase])
    have hb := hx.bg b rfl
    refine (by_beg (a := b.ans) (Q := fun w' => ∃ P' v' u', P'.T = P.T ∧ (∀ y, (Tt.begun ⟨th, .beg b, lo, le, lx, sp, fr, rds, wt, df⟩ (b.next z)).dg = .com y → P'.B.J = P'.J) ∧ St o (txL c A P' (Tt.begun ⟨th, .beg b, lo, le, lx, sp, fr, rds, wt, df⟩ (b.next z)) ++ spI A c (Tt.begunZ ⟨th, .beg b, lo, le, lx, sp, fr, rds, wt, df⟩ (b.next z) (z.goes b)) v' u' :: R) w') h (st_beg h hsp ok hn (hb.fine ok.h8) ?_ ?_ ?_)).mono ?_
    · intro h3 v' w' s
      obtain ⟨q1, q2, q3⟩ := tStore (nv := .iface 318 (.agg #[.pointer (some ⟨P.K, 0, none⟩)])) s
      refine ⟨_, _, rfl, q1, q2, P, v', u, rfl, ?_, ?_⟩
      · intro y e
        unfold Tt.begun at e
        rw [if_pos h3] at e
        cases e
      · unfold Tt.begun Tt.begunZ
        rw [if_pos h3, if_pos h3]
        exact q3
    · intro h3 he v' u' w' s
      obtain ⟨q1, q2, q3⟩ := tStore (nv := .iface 427 (.agg #[])) s
      refine ⟨_, _, rfl, q1, q2, P, v', u', rfl, ?_, ?_⟩
      · intro y e
        unfold Tt.begun at e
        rw [if_neg (fun q => q h3), if_pos he] at e
        cases e
      · unfold Tt.begun Tt.begunZ
        rw [if_neg (show ¬ (b.next z).st ≠ 3 from fun q => q h3), if_neg (show ¬ (b.next z).st ≠ 3 from fun q => q h3), if_pos he, if_pos he]
        exact q3
    · intro h3 he v' u' w' s
      obtain ⟨q1, q2, q3⟩ := tStore (nv := .iface 200 (.agg #[])) s
      refine ⟨_, _, rfl, q1, q2, P, v', u', rfl, ?_, ?_⟩
      · intro y e
        unfold Tt.begun at e
        rw [if_neg (fun q => q h3), if_neg he] at e
        cases e
      · unfold Tt.begun Tt.begunZ
        rw [if_neg (show ¬ (b.next z).st ≠ 3 from fun q => q h3), if_neg (show ¬ (b.next z).st ≠ 3 from fun q => q h3), if_neg he, if_neg he]
        exact q3
    · rintro e w' ⟨he, q⟩
      exact ⟨he, q⟩
  | rd r =>
    have hsp := hs (by simp [Dg.phase])
    have hr := (hx.rd r rfl).1
    have hce : (r.next z).ce = r.ce := by
      unfold Rd.next
      split
      · rfl
      · split
        · rfl
        · split
          · split
            · split <;> rfl
            · rfl
          · split <;> rfl
    have hrl : rds.length ≤ 2000000000 := by have := hx.rl; simp only at this; omega
    refine (by_rd (a := r.ans z) (Q := fun w' => ∃ P' v' u', P'.T = P.T ∧ (∀ y, (Tt.readOn ⟨th, .rd r, lo, le, lx, sp, fr, rds, wt, df⟩ (r.next z)).dg = .com y → P'.B.J = P'.J) ∧ St o (txL c A P' (Tt.readOn ⟨th, .rd r, lo, le, lx, sp, fr, rds, wt, df⟩ (r.next z)) ++ spI A c (Tt.readOnZ ⟨th, .rd r, lo, le, lx, sp, fr, rds, wt, df⟩ (r.next z) (z.reads r)) v' u' :: R) w') h (st_rd h hsp ok hn hr hrl ?_ ?_ ?_)).mono ?_
    · intro h3 v' w' s
      obtain ⟨q1, q2, q3⟩ := tStore (nv := .iface 323 (.agg #[.pointer (some ⟨P.K, 0, none⟩), .int .i64 r.ce])) s
      refine ⟨_, _, rfl, q1, q2, P, v', u, rfl, ?_, ?_⟩
      · intro y e
        unfold Tt.readOn at e
        rw [if_pos h3] at e
        cases e
      · unfold Tt.readOn Tt.readOnZ
        rw [if_pos h3, if_neg (fun q => h3 q.1)]
        show St o (tG c P (tC A P th (.iface 323 (.agg #[.pointer (some ⟨P.K, 0, none⟩), .int .i64 (r.next z).ce])) lo le lx sp (tlV P sp) fr P.rv) df wt rds (tlI A P th sp) (rdI P.K A.sp (r.next z)) ++ spI A c (z.reads r) v' u :: R) _
        rw [hce]
        exact q3
    · intro h3 he v' u' rv' w' s
      obtain ⟨q1, q2, q3⟩ := tStore (P := { P with rv := rv' }) (nv := .iface 427 (.agg #[])) s
      refine ⟨_, _, rfl, q1, q2, { P with rv := rv' }, v', u', rfl, ?_, ?_⟩
      · intro y e
        unfold Tt.readOn at e
        rw [if_neg (fun q => q h3), if_pos he] at e
        cases e
      · unfold Tt.readOn Tt.readOnZ
        rw [if_neg (fun q => q h3), if_pos he, if_pos ⟨h3, he⟩, hce]
        exact q3
    · intro h3 he v' w' s
      obtain ⟨q1, q2, q3⟩ := tStore (nv := .iface 271 (.agg #[.int .i64 2, .int .i64 (r.next z).e, .int .i64 0])) s
      refine ⟨_, _, rfl, q1, q2, P, v', u, rfl, ?_, ?_⟩
      · intro y e
        unfold Tt.readOn at e
        rw [if_neg (fun q => q h3), if_neg he] at e
        cases e
      · unfold Tt.readOn Tt.readOnZ
        rw [if_neg (fun q => q h3), if_neg he, if_neg (fun q => he q.2)]
        exact q3
    · rintro e w' ⟨he, q⟩
      exact ⟨he, q⟩
  | leav =>
    have hsp := hs (by simp [Dg.phase])
    refine (by_leav (a := 1) (Q := fun w' => ∃ P' v' u', P'.T = P.T ∧ (∀ y, Dg.rest = .com y → P'.B.J = P'.J) ∧ St o (txL c A P' ⟨th, .rest, 4, 0, 0, sp, fr, rds, wt, df⟩ ++ spI A c ((z.op (freeOp fr.gn) fr.sl).noted ⟨4, 0, th, sp, 0, 0, false, fr.sn, 0, 0⟩) v' u' :: R) w') h ((st_leav h hsp ok hn).mono ?_)).mono ?_
    · rintro e w' ⟨rfl, v', u', s⟩
      obtain ⟨q1, q2, q3⟩ := tStore (nv := .iface 200 (.agg #[])) s
      exact ⟨_, _, rfl, q1, q2, P, v', u', rfl, fun y e => (by cases e), q3⟩
    · rintro e w' ⟨he, q⟩
      exact ⟨he, q⟩
  | com y =>
    have hsp := hs (by simp [Dg.phase])
    refine (by_com (a := y.ans z) (Q := fun w' => ∃ P' v' u', P'.T = P.T ∧ (∀ q, (Tt.comOn ⟨th, .com y, lo, le, lx, sp, fr, rds, wt, y.nextDf c z df⟩ (y.next c z df)).dg = .com q → P'.B.J = P'.J) ∧ St o (txL c A P' (Tt.comOn ⟨th, .com y, lo, le, lx, sp, fr, rds, wt, y.nextDf c z df⟩ (y.next c z df)) ++ spI A c (Tt.comZ ⟨th, .com y, lo, le, lx, sp, fr, rds, wt, df⟩ (y.next c z df) (nowAt z.hs fr.sl).wy (Tt.wonZ ⟨th, .com y, lo, le, lx, sp, fr, rds, wt, df⟩ y (y.next c z df) (z.commits y))) v' u' :: R) w') h (st_com h (hJ y rfl) hsp ok hn hx.s0 hx.sn hf hx.df (hx.cm y rfl) hw ?_ ?_)).mono ?_
    · intro hd D' v' u' vl' vd' vv' dl' dv' w' s
      obtain ⟨q1, q2, q3⟩ := tStore (nv := .iface 331 (.agg #[.pointer (some ⟨P.B.X, 0, none⟩)])) s
      refine ⟨_, _, rfl, q1, q2, { P with D := D', vl := vl', vd := vd', vv := vv', dl := dl', dv := dv' }, v', u', rfl, fun _ _ => hJ y rfl, ?_⟩
      unfold Tt.comOn Tt.comZ
      rw [if_neg (by rw [hd]; simp), if_neg (by rw [hd]; simp)]
      exact q3
    · intro hd v' u' w' s
      obtain ⟨q1, q2, q3⟩ := tStore (nv := .iface 200 (.agg #[])) s
      refine ⟨_, _, rfl, q1, q2, P, v', u', rfl, fun _ _ => hJ y rfl, ?_⟩
      unfold Tt.comOn
      rw [if_pos hd]
      exact q3
    · rintro e w' ⟨he, q⟩
      exact ⟨he, q⟩
  | abo op er xv =>
    have hsp := hs (by simp [Dg.phase])
    refine (by_abo (a := 1) (Q := fun w' => ∃ P' v' u', P'.T = P.T ∧ (∀ y, Dg.rest = .com y → P'.B.J = P'.J) ∧ St o (txL c A P' ⟨th, .rest, op, er, xv, sp, fr, rds, wt, df⟩ ++ spI A c ((z.op (freeOp fr.gn) fr.sl).noted ⟨5, 0, th, sp, 0, 0, false, 0, er, if er = 7 then (nowAt z.hs fr.sl).wy else 0⟩) v' u' :: R) w') h ((st_abo h hsp ok hn hx.s0 hx.sn).mono ?_)).mono ?_
    · rintro e w' ⟨rfl, v', u', s⟩
      obtain ⟨q1, q2, q3⟩ := tStore (nv := .iface 200 (.agg #[])) s
      exact ⟨_, _, rfl, q1, q2, P, v', u', rfl, fun y e => (by cases e), q3⟩
    · rintro e w' ⟨he, q⟩
      exact ⟨he, q⟩
end
end Go.Proofs.YthbcbjkgjgmegaaGreat
