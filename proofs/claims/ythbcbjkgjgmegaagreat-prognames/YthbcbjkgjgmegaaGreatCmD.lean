/- A commit's stages: looking, dooming, writing, owning. A commit's Step. -/
import Derived.Test.YthbcbjkgjgmegaaGreatCmB
namespace Go.Proofs.YthbcbjkgjgmegaaGreat
open Go.RowKit
set_option linter.unusedVariables false
set_option linter.unusedSimpArgs false
attribute [local go_sem ↓] Go.wp_at_zero Go.wp_at_succ

section
variable {o w : World} {R : List It} {A : Ad} {B : CA} {D : Nat} {x : Cm} {c : Cfg} {z : SSt} {v u vs vl vd vv dl dv : Value} {X : It}

set_option maxRecDepth 100000 in
set_option maxHeartbeats 1000000 in
theorem stLook (h : St o (cmG A B x vs (joinI []) vl vd vv ++ R) w) (i j : Nat) (hij : i ≠ j) (hi : R[i]? = some (spI A c z v u)) {df : Int} (hj : R[j]? = some (boxI B.J (jd c df) 257)) (hf : c.fits = true) (hd : 0 ≤ df) (hx : x.fit z.hs.length) {n : Nat} (ok : z.ok c n) (hn : n ≤ 4611686018427) (hw : WsOk z.ws) :
    Calls Tryz.prog 413 #[.agg #[], .pointer (some ⟨B.X, 0, none⟩)] w fun e w' => ∃ D dl dv, e = .returned (.tuple #[.int .i64 1, ((x.looked z).lookOn c df).st.val D B.gw x.wr.length B.cw]) ∧ ∃ v' vl' vd' vv', St o (cmG A B ((x.looked z).lookOn c df) vs (((x.looked z).lookOn c df).st.it D A.t dl dv) vl' vd' vv' ++ (R.set i (spI A c (z.looks x.lk) v' u)).set j (boxI B.J (jd c ((x.looked z).lookDf c df)) 257)) w' := by
  have h0 := (h.alloc (.cells #[] 439))
  have c7 : (w.alloc (.cells #[] 439)).cell? ⟨B.X, 7, none⟩ = some (.pointer (some ⟨B.K, 0, none⟩)) := cmCell h0 7
  have hq : Calls Tryz.prog 414 #[.pointer (some ⟨B.K, 0, none⟩)] (w.alloc (.cells #[] 439)) fun e w' => e = .returned (.int .i64 x.lk.ans) ∧ ∃ v' vl' vd' vv', Calls Tryz.prog 394 #[.pointer (some ⟨B.X, 0, none⟩)] w' fun e w' => ∃ D dl dv, e = .returned (((x.looked z).lookOn c df).st.val D B.gw x.wr.length B.cw) ∧ Hid (St o (cmG A B ((x.looked z).lookOn c df) vs (((x.looked z).lookOn c df).st.it D A.t dl dv) vl' vd' vv' ++ (R.set i (spI A c (z.looks x.lk) v' u)).set j (boxI B.J (jd c ((x.looked z).lookDf c df)) 257)) w') := by
    refine (lkStep h0 (4 + i) 2 (by omega) (cmGet hi) cmAt2 ok hn hx.lk hw).mono ?_
    rintro e w' ⟨he, v', vl', vd', vv', s⟩
    rw [cmSet] at s
    have s' : St o (cmG A B (x.looked z) vs (joinI []) vl' vd' vv' ++ R.set i (spI A c (z.looks x.lk) v' u)) w' := s
    have fx : (x.looked z).fit (z.looks x.lk).hs.length := by
      rw [SSt.looks_hs]
      exact ⟨hx.th1, hx.th8, hx.s0, hx.sn, hx.w1, hx.w16, hx.lk.next hw, hx.inn.next hx.lk z, fun d e => hx.dm d e, fun k e => hx.wk k e⟩
    exact ⟨he, v', vl', vd', vv', cmLookOn s' i j hij (set_self hi) (set_other hj hij) hf hd fx⟩
  clear h h0 hi hj ok hx
  go_enter Tryz.func413, Tryz.ntmps413
  go_upto_region 1 with fail
  generalize w.alloc (.cells #[] 439) = W0 at *
  go_wp2_with fail
  refine hq.mono ?_
  rintro e w1 ⟨rfl, v', vl', vd', vv', hq2⟩
  clear hq c7
  go_wp2_with fail
  refine hq2.mono ?_
  rintro e w2 ⟨D, dl, dv, rfl, HS⟩
  clear hq2
  go_wp2
  go_ret2
  exact ⟨D, dl, dv, rfl, v', vl', vd', vv', HS.out⟩

theorem cmDrop (h : St o (cmG A B x vs X vl vd vv ++ R) w) : St o (cmG A B x vs (joinI []) vl vd vv ++ R) w :=
  h.set 3 cmAt3 (Kept.refl _ w) (A' := joinI []) (fun B hB => by cases hB) List.nodup_nil (fun b hb => by cases hb)

set_option maxRecDepth 100000 in
set_option maxHeartbeats 1000000 in
theorem stDoom {d : Dm} (h : St o (cmG A B x vs (dmI D A.t d dl dv) vl vd vv ++ R) w) (i : Nat) (hi : R[i]? = some (spI A c z v u)) {n : Nat} (ok : z.ok c n) (hn : n ≤ 4611686018427) (hd : d.left.length + d.dn.length ≤ 8) :
    Calls Tryz.prog 421 #[.agg #[.pointer (some ⟨D, 0, none⟩)], .pointer (some ⟨B.X, 0, none⟩)] w fun e w' => e = .returned (.tuple #[.int .i64 1, (x.doomOn (d.next z.hs)).st.val D B.gw x.wr.length B.cw]) ∧ ∃ v' dl' dv', St o (cmG A B (x.doomOn (d.next z.hs)) vs ((x.doomOn (d.next z.hs)).st.it D A.t dl' dv') vl vd vv ++ R.set i (spI A c (z.dooms d) v' u)) w' := by
  have h0 := (h.box #[.pointer (some ⟨D, 0, none⟩)] 449)
  generalize hM : w.heap.size = M at *
  generalize hW0 : w.alloc (.cells #[.pointer (some ⟨D, 0, none⟩)] 449) = W0 at *
  have c0 : W0.cell? ⟨M, 0, none⟩ = some (.pointer (some ⟨D, 0, none⟩)) := h0.cell 0 rfl 0
  have hq : Calls Tryz.prog 422 #[.pointer (some ⟨D, 0, none⟩)] W0 fun e w' => e = .returned (.int .i64 d.ans) ∧ w'.cell? ⟨M, 0, none⟩ = some (.pointer (some ⟨D, 0, none⟩)) ∧ ∃ v' dl' dv', Hid (St o (cmG A B (x.doomOn (d.next z.hs)) vs ((x.doomOn (d.next z.hs)).st.it D A.t dl' dv') vl vd vv ++ R.set i (spI A c (z.dooms d) v' u)) w') ∧ Calls Tryz.prog 399 #[.pointer (some ⟨B.X, 0, none⟩), .pointer (some ⟨D, 0, none⟩)] w' fun e w'' => e = .returned ((x.doomOn (d.next z.hs)).st.val D B.gw x.wr.length B.cw) ∧ w'' = w' := by
    refine (dmStep h0 ((4 + i) + 1) 4 (by omega) (show (_ :: (cmG A B x vs (dmI D A.t d dl dv) vl vd vv ++ R))[(4 + i) + 1]? = some (spI A c z v u) from cmGet hi) rfl ok hn (by omega)).mono ?_
    rintro e w' ⟨he, v', dl', dv', s⟩
    rw [List.set_cons_succ, cmSet] at s
    have s' : St o (boxI M #[.pointer (some ⟨D, 0, none⟩)] 449 :: (cmG A B x vs (dmI D A.t (d.next z.hs) dl' dv') vl vd vv ++ R.set i (spI A c (z.dooms d) v' u))) w' := s
    refine ⟨he, s'.cell 0 rfl 0, v', dl', dv', ?_, cmDoomOn (d.next z.hs) (dmDone s' 4 rfl) (cmCell s'.pop 6)⟩
    unfold Cm.doomOn
    simp only
    by_cases hv : (d.next z.hs).left = []
    · rw [if_pos hv]
      exact cmDrop s'.pop
    · rw [if_neg hv]
      exact s'.pop
  clear h h0 hi ok
  subst hM
  subst hW0
  go_enter Tryz.func421, Tryz.ntmps421
  go_upto_region 1 with fail
  generalize w.alloc (.cells #[.pointer (some ⟨D, 0, none⟩)] 449) = W0 at *
  generalize w.heap.size = M at *
  go_wp2_with fail
  refine hq.mono ?_
  rintro e w1 ⟨rfl, c1, v', dl', dv', HS, hq2⟩
  clear hq c0
  go_wp2_with fail
  refine hq2.mono ?_
  rintro e w2 ⟨rfl, rfl⟩
  clear hq2
  go_wp2
  go_ret2
  exact ⟨rfl, v', dl', dv', HS.out⟩

theorem slCutW {g off m q : Nat} (h0 : 1 ≤ m) (h : m + 1 ≤ q + 1) (W : World) : (Instr.slice 450 (.slice (some ⟨g, off, none⟩) (m + 1) (q + 1)) (some (.int .i64 1)) none none).run Tryz.prog W = .ok (.slice (some ⟨g, off + 2, none⟩) m q) W := by
  have e1 : (1 : Int) ≤ (m : Int) + 1 := by omega
  have hc : Tryz.prog.cellsOf 220 = 2 := by kernel_rfl
  have e3 : ¬ q = 0 := by omega
  have e4 : m ≤ q := by omega
  simp [Instr.slice, Instr.sliceBounds, Instr.sliceBound, asIntOf, run_underlying Tryz.underlying450, go_sem, hc, e3, e4]
  intro hh
  omega

set_option maxRecDepth 100000 in
set_option maxHeartbeats 1000000 in
theorem stWrite (h : St o (cmG A B x vs X vl vd vv ++ R) w) (i : Nat) (hi : R[i]? = some (spI A c z v u)) {n : Nat} (ok : z.ok c n) (hn : n ≤ 4611686018427) {k : Nat} (hk : k < x.wr.length) :
    Calls Tryz.prog 424 #[.slice (some ⟨B.gw, k * 2, none⟩) (x.wr.length - k) (B.cw - k), .pointer (some ⟨B.X, 0, none⟩)] w fun e w' => e = .returned (.tuple #[.int .i64 1, (if k + 1 = x.wr.length then Stg.give else Stg.write (k + 1)).val D B.gw x.wr.length B.cw]) ∧ ∃ v', St o (cmG A B x vs X vl vd vv ++ R.set i (spI A c (z.store (x.wr.getD k Pr.zero).ce (x.wr.getD k Pr.zero).x) v' u)) w' := by
  obtain ⟨p0, p1⟩ := prCells_at x.wr k hk
  have g0 : w.cell? ⟨B.gw, k * 2, none⟩ = some (.int .i64 (x.wr.getD k Pr.zero).ce) := (h.ownCell 1 cmAt1 (k * 2) (by omega)).trans p0
  have g1 : w.cell? ⟨B.gw, k * 2 + 1, none⟩ = some (.int .i64 (x.wr.getD k Pr.zero).x) := (h.ownCell 1 cmAt1 (k * 2 + 1) (by omega)).trans p1
  have hcw : x.wr.length ≤ B.cw := by
    have := h.get 1 cmAt1
    obtain ⟨q1, q2⟩ := (show w.ownsRow 0 220 2 (.slice (some ⟨B.gw, 0, none⟩) x.wr.length B.cw) x.wr.length (prCells x.wr) from this)
    rcases q2 with ⟨e, _⟩ | ⟨g, cap, cur, e, _, _, hc, _⟩
    · simp at e
    · simp only [Value.slice.injEq, Option.some.injEq, Addr.mk.injEq, true_and] at e
      omega
  generalize hP : x.wr.getD k Pr.zero = Pq at *
  obtain ⟨ce, xx⟩ := Pq
  simp only at *
  have hq : Calls Tryz.prog 425 #[spp A, .int .i64 ce, .int .i64 xx] w.drew fun e w' => e = .returned (.int .i64 (loadE z.xs ce)) ∧ (w'.cell? ⟨B.X, 0, none⟩ = some (spp A) ∧ w'.cell? ⟨B.gw, k * 2, none⟩ = some (.int .i64 ce) ∧ w'.cell? ⟨B.gw, k * 2 + 1, none⟩ = some (.int .i64 xx)) ∧ ∃ v', Hid (∀ m, St o (cmG A B x vs X vl vd vv ++ R.set i (spI A c (z.store ce xx) v' u)) (w'.drewN m)) := by
    refine (spStore h.drew (4 + i) (cmGet hi) ok hn ce xx).mono ?_
    rintro e w' ⟨he, v', s⟩
    rw [cmSet] at s
    exact ⟨he, ⟨cmCell s 0, (s.ownCell 1 cmAt1 (k * 2) (by omega)).trans p0, (s.ownCell 1 cmAt1 (k * 2 + 1) (by omega)).trans p1⟩, v', fun m => s.calm ((Kept.refl _ w').drewN m)⟩
  have c0 : w.cell? ⟨B.X, 0, none⟩ = some (spp A) := cmCell h 0
  clear h hi ok p0 p1 hP
  generalize loadE z.xs ce = LE at *
  generalize z.store ce xx = z' at *
  obtain ⟨m, hm⟩ : ∃ m, x.wr.length - k = m + 1 := ⟨x.wr.length - k - 1, by omega⟩
  obtain ⟨q, hq'⟩ : ∃ q, B.cw - k = q + 1 := ⟨B.cw - k - 1, by omega⟩
  have hmq : m ≤ q := by omega
  have HL : Hid (x.wr.length = k + m + 1) := by show x.wr.length = _; omega
  have HQ : Hid (B.cw = k + q + 1) := by show B.cw = _; omega
  rw [hm, hq']
  clear hm hq' hcw hk
  have HG : Hid (m = 0 → (if k + 1 = x.wr.length then Stg.give else Stg.write (k + 1)).val D B.gw x.wr.length B.cw = .iface 461 (.agg #[])) := fun e => by rw [if_pos (by rw [HL.out]; omega)]; rfl
  have HN : Hid (m ≠ 0 → (if k + 1 = x.wr.length then Stg.give else Stg.write (k + 1)).val D B.gw x.wr.length B.cw = .iface 450 (.slice (some ⟨B.gw, k * 2 + 2, none⟩) m q)) := fun e => by
    rw [if_neg (by rw [HL.out]; omega), HL.out, HQ.out]
    simp only [Stg.val]
    rw [show (k + 1) * 2 = k * 2 + 2 by omega, show k + m + 1 - (k + 1) = m by omega, show k + q + 1 - (k + 1) = q by omega]
  generalize (if k + 1 = x.wr.length then Stg.give else Stg.write (k + 1)).val D B.gw x.wr.length B.cw = SV at *
  have hn1 : ((m + 1 : Nat) : Int) = (m : Int) + 1 := by omega
  have b0 : (0 : Int) < (m : Int) + 1 := by omega
  unfold spp at *
  by_cases hm0 : m = 0
  · obtain rfl := HG.out hm0
    subst hm0
    go_enter Tryz.func424, Tryz.ntmps424
    go_upto_region 1 with fail
    go_region_held3 (fun W => W.cell? ⟨B.X, 0, none⟩ = some (.pointer (some ⟨A.sp, 0, none⟩)) ∧ W.cell? ⟨B.gw, k * 2, none⟩ = some (.int .i64 ce) ∧ W.cell? ⟨B.gw, k * 2 + 1, none⟩ = some (.int .i64 xx)) (first | go_keep | exact rS)
      (first | (go_at_call 425; refine hq.mono ?_; rintro e w2 ⟨rfl, rS, v', HS⟩))
    clear hq c0 g0 g1 rS
    have H0 : Hid _ := HS.out 0
    clear HS
    go_wp2
    go_ret2
    exact ⟨rfl, v', H0.out⟩
  · obtain rfl := HN.out hm0
    have m1 : 1 ≤ m := by omega
    have hsl := fun W => slCutW (g := B.gw) (off := k * 2) m1 (by omega : m + 1 ≤ q + 1) W
    have t1 : ((m : Int) + 1 == 1) = false := by simp; omega
    have t2 : (((m + 1 : Nat) : Int) == 1) = false := by simp; omega
    clear hm0 HG HN
    go_enter Tryz.func424, Tryz.ntmps424
    go_upto_region 1 with fail
    go_region_held3 (fun W => W.cell? ⟨B.X, 0, none⟩ = some (.pointer (some ⟨A.sp, 0, none⟩)) ∧ W.cell? ⟨B.gw, k * 2, none⟩ = some (.int .i64 ce) ∧ W.cell? ⟨B.gw, k * 2 + 1, none⟩ = some (.int .i64 xx)) (first | go_keep | exact rS)
      (first | (go_at_call 425; refine hq.mono ?_; rintro e w2 ⟨rfl, rS, v', HS⟩))
    clear hq c0 g0 g1 rS
    go_upto_region 4 with fail
    go_quiet (fail)
    go_wp2
    go_ret2
    exact ⟨rfl, v', HS.out _⟩


set_option maxRecDepth 100000 in
set_option maxHeartbeats 4000000 in
theorem stOwn (h : St o (cmG A B x vs (joinI []) vl vd vv ++ R) w) (i j : Nat) (hij : i ≠ j) (hi : R[i]? = some (spI A c z v u)) {df : Int} (hj : R[j]? = some (boxI B.J (jd c df) 257)) (hf : c.fits = true) (hd : 0 ≤ df) (hx : x.fit z.hs.length) {n : Nat} (ok : z.ok c n) (hn : n ≤ 4611686018427) :
    Calls Tryz.prog 392 #[.agg #[], .pointer (some ⟨B.X, 0, none⟩)] w fun e w' => ∃ D dl dv, e = .returned (.tuple #[.int .i64 1, (if (nowAt z.hs x.so).mine x.ge then x.lookOn c df else x.giveUp 7).st.val D B.gw x.wr.length B.cw]) ∧ ∃ v', St o (cmG A B (if (nowAt z.hs x.so).mine x.ge then x.lookOn c df else x.giveUp 7) vs ((if (nowAt z.hs x.so).mine x.ge then x.lookOn c df else x.giveUp 7).st.it D A.t dl dv) vl vd vv ++ (R.set i (spI A c (z.look x.so) v' u)).set j (boxI B.J (jd c (if (nowAt z.hs x.so).mine x.ge then x.lookDf c df else df)) 257)) w' := by
  have h0 := (h.alloc (.cells #[] 431))
  generalize hW0 : w.alloc (.cells #[] 431) = W0 at *
  have c0 : W0.cell? ⟨B.X, 0, none⟩ = some (.pointer (some ⟨A.sp, 0, none⟩)) := cmCell h0 0
  have c1 : W0.cell? ⟨B.X, 2, none⟩ = some (.int .i64 x.so) := cmCell h0 2
  have x0 : W0.drew.cell? ⟨B.X, 0, none⟩ = some (.pointer (some ⟨A.sp, 0, none⟩)) := cmCell h0.drew 0
  have x1 : W0.drew.cell? ⟨B.X, 2, none⟩ = some (.int .i64 x.so) := cmCell h0.drew 2
  have hs : Calls Tryz.prog 243 #[.pointer (some ⟨A.sp, 0, none⟩)] W0.drew fun e w' => e = .returned (.pointer (some ⟨A.t, 0, none⟩)) ∧ w' = W0.drew := stSlots h0.drew i hi
  have hs1 : Calls Tryz.prog 243 #[.pointer (some ⟨A.sp, 0, none⟩)] (W0.alloc (.cells #[.int .i64 0, .int .i64 0, .int .i64 0, .int .i64 0, .bool false, .int .i64 0] 181)).drew fun e w' => e = .returned (.pointer (some ⟨A.t, 0, none⟩)) ∧ w' = (W0.alloc (.cells #[.int .i64 0, .int .i64 0, .int .i64 0, .int .i64 0, .bool false, .int .i64 0] 181)).drew := stSlots (h0.alloc _).drew i hi
  have y0 : (W0.alloc (.cells #[.int .i64 0, .int .i64 0, .int .i64 0, .int .i64 0, .bool false, .int .i64 0] 181)).cell? ⟨B.X, 0, none⟩ = some (.pointer (some ⟨A.sp, 0, none⟩)) := cmCell (h0.alloc _) 0
  have y1 : (W0.alloc (.cells #[.int .i64 0, .int .i64 0, .int .i64 0, .int .i64 0, .bool false, .int .i64 0] 181)).cell? ⟨B.X, 2, none⟩ = some (.int .i64 x.so) := cmCell (h0.alloc _) 2
  have hq : Calls Tryz.prog 309 #[.pointer (some ⟨A.t, 0, none⟩), .int .i64 x.so] W0.drew fun e w' => e = .returned (.tuple #[(nowAt z.hs x.so).val, .int .i64 (lookE z.hs x.so)]) ∧ ∃ v', w'.cell? ⟨B.X, 0, none⟩ = some (.pointer (some ⟨A.sp, 0, none⟩)) ∧ w'.cell? ⟨B.X, 2, none⟩ = some (.int .i64 x.so) ∧ Hid (St o (cmG A B x vs (joinI []) vl vd vv ++ R.set i (spI A c (z.look x.so) v' u)) w') := by
    refine (spLook h0.drew (4 + i) (cmGet hi) ok hn x.so).mono ?_
    rintro e w' ⟨he, v', s⟩
    rw [cmSet] at s
    exact ⟨he, v', cmCell s 0, cmCell s 2, s⟩
  have hq1 : Calls Tryz.prog 309 #[.pointer (some ⟨A.t, 0, none⟩), .int .i64 x.so] (W0.alloc (.cells #[.int .i64 0, .int .i64 0, .int .i64 0, .int .i64 0, .bool false, .int .i64 0] 181)).drew fun e w' => e = .returned (.tuple #[(nowAt z.hs x.so).val, .int .i64 (lookE z.hs x.so)]) ∧ ∃ v', w'.cell? ⟨B.X, 0, none⟩ = some (.pointer (some ⟨A.sp, 0, none⟩)) ∧ w'.cell? ⟨B.X, 2, none⟩ = some (.int .i64 x.so) ∧ w'.cell? ⟨W0.heap.size, 0, none⟩ = some (.int .i64 0) ∧ w'.cell? ⟨W0.heap.size, 1, none⟩ = some (.int .i64 0) ∧ w'.cell? ⟨W0.heap.size, 2, none⟩ = some (.int .i64 0) ∧ w'.cell? ⟨W0.heap.size, 3, none⟩ = some (.int .i64 0) ∧ w'.cell? ⟨W0.heap.size, 4, none⟩ = some (.bool false) ∧ w'.cell? ⟨W0.heap.size, 5, none⟩ = some (.int .i64 0) ∧ w'.frozen? ⟨W0.heap.size, 0, none⟩ = false ∧ w'.frozen? ⟨W0.heap.size, 1, none⟩ = false ∧ w'.frozen? ⟨W0.heap.size, 2, none⟩ = false ∧ w'.frozen? ⟨W0.heap.size, 3, none⟩ = false ∧ w'.frozen? ⟨W0.heap.size, 4, none⟩ = false ∧ w'.frozen? ⟨W0.heap.size, 5, none⟩ = false ∧ Hid (∀ u0 u1 u2 u3 u4 u5 : Value, St o (boxI W0.heap.size #[u0, u1, u2, u3, u4, u5] 181 :: (cmG A B x vs (joinI []) vl vd vv ++ R.set i (spI A c (z.look x.so) v' u))) ((((((w'.setCell ⟨W0.heap.size, 0, none⟩ u0).setCell ⟨W0.heap.size, 1, none⟩ u1).setCell ⟨W0.heap.size, 2, none⟩ u2).setCell ⟨W0.heap.size, 3, none⟩ u3).setCell ⟨W0.heap.size, 4, none⟩ u4).setCell ⟨W0.heap.size, 5, none⟩ u5)) := by
    refine (spLook (h0.box #[.int .i64 0, .int .i64 0, .int .i64 0, .int .i64 0, .bool false, .int .i64 0] 181).drew ((4 + i) + 1) (show (_ :: (cmG A B x vs (joinI []) vl vd vv ++ R))[(4 + i) + 1]? = some (spI A c z v u) from cmGet hi) ok hn x.so).mono ?_
    rintro e w' ⟨he, v', s⟩
    rw [List.set_cons_succ, cmSet] at s
    exact ⟨he, v', cmCell s.pop 0, cmCell s.pop 2, s.cell 0 rfl 0, s.cell 0 rfl 1, s.cell 0 rfl 2, s.cell 0 rfl 3, s.cell 0 rfl 4, s.cell 0 rfl 5, s.frozen 0 rfl 0, s.frozen 0 rfl 1, s.frozen 0 rfl 2, s.frozen 0 rfl 3, s.frozen 0 rfl 4, s.frozen 0 rfl 5, fun u0 u1 u2 u3 u4 u5 => (((((s.write 0 rfl 0 u0).write 0 rfl 1 u1).write 0 rfl 2 u2).write 0 rfl 3 u3).write 0 rfl 4 u4).write 0 rfl 5 u5⟩
  have HLO : Hid (∀ v' W, St o (cmG A B x vs (joinI []) vl vd vv ++ R.set i (spI A c (z.look x.so) v' u)) W → Calls Tryz.prog 394 #[.pointer (some ⟨B.X, 0, none⟩)] W fun e w' => ∃ D dl dv, e = .returned ((x.lookOn c df).st.val D B.gw x.wr.length B.cw) ∧ Hid (St o (cmG A B (x.lookOn c df) vs ((x.lookOn c df).st.it D A.t dl dv) vl vd vv ++ (R.set i (spI A c (z.look x.so) v' u)).set j (boxI B.J (jd c (x.lookDf c df)) 257)) w')) := fun v' W hW => cmLookOn hW i j hij (set_self hi) (set_other hj hij) hf hd hx
  have HGU : Hid (∀ v' W, St o (cmG A B x vs (joinI []) vl vd vv ++ R.set i (spI A c (z.look x.so) v' u)) W → Calls Tryz.prog 393 #[.pointer (some ⟨B.X, 0, none⟩), .int .i64 7] W fun r w' => r = .returned (.iface 438 (.agg #[])) ∧ Hid (St o (cmG A B (x.giveUp 7) vs (joinI []) vl vd vv ++ (R.set i (spI A c (z.look x.so) v' u)).set j (boxI B.J (jd c df) 257)) w')) := fun v' W hW => by
    refine (cmGiveUp hW 7).mono ?_
    rintro r w' ⟨he, s⟩
    rw [set_back (set_other hj hij)]
    exact ⟨he, s⟩
  have HC3 : Hid (∀ H cs v' W, St o (boxI H cs 181 :: (cmG A B x vs (joinI []) vl vd vv ++ R.set i (spI A c (z.look x.so) v' u))) W → W.cell? ⟨B.X, 3, none⟩ = some (.int .i64 x.ge)) := fun H cs v' W s => cmCell s.pop 3
  clear h h0 hi hj ok hij hx
  obtain ⟨MI, HMI⟩ : ∃ MI : Bool, Hid ((nowAt z.hs x.so).mine x.ge = MI) := ⟨_, rfl⟩
  rw [HMI.out]
  unfold Hd.mine at HMI
  generalize nowAt z.hs x.so = H0 at *
  generalize lookE z.hs x.so = E at *
  generalize z.look x.so = z' at *
  obtain ⟨xgn, xsa, xsp, xth, xdm, xwy⟩ := H0
  simp only [Hd.val] at *
  subst hW0
  go_enter Tryz.func392, Tryz.ntmps392
  go_upto_region 1 with fail
  generalize w.alloc (.cells #[] 431) = W0 at *
  go_cut [6] from 8 (fun a W => ∃ (H : Nat) (v' : Value), a = .pointer (some ⟨H, 0, none⟩) ∧ Hid (St o (boxI H #[.int .i64 xgn, .int .i64 xsa, .int .i64 xsp, .int .i64 xth, .bool xdm, .int .i64 xwy] 181 :: (cmG A B x vs (joinI []) vl vd vv ++ R.set i (spI A c z' v' u))) W))
  case first =>
    go_region_with (first | (go_at_call 243; refine hs.mono ?_; rintro e wx ⟨rfl, rfl⟩) | (go_at_call 243; refine hs1.mono ?_; rintro e wx ⟨rfl, rfl⟩) | (go_at_call 309; refine hq.mono ?_; rintro e w2 ⟨rfl, v', d0, d1, HA⟩) | (go_at_call 309; refine hq1.mono ?_; rintro e w2 ⟨rfl, v', d0, d1, k0, k1, k2, k3, k4, k5, m0, m1, m2, m3, m4, m5, HB⟩))
    all_goals
      go_wp2
      go_meet
      first
      | exact ⟨_, v', rfl, HA.out.box _ _⟩
      | exact ⟨_, v', rfl, HB.out (.int .i64 xgn) (.int .i64 xsa) (.int .i64 xsp) (.int .i64 xth) (.bool xdm) (.int .i64 xwy)⟩
  case rest =>
    obtain ⟨H, v', rfl, HB⟩ := hcut
    have hB := HB.out
    clear hs hs1 hq hq1 c0 c1 x0 x1 y0 y1 HB
    have e0 : wc.cell? ⟨H, 0, none⟩ = some (.int .i64 xgn) := hB.cell 0 rfl 0
    have e1 : wc.cell? ⟨H, 1, none⟩ = some (.int .i64 xsa) := hB.cell 0 rfl 1
    have e4 : wc.cell? ⟨H, 4, none⟩ = some (.bool xdm) := hB.cell 0 rfl 4
    have e2 : wc.cell? ⟨B.X, 3, none⟩ = some (.int .i64 x.ge) := HC3.out _ _ _ _ hB
    have HGo : Hid (∀ n, Calls Tryz.prog 394 #[.pointer (some ⟨B.X, 0, none⟩)] (wc.drewN n) _) := fun n => HLO.out v' _ (hB.pop.calm ((Kept.refl _ wc).drewN n))
    have HUp : Hid (∀ n, Calls Tryz.prog 393 #[.pointer (some ⟨B.X, 0, none⟩), .int .i64 7] (wc.drewN n) _) := fun n => HGU.out v' _ (hB.pop.calm ((Kept.refl _ wc).drewN n))
    clear hB HLO HGU HC3
    generalize hge : x.ge = ge at *
    go_upto_region 2 with fail
    by_cases q1 : xsa = 2
    · subst q1
      have q1' : ((2 : Int) != 2) = false := rfl
      by_cases q2 : xgn = ge
      · subst q2
        have q2' : (xgn != xgn) = false := by simp
        cases xdm with
        | false =>
          obtain rfl : MI = true := by rw [← HMI.out]; simp
          go_quiet (fail)
          have hc := HGo.out nq
          clear HGo HUp
          go_wp2_with fail
          refine hc.mono ?_
          rintro e w4 ⟨D, dl, dv, rfl, H4⟩
          clear hc
          go_wp2
          go_ret2
          exact ⟨D, rfl, dl, dv, v', H4.out⟩
        | true =>
          obtain rfl : MI = false := by rw [← HMI.out]; simp
          go_quiet (fail)
          have hc := HUp.out nq
          clear HGo HUp
          go_wp2_with fail
          refine hc.mono ?_
          rintro e w4 ⟨rfl, H4⟩
          clear hc
          go_wp2
          go_ret2
          exact ⟨0, rfl, vl, vl, v', H4.out⟩
      · have q2' : (xgn != ge) = true := by simpa using q2
        obtain rfl : MI = false := by rw [← HMI.out]; simp [q2]
        go_quiet (fail)
        have hc := HUp.out nq
        clear HGo HUp
        go_wp2_with fail
        refine hc.mono ?_
        rintro e w4 ⟨rfl, H4⟩
        clear hc
        go_wp2
        go_ret2
        exact ⟨0, rfl, vl, vl, v', H4.out⟩
    · have q1' : (xsa != 2) = true := by simpa using q1
      obtain rfl : MI = false := by rw [← HMI.out]; simp [q1]
      go_quiet (fail)
      have hc := HUp.out nq
      clear HGo HUp
      go_wp2_with fail
      refine hc.mono ?_
      rintro e w4 ⟨rfl, H4⟩
      clear hc
      go_wp2
      go_ret2
      exact ⟨0, rfl, vl, vl, v', H4.out⟩


end
end Go.Proofs.YthbcbjkgjgmegaaGreat

namespace Go.Proofs.YthbcbjkgjgmegaaGreat
open Go.RowKit
set_option linter.unusedVariables false
set_option linter.unusedSimpArgs false
attribute [local go_sem ↓] Go.wp_at_zero Go.wp_at_succ

section
variable {o w : World} {R : List It} {A : Ad} {B : CA} {D : Nat} {x : Cm} {c : Cfg} {z : SSt} {v u vs vl vd vv dl dv : Value} {X : It}

theorem erase_get2 {its : List It} {i j k : Nat} {A B : It} (hik : i ≠ k) (hjk : j ≠ k) (hij : i ≠ j) (hi : its[i]? = some A) (hj : its[j]? = some B) : ∃ i' j', i' ≠ j' ∧ (its.eraseIdx k)[i']? = some A ∧ (its.eraseIdx k)[j']? = some B ∧ ∀ X Y, ((its.eraseIdx k).set i' X).set j' Y = ((its.set i X).set j Y).eraseIdx k := by
  by_cases h1 : i < k
  · by_cases h2 : j < k
    · exact ⟨i, j, hij, by rw [List.getElem?_eraseIdx_of_lt h1]; exact hi, by rw [List.getElem?_eraseIdx_of_lt h2]; exact hj, fun X Y => by rw [List.eraseIdx_set_gt h2, List.eraseIdx_set_gt h1]⟩
    · exact ⟨i, j - 1, by omega, by rw [List.getElem?_eraseIdx_of_lt h1]; exact hi, by rw [List.getElem?_eraseIdx_of_ge (by omega), show j - 1 + 1 = j by omega]; exact hj, fun X Y => by rw [List.eraseIdx_set_lt (by omega), List.eraseIdx_set_gt h1]⟩
  · by_cases h2 : j < k
    · exact ⟨i - 1, j, by omega, by rw [List.getElem?_eraseIdx_of_ge (by omega), show i - 1 + 1 = i by omega]; exact hi, by rw [List.getElem?_eraseIdx_of_lt h2]; exact hj, fun X Y => by rw [List.eraseIdx_set_gt h2, List.eraseIdx_set_lt (by omega)]⟩
    · exact ⟨i - 1, j - 1, by omega, by rw [List.getElem?_eraseIdx_of_ge (by omega), show i - 1 + 1 = i by omega]; exact hi, by rw [List.getElem?_eraseIdx_of_ge (by omega), show j - 1 + 1 = j by omega]; exact hj, fun X Y => by rw [List.eraseIdx_set_lt (by omega), List.eraseIdx_set_lt (by omega)]⟩
theorem mTake (W : World) : (method 564 355 (.agg #[]) "quash/commit.step").run Tryz.prog W = .ok (382, .agg #[]) W := by kernel_rfl
theorem mOwn (W : World) : (method 564 431 (.agg #[]) "quash/commit.step").run Tryz.prog W = .ok (392, .agg #[]) W := by kernel_rfl
theorem mLook (W : World) : (method 564 439 (.agg #[]) "quash/commit.step").run Tryz.prog W = .ok (413, .agg #[]) W := by kernel_rfl
theorem mDoom (p : Value) (W : World) : (method 564 449 (.agg #[p]) "quash/commit.step").run Tryz.prog W = .ok (421, .agg #[p]) W := by kernel_rfl
theorem mWrite (p : Option Addr) (n m : Nat) (W : World) : (method 564 450 (.slice p n m) "quash/commit.step").run Tryz.prog W = .ok (424, .slice p n m) W := by kernel_rfl
theorem mGive (W : World) : (method 564 461 (.agg #[]) "quash/commit.step").run Tryz.prog W = .ok (427, .agg #[]) W := by kernel_rfl
theorem mUp (W : World) : (method 564 438 (.agg #[]) "quash/commit.step").run Tryz.prog W = .ok (411, .agg #[]) W := by kernel_rfl
theorem mFree (W : World) : (method 564 459 (.agg #[]) "quash/commit.step").run Tryz.prog W = .ok (426, .agg #[]) W := by kernel_rfl
set_option maxRecDepth 100000 in
set_option maxHeartbeats 1000000 in
theorem byTake (h : St o (cmG A B x (.iface 355 (.agg #[])) X vl vd vv ++ R) w) {a : Int} {Q : Value → World → Prop}
    (hc : Calls Tryz.prog 382 #[.agg #[], .pointer (some ⟨B.X, 0, none⟩)] w fun e w' => ∃ nv, (nv = .nilIface ∨ ∃ t y', nv = .iface t y') ∧ e = .returned (.tuple #[.int .i64 a, nv]) ∧ w'.cell? ⟨B.X, 8, none⟩ = some (.iface 355 (.agg #[])) ∧ w'.frozen? ⟨B.X, 8, none⟩ = false ∧ Hid (Q nv (w'.setCell ⟨B.X, 8, none⟩ nv))) :
    Calls Tryz.prog 378 #[.pointer (some ⟨B.X, 0, none⟩)] w fun e w' => e = .returned (.int .i64 a) ∧ ∃ nv, Q nv w' := by
  have hd := cmDone0 h (.inr ⟨_, _, rfl⟩)
  have c8 : w.cell? ⟨B.X, 8, none⟩ = some (.iface 355 (.agg #[])) := cmCell h 8
  clear h
  have hm := fun W => mTake W
  simp only [isNilV] at hd
  go_enter Tryz.func378, Tryz.ntmps378
  go_wp2_with fail
  refine hd.mono ?_
  rintro e wq ⟨rfl, rfl⟩
  clear hd
  go_wp2_with (simp only [hm])
  refine hc.mono ?_
  rintro e w1 ⟨nv, hnv, rfl, d8, f8, H1⟩
  clear hc c8
  rcases hnv with rfl | ⟨t, y', rfl⟩
  all_goals
    go_wp2
    go_ret
    exact ⟨rfl, _, H1.out⟩
set_option maxRecDepth 100000 in
set_option maxHeartbeats 1000000 in
theorem byOwn (h : St o (cmG A B x (.iface 431 (.agg #[])) X vl vd vv ++ R) w) {a : Int} {Q : Value → World → Prop}
    (hc : Calls Tryz.prog 392 #[.agg #[], .pointer (some ⟨B.X, 0, none⟩)] w fun e w' => ∃ nv, (nv = .nilIface ∨ ∃ t y', nv = .iface t y') ∧ e = .returned (.tuple #[.int .i64 a, nv]) ∧ w'.cell? ⟨B.X, 8, none⟩ = some (.iface 431 (.agg #[])) ∧ w'.frozen? ⟨B.X, 8, none⟩ = false ∧ Hid (Q nv (w'.setCell ⟨B.X, 8, none⟩ nv))) :
    Calls Tryz.prog 378 #[.pointer (some ⟨B.X, 0, none⟩)] w fun e w' => e = .returned (.int .i64 a) ∧ ∃ nv, Q nv w' := by
  have hd := cmDone0 h (.inr ⟨_, _, rfl⟩)
  have c8 : w.cell? ⟨B.X, 8, none⟩ = some (.iface 431 (.agg #[])) := cmCell h 8
  clear h
  have hm := fun W => mOwn W
  simp only [isNilV] at hd
  go_enter Tryz.func378, Tryz.ntmps378
  go_wp2_with fail
  refine hd.mono ?_
  rintro e wq ⟨rfl, rfl⟩
  clear hd
  go_wp2_with (simp only [hm])
  refine hc.mono ?_
  rintro e w1 ⟨nv, hnv, rfl, d8, f8, H1⟩
  clear hc c8
  rcases hnv with rfl | ⟨t, y', rfl⟩
  all_goals
    go_wp2
    go_ret
    exact ⟨rfl, _, H1.out⟩
set_option maxRecDepth 100000 in
set_option maxHeartbeats 1000000 in
theorem byLook (h : St o (cmG A B x (.iface 439 (.agg #[])) X vl vd vv ++ R) w) {a : Int} {Q : Value → World → Prop}
    (hc : Calls Tryz.prog 413 #[.agg #[], .pointer (some ⟨B.X, 0, none⟩)] w fun e w' => ∃ nv, (nv = .nilIface ∨ ∃ t y', nv = .iface t y') ∧ e = .returned (.tuple #[.int .i64 a, nv]) ∧ w'.cell? ⟨B.X, 8, none⟩ = some (.iface 439 (.agg #[])) ∧ w'.frozen? ⟨B.X, 8, none⟩ = false ∧ Hid (Q nv (w'.setCell ⟨B.X, 8, none⟩ nv))) :
    Calls Tryz.prog 378 #[.pointer (some ⟨B.X, 0, none⟩)] w fun e w' => e = .returned (.int .i64 a) ∧ ∃ nv, Q nv w' := by
  have hd := cmDone0 h (.inr ⟨_, _, rfl⟩)
  have c8 : w.cell? ⟨B.X, 8, none⟩ = some (.iface 439 (.agg #[])) := cmCell h 8
  clear h
  have hm := fun W => mLook W
  simp only [isNilV] at hd
  go_enter Tryz.func378, Tryz.ntmps378
  go_wp2_with fail
  refine hd.mono ?_
  rintro e wq ⟨rfl, rfl⟩
  clear hd
  go_wp2_with (simp only [hm])
  refine hc.mono ?_
  rintro e w1 ⟨nv, hnv, rfl, d8, f8, H1⟩
  clear hc c8
  rcases hnv with rfl | ⟨t, y', rfl⟩
  all_goals
    go_wp2
    go_ret
    exact ⟨rfl, _, H1.out⟩
set_option maxRecDepth 100000 in
set_option maxHeartbeats 1000000 in
theorem byDoom {p : Value} (h : St o (cmG A B x (.iface 449 (.agg #[p])) X vl vd vv ++ R) w) {a : Int} {Q : Value → World → Prop}
    (hc : Calls Tryz.prog 421 #[.agg #[p], .pointer (some ⟨B.X, 0, none⟩)] w fun e w' => ∃ nv, (nv = .nilIface ∨ ∃ t y', nv = .iface t y') ∧ e = .returned (.tuple #[.int .i64 a, nv]) ∧ w'.cell? ⟨B.X, 8, none⟩ = some (.iface 449 (.agg #[p])) ∧ w'.frozen? ⟨B.X, 8, none⟩ = false ∧ Hid (Q nv (w'.setCell ⟨B.X, 8, none⟩ nv))) :
    Calls Tryz.prog 378 #[.pointer (some ⟨B.X, 0, none⟩)] w fun e w' => e = .returned (.int .i64 a) ∧ ∃ nv, Q nv w' := by
  have hd := cmDone0 h (.inr ⟨_, _, rfl⟩)
  have c8 : w.cell? ⟨B.X, 8, none⟩ = some (.iface 449 (.agg #[p])) := cmCell h 8
  clear h
  have hm := fun W => mDoom p W
  simp only [isNilV] at hd
  go_enter Tryz.func378, Tryz.ntmps378
  go_wp2_with fail
  refine hd.mono ?_
  rintro e wq ⟨rfl, rfl⟩
  clear hd
  go_wp2_with (simp only [hm])
  refine hc.mono ?_
  rintro e w1 ⟨nv, hnv, rfl, d8, f8, H1⟩
  clear hc c8
  rcases hnv with rfl | ⟨t, y', rfl⟩
  all_goals
    go_wp2
    go_ret
    exact ⟨rfl, _, H1.out⟩
set_option maxRecDepth 100000 in
set_option maxHeartbeats 1000000 in
theorem byWrite {p : Option Addr} {n m : Nat} (h : St o (cmG A B x (.iface 450 (.slice p n m)) X vl vd vv ++ R) w) {a : Int} {Q : Value → World → Prop}
    (hc : Calls Tryz.prog 424 #[.slice p n m, .pointer (some ⟨B.X, 0, none⟩)] w fun e w' => ∃ nv, (nv = .nilIface ∨ ∃ t y', nv = .iface t y') ∧ e = .returned (.tuple #[.int .i64 a, nv]) ∧ w'.cell? ⟨B.X, 8, none⟩ = some (.iface 450 (.slice p n m)) ∧ w'.frozen? ⟨B.X, 8, none⟩ = false ∧ Hid (Q nv (w'.setCell ⟨B.X, 8, none⟩ nv))) :
    Calls Tryz.prog 378 #[.pointer (some ⟨B.X, 0, none⟩)] w fun e w' => e = .returned (.int .i64 a) ∧ ∃ nv, Q nv w' := by
  have hd := cmDone0 h (.inr ⟨_, _, rfl⟩)
  have c8 : w.cell? ⟨B.X, 8, none⟩ = some (.iface 450 (.slice p n m)) := cmCell h 8
  clear h
  have hm := fun W => mWrite p n m W
  simp only [isNilV] at hd
  go_enter Tryz.func378, Tryz.ntmps378
  go_wp2_with fail
  refine hd.mono ?_
  rintro e wq ⟨rfl, rfl⟩
  clear hd
  go_wp2_with (simp only [hm])
  refine hc.mono ?_
  rintro e w1 ⟨nv, hnv, rfl, d8, f8, H1⟩
  clear hc c8
  rcases hnv with rfl | ⟨t, y', rfl⟩
  all_goals
    go_wp2
    go_ret
    exact ⟨rfl, _, H1.out⟩
set_option maxRecDepth 100000 in
set_option maxHeartbeats 1000000 in
theorem byGive (h : St o (cmG A B x (.iface 461 (.agg #[])) X vl vd vv ++ R) w) {a : Int} {Q : Value → World → Prop}
    (hc : Calls Tryz.prog 427 #[.agg #[], .pointer (some ⟨B.X, 0, none⟩)] w fun e w' => ∃ nv, (nv = .nilIface ∨ ∃ t y', nv = .iface t y') ∧ e = .returned (.tuple #[.int .i64 a, nv]) ∧ w'.cell? ⟨B.X, 8, none⟩ = some (.iface 461 (.agg #[])) ∧ w'.frozen? ⟨B.X, 8, none⟩ = false ∧ Hid (Q nv (w'.setCell ⟨B.X, 8, none⟩ nv))) :
    Calls Tryz.prog 378 #[.pointer (some ⟨B.X, 0, none⟩)] w fun e w' => e = .returned (.int .i64 a) ∧ ∃ nv, Q nv w' := by
  have hd := cmDone0 h (.inr ⟨_, _, rfl⟩)
  have c8 : w.cell? ⟨B.X, 8, none⟩ = some (.iface 461 (.agg #[])) := cmCell h 8
  clear h
  have hm := fun W => mGive W
  simp only [isNilV] at hd
  go_enter Tryz.func378, Tryz.ntmps378
  go_wp2_with fail
  refine hd.mono ?_
  rintro e wq ⟨rfl, rfl⟩
  clear hd
  go_wp2_with (simp only [hm])
  refine hc.mono ?_
  rintro e w1 ⟨nv, hnv, rfl, d8, f8, H1⟩
  clear hc c8
  rcases hnv with rfl | ⟨t, y', rfl⟩
  all_goals
    go_wp2
    go_ret
    exact ⟨rfl, _, H1.out⟩
set_option maxRecDepth 100000 in
set_option maxHeartbeats 1000000 in
theorem byUp (h : St o (cmG A B x (.iface 438 (.agg #[])) X vl vd vv ++ R) w) {a : Int} {Q : Value → World → Prop}
    (hc : Calls Tryz.prog 411 #[.agg #[], .pointer (some ⟨B.X, 0, none⟩)] w fun e w' => ∃ nv, (nv = .nilIface ∨ ∃ t y', nv = .iface t y') ∧ e = .returned (.tuple #[.int .i64 a, nv]) ∧ w'.cell? ⟨B.X, 8, none⟩ = some (.iface 438 (.agg #[])) ∧ w'.frozen? ⟨B.X, 8, none⟩ = false ∧ Hid (Q nv (w'.setCell ⟨B.X, 8, none⟩ nv))) :
    Calls Tryz.prog 378 #[.pointer (some ⟨B.X, 0, none⟩)] w fun e w' => e = .returned (.int .i64 a) ∧ ∃ nv, Q nv w' := by
  have hd := cmDone0 h (.inr ⟨_, _, rfl⟩)
  have c8 : w.cell? ⟨B.X, 8, none⟩ = some (.iface 438 (.agg #[])) := cmCell h 8
  clear h
  have hm := fun W => mUp W
  simp only [isNilV] at hd
  go_enter Tryz.func378, Tryz.ntmps378
  go_wp2_with fail
  refine hd.mono ?_
  rintro e wq ⟨rfl, rfl⟩
  clear hd
  go_wp2_with (simp only [hm])
  refine hc.mono ?_
  rintro e w1 ⟨nv, hnv, rfl, d8, f8, H1⟩
  clear hc c8
  rcases hnv with rfl | ⟨t, y', rfl⟩
  all_goals
    go_wp2
    go_ret
    exact ⟨rfl, _, H1.out⟩
set_option maxRecDepth 100000 in
set_option maxHeartbeats 1000000 in
theorem byFree (h : St o (cmG A B x (.iface 459 (.agg #[])) X vl vd vv ++ R) w) {a : Int} {Q : Value → World → Prop}
    (hc : Calls Tryz.prog 426 #[.agg #[], .pointer (some ⟨B.X, 0, none⟩)] w fun e w' => ∃ nv, (nv = .nilIface ∨ ∃ t y', nv = .iface t y') ∧ e = .returned (.tuple #[.int .i64 a, nv]) ∧ w'.cell? ⟨B.X, 8, none⟩ = some (.iface 459 (.agg #[])) ∧ w'.frozen? ⟨B.X, 8, none⟩ = false ∧ Hid (Q nv (w'.setCell ⟨B.X, 8, none⟩ nv))) :
    Calls Tryz.prog 378 #[.pointer (some ⟨B.X, 0, none⟩)] w fun e w' => e = .returned (.int .i64 a) ∧ ∃ nv, Q nv w' := by
  have hd := cmDone0 h (.inr ⟨_, _, rfl⟩)
  have c8 : w.cell? ⟨B.X, 8, none⟩ = some (.iface 459 (.agg #[])) := cmCell h 8
  clear h
  have hm := fun W => mFree W
  simp only [isNilV] at hd
  go_enter Tryz.func378, Tryz.ntmps378
  go_wp2_with fail
  refine hd.mono ?_
  rintro e wq ⟨rfl, rfl⟩
  clear hd
  go_wp2_with (simp only [hm])
  refine hc.mono ?_
  rintro e w1 ⟨nv, hnv, rfl, d8, f8, H1⟩
  clear hc c8
  rcases hnv with rfl | ⟨t, y', rfl⟩
  all_goals
    go_wp2
    go_ret
    exact ⟨rfl, _, H1.out⟩
/-- What stands behind a stage's step, when its cell is written. -/
theorem cmStore {T : Nat} {y nv : Value} (h : St o (cmG A B x (.iface T y) X vl vd vv ++ R) w) : w.cell? ⟨B.X, 8, none⟩ = some (.iface T y) ∧ w.frozen? ⟨B.X, 8, none⟩ = false ∧ St o (cmG A B x nv X vl vd vv ++ R) (w.setCell ⟨B.X, 8, none⟩ nv) :=
  ⟨cmCell h 8, cmFrozen h 8, h.write 0 cmAt0 8 nv⟩

set_option maxHeartbeats 1000000 in
theorem cmStep0 (h : St o (cmL A B D x vl vd vv dl dv ++ R) w) (i j : Nat) (hij : i ≠ j) (hi : R[i]? = some (spI A c z v u)) {df : Int} (hj : R[j]? = some (boxI B.J (jd c df) 257)) (hf : c.fits = true) (hd : 0 ≤ df) (hx : x.fit z.hs.length) {n : Nat} (ok : z.ok c n) (hn : n ≤ 4611686018427) (hw : WsOk z.ws) :
    Calls Tryz.prog 378 #[.pointer (some ⟨B.X, 0, none⟩)] w fun e w' => e = .returned (.int .i64 (x.ans z)) ∧ ∃ D' v' vl' vd' vv' dl' dv', St o (cmL A B D' (x.next c z df) vl' vd' vv' dl' dv' ++ (R.set i (spI A c (z.commits x) v' u)).set j (boxI B.J (jd c (x.nextDf c z df)) 257)) w' := by
  have hjb : ∀ Y, (R.set i Y).set j (boxI B.J (jd c df) 257) = R.set i Y := fun Y => set_back (set_other hj hij)
  unfold cmL at h
  obtain ⟨so, ge, th, sp, wr, lk, st, er, won, num⟩ := x
  cases st with
  | take =>
    simp only [Cm.ans, Cm.next, SSt.commits, Cm.nextDf, hjb]
    by_cases hE : takeE z.x th = 0
    · rw [if_pos hE, if_pos hE]
      refine (byTake (a := 1) (Q := fun nv w' => ∃ v', nv = .iface 431 (.agg #[]) ∧ St o (cmG A B ⟨so, ge, th, sp, wr, lk, .own, er, won, takeR z.x th⟩ nv (joinI []) vl vd vv ++ R.set i (spI A c (z.take th) v' u)) w') h ((stTakeY h i hi ok hn hE).mono ?_)).mono ?_
      · rintro e w' ⟨rfl, v', s⟩
        obtain ⟨q1, q2, q3⟩ := cmStore (nv := .iface 431 (.agg #[])) s
        exact ⟨_, by first | exact .inr ⟨_, _, rfl⟩ | exact .inl rfl | exact Stg.val_form .., rfl, q1, q2, v', rfl, q3⟩
      · rintro e w' ⟨he, nv, v', rfl, s⟩
        exact ⟨he, D, v', vl, vd, vv, dl, dv, s⟩
    · rw [if_neg hE, if_neg hE]
      refine (byTake (a := 2) (Q := fun nv w' => ∃ v', nv = .iface 355 (.agg #[]) ∧ St o (cmG A B ⟨so, ge, th, sp, wr, lk, .take, er, won, num⟩ nv (joinI []) vl vd vv ++ R.set i (spI A c (z.take th) v' u)) w') h ((stTakeN h i hi ok hn hE).mono ?_)).mono ?_
      · rintro e w' ⟨rfl, v', s⟩
        obtain ⟨q1, q2, q3⟩ := cmStore (nv := .iface 355 (.agg #[])) s
        exact ⟨_, by first | exact .inr ⟨_, _, rfl⟩ | exact .inl rfl | exact Stg.val_form .., rfl, q1, q2, v', rfl, q3⟩
      · rintro e w' ⟨he, nv, v', rfl, s⟩
        exact ⟨he, D, v', vl, vd, vv, dl, dv, s⟩
  | own =>
    simp only [Cm.ans, Cm.next, SSt.commits, Cm.nextDf]
    generalize hY : (if (nowAt z.hs so).mine ge = true then Cm.lookOn ⟨so, ge, th, sp, wr, lk, .own, er, won, num⟩ c df else Cm.giveUp ⟨so, ge, th, sp, wr, lk, .own, er, won, num⟩ 7) = Y
    have hwr : Y.wr.length = wr.length := by
      rw [← hY]
      split
      · rw [Cm.lookOn_wr]
      · rfl
    refine (byOwn (a := 1) (Q := fun nv w' => ∃ D dl dv v', nv = Y.st.val D B.gw wr.length B.cw ∧ St o (cmG A B Y nv (Y.st.it D A.t dl dv) vl vd vv ++ (R.set i (spI A c (z.look so) v' u)).set j (boxI B.J (jd c (if (nowAt z.hs so).mine ge = true then Cm.lookDf ⟨so, ge, th, sp, wr, lk, .own, er, won, num⟩ c df else df)) 257)) w') h ((stOwn h i j hij hi hj hf hd hx ok hn).mono ?_)).mono ?_
    · rintro e w' ⟨D, dl, dv, rfl, v', s⟩
      rw [hY] at s ⊢
      obtain ⟨q1, q2, q3⟩ := cmStore (nv := Y.st.val D B.gw wr.length B.cw) s
      exact ⟨_, Stg.val_form .., rfl, q1, q2, D, dl, dv, v', rfl, q3⟩
    · rintro e w' ⟨he, nv, D, dl, dv, v', rfl, s⟩
      rw [← hwr] at s
      exact ⟨he, D, v', vl, vd, vv, dl, dv, s⟩
  | look =>
    simp only [Cm.ans, Cm.next, SSt.commits, Cm.nextDf]
    generalize hY : (Cm.looked ⟨so, ge, th, sp, wr, lk, .look, er, won, num⟩ z) = X0
    have hwr : (X0.lookOn c df).wr.length = wr.length := by
      rw [Cm.lookOn_wr, ← hY]
      rfl
    refine (byLook (a := 1) (Q := fun nv w' => ∃ D dl dv v' vl' vd' vv', nv = (X0.lookOn c df).st.val D B.gw wr.length B.cw ∧ St o (cmG A B (X0.lookOn c df) nv ((X0.lookOn c df).st.it D A.t dl dv) vl' vd' vv' ++ (R.set i (spI A c (z.looks lk) v' u)).set j (boxI B.J (jd c (X0.lookDf c df)) 257)) w') h ((stLook h i j hij hi hj hf hd hx ok hn hw).mono ?_)).mono ?_
    · rintro e w' ⟨D, dl, dv, rfl, v', vl', vd', vv', s⟩
      rw [hY] at s ⊢
      obtain ⟨q1, q2, q3⟩ := cmStore (nv := (X0.lookOn c df).st.val D B.gw wr.length B.cw) s
      exact ⟨_, Stg.val_form .., rfl, q1, q2, D, dl, dv, v', vl', vd', vv', rfl, q3⟩
    · rintro e w' ⟨he, nv, D, dl, dv, v', vl', vd', vv', rfl, s⟩
      rw [← hwr] at s
      exact ⟨he, D, v', vl', vd', vv', dl, dv, s⟩
  | doom d =>
    simp only [Cm.ans, Cm.next, SSt.commits, Cm.nextDf, hjb]
    refine (byDoom (a := 1) (Q := fun nv w' => ∃ v' dl' dv', nv = (Cm.doomOn ⟨so, ge, th, sp, wr, lk, .doom d, er, won, num⟩ (d.next z.hs)).st.val D B.gw wr.length B.cw ∧ St o (cmG A B (Cm.doomOn ⟨so, ge, th, sp, wr, lk, .doom d, er, won, num⟩ (d.next z.hs)) nv ((Cm.doomOn ⟨so, ge, th, sp, wr, lk, .doom d, er, won, num⟩ (d.next z.hs)).st.it D A.t dl' dv') vl vd vv ++ R.set i (spI A c (z.dooms d) v' u)) w') h ((stDoom h i hi ok hn (hx.dm d rfl).2).mono ?_)).mono ?_
    · rintro e w' ⟨rfl, v', dl', dv', s⟩
      obtain ⟨q1, q2, q3⟩ := cmStore (nv := (Cm.doomOn ⟨so, ge, th, sp, wr, lk, .doom d, er, won, num⟩ (d.next z.hs)).st.val D B.gw wr.length B.cw) s
      exact ⟨_, Stg.val_form .., rfl, q1, q2, v', dl', dv', rfl, q3⟩
    · rintro e w' ⟨he, nv, v', dl', dv', rfl, s⟩
      exact ⟨he, D, v', vl, vd, vv, dl', dv', s⟩
  | write k =>
    simp only [Cm.ans, Cm.next, SSt.commits, Cm.nextDf, hjb]
    have hk : k < wr.length := hx.wk k rfl
    refine (byWrite (a := 1) (Q := fun nv w' => ∃ v', nv = (if k + 1 = wr.length then Stg.give else Stg.write (k + 1)).val D B.gw wr.length B.cw ∧ St o (cmG A B ⟨so, ge, th, sp, wr, lk, .write k, er, won, num⟩ nv (joinI []) vl vd vv ++ R.set i (spI A c (z.store (wr.getD k Pr.zero).ce (wr.getD k Pr.zero).x) v' u)) w') h ((stWrite h i hi ok hn hk (D := D)).mono ?_)).mono ?_
    · rintro e w' ⟨rfl, v', s⟩
      obtain ⟨q1, q2, q3⟩ := cmStore (nv := (if k + 1 = wr.length then Stg.give else Stg.write (k + 1)).val D B.gw wr.length B.cw) s
      exact ⟨_, by first | exact .inr ⟨_, _, rfl⟩ | exact .inl rfl | exact Stg.val_form .., rfl, q1, q2, v', rfl, q3⟩
    · rintro e w' ⟨he, nv, v', rfl, s⟩
      refine ⟨he, D, v', vl, vd, vv, dl, dv, ?_⟩
      have : (if k + 1 = wr.length then Stg.give else Stg.write (k + 1)).it D A.t dl dv = joinI [] := by split <;> rfl
      unfold cmL
      simp only
      rw [this]
      exact s
  | give =>
    simp only [Cm.ans, Cm.next, SSt.commits, Cm.nextDf, hjb]
    refine (byGive (a := 1) (Q := fun nv w' => ∃ v', nv = .iface 459 (.agg #[]) ∧ St o (cmG A B ⟨so, ge, th, sp, wr, lk, .free, er, true, num⟩ nv (joinI []) vl vd vv ++ R.set i (spI A c (z.give th) v' u)) w') h ((stGive h i hi ok hn).mono ?_)).mono ?_
    · rintro e w' ⟨rfl, v', s⟩
      obtain ⟨q1, q2, q3⟩ := cmStore (nv := .iface 459 (.agg #[])) s
      exact ⟨_, by first | exact .inr ⟨_, _, rfl⟩ | exact .inl rfl | exact Stg.val_form .., rfl, q1, q2, v', rfl, q3⟩
    · rintro e w' ⟨he, nv, v', rfl, s⟩
      exact ⟨he, D, v', vl, vd, vv, dl, dv, s⟩
  | up =>
    simp only [Cm.ans, Cm.next, SSt.commits, Cm.nextDf, hjb]
    refine (byUp (a := if er = 9 then 2 else 1) (Q := fun nv w' => ∃ v', nv = .iface 459 (.agg #[]) ∧ St o (cmG A B ⟨so, ge, th, sp, wr, lk, .free, er, won, num⟩ nv (joinI []) vl vd vv ++ R.set i (spI A c (z.give th) v' u)) w') h ((stUp h i hi ok hn).mono ?_)).mono ?_
    · rintro e w' ⟨rfl, v', s⟩
      obtain ⟨q1, q2, q3⟩ := cmStore (nv := .iface 459 (.agg #[])) s
      exact ⟨_, by first | exact .inr ⟨_, _, rfl⟩ | exact .inl rfl | exact Stg.val_form .., rfl, q1, q2, v', rfl, q3⟩
    · rintro e w' ⟨he, nv, v', rfl, s⟩
      exact ⟨he, D, v', vl, vd, vv, dl, dv, s⟩
  | free =>
    simp only [Cm.ans, Cm.next, SSt.commits, Cm.nextDf, hjb]
    refine (byFree (a := 1) (Q := fun nv w' => ∃ v', nv = .nilIface ∧ St o (cmG A B ⟨so, ge, th, sp, wr, lk, .over, er, won, num⟩ nv (joinI []) vl vd vv ++ R.set i (spI A c (z.op (freeOp ge) so) v' u)) w') h ((stFree h i hi ok hn).mono ?_)).mono ?_
    · rintro e w' ⟨rfl, v', s⟩
      obtain ⟨q1, q2, q3⟩ := cmStore (nv := .nilIface) s
      exact ⟨_, by first | exact .inr ⟨_, _, rfl⟩ | exact .inl rfl | exact Stg.val_form .., rfl, q1, q2, v', rfl, q3⟩
    · rintro e w' ⟨he, nv, v', rfl, s⟩
      exact ⟨he, D, v', vl, vd, vv, dl, dv, s⟩
  | over =>
    simp only [Cm.ans, Cm.next, SSt.commits, Cm.nextDf, hjb]
    have hD := cmDone0 h (.inl rfl)
    have HS : Hid (St o (cmL A B D ⟨so, ge, th, sp, wr, lk, .over, er, won, num⟩ vl vd vv dl dv ++ R.set i (spI A c z v u)) w) := by
      rw [set_back hi]
      exact h
    clear h hi hj hx ok hjb
    go_enter Tryz.func378, Tryz.ntmps378
    go_wp2_with fail
    refine hD.mono ?_
    rintro e wq ⟨rfl, rfl⟩
    clear hD
    go_wp2
    go_ret
    exact ⟨rfl, D, v, vl, vd, vv, dl, dv, HS.out⟩
/-- A commit among other things. -/
theorem cmStep {its : List It} (h : St o its w) (i j k : Nat) (hij : i ≠ j) (hik : i ≠ k) (hjk : j ≠ k) (hi : its[i]? = some (spI A c z v u)) {df : Int} (hj : its[j]? = some (boxI B.J (jd c df) 257)) (hk : its[k]? = some (cmI A B D x vl vd vv dl dv)) (hf : c.fits = true) (hd : 0 ≤ df) (hx : x.fit z.hs.length) {n : Nat} (ok : z.ok c n) (hn : n ≤ 4611686018427) (hw : WsOk z.ws) :
    Calls Tryz.prog 378 #[.pointer (some ⟨B.X, 0, none⟩)] w fun e w' => e = .returned (.int .i64 (x.ans z)) ∧ ∃ D' v' vl' vd' vv' dl' dv', St o (((its.set i (spI A c (z.commits x) v' u)).set j (boxI B.J (jd c (x.nextDf c z df)) 257)).set k (cmI A B D' (x.next c z df) vl' vd' vv' dl' dv')) w' := by
  obtain ⟨i', j', hn', hi', hj', hs'⟩ := erase_get2 hik hjk hij hi hj
  refine (cmStep0 (h.open k hk) i' j' hn' hi' hj' hf hd hx ok hn hw).mono ?_
  rintro e w' ⟨he, D', v', vl', vd', vv', dl', dv', h'⟩
  rw [hs'] at h'
  exact ⟨he, D', v', vl', vd', vv', dl', dv', St.shut (l := cmL A B D' (x.next c z df) vl' vd' vv' dl' dv') (set_other (set_other hk hik) hjk) h'⟩
theorem cmDone {its : List It} (h : St o its w) (k : Nat) (hk : its[k]? = some (cmI A B D x vl vd vv dl dv)) : Calls Tryz.prog 374 #[.pointer (some ⟨B.X, 0, none⟩)] w fun e w' => e = .returned (.bool x.done) ∧ w' = w := cmDoneL (h.open k hk)
theorem cmWon {its : List It} (h : St o its w) (k : Nat) (hk : its[k]? = some (cmI A B D x vl vd vv dl dv)) : Calls Tryz.prog 377 #[.pointer (some ⟨B.X, 0, none⟩)] w fun e w' => e = .returned (.bool x.won) ∧ w' = w := cmWonL (h.open k hk)
theorem cmNumber {its : List It} (h : St o its w) (k : Nat) (hk : its[k]? = some (cmI A B D x vl vd vv dl dv)) : Calls Tryz.prog 379 #[.pointer (some ⟨B.X, 0, none⟩)] w fun e w' => e = .returned (.int .i64 x.num) ∧ w' = w := cmNumberL (h.open k hk)
theorem cmEnd {its : List It} (h : St o its w) (k : Nat) (hk : its[k]? = some (cmI A B D x vl vd vv dl dv)) : Calls Tryz.prog 380 #[.pointer (some ⟨B.X, 0, none⟩)] w fun e w' => e = .returned (.int .i64 x.end_) ∧ w' = w := cmEndL (h.open k hk)
theorem cmVictims {its : List It} (h : St o its w) (k : Nat) (hk : its[k]? = some (cmI A B D x vl vd vv dl dv)) (hx : x.lk.fit) : Calls Tryz.prog 396 #[.pointer (some ⟨B.X, 0, none⟩)] w fun e w' => ∃ v', e = .returned v' ∧ St o (ownI 374 4 v' x.lk.vs.length (vtCells x.lk.vs) :: its) w' := by
  refine (cmVictims0 (h.open k hk) hx).mono ?_
  rintro e w' ⟨v', he, s⟩
  have := St.shut1 (l := cmL A B D x vl vd vv dl dv) hk s
  rw [show its.set k (joinI (cmL A B D x vl vd vv dl dv)) = its from set_back hk] at this
  exact ⟨v', he, this⟩
end
end Go.Proofs.YthbcbjkgjgmegaaGreat
