/- Reads: the head; done, its value, what it goes out from; a step. Reads: done, its value, what it goes out from; a step; a new one. Reads: a new one. -/
import Derived.Test.YthbcbjkgjgmegaaGreatRdC
import Derived.Test.YthbcbjkgjgmegaaGreatSame
namespace Go.Proofs.YthbcbjkgjgmegaaGreat
open Go.RowKit
set_option linter.unusedVariables false
set_option linter.unusedSimpArgs false
attribute [local go_sem ↓] Go.wp_at_zero Go.wp_at_succ

section
variable {o w : World} {its : List It} {A : Ad} {c : Cfg} {z : SSt} {v u : Value} {k s : Nat} {r : Rd}

set_option maxRecDepth 100000 in
set_option maxHeartbeats 4000000 in
theorem rdHead (h : St o its w) (i j : Nat) (hij : i ≠ j) (hi : its[i]? = some (spI A c z v u)) (hj : its[j]? = some (rdI k A.sp r)) {n : Nat} (ok : z.ok c n) (hn : n ≤ 4611686018427) :
    Calls Tryz.prog 302 #[.pointer (some ⟨k, 0, none⟩)] w fun e w' => e = .returned (.int .i64 1) ∧ ∃ v', St o ((its.set i (spI A c (z.look r.sl) v' u)).set j (rdI k A.sp { r with st := 4, e := if r.fair (nowAt z.hs r.sl) then 0 else 7 })) w' := by
  have c0 : w.cell? ⟨k, 0, none⟩ = some (.pointer (some ⟨A.sp, 0, none⟩)) := rdCell h j hj 0
  have c1 : w.cell? ⟨k, 1, none⟩ = some (.int .i64 r.sl) := rdCell h j hj 1
  have x0 : w.drew.cell? ⟨k, 0, none⟩ = some (.pointer (some ⟨A.sp, 0, none⟩)) := rdCell h.drew j hj 0
  have x1 : w.drew.cell? ⟨k, 1, none⟩ = some (.int .i64 r.sl) := rdCell h.drew j hj 1
  have hs : Calls Tryz.prog 243 #[.pointer (some ⟨A.sp, 0, none⟩)] w.drew fun e w' => e = .returned (.pointer (some ⟨A.t, 0, none⟩)) ∧ w' = w.drew := spSlots h.drew i hi
  have hs1 : Calls Tryz.prog 243 #[.pointer (some ⟨A.sp, 0, none⟩)] (w.alloc (.cells #[.int .i64 0, .int .i64 0, .int .i64 0, .int .i64 0, .bool false, .int .i64 0] 181)).drew fun e w' => e = .returned (.pointer (some ⟨A.t, 0, none⟩)) ∧ w' = (w.alloc (.cells #[.int .i64 0, .int .i64 0, .int .i64 0, .int .i64 0, .bool false, .int .i64 0] 181)).drew := spSlots (h.alloc _).drew i hi
  have y0 : (w.alloc (.cells #[.int .i64 0, .int .i64 0, .int .i64 0, .int .i64 0, .bool false, .int .i64 0] 181)).cell? ⟨k, 0, none⟩ = some (.pointer (some ⟨A.sp, 0, none⟩)) := rdCell (h.alloc _) j hj 0
  have y1 : (w.alloc (.cells #[.int .i64 0, .int .i64 0, .int .i64 0, .int .i64 0, .bool false, .int .i64 0] 181)).cell? ⟨k, 1, none⟩ = some (.int .i64 r.sl) := rdCell (h.alloc _) j hj 1
  have hq : Calls Tryz.prog 309 #[.pointer (some ⟨A.t, 0, none⟩), .int .i64 r.sl] w.drew fun e w' => e = .returned (.tuple #[(nowAt z.hs r.sl).val, .int .i64 (lookE z.hs r.sl)]) ∧ ∃ v', w'.cell? ⟨k, 0, none⟩ = some (.pointer (some ⟨A.sp, 0, none⟩)) ∧ w'.cell? ⟨k, 1, none⟩ = some (.int .i64 r.sl) ∧ Hid (St o (its.set i (spI A c (z.look r.sl) v' u)) w') := by
    refine (spLook h.drew i hi ok hn r.sl).mono ?_
    rintro e w' ⟨he, v', h'⟩
    have hj' := set_other (A := spI A c (z.look r.sl) v' u) hj hij
    exact ⟨he, v', rdCell h' j hj' 0, rdCell h' j hj' 1, h'⟩
  have hq1 : Calls Tryz.prog 309 #[.pointer (some ⟨A.t, 0, none⟩), .int .i64 r.sl] (w.alloc (.cells #[.int .i64 0, .int .i64 0, .int .i64 0, .int .i64 0, .bool false, .int .i64 0] 181)).drew fun e w' => e = .returned (.tuple #[(nowAt z.hs r.sl).val, .int .i64 (lookE z.hs r.sl)]) ∧ ∃ v', w'.cell? ⟨k, 0, none⟩ = some (.pointer (some ⟨A.sp, 0, none⟩)) ∧ w'.cell? ⟨k, 1, none⟩ = some (.int .i64 r.sl) ∧ w'.cell? ⟨w.heap.size, 0, none⟩ = some (.int .i64 0) ∧ w'.cell? ⟨w.heap.size, 1, none⟩ = some (.int .i64 0) ∧ w'.cell? ⟨w.heap.size, 2, none⟩ = some (.int .i64 0) ∧ w'.cell? ⟨w.heap.size, 3, none⟩ = some (.int .i64 0) ∧ w'.cell? ⟨w.heap.size, 4, none⟩ = some (.bool false) ∧ w'.cell? ⟨w.heap.size, 5, none⟩ = some (.int .i64 0) ∧ w'.frozen? ⟨w.heap.size, 0, none⟩ = false ∧ w'.frozen? ⟨w.heap.size, 1, none⟩ = false ∧ w'.frozen? ⟨w.heap.size, 2, none⟩ = false ∧ w'.frozen? ⟨w.heap.size, 3, none⟩ = false ∧ w'.frozen? ⟨w.heap.size, 4, none⟩ = false ∧ w'.frozen? ⟨w.heap.size, 5, none⟩ = false ∧ Hid (∀ u0 u1 u2 u3 u4 u5 : Value, St o (boxI w.heap.size #[u0, u1, u2, u3, u4, u5] 181 :: its.set i (spI A c (z.look r.sl) v' u)) ((((((w'.setCell ⟨w.heap.size, 0, none⟩ u0).setCell ⟨w.heap.size, 1, none⟩ u1).setCell ⟨w.heap.size, 2, none⟩ u2).setCell ⟨w.heap.size, 3, none⟩ u3).setCell ⟨w.heap.size, 4, none⟩ u4).setCell ⟨w.heap.size, 5, none⟩ u5)) := by
    refine (spLook (h.box #[.int .i64 0, .int .i64 0, .int .i64 0, .int .i64 0, .bool false, .int .i64 0] 181).drew (i + 1) hi ok hn r.sl).mono ?_
    rintro e w' ⟨he, v', h2⟩
    have hj' := set_other (A := spI A c (z.look r.sl) v' u) hj hij
    exact ⟨he, v', rdCell h2 (j + 1) hj' 0, rdCell h2 (j + 1) hj' 1, h2.cell 0 rfl 0, h2.cell 0 rfl 1, h2.cell 0 rfl 2, h2.cell 0 rfl 3, h2.cell 0 rfl 4, h2.cell 0 rfl 5, h2.frozen 0 rfl 0, h2.frozen 0 rfl 1, h2.frozen 0 rfl 2, h2.frozen 0 rfl 3, h2.frozen 0 rfl 4, h2.frozen 0 rfl 5, fun u0 u1 u2 u3 u4 u5 => (((((h2.write 0 rfl 0 u0).write 0 rfl 1 u1).write 0 rfl 2 u2).write 0 rfl 3 u3).write 0 rfl 4 u4).write 0 rfl 5 u5⟩
  have HJ : Hid (∀ v', (its.set i (spI A c (z.look r.sl) v' u))[j]? = some (rdI k A.sp r)) := fun v' => set_other hj hij
  clear h hi hj ok hij
  unfold Rd.fair
  generalize nowAt z.hs r.sl = x at *
  generalize lookE z.hs r.sl = E at *
  generalize z.look r.sl = z' at *
  obtain ⟨sl, gn, sn, ⟨g0, g1⟩, ce, ⟨b0, b1⟩, st, va, er⟩ := r
  obtain ⟨xgn, xsa, xsp, xth, xdm, xwy⟩ := x
  simp only [Hd.val] at *
  obtain ⟨EV, HEV⟩ : ∃ EV : Int, Hid ((if (xsa == 2 && xgn == gn && !xdm) = true then (0 : Int) else 7) = EV) := ⟨_, rfl⟩
  rw [HEV.out]
  go_enter Tryz.func302, Tryz.ntmps302
  go_upto_region 1 with fail
  go_cut [3] from 5 (fun a W => ∃ (H : Nat) (v' : Value), a = .pointer (some ⟨H, 0, none⟩) ∧ Hid (St o (boxI H #[.int .i64 xgn, .int .i64 xsa, .int .i64 xsp, .int .i64 xth, .bool xdm, .int .i64 xwy] 181 :: its.set i (spI A c z' v' u)) W))
  case first =>
    go_region_with (first | (go_at_call 243; refine hs.mono ?_; rintro e wx ⟨rfl, rfl⟩) | (go_at_call 243; refine hs1.mono ?_; rintro e wx ⟨rfl, rfl⟩) | (go_at_call 309; refine hq.mono ?_; rintro e w2 ⟨rfl, v', d0, d1, HA⟩) | (go_at_call 309; refine hq1.mono ?_; rintro e w2 ⟨rfl, v', d0, d1, k0, k1, k2, k3, k4, k5, m0, m1, m2, m3, m4, m5, HB⟩))
    all_goals
      go_wp2
      go_meet
      first
      | exact ⟨_, v', rfl, HA.out.box _ _⟩
      | exact ⟨_, v', rfl, HB.out (.int .i64 xgn) (.int .i64 xsa) (.int .i64 xsp) (.int .i64 xth) (.bool xdm) (.int .i64 xwy)⟩
  case rest =>
    obtain ⟨H, v', rfl, HB⟩ := hcut
    have hB := HB.out
    clear hs hs1 hq hq1 c0 c1 x0 x1 y0 y1 HB
    have hJ : (boxI H #[.int .i64 xgn, .int .i64 xsa, .int .i64 xsp, .int .i64 xth, .bool xdm, .int .i64 xwy] 181 :: its.set i (spI A c z' v' u))[j + 1]? = some (rdI k A.sp ⟨sl, gn, sn, ⟨g0, g1⟩, ce, ⟨b0, b1⟩, st, va, er⟩) := HJ.out v'
    have f9 := rdFrozen hB (j + 1) hJ 9
    have f11 := rdFrozen hB (j + 1) hJ 11
    have c9 : wc.cell? ⟨k, 9, none⟩ = some (nextV k st) := rdCell hB (j + 1) hJ 9
    have c11 : wc.cell? ⟨k, 11, none⟩ = some (.int .i64 er) := rdCell hB (j + 1) hJ 11
    have hC : St o (boxI H #[.int .i64 xgn, .int .i64 xsa, .int .i64 xsp, .int .i64 xth, .bool xdm, .int .i64 xwy] 181 :: (its.set i (spI A c z' v' u)).set j (rdI k A.sp ⟨sl, gn, sn, ⟨g0, g1⟩, ce, ⟨b0, b1⟩, 4, va, 0⟩)) ((wc.setCell ⟨k, 9, none⟩ .nilFunc).setCell ⟨k, 11, none⟩ (.int .i64 0)) := by
      have h1 := hB.write (j + 1) hJ 9 .nilFunc
      have h2 := h1.write (j + 1) (set_self hJ) 11 (.int .i64 0)
      rw [set_same] at h2
      exact h2
    have hJ4 : ((its.set i (spI A c z' v' u)).set j (rdI k A.sp ⟨sl, gn, sn, ⟨g0, g1⟩, ce, ⟨b0, b1⟩, 4, va, 0⟩))[j]? = some (rdI k A.sp ⟨sl, gn, sn, ⟨g0, g1⟩, ce, ⟨b0, b1⟩, 4, va, 0⟩) := set_self (HJ.out v')
    have HSS : Hid (∀ x, ((its.set i (spI A c z' v' u)).set j (rdI k A.sp ⟨sl, gn, sn, ⟨g0, g1⟩, ce, ⟨b0, b1⟩, 4, va, 0⟩)).set j x = (its.set i (spI A c z' v' u)).set j x) := fun x => set_same
    generalize (its.set i (spI A c z' v' u)).set j (rdI k A.sp ⟨sl, gn, sn, ⟨g0, g1⟩, ce, ⟨b0, b1⟩, 4, va, 0⟩) = its4 at *
    generalize nextV k st = nv at c9
    clear hB hJ
    go_upto_region 3 with fail
    generalize (wc.setCell ⟨k, 9, none⟩ .nilFunc).setCell ⟨k, 11, none⟩ (.int .i64 0) = W6 at *
    have e0 : W6.cell? ⟨H, 0, none⟩ = some (.int .i64 xgn) := hC.cell 0 rfl 0
    have e1 : W6.cell? ⟨H, 1, none⟩ = some (.int .i64 xsa) := hC.cell 0 rfl 1
    have e4 : W6.cell? ⟨H, 4, none⟩ = some (.bool xdm) := hC.cell 0 rfl 4
    have e2 : W6.cell? ⟨k, 2, none⟩ = some (.int .i64 gn) := rdCell hC.pop j hJ4 2
    have HC : Hid (∀ n, St o its4 (W6.drewN n)) := fun n => hC.pop.calm ((Kept.refl _ W6).drewN n)
    have HJ4 : Hid (its4[j]? = some (rdI k A.sp ⟨sl, gn, sn, ⟨g0, g1⟩, ce, ⟨b0, b1⟩, 4, va, 0⟩)) := hJ4
    have HV : Hid (∀ n, (W6.drewN n).cell? ⟨k, 11, none⟩ = some (.int .i64 0) ∧ (W6.drewN n).frozen? ⟨k, 11, none⟩ = false ∧ St o (its4.set j (rdI k A.sp ⟨sl, gn, sn, ⟨g0, g1⟩, ce, ⟨b0, b1⟩, 4, va, 7⟩)) ((W6.drewN n).setCell ⟨k, 11, none⟩ (.int .i64 7))) := fun n => ⟨rdCell (HC.out n) j HJ4.out 11, rdFrozen (HC.out n) j HJ4.out 11, (HC.out n).write j HJ4.out 11 (.int .i64 7)⟩
    have HT0 : Hid (∀ n, St o (its4.set j (rdI k A.sp ⟨sl, gn, sn, ⟨g0, g1⟩, ce, ⟨b0, b1⟩, 4, va, 0⟩)) (W6.drewN n)) := fun n => by
      rw [set_back HJ4.out]
      exact HC.out n
    clear hC hJ4 HC HJ4 f9 f11 c9 c11 HJ
    by_cases q1 : xsa = 2
    · subst q1
      have q1' : ((2 : Int) != 2) = false := rfl
      by_cases q2 : xgn = gn
      · subst q2
        have q2' : (xgn != xgn) = false := by simp
        cases xdm with
        | false =>
          go_quiet (fail)
          go_wp2
          go_ret
          refine ⟨rfl, v', ?_⟩
          have h7 := HT0.out nq
          rw [HSS.out] at h7
          have hE : EV = 0 := by rw [← HEV.out]; simp
          rw [hE]
          exact h7
        | true =>
          go_quiet (fail)
          obtain ⟨v1, v2, -⟩ := HV.out nq
          go_wp2
          go_ret
          refine ⟨rfl, v', ?_⟩
          have h7 := (HV.out nq).2.2
          rw [HSS.out] at h7
          have hE : EV = 7 := by rw [← HEV.out]; simp
          rw [hE]
          exact h7
      · have q2' : (xgn != gn) = true := by simpa using q2
        go_quiet (fail)
        obtain ⟨v1, v2, -⟩ := HV.out nq
        go_wp2
        go_ret
        refine ⟨rfl, v', ?_⟩
        have h7 := (HV.out nq).2.2
        rw [HSS.out] at h7
        have hE : EV = 7 := by rw [← HEV.out]; simp [q2]
        rw [hE]
        exact h7
    · have q1' : (xsa != 2) = true := by simpa using q1
      go_quiet (fail)
      obtain ⟨v1, v2, -⟩ := HV.out nq
      go_wp2
      go_ret
      refine ⟨rfl, v', ?_⟩
      have h7 := (HV.out nq).2.2
      rw [HSS.out] at h7
      have hE : EV = 7 := by rw [← HEV.out]; simp [q1]
      rw [hE]
      exact h7
end
end Go.Proofs.YthbcbjkgjgmegaaGreat

namespace Go.Proofs.YthbcbjkgjgmegaaGreat
open Go.RowKit
set_option linter.unusedVariables false
set_option linter.unusedSimpArgs false
attribute [local go_sem ↓] Go.wp_at_zero Go.wp_at_succ

section
variable {o w : World} {its : List It} {A : Ad} {c : Cfg} {z : SSt} {v u : Value} {k s : Nat} {r : Rd}

theorem nextV_done (k st : Nat) (h : st ≤ 4) (w : World) : (binOp .eql 62 (nextV k st) .nilFunc).run Tryz.prog w = .ok (.bool (st == 4)) w := by
  rcases (show st = 0 ∨ st = 1 ∨ st = 2 ∨ st = 3 ∨ st = 4 by omega) with rfl | rfl | rfl | rfl | rfl <;> kernel_rfl

set_option maxRecDepth 100000 in
theorem rdDone (h : St o its w) (j : Nat) (hj : its[j]? = some (rdI k s r)) (hs : r.st ≤ 4) :
    Calls Tryz.prog 369 #[.pointer (some ⟨k, 0, none⟩)] w fun e w' => e = .returned (.bool (r.st == 4)) ∧ w' = w := by
  have c9 : w.cell? ⟨k, 9, none⟩ = some (nextV k r.st) := rdCell h j hj 9
  clear h hj
  have hb := nextV_done k r.st hs
  rcases (show r.st = 0 ∨ r.st = 1 ∨ r.st = 2 ∨ r.st = 3 ∨ r.st = 4 by omega) with h | h | h | h | h
  all_goals
    rw [h] at c9 hb ⊢
    simp [nextV] at c9 hb
    clear h hs
    go_enter Tryz.func369, Tryz.ntmps369
    go_wp2
    go_ret
    exact ⟨rfl, rfl⟩

def Rd.valX (r : Rd) : Int := if r.e = 0 then r.va else 0
set_option maxRecDepth 100000 in
theorem rdValue (h : St o its w) (j : Nat) (hj : its[j]? = some (rdI k s r)) :
    Calls Tryz.prog 370 #[.pointer (some ⟨k, 0, none⟩)] w fun e w' => e = .returned (.tuple #[.int .i64 r.valX, .int .i64 r.e]) ∧ ∃ q, w' = w.drewN q := by
  have c10 : w.cell? ⟨k, 10, none⟩ = some (.int .i64 r.va) := rdCell h j hj 10
  have c11 : w.cell? ⟨k, 11, none⟩ = some (.int .i64 r.e) := rdCell h j hj 11
  clear h hj
  unfold Rd.valX
  by_cases he : r.e = 0
  · rw [if_pos he, he]
    rw [he] at c11
    generalize r.va = va at *
    clear he
    go_enter Tryz.func370, Tryz.ntmps370
    go_wp2
    go_ret2
    exact ⟨rfl, 0, rfl⟩
  · rw [if_neg he]
    have he' : (r.e != 0) = true := by simpa using he
    generalize r.e = er at *
    clear he c10
    go_enter Tryz.func370, Tryz.ntmps370
    go_upto_region 2 with fail
    go_quiet (fail)
    go_wp2
    go_ret2
    exact ⟨rfl, nq, rfl⟩

def Rd.fromV (r : Rd) : Value := .agg #[.int .i64 r.sl, .int .i64 r.gn, .int .i64 r.sn, .int .u64 r.sg.lo, .int .u64 r.sg.hi]
set_option maxRecDepth 100000 in
theorem rdFrom (h : St o its w) (j : Nat) (hj : its[j]? = some (rdI k s r)) :
    Calls Tryz.prog 371 #[.pointer (some ⟨k, 0, none⟩)] w fun e w' => e = .returned r.fromV ∧ St o its w' := by
  have h0 := h.box #[.int .i64 0, .int .i64 0, .int .i64 0, .int .u64 0, .int .u64 0] 205
  clear h
  unfold Rd.fromV
  go_enter Tryz.func371, Tryz.ntmps371
  go_upto_region 1 with fail
  generalize w.alloc (.cells #[.int .i64 0, .int .i64 0, .int .i64 0, .int .u64 0, .int .u64 0] 205) = W0 at *
  generalize w.heap.size = B at *
  have c1 : W0.cell? ⟨k, 1, none⟩ = some (.int .i64 r.sl) := rdCell h0 (j + 1) hj 1
  have c2 : W0.cell? ⟨k, 2, none⟩ = some (.int .i64 r.gn) := rdCell h0 (j + 1) hj 2
  have c3 : W0.cell? ⟨k, 3, none⟩ = some (.int .i64 r.sn) := rdCell h0 (j + 1) hj 3
  have c4 : W0.cell? ⟨k, 4, none⟩ = some (.int .u64 r.sg.lo) := rdCell h0 (j + 1) hj 4
  have c5 : W0.cell? ⟨k, 5, none⟩ = some (.int .u64 r.sg.hi) := rdCell h0 (j + 1) hj 5
  have b0 : W0.cell? ⟨B, 0, none⟩ = some (.int .i64 0) := h0.cell 0 rfl 0
  have b1 : W0.cell? ⟨B, 1, none⟩ = some (.int .i64 0) := h0.cell 0 rfl 1
  have b2 : W0.cell? ⟨B, 2, none⟩ = some (.int .i64 0) := h0.cell 0 rfl 2
  have b3 : W0.cell? ⟨B, 3, none⟩ = some (.int .u64 0) := h0.cell 0 rfl 3
  have b4 : W0.cell? ⟨B, 4, none⟩ = some (.int .u64 0) := h0.cell 0 rfl 4
  have f0 : W0.frozen? ⟨B, 0, none⟩ = false := h0.frozen 0 rfl 0
  have f1 : W0.frozen? ⟨B, 1, none⟩ = false := h0.frozen 0 rfl 1
  have f2 : W0.frozen? ⟨B, 2, none⟩ = false := h0.frozen 0 rfl 2
  have f3 : W0.frozen? ⟨B, 3, none⟩ = false := h0.frozen 0 rfl 3
  have f4 : W0.frozen? ⟨B, 4, none⟩ = false := h0.frozen 0 rfl 4
  have HS : Hid (∀ u0 u1 u2 u3 u4 : Value, St o its (((((W0.setCell ⟨B, 0, none⟩ u0).setCell ⟨B, 1, none⟩ u1).setCell ⟨B, 2, none⟩ u2).setCell ⟨B, 3, none⟩ u3).setCell ⟨B, 4, none⟩ u4)) := fun u0 u1 u2 u3 u4 => (((((h0.write 0 rfl 0 u0).write 0 rfl 1 u1).write 0 rfl 2 u2).write 0 rfl 3 u3).write 0 rfl 4 u4).pop
  clear h0 hj
  obtain ⟨sl, gn, sn, ⟨g0, g1⟩, ce, ⟨x0, x1⟩, st, va, er⟩ := r
  simp only at *
  go_wp2
  exact bodyPost_ret (v := .agg #[.int .i64 sl, .int .i64 gn, .int .i64 sn, .int .u64 g0, .int .u64 g1]) (by simp [results, Tryz.results371, go_sem, b0, b1, b2, b3, b4]) rfl ⟨rfl, HS.out _ _ _ _ _⟩

set_option maxRecDepth 100000 in
set_option maxHeartbeats 1000000 in
theorem rdStep (h : St o its w) (i j : Nat) (hij : i ≠ j) (hi : its[i]? = some (spI A c z v u)) (hj : its[j]? = some (rdI k A.sp r)) {n : Nat} (ok : z.ok c n) (hn : n ≤ 4611686018427) (hr : r.fit) :
    Calls Tryz.prog 368 #[.pointer (some ⟨k, 0, none⟩)] w fun e w' => e = .returned (.int .i64 (r.ans z)) ∧ ∃ v', St o ((its.set i (spI A c (z.reads r) v' u)).set j (rdI k A.sp (r.next z))) w' := by
  have hd := rdDone h j hj hr.st
  have c9 : w.cell? ⟨k, 9, none⟩ = some (nextV k r.st) := rdCell h j hj 9
  unfold Rd.ans SSt.reads
  rcases (show r.st = 0 ∨ r.st = 1 ∨ r.st = 2 ∨ r.st = 3 ∨ r.st = 4 by have := hr.st; omega) with h0 | h0 | h0 | h0 | h0
  · have hq : Calls Tryz.prog 275 #[.pointer (some ⟨k, 0, none⟩)] w _ := rdPublish h i j hij hi hj ok hn hr h0
    have en : r.next z = r.pub := by unfold Rd.next; rw [if_pos h0]
    have n4 : ¬ r.st = 4 := by omega
    have n2 : ¬ r.st = 2 := by omega
    rw [en, if_neg n4, if_neg (fun x => n2 x.1), if_pos h0]
    rw [h0] at hd c9
    simp only [nextV, if_true] at c9
    generalize z.put r.sl (r.miss.headD 0 : Nat) (r.both (r.miss.headD 0) : Nat) = z' at *
    generalize r.pub = r' at *
    clear h hi hj ok hr h0 en
    go_enter Tryz.func368, Tryz.ntmps368
    go_wp2_with (go_at_call 369; refine hd.mono ?_; rintro e wq ⟨rfl, rfl⟩)
    refine hq.mono ?_
    rintro e w1 ⟨rfl, v', h1⟩
    have HS : Hid _ := h1
    clear hq hd h1 c9
    go_wp2
    go_ret
    exact ⟨rfl, v', HS.out⟩
  · have hq : Calls Tryz.prog 276 #[.pointer (some ⟨k, 0, none⟩)] w _ := rdLoad h i j hij hi hj ok hn
    have en : r.next z = { r with va := loadR z.xs r.ce, st := 2 } := by unfold Rd.next; rw [if_neg (by omega), if_pos h0]
    have n4 : ¬ r.st = 4 := by omega
    have n2 : ¬ r.st = 2 := by omega
    have n0 : ¬ r.st = 0 := by omega
    rw [en, if_neg n4, if_neg (fun x => n2 x.1), if_neg n0, if_pos h0]
    rw [h0] at hd c9
    simp only [nextV] at c9
    generalize z.load r.ce = z' at *
    generalize ({ r with va := loadR z.xs r.ce, st := 2 } : Rd) = r' at *
    clear h hi hj ok hr h0 en
    go_enter Tryz.func368, Tryz.ntmps368
    go_wp2_with (go_at_call 369; refine hd.mono ?_; rintro e wq ⟨rfl, rfl⟩)
    refine hq.mono ?_
    rintro e w1 ⟨rfl, v', h1⟩
    have HS : Hid _ := h1
    clear hq hd h1 c9
    go_wp2
    go_ret
    exact ⟨rfl, v', HS.out⟩
  · have hq : Calls Tryz.prog 294 #[.pointer (some ⟨k, 0, none⟩)] w _ := rdGate h i j hij hi hj ok hn h0
    have ea : (if r.st = 4 then (3 : Int) else if r.st = 2 ∧ z.x.n % 2 ≠ 0 then 2 else 1) = (if z.x.n % 2 = 0 then 1 else 2) := by
      have n4 : ¬ r.st = 4 := by omega
      rw [if_neg n4]
      by_cases hz : z.x.n % 2 = 0
      · rw [if_neg (fun x => x.2 hz), if_pos hz]
      · rw [if_pos ⟨h0, hz⟩, if_neg hz]
    have n1 : ¬ r.st = 1 := by omega
    have n0 : ¬ r.st = 0 := by omega
    rw [ea, if_neg n0, if_neg n1, if_pos h0]
    rw [h0] at hd c9
    simp only [nextV] at c9
    generalize (if z.x.n % 2 = 0 then (1 : Int) else 2) = an at *
    generalize z.glook = z' at *
    generalize r.next z = r' at *
    clear h hi hj ok hr h0 ea
    go_enter Tryz.func368, Tryz.ntmps368
    go_wp2_with (go_at_call 369; refine hd.mono ?_; rintro e wq ⟨rfl, rfl⟩)
    refine hq.mono ?_
    rintro e w1 ⟨rfl, v', h1⟩
    have HS : Hid _ := h1
    clear hq hd h1 c9
    go_wp2
    go_ret
    exact ⟨rfl, v', HS.out⟩
  · have hq : Calls Tryz.prog 302 #[.pointer (some ⟨k, 0, none⟩)] w _ := rdHead h i j hij hi hj ok hn
    have en : r.next z = { r with st := 4, e := if r.fair (nowAt z.hs r.sl) then 0 else 7 } := by unfold Rd.next; rw [if_neg (by omega), if_neg (by omega), if_neg (by omega), if_pos h0]
    have n4 : ¬ r.st = 4 := by omega
    have n2 : ¬ r.st = 2 := by omega
    have n1 : ¬ r.st = 1 := by omega
    have n0 : ¬ r.st = 0 := by omega
    rw [en, if_neg n4, if_neg (fun x => n2 x.1), if_neg n0, if_neg n1, if_neg n2, if_pos h0]
    rw [h0] at hd c9
    simp only [nextV] at c9
    generalize z.look r.sl = z' at *
    generalize ({ r with st := 4, e := if r.fair (nowAt z.hs r.sl) then 0 else 7 } : Rd) = r' at *
    clear h hi hj ok hr h0 en
    go_enter Tryz.func368, Tryz.ntmps368
    go_wp2_with (go_at_call 369; refine hd.mono ?_; rintro e wq ⟨rfl, rfl⟩)
    refine hq.mono ?_
    rintro e w1 ⟨rfl, v', h1⟩
    have HS : Hid _ := h1
    clear hq hd h1 c9
    go_wp2
    go_ret
    exact ⟨rfl, v', HS.out⟩
  · have en : r.next z = r := by unfold Rd.next; rw [if_neg (by omega), if_neg (by omega), if_neg (by omega), if_neg (by omega)]
    have n3 : ¬ r.st = 3 := by omega
    have n2 : ¬ r.st = 2 := by omega
    have n1 : ¬ r.st = 1 := by omega
    have n0 : ¬ r.st = 0 := by omega
    rw [en, if_pos h0, if_neg n0, if_neg n1, if_neg n2, if_neg n3]
    rw [h0] at hd
    have HS : Hid (St o ((its.set i (spI A c z v u)).set j (rdI k A.sp r)) w) := by
      show St _ _ _
      rw [set_back hi, set_back hj]
      exact h
    clear h hi hj ok hr h0 en c9
    go_enter Tryz.func368, Tryz.ntmps368
    go_wp2_with (go_at_call 369; refine hd.mono ?_; rintro e wq ⟨rfl, rfl⟩)
    go_ret
    exact ⟨rfl, v, HS.out⟩
end
end Go.Proofs.YthbcbjkgjgmegaaGreat

namespace Go.Proofs.YthbcbjkgjgmegaaGreat
open Go.RowKit
set_option linter.unusedVariables false
set_option linter.unusedSimpArgs false
attribute [local go_sem ↓] Go.wp_at_zero Go.wp_at_succ

/-- The bits of a cell. -/
def bitsOf (n ce : Int) : Sg := (ofR [ce] n).1
theorem ofGo_ok (n : Int) : ∀ (l : List Int) (s : Sg), s.ok → (ofGo n l s).1.ok
  | [], s, h => h
  | c :: l, s, h => by
    unfold ofGo
    split
    · rename_i he
      obtain ⟨x1, x2, _, _, l1, l2, t1, t2⟩ := hash_in he
      rw [t1, t2]
      exact ofGo_ok n l _ (Sg.ok_put (Sg.ok_put h l1) l2)
    · exact Sg.ok_zero
theorem ofR_ok (l : List Int) (n : Int) : (ofR l n).1.ok := by
  unfold ofR
  split
  · exact ofGo_ok n l _ Sg.ok_zero
  · exact Sg.ok_zero
theorem bitsOf_ok (n ce : Int) : (bitsOf n ce).ok := ofR_ok _ _

def inN (n i : Int) : Bool := decide (0 ≤ i) && decide (i < n)
theorem rdHas (n i : Int) (w : World) : Calls Tryz.prog 247 #[.int .i64 n, .int .i64 i] w fun e w' => e = .returned (.bool (inN n i)) ∧ w' = w := by
  unfold inN
  by_cases h : 0 ≤ i
  · go_enter Tryz.func247, Tryz.ntmps247
    go_wp2
    go_ret
    exact ⟨by simp [h], rfl⟩
  · go_enter Tryz.func247, Tryz.ntmps247
    go_wp2
    go_ret
    exact ⟨by rw [decide_eq_false (p := 0 ≤ i) (by omega)]; rfl, rfl⟩

theorem buildRd (p : Option Addr) (a b c : Int) (d e : Int) (f : Int) (g h : Int) (W : World) : (Instr.build 349 #[(0, .pointer p), (1, .agg #[.int .i64 a, .int .i64 b, .int .i64 c, .int .u64 d, .int .u64 e]), (2, .int .i64 f), (3, .agg #[.int .u64 g, .int .u64 h]), (6, .int .i64 4)]).run Tryz.prog W = .ok (.agg #[.pointer p, .int .i64 a, .int .i64 b, .int .i64 c, .int .u64 d, .int .u64 e, .int .i64 f, .int .u64 g, .int .u64 h, .nilFunc, .int .i64 0, .int .i64 4]) W := by kernel_rfl
def buildOpR (t : TypeId) (ps : Array (Nat × Value)) : Sem Next := do pure (.value (← Instr.build t ps))
theorem exec_buildRd (ρ : Operand → Value) (dst : Option Tmp) (x y z t e : Operand) (ty : TypeId) (pos : String) (after : Array Edge) (guard : Option (Nat × Bool)) :
    execOp ρ { dst, op := .build 349 #[(0, x), (1, y), (2, z), (3, t), (6, e)], type := ty, pos, after, guard } = buildOpR 349 #[(0, ρ x), (1, ρ y), (2, ρ z), (3, ρ t), (6, ρ e)] := by simp [execOp, buildOpR]
theorem run_buildRd (p : Option Addr) (a b c : Int) (d e : Int) (f : Int) (g h : Int) (W : World) : (buildOpR 349 #[(0, .pointer p), (1, .agg #[.int .i64 a, .int .i64 b, .int .i64 c, .int .u64 d, .int .u64 e]), (2, .int .i64 f), (3, .agg #[.int .u64 g, .int .u64 h]), (6, .int .i64 4)]).run Tryz.prog W = .ok (.value (.agg #[.pointer p, .int .i64 a, .int .i64 b, .int .i64 c, .int .u64 d, .int .u64 e, .int .i64 f, .int .u64 g, .int .u64 h, .nilFunc, .int .i64 0, .int .i64 4])) W := by
  simp only [buildOpR, Sem.run_bind, Sem.run_pure, buildRd, Result.andThen_ok]
attribute [local go_sem ↓] exec_buildRd run_buildRd

section
variable {o w : World} {its : List It} {A : Ad} {c : Cfg} {z : SSt} {v u : Value} {k s : Nat} {r : Rd}
set_option maxRecDepth 100000 in
set_option maxHeartbeats 1000000 in
theorem rdNew_out (h : St o its w) (i : Nat) (hi : its[i]? = some (spI A c z v u)) (sl gn sn : Int) (sg : Sg) (ce : Int) (hn : ¬ (inN c.ce ce = true ∧ inN c.sl sl = true)) :
    Calls Tryz.prog 221 #[spp A, .agg #[.int .i64 sl, .int .i64 gn, .int .i64 sn, .int .u64 sg.lo, .int .u64 sg.hi], .int .i64 ce] w fun e w' => e = .returned (.tuple #[.pointer none, .int .i64 2]) ∧ St o its w' := by
  have h0 := h.box #[.int .i64 sl, .int .i64 gn, .int .i64 sn, .int .u64 sg.lo, .int .u64 sg.hi] 205
  have hq := spConfig h0 (i + 1) hi
  have hx := fun n i w => rdHas n i w
  obtain ⟨g0, g1⟩ := sg
  obtain ⟨xe, xl, xb, xt, xa, xd⟩ := c
  unfold spp Cfg.val at *
  simp only at *
  clear h
  go_enter Tryz.func221, Tryz.ntmps221
  go_upto_region 1 with fail
  generalize w.alloc (.cells #[.int .i64 sl, .int .i64 gn, .int .i64 sn, .int .u64 g0, .int .u64 g1] 205) = W0 at *
  generalize w.heap.size = F at *
  go_wp2_with fail
  refine hq.mono ?_
  rintro e w1 ⟨rfl, h1⟩
  have h2 := h1.box #[.int .i64 xe, .int .i64 xl, .int .i64 xb, .int .i64 xt, .int .i64 xa, .int .i64 xd] 24
  clear hq h0 h1
  go_upto_region 2 with fail
  generalize w1.alloc (.cells #[.int .i64 xe, .int .i64 xl, .int .i64 xb, .int .i64 xt, .int .i64 xa, .int .i64 xd] 24) = w2 at *
  generalize w1.heap.size = C at *
  have c0 : w2.cell? ⟨C, 0, none⟩ = some (.int .i64 xe) := h2.cell 0 rfl 0
  have c1 : w2.cell? ⟨C, 1, none⟩ = some (.int .i64 xl) := h2.cell 0 rfl 1
  have d0 : w2.cell? ⟨F, 0, none⟩ = some (.int .i64 sl) := h2.cell 1 rfl 0
  have HS : Hid (St o its w2) := h2.pop.pop
  clear h2 hi
  cases hb1 : inN xe ce with
  | false =>
    have k1 := hx xe ce w2
    rw [hb1] at k1
    clear hx hn
    go_wp2_with (go_at_call 247; refine k1.mono ?_; rintro e wq ⟨rfl, rfl⟩)
    go_ret2
    exact ⟨rfl, HS.out⟩
  | true =>
    have hb2 : inN xl sl = false := by
      cases hb : inN xl sl with
      | false => rfl
      | true => exact absurd ⟨hb1, hb⟩ hn
    have k1 := hx xe ce w2
    have k2 := hx xl sl w2
    rw [hb1] at k1
    rw [hb2] at k2
    clear hx hn
    go_wp2_with fail
    refine k1.mono ?_
    rintro e wq ⟨rfl, rfl⟩
    clear k1
    go_wp2_with fail
    refine k2.mono ?_
    rintro e wq2 ⟨rfl, rfl⟩
    clear k2
    go_wp2
    go_ret2
    exact ⟨rfl, HS.out⟩

set_option maxRecDepth 100000 in
set_option maxHeartbeats 1000000 in
theorem rdNew_st (h : St o its w) (i : Nat) (hi : its[i]? = some (spI A c z v u)) (sl gn sn : Int) (sg : Sg) (ce : Int) (hsg : sg.ok) (hb1 : inN c.ce ce = true) (hb2 : inN c.sl sl = true) :
    Calls Tryz.prog 221 #[spp A, .agg #[.int .i64 sl, .int .i64 gn, .int .i64 sn, .int .u64 sg.lo, .int .u64 sg.hi], .int .i64 ce] w fun e w' => ∃ k, e = .returned (.tuple #[.pointer (some ⟨k, 0, none⟩), .int .i64 0]) ∧ St o (rdI k A.sp (Rd.new sl gn sn sg ce (bitsOf c.bi ce)) :: its) w' := by
  have h0 := h.box #[.int .i64 sl, .int .i64 gn, .int .i64 sn, .int .u64 sg.lo, .int .u64 sg.hi] 205
  have hq := spConfig h0 (i + 1) hi
  have k1 := fun w => rdHas c.ce ce w
  have k2 := fun w => rdHas c.sl sl w
  rw [hb1] at k1
  rw [hb2] at k2
  have hof := fun (W : World) (H : Nat) (hW : IntsIn W (some ⟨H, 0, none⟩) 1 [ce]) => of_any (some ⟨H, 0, none⟩) 1 1 [ce] c.bi W hW (by omega)
  have hok := bitsOf_ok c.bi ce
  have HON : Hid (∀ (k : Nat) (its : List It) (W : World), St o (rdI k A.sp ⟨sl, gn, sn, sg, ce, bitsOf c.bi ce, 4, 0, 4⟩ :: its) W → Calls Tryz.prog 249 #[.pointer (some ⟨k, 0, none⟩)] W fun e w' => e = .returned (.tuple #[]) ∧ St o (rdI k A.sp (Rd.new sl gn sn sg ce (bitsOf c.bi ce)) :: its) w') := fun k its W hW => rdGoOn (r := ⟨sl, gn, sn, sg, ce, bitsOf c.bi ce, 4, 0, 4⟩) hW 0 rfl hsg hok
  have HBO : Hid (∀ W, Sem.run Tryz.prog (pure ()) W = .ok () W) := fun W => rfl
  change ∀ (W : World) (H : Nat) (hW : IntsIn W (some ⟨H, 0, none⟩) 1 [ce]), Calls Tryz.prog 248 #[.slice (some ⟨H, 0, none⟩) 1 1, .int .i64 c.bi] W fun e w' => e = .returned (.tuple #[(bitsOf c.bi ce).val, .int .i64 (ofR [ce] c.bi).2]) ∧ Kept (fun _ => False) W w' at hof
  clear hsg hok h hb1 hb2 HBO
  generalize Rd.new sl gn sn sg ce (bitsOf c.bi ce) = R at *
  generalize bitsOf c.bi ce = B at *
  generalize (ofR [ce] c.bi).2 = OE at *
  obtain ⟨g0, g1⟩ := sg
  obtain ⟨B0, B1⟩ := B
  obtain ⟨xe, xl, xb, xt, xa, xd⟩ := c
  simp only [spp, Cfg.val, Sg.val] at *
  go_enter Tryz.func221, Tryz.ntmps221
  go_upto_region 1 with fail
  generalize w.alloc (.cells #[.int .i64 sl, .int .i64 gn, .int .i64 sn, .int .u64 g0, .int .u64 g1] 205) = W0 at *
  generalize w.heap.size = F at *
  go_wp2_with fail
  refine hq.mono ?_
  rintro e w1 ⟨rfl, h1⟩
  have h2 := h1.box #[.int .i64 xe, .int .i64 xl, .int .i64 xb, .int .i64 xt, .int .i64 xa, .int .i64 xd] 24
  clear hq h0 h1
  go_upto_region 2 with fail
  generalize w1.alloc (.cells #[.int .i64 xe, .int .i64 xl, .int .i64 xb, .int .i64 xt, .int .i64 xa, .int .i64 xd] 24) = w2 at *
  generalize w1.heap.size = C at *
  have c0 : w2.cell? ⟨C, 0, none⟩ = some (.int .i64 xe) := h2.cell 0 rfl 0
  have c1 : w2.cell? ⟨C, 1, none⟩ = some (.int .i64 xl) := h2.cell 0 rfl 1
  have d0 : w2.cell? ⟨F, 0, none⟩ = some (.int .i64 sl) := h2.cell 1 rfl 0
  go_wp2_with fail
  refine (k1 _).mono ?_
  rintro e wq ⟨rfl, rfl⟩
  go_wp2_with fail
  refine (k2 _).mono ?_
  rintro e wq2 ⟨rfl, rfl⟩
  clear k1 k2 c0 c1 d0
  have h3 := h2.box #[.int .i64 ce] 3
  have c2 : (wq2.alloc (.cells #[.int .i64 ce] 3)).cell? ⟨C, 2, none⟩ = some (.int .i64 xb) := h3.cell 1 rfl 2
  have e0 : (wq2.alloc (.cells #[.int .i64 ce] 3)).cell? ⟨wq2.heap.size, 0, none⟩ = some (.int .i64 ce) := h3.cell 0 rfl 0
  have hof1 := hof _ wq2.heap.size ⟨rfl, fun _ => ⟨_, 0, rfl, fun j hj => by
    obtain rfl : j = 0 := by omega
    exact e0⟩⟩
  clear h2 hof
  go_wp2_with fail
  refine hof1.mono ?_
  rintro e w4 ⟨rfl, hk4⟩
  have h4 := (h3.calm hk4).box #[.int .u64 B0, .int .u64 B1] 130
  clear hof1 h3 hk4 c2 e0
  go_upto_region 5 with fail
  generalize w4.alloc (.cells #[.int .u64 B0, .int .u64 B1] 130) = w5 at *
  generalize w4.heap.size = G at *
  have d0 : w5.cell? ⟨F, 0, none⟩ = some (.int .i64 sl) := h4.cell 3 rfl 0
  have d1 : w5.cell? ⟨F, 1, none⟩ = some (.int .i64 gn) := h4.cell 3 rfl 1
  have d2 : w5.cell? ⟨F, 2, none⟩ = some (.int .i64 sn) := h4.cell 3 rfl 2
  have d3 : w5.cell? ⟨F, 3, none⟩ = some (.int .u64 g0) := h4.cell 3 rfl 3
  have d4 : w5.cell? ⟨F, 4, none⟩ = some (.int .u64 g1) := h4.cell 3 rfl 4
  have b0 : w5.cell? ⟨G, 0, none⟩ = some (.int .u64 B0) := h4.cell 0 rfl 0
  have b1 : w5.cell? ⟨G, 1, none⟩ = some (.int .u64 B1) := h4.cell 0 rfl 1
  have h5 : St o (rdI w5.heap.size A.sp ⟨sl, gn, sn, ⟨g0, g1⟩, ce, ⟨B0, B1⟩, 4, 0, 4⟩ :: its) (w5.alloc (.cells #[.pointer (some ⟨A.sp, 0, none⟩), .int .i64 sl, .int .i64 gn, .int .i64 sn, .int .u64 g0, .int .u64 g1, .int .i64 ce, .int .u64 B0, .int .u64 B1, .nilFunc, .int .i64 0, .int .i64 4] 349)) := h4.pop.pop.pop.pop.box _ _
  have hon := HON.out _ _ _ h5
  clear h4 h5 HON
  go_wp2_with fail
  refine hon.mono ?_
  rintro e w6 ⟨rfl, h6⟩
  have H6 : Hid _ := h6
  clear hon h6 d0 d1 d2 d3 d4 b0 b1
  go_wp2
  go_ret2
  exact ⟨_, rfl, H6.out⟩
end
end Go.Proofs.YthbcbjkgjgmegaaGreat
