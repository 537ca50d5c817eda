/- Reads: the head; done, its value, what it goes out from; a step. -/
import Derived.Test.YtajfjkhbimehbaaRdC
import Derived.Test.YtajfjkhbimehbaaSame
namespace Go.Proofs.Ytajfjkhbimehbaa
open Go.RowKit
set_option linter.unusedVariables false
set_option linter.unusedSimpArgs false
attribute [local go_sem ↓] Go.wp_at_zero Go.wp_at_succ

section
variable {o w : World} {its : List It} {A : Ad} {c : Cfg} {z : SSt} {v u : Value} {k s : Nat} {r : Rd}

set_option maxRecDepth 100000 in
set_option maxHeartbeats 4000000 in
theorem rdHead (h : St o its w) (i j : Nat) (hij : i ≠ j) (hi : its[i]? = some (spI A c z v u)) (hj : its[j]? = some (rdI k A.sp r)) {n : Nat} (ok : z.ok c n) (hn : n ≤ 4611686018427) :
    Calls Try.prog 94 #[.pointer (some ⟨k, 0, none⟩)] w fun e w' => e = .returned (.int .i64 1) ∧ ∃ v', St o ((its.set i (spI A c (z.look r.sl) v' u)).set j (rdI k A.sp { r with st := 4, e := if r.fair (nowAt z.hs r.sl) then 0 else 7 })) w' := by
  have c0 : w.cell? ⟨k, 0, none⟩ = some (.pointer (some ⟨A.sp, 0, none⟩)) := rdCell h j hj 0
  have c1 : w.cell? ⟨k, 1, none⟩ = some (.int .i64 r.sl) := rdCell h j hj 1
  have x0 : w.drew.cell? ⟨k, 0, none⟩ = some (.pointer (some ⟨A.sp, 0, none⟩)) := rdCell h.drew j hj 0
  have x1 : w.drew.cell? ⟨k, 1, none⟩ = some (.int .i64 r.sl) := rdCell h.drew j hj 1
  have hs : Calls Try.prog 28 #[.pointer (some ⟨A.sp, 0, none⟩)] w.drew fun e w' => e = .returned (.pointer (some ⟨A.t, 0, none⟩)) ∧ w' = w.drew := spSlots h.drew i hi
  have hs1 : Calls Try.prog 28 #[.pointer (some ⟨A.sp, 0, none⟩)] (w.alloc (.cells #[.int .i64 0, .int .i64 0, .int .i64 0, .int .i64 0, .bool false, .int .i64 0] 47)).drew fun e w' => e = .returned (.pointer (some ⟨A.t, 0, none⟩)) ∧ w' = (w.alloc (.cells #[.int .i64 0, .int .i64 0, .int .i64 0, .int .i64 0, .bool false, .int .i64 0] 47)).drew := spSlots (h.alloc _).drew i hi
  have y0 : (w.alloc (.cells #[.int .i64 0, .int .i64 0, .int .i64 0, .int .i64 0, .bool false, .int .i64 0] 47)).cell? ⟨k, 0, none⟩ = some (.pointer (some ⟨A.sp, 0, none⟩)) := rdCell (h.alloc _) j hj 0
  have y1 : (w.alloc (.cells #[.int .i64 0, .int .i64 0, .int .i64 0, .int .i64 0, .bool false, .int .i64 0] 47)).cell? ⟨k, 1, none⟩ = some (.int .i64 r.sl) := rdCell (h.alloc _) j hj 1
  have hq : Calls Try.prog 99 #[.pointer (some ⟨A.t, 0, none⟩), .int .i64 r.sl] w.drew fun e w' => e = .returned (.tuple #[(nowAt z.hs r.sl).val, .int .i64 (lookE z.hs r.sl)]) ∧ ∃ v', w'.cell? ⟨k, 0, none⟩ = some (.pointer (some ⟨A.sp, 0, none⟩)) ∧ w'.cell? ⟨k, 1, none⟩ = some (.int .i64 r.sl) ∧ Hid (St o (its.set i (spI A c (z.look r.sl) v' u)) w') := by
    refine (spLook h.drew i hi ok hn r.sl).mono ?_
    rintro e w' ⟨he, v', h'⟩
    have hj' := set_other (A := spI A c (z.look r.sl) v' u) hj hij
    exact ⟨he, v', rdCell h' j hj' 0, rdCell h' j hj' 1, h'⟩
  have hq1 : Calls Try.prog 99 #[.pointer (some ⟨A.t, 0, none⟩), .int .i64 r.sl] (w.alloc (.cells #[.int .i64 0, .int .i64 0, .int .i64 0, .int .i64 0, .bool false, .int .i64 0] 47)).drew fun e w' => e = .returned (.tuple #[(nowAt z.hs r.sl).val, .int .i64 (lookE z.hs r.sl)]) ∧ ∃ v', w'.cell? ⟨k, 0, none⟩ = some (.pointer (some ⟨A.sp, 0, none⟩)) ∧ w'.cell? ⟨k, 1, none⟩ = some (.int .i64 r.sl) ∧ w'.cell? ⟨w.heap.size, 0, none⟩ = some (.int .i64 0) ∧ w'.cell? ⟨w.heap.size, 1, none⟩ = some (.int .i64 0) ∧ w'.cell? ⟨w.heap.size, 2, none⟩ = some (.int .i64 0) ∧ w'.cell? ⟨w.heap.size, 3, none⟩ = some (.int .i64 0) ∧ w'.cell? ⟨w.heap.size, 4, none⟩ = some (.bool false) ∧ w'.cell? ⟨w.heap.size, 5, none⟩ = some (.int .i64 0) ∧ w'.frozen? ⟨w.heap.size, 0, none⟩ = false ∧ w'.frozen? ⟨w.heap.size, 1, none⟩ = false ∧ w'.frozen? ⟨w.heap.size, 2, none⟩ = false ∧ w'.frozen? ⟨w.heap.size, 3, none⟩ = false ∧ w'.frozen? ⟨w.heap.size, 4, none⟩ = false ∧ w'.frozen? ⟨w.heap.size, 5, none⟩ = false ∧ Hid (∀ u0 u1 u2 u3 u4 u5 : Value, St o (boxI w.heap.size #[u0, u1, u2, u3, u4, u5] 47 :: its.set i (spI A c (z.look r.sl) v' u)) ((((((w'.setCell ⟨w.heap.size, 0, none⟩ u0).setCell ⟨w.heap.size, 1, none⟩ u1).setCell ⟨w.heap.size, 2, none⟩ u2).setCell ⟨w.heap.size, 3, none⟩ u3).setCell ⟨w.heap.size, 4, none⟩ u4).setCell ⟨w.heap.size, 5, none⟩ u5)) := by
    refine (spLook (h.box #[.int .i64 0, .int .i64 0, .int .i64 0, .int .i64 0, .bool false, .int .i64 0] 47).drew (i + 1) hi ok hn r.sl).mono ?_
    rintro e w' ⟨he, v', h2⟩
    have hj' := set_other (A := spI A c (z.look r.sl) v' u) hj hij
    exact ⟨he, v', rdCell h2 (j + 1) hj' 0, rdCell h2 (j + 1) hj' 1, h2.cell 0 rfl 0, h2.cell 0 rfl 1, h2.cell 0 rfl 2, h2.cell 0 rfl 3, h2.cell 0 rfl 4, h2.cell 0 rfl 5, h2.frozen 0 rfl 0, h2.frozen 0 rfl 1, h2.frozen 0 rfl 2, h2.frozen 0 rfl 3, h2.frozen 0 rfl 4, h2.frozen 0 rfl 5, fun u0 u1 u2 u3 u4 u5 => (((((h2.write 0 rfl 0 u0).write 0 rfl 1 u1).write 0 rfl 2 u2).write 0 rfl 3 u3).write 0 rfl 4 u4).write 0 rfl 5 u5⟩
  have HJ : Hid (∀ v', (its.set i (spI A c (z.look r.sl) v' u))[j]? = some (rdI k A.sp r)) := fun v' => set_other hj hij
  clear h hi hj ok hij
  unfold Rd.fair
  generalize nowAt z.hs r.sl = x at *
  generalize lookE z.hs r.sl = E at *
  generalize z.look r.sl = z' at *
  obtain ⟨sl, gn, sn, ⟨g0, g1⟩, ce, ⟨b0, b1⟩, st, va, er⟩ := r
  obtain ⟨xgn, xsa, xsp, xth, xdm, xwy⟩ := x
  simp only [Hd.val] at *
  obtain ⟨EV, HEV⟩ : ∃ EV : Int, Hid ((if (xsa == 2 && xgn == gn && !xdm) = true then (0 : Int) else 7) = EV) := ⟨_, rfl⟩
  rw [HEV.out]
  go_enter Try.func94, Try.ntmps94
  go_upto_region 1 with fail
  go_cut [3] from 5 (fun a W => ∃ (H : Nat) (v' : Value), a = .pointer (some ⟨H, 0, none⟩) ∧ Hid (St o (boxI H #[.int .i64 xgn, .int .i64 xsa, .int .i64 xsp, .int .i64 xth, .bool xdm, .int .i64 xwy] 47 :: its.set i (spI A c z' v' u)) W))
  case first =>
    go_region_with (first | (go_at_call 28; refine hs.mono ?_; rintro e wx ⟨rfl, rfl⟩) | (go_at_call 28; refine hs1.mono ?_; rintro e wx ⟨rfl, rfl⟩) | (go_at_call 99; refine hq.mono ?_; rintro e w2 ⟨rfl, v', d0, d1, HA⟩) | (go_at_call 99; refine hq1.mono ?_; rintro e w2 ⟨rfl, v', d0, d1, k0, k1, k2, k3, k4, k5, m0, m1, m2, m3, m4, m5, HB⟩))
    all_goals
      go_wp2
      go_meet
      first
      | exact ⟨_, v', rfl, HA.out.box _ _⟩
      | exact ⟨_, v', rfl, HB.out (.int .i64 xgn) (.int .i64 xsa) (.int .i64 xsp) (.int .i64 xth) (.bool xdm) (.int .i64 xwy)⟩
  case rest =>
    obtain ⟨H, v', rfl, HB⟩ := hcut
    have hB := HB.out
    clear hs hs1 hq hq1 c0 c1 x0 x1 y0 y1 HB
    have hJ : (boxI H #[.int .i64 xgn, .int .i64 xsa, .int .i64 xsp, .int .i64 xth, .bool xdm, .int .i64 xwy] 47 :: its.set i (spI A c z' v' u))[j + 1]? = some (rdI k A.sp ⟨sl, gn, sn, ⟨g0, g1⟩, ce, ⟨b0, b1⟩, st, va, er⟩) := HJ.out v'
    have f9 := rdFrozen hB (j + 1) hJ 9
    have f11 := rdFrozen hB (j + 1) hJ 11
    have c9 : wc.cell? ⟨k, 9, none⟩ = some (nextV k st) := rdCell hB (j + 1) hJ 9
    have c11 : wc.cell? ⟨k, 11, none⟩ = some (.int .i64 er) := rdCell hB (j + 1) hJ 11
    have hC : St o (boxI H #[.int .i64 xgn, .int .i64 xsa, .int .i64 xsp, .int .i64 xth, .bool xdm, .int .i64 xwy] 47 :: (its.set i (spI A c z' v' u)).set j (rdI k A.sp ⟨sl, gn, sn, ⟨g0, g1⟩, ce, ⟨b0, b1⟩, 4, va, 0⟩)) ((wc.setCell ⟨k, 9, none⟩ .nilFunc).setCell ⟨k, 11, none⟩ (.int .i64 0)) := by
      have h1 := hB.write (j + 1) hJ 9 .nilFunc
      have h2 := h1.write (j + 1) (set_self hJ) 11 (.int .i64 0)
      rw [set_same] at h2
      exact h2
    have hJ4 : ((its.set i (spI A c z' v' u)).set j (rdI k A.sp ⟨sl, gn, sn, ⟨g0, g1⟩, ce, ⟨b0, b1⟩, 4, va, 0⟩))[j]? = some (rdI k A.sp ⟨sl, gn, sn, ⟨g0, g1⟩, ce, ⟨b0, b1⟩, 4, va, 0⟩) := set_self (HJ.out v')
    have HSS : Hid (∀ x, ((its.set i (spI A c z' v' u)).set j (rdI k A.sp ⟨sl, gn, sn, ⟨g0, g1⟩, ce, ⟨b0, b1⟩, 4, va, 0⟩)).set j x = (its.set i (spI A c z' v' u)).set j x) := fun x => set_same
    generalize (its.set i (spI A c z' v' u)).set j (rdI k A.sp ⟨sl, gn, sn, ⟨g0, g1⟩, ce, ⟨b0, b1⟩, 4, va, 0⟩) = its4 at *
    generalize nextV k st = nv at c9
    clear hB hJ
    go_upto_region 3 with fail
    generalize (wc.setCell ⟨k, 9, none⟩ .nilFunc).setCell ⟨k, 11, none⟩ (.int .i64 0) = W6 at *
    have e0 : W6.cell? ⟨H, 0, none⟩ = some (.int .i64 xgn) := hC.cell 0 rfl 0
    have e1 : W6.cell? ⟨H, 1, none⟩ = some (.int .i64 xsa) := hC.cell 0 rfl 1
    have e4 : W6.cell? ⟨H, 4, none⟩ = some (.bool xdm) := hC.cell 0 rfl 4
    have e2 : W6.cell? ⟨k, 2, none⟩ = some (.int .i64 gn) := rdCell hC.pop j hJ4 2
    have HC : Hid (∀ n, St o its4 (W6.drewN n)) := fun n => hC.pop.calm ((Kept.refl _ W6).drewN n)
    have HJ4 : Hid (its4[j]? = some (rdI k A.sp ⟨sl, gn, sn, ⟨g0, g1⟩, ce, ⟨b0, b1⟩, 4, va, 0⟩)) := hJ4
    have HV : Hid (∀ n, (W6.drewN n).cell? ⟨k, 11, none⟩ = some (.int .i64 0) ∧ (W6.drewN n).frozen? ⟨k, 11, none⟩ = false ∧ St o (its4.set j (rdI k A.sp ⟨sl, gn, sn, ⟨g0, g1⟩, ce, ⟨b0, b1⟩, 4, va, 7⟩)) ((W6.drewN n).setCell ⟨k, 11, none⟩ (.int .i64 7))) := fun n => ⟨rdCell (HC.out n) j HJ4.out 11, rdFrozen (HC.out n) j HJ4.out 11, (HC.out n).write j HJ4.out 11 (.int .i64 7)⟩
    have HT0 : Hid (∀ n, St o (its4.set j (rdI k A.sp ⟨sl, gn, sn, ⟨g0, g1⟩, ce, ⟨b0, b1⟩, 4, va, 0⟩)) (W6.drewN n)) := fun n => by
      rw [set_back HJ4.out]
      exact HC.out n
    clear hC hJ4 HC HJ4 f9 f11 c9 c11 HJ
    by_cases q1 : xsa = 2
    · subst q1
      have q1' : ((2 : Int) != 2) = false := rfl
      by_cases q2 : xgn = gn
      · subst q2
        have q2' : (xgn != xgn) = false := by simp
        cases xdm with
        | false =>
          go_quiet (fail)
          go_wp2
          go_ret
          refine ⟨rfl, v', ?_⟩
          have h7 := HT0.out nq
          rw [HSS.out] at h7
          have hE : EV = 0 := by rw [← HEV.out]; simp
          rw [hE]
          exact h7
        | true =>
          go_quiet (fail)
          obtain ⟨v1, v2, -⟩ := HV.out nq
          go_wp2
          go_ret
          refine ⟨rfl, v', ?_⟩
          have h7 := (HV.out nq).2.2
          rw [HSS.out] at h7
          have hE : EV = 7 := by rw [← HEV.out]; simp
          rw [hE]
          exact h7
      · have q2' : (xgn != gn) = true := by simpa using q2
        go_quiet (fail)
        obtain ⟨v1, v2, -⟩ := HV.out nq
        go_wp2
        go_ret
        refine ⟨rfl, v', ?_⟩
        have h7 := (HV.out nq).2.2
        rw [HSS.out] at h7
        have hE : EV = 7 := by rw [← HEV.out]; simp [q2]
        rw [hE]
        exact h7
    · have q1' : (xsa != 2) = true := by simpa using q1
      go_quiet (fail)
      obtain ⟨v1, v2, -⟩ := HV.out nq
      go_wp2
      go_ret
      refine ⟨rfl, v', ?_⟩
      have h7 := (HV.out nq).2.2
      rw [HSS.out] at h7
      have hE : EV = 7 := by rw [← HEV.out]; simp [q1]
      rw [hE]
      exact h7
end
end Go.Proofs.Ytajfjkhbimehbaa
