/- Reads: load, the gate, the head; a step; done, its value, what it goes out from. -/
import Derived.Test.YtajfjkhbimehbaaRdB
namespace Go.Proofs.Ytajfjkhbimehbaa
open Go.RowKit
set_option linter.unusedVariables false
set_option linter.unusedSimpArgs false
attribute [local go_sem ↓] Go.wp_at_zero Go.wp_at_succ

section
variable {o w : World} {its : List It} {A : Ad} {c : Cfg} {z : SSt} {v u : Value} {k s : Nat} {r : Rd}

set_option maxRecDepth 100000 in
set_option maxHeartbeats 2000000 in
theorem rdLoad (h : St o its w) (i j : Nat) (hij : i ≠ j) (hi : its[i]? = some (spI A c z v u)) (hj : its[j]? = some (rdI k A.sp r)) {n : Nat} (ok : z.ok c n) (hn : n ≤ 4611686018427) :
    Calls Try.prog 65 #[.pointer (some ⟨k, 0, none⟩)] w fun e w' => e = .returned (.int .i64 1) ∧ ∃ v', St o ((its.set i (spI A c (z.load r.ce) v' u)).set j (rdI k A.sp { r with va := loadR z.xs r.ce, st := 2 })) w' := by
  have c0 : w.cell? ⟨k, 0, none⟩ = some (.pointer (some ⟨A.sp, 0, none⟩)) := rdCell h j hj 0
  have c6 : w.cell? ⟨k, 6, none⟩ = some (.int .i64 r.ce) := rdCell h j hj 6
  have x0 : w.drew.cell? ⟨k, 0, none⟩ = some (.pointer (some ⟨A.sp, 0, none⟩)) := rdCell h.drew j hj 0
  have x6 : w.drew.cell? ⟨k, 6, none⟩ = some (.int .i64 r.ce) := rdCell h.drew j hj 6
  have hq : Calls Try.prog 81 #[.pointer (some ⟨A.sp, 0, none⟩), .int .i64 r.ce] w.drew fun e w' => e = .returned (.tuple #[.int .i64 (loadR z.xs r.ce), .int .i64 (loadE z.xs r.ce)]) ∧ ∃ v', w'.cell? ⟨k, 0, none⟩ = some (.pointer (some ⟨A.sp, 0, none⟩)) ∧ w'.cell? ⟨k, 6, none⟩ = some (.int .i64 r.ce) ∧ w'.cell? ⟨k, 10, none⟩ = some (.int .i64 r.va) ∧ w'.frozen? ⟨k, 10, none⟩ = false ∧ Hid (St o (its.set i (spI A c (z.load r.ce) v' u)) w') := by
    refine (spLoad h.drew i hi ok hn r.ce).mono ?_
    rintro e w' ⟨he, v', h'⟩
    have hj' := set_other (A := spI A c (z.load r.ce) v' u) hj hij
    exact ⟨he, v', rdCell h' j hj' 0, rdCell h' j hj' 6, rdCell h' j hj' 10, rdFrozen h' j hj' 10, h'⟩
  have HJ : Hid (∀ v', (its.set i (spI A c (z.load r.ce) v' u))[j]? = some (rdI k A.sp r)) := fun v' => set_other hj hij
  clear h hi hj ok hij
  generalize loadR z.xs r.ce = R at *
  generalize loadE z.xs r.ce = E at *
  generalize z.load r.ce = z' at *
  obtain ⟨sl, gn, sn, ⟨g0, g1⟩, ce, ⟨b0, b1⟩, st, va, er⟩ := r
  simp only at *
  go_enter Try.func65, Try.ntmps65
  go_upto_region 1 with fail
  go_region_with (go_at_call 81; refine hq.mono ?_; rintro e w2 ⟨rfl, v', d0, d6, d10, f10, HS⟩)
  all_goals
    have h3 : St o ((its.set i (spI A c z' v' u)).set j (rdI k A.sp ⟨sl, gn, sn, ⟨g0, g1⟩, ce, ⟨b0, b1⟩, st, R, er⟩)) (w2.setCell ⟨k, 10, none⟩ (.int .i64 R)) := HS.out.write j (HJ.out v') 10 (.int .i64 R)
    have hj3 : ((its.set i (spI A c z' v' u)).set j (rdI k A.sp ⟨sl, gn, sn, ⟨g0, g1⟩, ce, ⟨b0, b1⟩, st, R, er⟩))[j]? = some (rdI k A.sp ⟨sl, gn, sn, ⟨g0, g1⟩, ce, ⟨b0, b1⟩, st, R, er⟩) := set_self (HJ.out v')
    have f9 := rdFrozen h3 j hj3 9
    have c9 : (w2.setCell ⟨k, 10, none⟩ (.int .i64 R)).cell? ⟨k, 9, none⟩ = some (nextV k st) := rdCell h3 j hj3 9
    have HT : Hid (∀ x, St o (((its.set i (spI A c z' v' u)).set j (rdI k A.sp ⟨sl, gn, sn, ⟨g0, g1⟩, ce, ⟨b0, b1⟩, st, R, er⟩)).set j (boxI k ((Rd.cells ⟨sl, gn, sn, ⟨g0, g1⟩, ce, ⟨b0, b1⟩, st, R, er⟩ A.sp k).setIfInBounds 9 x) 104)) ((w2.setCell ⟨k, 10, none⟩ (.int .i64 R)).setCell ⟨k, 9, none⟩ x)) := fun x => h3.write j hj3 9 x
    clear h3 hj3 HS HJ hq
    generalize nextV k st = nv at c9
    generalize w2.setCell ⟨k, 10, none⟩ (.int .i64 R) = w3 at *
    go_wp2
    go_ret
    refine ⟨rfl, v', ?_⟩
    have h4 := HT.out (nextV k 2)
    rw [set_same] at h4
    exact h4

theorem even_cases (n : Int) : (n % 2 = 0 ∧ (n % 2 != 0) = false) ∨ (n % 2 ≠ 0 ∧ (n % 2 != 0) = true) := by
  by_cases h : n % 2 = 0
  · exact .inl ⟨h, by simp [h]⟩
  · exact .inr ⟨h, by simpa using h⟩

set_option maxRecDepth 100000 in
set_option maxHeartbeats 2000000 in
theorem rdGate (h : St o its w) (i j : Nat) (hij : i ≠ j) (hi : its[i]? = some (spI A c z v u)) (hj : its[j]? = some (rdI k A.sp r)) {n : Nat} (ok : z.ok c n) (hn : n ≤ 4611686018427) (h2 : r.st = 2) :
    Calls Try.prog 82 #[.pointer (some ⟨k, 0, none⟩)] w fun e w' => e = .returned (.int .i64 (if z.x.n % 2 = 0 then 1 else 2)) ∧ ∃ v', St o ((its.set i (spI A c z.glook v' u)).set j (rdI k A.sp (r.next z))) w' := by
  have c0 : w.cell? ⟨k, 0, none⟩ = some (.pointer (some ⟨A.sp, 0, none⟩)) := rdCell h j hj 0
  have hg : Calls Try.prog 20 #[.pointer (some ⟨A.sp, 0, none⟩)] w fun e w' => e = .returned (.pointer (some ⟨A.g, 0, none⟩)) ∧ w' = w := spGate h i hi
  have hq : Calls Try.prog 93 #[.pointer (some ⟨A.g, 0, none⟩)] w fun e w' => e = .returned (.agg #[.int .i64 z.x.n, .int .i64 z.x.o]) ∧ ∃ v', Hid (St o (its.set i (spI A c z.glook v' u)) w') := spGLook h i hi ok hn
  have n0 : 0 ≤ z.x.n := ok.g0
  have n1 : z.x.n ≤ 4611686018427 := by have := ok.g1; omega
  have HJ : Hid (∀ v', (its.set i (spI A c z.glook v' u))[j]? = some (rdI k A.sp r)) := fun v' => set_other hj hij
  have HN : Hid (r.next z = (if z.x.n % 2 = 0 then (if z.x.n = r.sn then { r with st := 3 } else { r with sn := z.x.n, st := 1 }) else r)) := by
    show _ = _
    unfold Rd.next
    rw [if_neg (by omega), if_neg (by omega), if_pos h2]
  rw [HN.out]
  clear HN h hi hj ok hij
  generalize z.glook = z' at *
  generalize z.x.n = N at *
  generalize z.x.o = O at *
  obtain ⟨sl, gn, sn, ⟨g0, g1⟩, ce, ⟨b0, b1⟩, st, va, er⟩ := r
  simp only at *
  subst h2
  have hF := gtField_n N O
  rcases even_cases N with ⟨e1, e2⟩ | ⟨e1, e2⟩
  · rw [if_pos e1, if_pos e1]
    have e1' : Hid (N % 2 = 0) := e1
    clear e1
    by_cases hs : N = sn
    · subst hs
      rw [if_pos rfl]
      have e3 : (N != N) = false := by simp
      go_enter Try.func82, Try.ntmps82
      go_wp2_with fail
      refine hg.mono ?_
      rintro e w1 ⟨rfl, rfl⟩
      go_wp2_with fail
      refine hq.mono ?_
      rintro e w2 ⟨rfl, v', HS⟩
      have d3 : w2.cell? ⟨k, 3, none⟩ = some (.int .i64 N) := rdCell HS.out j (HJ.out v') 3
      have f9 := rdFrozen HS.out j (HJ.out v') 9
      have c9 : w2.cell? ⟨k, 9, none⟩ = some (nextV k 2) := rdCell HS.out j (HJ.out v') 9
      have HT : Hid (St o ((its.set i (spI A c z' v' u)).set j (rdI k A.sp ⟨sl, gn, N, ⟨g0, g1⟩, ce, ⟨b0, b1⟩, 3, va, er⟩)) (w2.setCell ⟨k, 9, none⟩ (nextV k 3))) := HS.out.write j (HJ.out v') 9 (nextV k 3)
      generalize nextV k 2 = nv at c9
      clear HS HJ hq hg c0
      go_wp2
      go_ret
      exact ⟨rfl, v', HT.out⟩
    · rw [if_neg hs]
      have e3 : (N != sn) = true := by simpa using hs
      clear hs
      go_enter Try.func82, Try.ntmps82
      go_wp2_with fail
      refine hg.mono ?_
      rintro e w1 ⟨rfl, rfl⟩
      go_wp2_with fail
      refine hq.mono ?_
      rintro e w2 ⟨rfl, v', HS⟩
      have d3 : w2.cell? ⟨k, 3, none⟩ = some (.int .i64 sn) := rdCell HS.out j (HJ.out v') 3
      have f3 := rdFrozen HS.out j (HJ.out v') 3
      have h3 : St o ((its.set i (spI A c z' v' u)).set j (rdI k A.sp ⟨sl, gn, N, ⟨g0, g1⟩, ce, ⟨b0, b1⟩, 2, va, er⟩)) (w2.setCell ⟨k, 3, none⟩ (.int .i64 N)) := HS.out.write j (HJ.out v') 3 (.int .i64 N)
      have hj3 : ((its.set i (spI A c z' v' u)).set j (rdI k A.sp ⟨sl, gn, N, ⟨g0, g1⟩, ce, ⟨b0, b1⟩, 2, va, er⟩))[j]? = some (rdI k A.sp ⟨sl, gn, N, ⟨g0, g1⟩, ce, ⟨b0, b1⟩, 2, va, er⟩) := set_self (HJ.out v')
      have f9 := rdFrozen h3 j hj3 9
      have c9 : (w2.setCell ⟨k, 3, none⟩ (.int .i64 N)).cell? ⟨k, 9, none⟩ = some (nextV k 2) := rdCell h3 j hj3 9
      have HT : Hid (St o ((its.set i (spI A c z' v' u)).set j (rdI k A.sp ⟨sl, gn, N, ⟨g0, g1⟩, ce, ⟨b0, b1⟩, 1, va, er⟩)) ((w2.setCell ⟨k, 3, none⟩ (.int .i64 N)).setCell ⟨k, 9, none⟩ (nextV k 1))) := by
        have h4 := h3.write j hj3 9 (nextV k 1)
        rw [set_same] at h4
        exact h4
      generalize nextV k 2 = nv at c9
      clear HS HJ hq hg c0 h3 hj3
      go_wp2
      go_ret
      exact ⟨rfl, v', HT.out⟩
  · rw [if_neg e1, if_neg e1]
    have e1' : Hid (N % 2 ≠ 0) := e1
    clear e1
    go_enter Try.func82, Try.ntmps82
    go_wp2_with fail
    refine hg.mono ?_
    rintro e w1 ⟨rfl, rfl⟩
    go_wp2_with fail
    refine hq.mono ?_
    rintro e w2 ⟨rfl, v', HS⟩
    have HT : Hid (St o ((its.set i (spI A c z' v' u)).set j (rdI k A.sp ⟨sl, gn, sn, ⟨g0, g1⟩, ce, ⟨b0, b1⟩, 2, va, er⟩)) w2) := by
      show St _ _ _
      rw [set_back (HJ.out v')]
      exact HS.out
    clear HS HJ hq hg c0
    go_wp2
    go_ret
    exact ⟨rfl, v', HT.out⟩
end
end Go.Proofs.Ytajfjkhbimehbaa
