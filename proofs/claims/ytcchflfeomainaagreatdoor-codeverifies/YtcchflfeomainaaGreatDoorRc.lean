/- The document's table of states: follow. -/
import Derived.Test.YtcchflfeomainaaGreatDoorRb
namespace Go.Proofs.YtcchflfeomainaaGreatDoor
open Go.RowKit
set_option linter.unusedVariables false
set_option linter.unusedSimpArgs false
attribute [local go_sem ↓] Go.wp_at_zero Go.wp_at_succ

theorem addB_len (y : Spt) (B : Bst) : (addB y B).has.length = B.has.length := by unfold addB; split <;> simp
theorem addB_T (y : Spt) (B : Bst) : (addB y B).T.length ≤ B.T.length + 1 := by unfold addB; split <;> simp
section
variable {o w : World} {vt : Value} {B : Bst} {R : List It} {k gh N : Nat} {L : List Ins}
theorem keep_box {A : It} (h : St o (A :: (tbL k gh N vt B ++ R)) w) : St o (tbL k gh N vt B ++ (R ++ [A])) w := by
  rw [← List.append_assoc]
  exact h.perm (List.perm_append_singleton _ _).symm
theorem drop_box {A : It} (h : St o (tbL k gh N vt B ++ (R ++ [A])) w) : St o (tbL k gh N vt B ++ R) w := by
  rw [← List.append_assoc] at h
  exact (h.perm (List.perm_append_singleton _ _)).pop
theorem box_cell {M : Nat} {cs : Array Value} {t : TypeId} (h : St o (tbL k gh N vt B ++ (R ++ [boxI M cs t])) w) (j : Nat) : w.cell? ⟨M, j, none⟩ = cs[j]? :=
  h.cell (tbL k gh N vt B ++ R).length (by rw [← List.append_assoc]; exact List.getElem?_concat_length ..) j
set_option maxRecDepth 100000 in
set_option maxHeartbeats 1000000 in
theorem follow_sr (hL : Lok L) (h : St o (tbL k gh N vt B ++ R) w) (hN : B.has.length = N) (hNn : N = L.length * 33 * 34) (hT : B.T.length + 1 ≤ 449930) {x : Spt} (hx : Fine L.length x) (ha : amissS L x = 0) {m : Nat} (hm : m < 23) {a : Int} (hop : L.getD x.p Ins.zero = ⟨(m : Nat), a⟩) :
    Calls Tryz.prog 35 #[.pointer (some ⟨k, 0, none⟩), .agg #[.int .i64 m, .int .i64 a], .int .i64 x.p, .int .i64 x.s.d, .int .i64 x.s.bas] w fun e w' => e = .returned (.tuple #[]) ∧ ∃ vt', St o (tbL k gh N vt' ((nextS L x).foldl (fun B y => addB y B) B) ++ R) w' := by
  have hP := fun W => rPops_any m W hm
  have hQ := fun W => rPushes_any m W hm
  obtain ⟨p0, p1, q0, q1⟩ := pops_le m hm
  have hb := bas_le hx.2.1
  have hd := hx.2.1.1
  have hxp := hx.1
  have hm4 := hL.m
  have HF : Hid (∀ y, y ∈ nextS L x → Fine L.length y) := fun y hy => next_fine hL hx hy
  have hpl : (m = 14 ∨ m = 15 ∨ m = 20) → 0 ≤ a ∧ a.toNat < L.length := fun e => by
    have hmem : L.getD x.p Ins.zero ∈ L := by rw [List.getD_eq_getElem?_getD, List.getElem?_eq_getElem hx.1]; exact List.getElem_mem _
    have := hL.place _ hmem (by rw [hop]; show (m : Int) = 14 ∨ (m : Int) = 15 ∨ (m : Int) = 20; omega)
    rw [hop] at this
    exact this
  have HADD : Hid (∀ W vt B y, St o (tbL k gh N vt B ++ (R ++ [boxI w.heap.size #[.int .i64 m, .int .i64 a] 48])) W → B.has.length = N → B.T.length ≤ 449930 → Fine L.length y → Calls Tryz.prog 33 #[.pointer (some ⟨k, 0, none⟩), .int .i64 y.p, .int .i64 y.s.d, .int .i64 y.s.bas] W fun e w' => e = .returned (.tuple #[]) ∧ ∃ vt', St o (tbL k gh N vt' (addB y B) ++ (R ++ [boxI w.heap.size #[.int .i64 m, .int .i64 a] 48])) w') := fun W vt B y s h1 h2 h3 => add_sr s h1 hNn hm4 h2 h3
  have s1 := keep_box (h.box #[.int .i64 m, .int .i64 a] 48)
  have e0 : (w.alloc (.cells #[.int .i64 m, .int .i64 a] 48)).cell? ⟨w.heap.size, 0, none⟩ = some (.int .i64 m) := box_cell s1 0
  have e1 : (w.alloc (.cells #[.int .i64 m, .int .i64 a] 48)).cell? ⟨w.heap.size, 1, none⟩ = some (.int .i64 a) := box_cell s1 1
  have HB := hid s1
  have HNX : Hid (nextS L x = (if (m : Int) = 22 then [] else if (m : Int) = 14 ∨ (m : Int) = 20 then [⟨a.toNat, behindM m (rowOf (m : Nat)) x.s⟩] else if (m : Int) = 15 then [⟨x.p + 1, behindM m (rowOf (m : Nat)) x.s⟩, ⟨a.toNat, behindM m (rowOf (m : Nat)) x.s⟩] else [⟨x.p + 1, behindM m (rowOf (m : Nat)) x.s⟩])) := by
    show _ = _
    unfold nextS
    rw [if_pos (show amissM (rowOf (L.getD x.p Ins.zero).op) x.s = 0 from ha), hop]
  have h3 : ¬ ((x.s.d : Int) < (rowOf (m : Nat)).pops ∨ 32 < (x.s.d : Int) - (rowOf (m : Nat)).pops + (rowOf (m : Nat)).pushes) ∧ (m = 20 → 0 < x.s.bas) := by
    have e : amissM (rowOf (m : Nat)) x.s = 0 := by have := ha; unfold amissS at this; rw [hop] at this; exact this
    rw [amissM_bas m hm] at e
    split at e
    · cases e
    · rename_i g
      refine ⟨g, fun e20 => ?_⟩
      subst e20
      simp at e
      omega
  obtain ⟨h3, h20⟩ := h3
  have HBe : Hid (∀ dn : Nat, (x.s.d : Int) - (rowOf (m : Nat)).pops + (rowOf (m : Nat)).pushes = dn → behindM m (rowOf (m : Nat)) x.s = if (m : Int) = 16 then ⟨dn, true, dn⟩ else if (m : Int) = 19 then ⟨dn, false, 0⟩ else if (m : Int) = 20 then ⟨x.s.b, false, 0⟩ else ⟨dn, x.s.i, x.s.b⟩) := fun dn hh => by
    have e : ((x.s.d : Int) + ((rowOf (m : Nat)).pushes - (rowOf (m : Nat)).pops)).toNat = dn := by omega
    unfold behindM
    rw [e]
  have HBas : Hid (∀ dn : Nat, Sst.bas ⟨dn, x.s.i, x.s.b⟩ = x.s.bas) := fun dn => rfl
  have HB20 : Hid (0 < x.s.bas → x.s.bas = x.s.b + 1) := fun hh => by unfold Sst.bas at hh ⊢; split <;> simp_all
  clear h s1 ha hop
  obtain ⟨xp, xd, xi, xb⟩ := x
  simp only at *
  generalize (rowOf (m : Nat)).pops = P at *
  generalize (rowOf (m : Nat)).pushes = Q at *
  obtain ⟨dn, hdn⟩ : ∃ dn : Nat, (xd : Int) - P + Q = dn := ⟨((xd : Int) - P + Q).toNat, by omega⟩
  have a1 : (0 : Int) ≤ (xd : Int) := Int.natCast_nonneg _
  have a2 : (xd : Int) ≤ 32 := by omega
  have a3 : (0 : Int) ≤ (dn : Int) := Int.natCast_nonneg _
  have a4 : (dn : Int) ≤ 32 := by omega
  have a5 : (0 : Int) ≤ (xp : Int) := Int.natCast_nonneg _
  have a6 : (xp : Int) ≤ 401 := by omega
  have a7 : (0 : Int) ≤ (Sst.bas ⟨xd, xi, xb⟩ : Int) := Int.natCast_nonneg _
  have a8 : (Sst.bas ⟨xd, xi, xb⟩ : Int) ≤ 33 := by omega
  have hbe := HBe.out dn hdn
  rw [hbe] at HNX
  clear HBe hbe
  by_cases e22 : m = 22
  · subst e22
    have HNx : Hid (nextS L ⟨xp, xd, xi, xb⟩ = []) := HNX.out
    have H2 : Hid (∃ vt', St o (tbL k gh N vt' ((nextS L ⟨xp, xd, xi, xb⟩).foldl (fun B y => addB y B) B) ++ R) (w.alloc (.cells #[.int .i64 (22 : Nat), .int .i64 a] 48))) := ⟨vt, by rw [HNx.out]; exact drop_box HB.out⟩
    clear HADD HB HF HNX HNx
    go_enter Tryz.func35, Tryz.ntmps35
    go_wp2_with (first | (go_at_call 53; refine (hP _).mono ?_; rintro e w1 ⟨rfl, rfl⟩) | (go_at_call 54; refine (hQ _).mono ?_; rintro e w1 ⟨rfl, rfl⟩) | simp only [hdn])
    first | go_end0 | refine bodyPost_ret (results_none rfl _ _ _) rfl ?_
    exact ⟨rfl, H2.out⟩
  · have t22 : ((m : Int) == 22) = false := by simp; omega
    by_cases e14 : m = 14
    · subst e14
      obtain ⟨an, rfl⟩ : ∃ an : Nat, a = an := ⟨a.toNat, by have := (hpl (.inl rfl)).1; omega⟩
      have HNx : Hid (nextS L ⟨xp, xd, xi, xb⟩ = [⟨an, dn, xi, xb⟩]) := HNX.out
      have q : Calls Tryz.prog 33 #[.pointer (some ⟨k, 0, none⟩), .int .i64 an, .int .i64 dn, .int .i64 (Sst.bas ⟨xd, xi, xb⟩)] _ _ := HADD.out _ vt B ⟨an, dn, xi, xb⟩ HB.out hN (by omega) (HF.out _ (by rw [HNx.out]; simp))
      clear HADD HB HF HNX
      go_enter Tryz.func35, Tryz.ntmps35
      go_wp2_with (first | (go_at_call 53; refine (hP _).mono ?_; rintro e w1 ⟨rfl, rfl⟩) | (go_at_call 54; refine (hQ _).mono ?_; rintro e w1 ⟨rfl, rfl⟩) | simp only [hdn])
      refine q.mono ?_
      clear q
      rintro e w2 ⟨rfl, vt', s2⟩
      have H2 : Hid (∃ vt', St o (tbL k gh N vt' ((nextS L ⟨xp, xd, xi, xb⟩).foldl (fun B y => addB y B) B) ++ R) w2) := ⟨vt', by rw [HNx.out]; exact drop_box s2⟩
      clear s2
      go_wp2_with fail
      first | go_end0 | refine bodyPost_ret (results_none rfl _ _ _) rfl ?_
      exact ⟨rfl, H2.out⟩
    · have t14 : ((m : Int) == 14) = false := by simp; omega
      by_cases e15 : m = 15
      · subst e15
        obtain ⟨an, rfl⟩ : ∃ an : Nat, a = an := ⟨a.toNat, by have := (hpl (.inr (.inl rfl))).1; omega⟩
        have HNx : Hid (nextS L ⟨xp, xd, xi, xb⟩ = [⟨xp + 1, dn, xi, xb⟩, ⟨an, dn, xi, xb⟩]) := HNX.out
        have q : Calls Tryz.prog 33 #[.pointer (some ⟨k, 0, none⟩), .int .i64 ((xp : Int) + 1), .int .i64 dn, .int .i64 (Sst.bas ⟨xd, xi, xb⟩)] _ _ := HADD.out _ vt B ⟨xp + 1, dn, xi, xb⟩ HB.out hN (by omega) (HF.out _ (by rw [HNx.out]; simp))
        have hf2 := HF.out ⟨an, dn, xi, xb⟩ (by rw [HNx.out]; simp)
        clear HB HF HNX
        go_enter Tryz.func35, Tryz.ntmps35
        go_wp2_with (first | (go_at_call 53; refine (hP _).mono ?_; rintro e w1 ⟨rfl, rfl⟩) | (go_at_call 54; refine (hQ _).mono ?_; rintro e w1 ⟨rfl, rfl⟩) | simp only [hdn])
        refine q.mono ?_
        clear q
        rintro e w2 ⟨rfl, vt2, s2⟩
        have q2 : Calls Tryz.prog 33 #[.pointer (some ⟨k, 0, none⟩), .int .i64 an, .int .i64 dn, .int .i64 (Sst.bas ⟨xd, xi, xb⟩)] _ _ := HADD.out _ vt2 (addB ⟨xp + 1, dn, xi, xb⟩ B) ⟨an, dn, xi, xb⟩ s2 (by rw [addB_len]; exact hN) (by have := addB_T ⟨xp + 1, dn, xi, xb⟩ B; omega) hf2
        have e1b : w2.cell? ⟨w.heap.size, 1, none⟩ = some (.int .i64 an) := box_cell s2 1
        clear s2 HADD
        go_wp2_with fail
        refine q2.mono ?_
        clear q2
        rintro e w3 ⟨rfl, vt', s3⟩
        have H2 : Hid (∃ vt', St o (tbL k gh N vt' ((nextS L ⟨xp, xd, xi, xb⟩).foldl (fun B y => addB y B) B) ++ R) w3) := ⟨vt', by rw [HNx.out]; exact drop_box s3⟩
        clear s3
        go_wp2_with fail
        first | go_end0 | refine bodyPost_ret (results_none rfl _ _ _) rfl ?_
        exact ⟨rfl, H2.out⟩
      · have t15 : ((m : Int) == 15) = false := by simp; omega
        by_cases e20 : m = 20
        · subst e20
          obtain ⟨an, rfl⟩ : ∃ an : Nat, a = an := ⟨a.toNat, by have := (hpl (.inr (.inr rfl))).1; omega⟩
          have HNx : Hid (nextS L ⟨xp, xd, xi, xb⟩ = [⟨an, xb, false, 0⟩]) := HNX.out
          have hbb := HB20.out (h20 rfl)
          have hbm : (Sst.bas ⟨xd, xi, xb⟩ : Int) - 1 = (xb : Int) := by omega
          have q : Calls Tryz.prog 33 #[.pointer (some ⟨k, 0, none⟩), .int .i64 an, .int .i64 xb, .int .i64 0] _ _ := HADD.out _ vt B ⟨an, xb, false, 0⟩ HB.out hN (by omega) (HF.out _ (by rw [HNx.out]; simp))
          generalize Sst.bas ⟨xd, xi, xb⟩ = bb at *
          clear HADD HB HF HNX hbb
          go_enter Tryz.func35, Tryz.ntmps35
          go_wp2_with (first | (go_at_call 53; refine (hP _).mono ?_; rintro e w1 ⟨rfl, rfl⟩) | (go_at_call 54; refine (hQ _).mono ?_; rintro e w1 ⟨rfl, rfl⟩) | simp only [hdn] | simp only [hbm])
          refine q.mono ?_
          clear q
          rintro e w2 ⟨rfl, vt', s2⟩
          have H2 : Hid (∃ vt', St o (tbL k gh N vt' ((nextS L ⟨xp, xd, xi, xb⟩).foldl (fun B y => addB y B) B) ++ R) w2) := ⟨vt', by rw [HNx.out]; exact drop_box s2⟩
          clear s2
          go_wp2_with fail
          first | go_end0 | refine bodyPost_ret (results_none rfl _ _ _) rfl ?_
          exact ⟨rfl, H2.out⟩
        · have t20 : ((m : Int) == 20) = false := by simp; omega
          by_cases e16 : m = 16
          · subst e16
            have HNx : Hid (nextS L ⟨xp, xd, xi, xb⟩ = [⟨xp + 1, dn, true, dn⟩]) := HNX.out
            have q : Calls Tryz.prog 33 #[.pointer (some ⟨k, 0, none⟩), .int .i64 ((xp : Int) + 1), .int .i64 dn, .int .i64 ((dn : Int) + 1)] _ _ := HADD.out _ vt B ⟨xp + 1, dn, true, dn⟩ HB.out hN (by omega) (HF.out _ (by rw [HNx.out]; simp))
            clear HADD HB HF HNX
            go_enter Tryz.func35, Tryz.ntmps35
            go_wp2_with (first | (go_at_call 53; refine (hP _).mono ?_; rintro e w1 ⟨rfl, rfl⟩) | (go_at_call 54; refine (hQ _).mono ?_; rintro e w1 ⟨rfl, rfl⟩) | simp only [hdn])
            refine q.mono ?_
            clear q
            rintro e w2 ⟨rfl, vt', s2⟩
            have H2 : Hid (∃ vt', St o (tbL k gh N vt' ((nextS L ⟨xp, xd, xi, xb⟩).foldl (fun B y => addB y B) B) ++ R) w2) := ⟨vt', by rw [HNx.out]; exact drop_box s2⟩
            clear s2
            go_wp2_with fail
            first | go_end0 | refine bodyPost_ret (results_none rfl _ _ _) rfl ?_
            exact ⟨rfl, H2.out⟩
          · have t16 : ((m : Int) == 16) = false := by simp; omega
            by_cases e19 : m = 19
            · subst e19
              have HNx : Hid (nextS L ⟨xp, xd, xi, xb⟩ = [⟨xp + 1, dn, false, 0⟩]) := HNX.out
              have q : Calls Tryz.prog 33 #[.pointer (some ⟨k, 0, none⟩), .int .i64 ((xp : Int) + 1), .int .i64 dn, .int .i64 0] _ _ := HADD.out _ vt B ⟨xp + 1, dn, false, 0⟩ HB.out hN (by omega) (HF.out _ (by rw [HNx.out]; simp))
              clear HADD HB HF HNX
              go_enter Tryz.func35, Tryz.ntmps35
              go_wp2_with (first | (go_at_call 53; refine (hP _).mono ?_; rintro e w1 ⟨rfl, rfl⟩) | (go_at_call 54; refine (hQ _).mono ?_; rintro e w1 ⟨rfl, rfl⟩) | simp only [hdn])
              refine q.mono ?_
              clear q
              rintro e w2 ⟨rfl, vt', s2⟩
              have H2 : Hid (∃ vt', St o (tbL k gh N vt' ((nextS L ⟨xp, xd, xi, xb⟩).foldl (fun B y => addB y B) B) ++ R) w2) := ⟨vt', by rw [HNx.out]; exact drop_box s2⟩
              clear s2
              go_wp2_with fail
              first | go_end0 | refine bodyPost_ret (results_none rfl _ _ _) rfl ?_
              exact ⟨rfl, H2.out⟩
            · have t19 : ((m : Int) == 19) = false := by simp; omega
              have HNx : Hid (nextS L ⟨xp, xd, xi, xb⟩ = [⟨xp + 1, dn, xi, xb⟩]) := by
                have := HNX.out
                rw [if_neg (by omega), if_neg (by omega), if_neg (by omega), if_neg (by omega), if_neg (by omega), if_neg (by omega)] at this
                exact this
              have q : Calls Tryz.prog 33 #[.pointer (some ⟨k, 0, none⟩), .int .i64 ((xp : Int) + 1), .int .i64 dn, .int .i64 (Sst.bas ⟨xd, xi, xb⟩)] _ _ := HADD.out _ vt B ⟨xp + 1, dn, xi, xb⟩ HB.out hN (by omega) (HF.out _ (by rw [HNx.out]; simp))
              clear e22 e14 e15 e20 e16 e19
              clear HADD HB HF HNX
              go_enter Tryz.func35, Tryz.ntmps35
              go_wp2_with (first | (go_at_call 53; refine (hP _).mono ?_; rintro e w1 ⟨rfl, rfl⟩) | (go_at_call 54; refine (hQ _).mono ?_; rintro e w1 ⟨rfl, rfl⟩) | simp only [hdn])
              refine q.mono ?_
              clear q
              rintro e w2 ⟨rfl, vt', s2⟩
              have H2 : Hid (∃ vt', St o (tbL k gh N vt' ((nextS L ⟨xp, xd, xi, xb⟩).foldl (fun B y => addB y B) B) ++ R) w2) := ⟨vt', by rw [HNx.out]; exact drop_box s2⟩
              clear s2
              go_wp2_with fail
              first | go_end0 | refine bodyPost_ret (results_none rfl _ _ _) rfl ?_
              exact ⟨rfl, H2.out⟩
end
end Go.Proofs.YtcchflfeomainaaGreatDoor
