/- A step over a table of the code and the document's: both answer the same, and stay the same. -/
import Derived.Test.YthaajlelaoimaaaRefWordsW
import Derived.Test.YthaajlelaoimaaaOps
import Derived.Deep.Cut
namespace Go.Proofs.Ythaajlelaoimaaa
open Go.RowKit
set_option linter.unusedVariables false
set_option linter.unusedSimpArgs false
attribute [local go_sem ↓] Go.wp_at_zero Go.wp_at_succ

/-- Where a table, its rows, both meters and the document's table stand in a list of things. -/
structure Spots (its : List It) (i a b d p j : Nat) (t r c q f m n y g : Nat) (s : Mt) (v u : Value) (hs : List Hd) (ws : List Int) : Prop where
  hi : its[i]? = some (meterI 74 (some m) s v)
  ha : its[a]? = some (tabI t r q)
  hb : its[b]? = some (hdRowI r c (some m) 3 hs)
  hd : its[d]? = some (wdRowI q f (some m) 4 ws)
  hp : its[p]? = some (meterI 29 (some n) s u)
  hj : its[j]? = some (refI y g n hs ws)
  hl : ws.length = hs.length * 2
  ne : i ≠ a ∧ i ≠ b ∧ i ≠ d ∧ i ≠ p ∧ i ≠ j ∧ b ≠ a ∧ b ≠ d ∧ b ≠ p ∧ b ≠ j ∧ d ≠ a ∧ d ≠ p ∧ d ≠ j ∧ p ≠ a ∧ p ≠ j ∧ j ≠ a
def after (its : List It) (i b d p j : Nat) (r c q f m n y g : Nat) (s : Mt) (v u : Value) (hs : List Hd) (ws : List Int) : List It :=
  ((((its.set i (meterI 74 (some m) s v)).set b (hdRowI r c (some m) 3 hs)).set d (wdRowI q f (some m) 4 ws)).set p (meterI 29 (some n) s u)).set j (refI y g n hs ws)
theorem put_len (ws : List Int) (n : Nat) (i j x : Int) : (putW ws n i j x).length = ws.length := putW_len ws n i j x
set_option maxRecDepth 100000 in
set_option maxHeartbeats 4000000 in
theorem does_st {o w : World} {its : List It} (h : St o its w) (i a b d p j : Nat) {t r c q f m n y g : Nat} {s : Mt} {v u : Value} {hs : List Hd} {ws : List Int} (hs0 : Spots its i a b d p j t r c q f m n y g s v u hs ws)
    {k : Nat} (hw : s.within k) (hk : k ≤ 2932031007317) (hok : HsOk hs k) (oo : Bool) (kind os og on ox : Int) :
    Calls Try.prog 14 #[.pointer (some ⟨t, 0, none⟩), .pointer (some ⟨y, 0, none⟩), .agg #[.bool oo, .int .i64 kind, .int .i64 os, .int .i64 og, .int .i64 on, .int .u64 ox]] w fun e w' => e = .returned (.bool true) ∧
      ∃ s' v' u' hs' ws', St o (after its i b d p j r c q f m n y g s' v' u' hs' ws') w' ∧ s'.within (k + 1) ∧ HsOk hs' (k + 1) ∧ hs'.length = hs.length ∧ ws'.length = ws.length := by
  obtain ⟨hi, ha, hb, hd, hp, hj, hl, n1, n2, n3, n4, n5, n6, n7, n8, n9, n10, n11, n12, n13, n14, n15⟩ := hs0
  have hS0 := h.box #[.bool oo, .int .i64 kind, .int .i64 os, .int .i64 og, .int .i64 on, .int .u64 ox] 39
  have HW : Hid (s.within k) := hw
  have HO : Hid (HsOk hs k) := hok
  clear h hw hok
  go_enter Try.func14, Try.ntmps14
  go_upto_region 1 with fail
  generalize w.alloc (.cells #[.bool oo, .int .i64 kind, .int .i64 os, .int .i64 og, .int .i64 on, .int .u64 ox] 39) = W0 at *
  generalize w.heap.size = B at *
  have a1 : W0.cell? ⟨B, 1, none⟩ = some (.int .i64 kind) := hS0.cell 0 rfl 1
  have a2 : W0.cell? ⟨B, 2, none⟩ = some (.int .i64 os) := hS0.cell 0 rfl 2
  have a3 : W0.cell? ⟨B, 3, none⟩ = some (.int .i64 og) := hS0.cell 0 rfl 3
  have a4 : W0.cell? ⟨B, 4, none⟩ = some (.int .i64 on) := hS0.cell 0 rfl 4
  have a5 : W0.cell? ⟨B, 5, none⟩ = some (.int .u64 ox) := hS0.cell 0 rfl 5
  by_cases k2 : kind = 2
  · subst k2
    have hq1 := tabClaim_st hS0 (i + 1) (a + 1) (b + 1) hi ha hb (by omega) HW.out hk HO.out (by omega) os on
    have hT : (claimR hs os on == claimR hs os on) = true := by simp
    have hE : ((claimOp on).E hs os == (claimOp on).E hs os) = true := by simp
    have HK : Hid (HsOk ((claimOp on).H hs os) (k + 1)) := claim_keeps HO.out _ _
    have HI : Hid (((claimOp on).S s hs os).within (k + 1)) := HOp.within _ HW.out _ _
    have hln : ((claimOp on).H hs os).length = hs.length := HOp.len _ _ _
    have hc2 : ∀ W v1, St o (boxI B #[.bool oo, .int .i64 2, .int .i64 os, .int .i64 og, .int .i64 on, .int .u64 ox] 39 :: ((its.set i (meterI 74 (some m) ((claimOp on).S s hs os) v1)).set b (hdRowI r c (some m) 3 ((claimOp on).H hs os)))) W → Calls Try.prog 30 #[.pointer (some ⟨y, 0, none⟩), .int .i64 os, .int .i64 on] W fun e w' => e = .returned (.tuple #[.int .i64 (claimR hs os on), .int .i64 ((claimOp on).E hs os)]) ∧ ∃ u', Hid (St o (after its i b d p j r c q f m n y g ((claimOp on).S s hs os) v1 u' ((claimOp on).H hs os) ws) w') := by
      intro W v1 hS
      refine (refClaim_st hS (p + 1) (j + 1) (set_other (set_other hp n4) n8) (set_other (set_other hj n5) n9) (by omega) HW.out hk HO.out (by omega) os on).mono ?_
      rintro e w' ⟨h1, u', h2⟩
      refine ⟨h1, u', ?_⟩
      unfold after
      rw [set_back (i := d) (set_other (set_other hd n3) n7)]
      exact h2.pop
    generalize  claimR hs os on = R at *
    generalize (claimOp on).E hs os = E at *
    generalize (claimOp on).H hs os = hs1 at *
    generalize (claimOp on).S s hs os = s1 at *
    go_wp2_with fail
    refine hq1.mono ?_
    rintro e w1 ⟨rfl, v1, hS1'⟩
    have hS1 : St o (boxI B #[.bool oo, .int .i64 2, .int .i64 os, .int .i64 og, .int .i64 on, .int .u64 ox] 39 :: ((its.set i (meterI 74 (some m) s1 v1)).set b (hdRowI r c (some m) 3 hs1))) w1 := hS1'
    have b2 : w1.cell? ⟨B, 2, none⟩ = some (.int .i64 os) := hS1.cell 0 rfl 2
    have b3 : w1.cell? ⟨B, 3, none⟩ = some (.int .i64 og) := hS1.cell 0 rfl 3
    have b4 : w1.cell? ⟨B, 4, none⟩ = some (.int .i64 on) := hS1.cell 0 rfl 4
    have b5 : w1.cell? ⟨B, 5, none⟩ = some (.int .u64 ox) := hS1.cell 0 rfl 5

    have hc := hc2 w1 v1 hS1
    clear hc2 hq1 hS0 hS1 hS1' a1 a2 a3 a4 a5
    go_wp2_with fail
    refine hc.mono ?_
    rintro e w2 ⟨rfl, u', HS⟩
    clear hc b2 b3 b4 b5
    go_wp2
    go_ret
    exact ⟨rfl, _, _, _, _, _, HS.out, HI.out, HK.out, hln, rfl⟩
  have e2 : (kind == 2) = false := by simpa using k2
  clear k2
  by_cases k3 : kind = 3
  · subst k3
    have hq1 := tabReady_st hS0 (i + 1) (a + 1) (b + 1) hi ha hb (by omega) HW.out hk HO.out os og on
    have hT : (claimR hs os on == claimR hs os on) = true := by simp
    have hE : ((readyOp og on).E hs os == (readyOp og on).E hs os) = true := by simp
    have HK : Hid (HsOk ((readyOp og on).H hs os) (k + 1)) := ready_keeps HO.out _ _ _
    have HI : Hid (((readyOp og on).S s hs os).within (k + 1)) := HOp.within _ HW.out _ _
    have hln : ((readyOp og on).H hs os).length = hs.length := HOp.len _ _ _
    have hc2 : ∀ W v1, St o (boxI B #[.bool oo, .int .i64 3, .int .i64 os, .int .i64 og, .int .i64 on, .int .u64 ox] 39 :: ((its.set i (meterI 74 (some m) ((readyOp og on).S s hs os) v1)).set b (hdRowI r c (some m) 3 ((readyOp og on).H hs os)))) W → Calls Try.prog 31 #[.pointer (some ⟨y, 0, none⟩), .int .i64 os, .int .i64 og, .int .i64 on] W fun e w' => e = .returned (.int .i64 ((readyOp og on).E hs os)) ∧ ∃ u', Hid (St o (after its i b d p j r c q f m n y g ((readyOp og on).S s hs os) v1 u' ((readyOp og on).H hs os) ws) w') := by
      intro W v1 hS
      refine (refReady_st hS (p + 1) (j + 1) (set_other (set_other hp n4) n8) (set_other (set_other hj n5) n9) (by omega) HW.out hk HO.out (by omega) os og on).mono ?_
      rintro e w' ⟨h1, u', h2⟩
      refine ⟨h1, u', ?_⟩
      unfold after
      rw [set_back (i := d) (set_other (set_other hd n3) n7)]
      exact h2.pop
    generalize  claimR hs os on = R at *
    generalize (readyOp og on).E hs os = E at *
    generalize (readyOp og on).H hs os = hs1 at *
    generalize (readyOp og on).S s hs os = s1 at *
    go_wp2_with fail
    refine hq1.mono ?_
    rintro e w1 ⟨rfl, v1, hS1'⟩
    have hS1 : St o (boxI B #[.bool oo, .int .i64 3, .int .i64 os, .int .i64 og, .int .i64 on, .int .u64 ox] 39 :: ((its.set i (meterI 74 (some m) s1 v1)).set b (hdRowI r c (some m) 3 hs1))) w1 := hS1'
    have b2 : w1.cell? ⟨B, 2, none⟩ = some (.int .i64 os) := hS1.cell 0 rfl 2
    have b3 : w1.cell? ⟨B, 3, none⟩ = some (.int .i64 og) := hS1.cell 0 rfl 3
    have b4 : w1.cell? ⟨B, 4, none⟩ = some (.int .i64 on) := hS1.cell 0 rfl 4
    have b5 : w1.cell? ⟨B, 5, none⟩ = some (.int .u64 ox) := hS1.cell 0 rfl 5

    have hc := hc2 w1 v1 hS1
    clear hc2 hq1 hS0 hS1 hS1' a1 a2 a3 a4 a5
    go_wp2_with fail
    refine hc.mono ?_
    rintro e w2 ⟨rfl, u', HS⟩
    clear hc b2 b3 b4 b5
    go_wp2
    go_ret
    exact ⟨rfl, _, _, _, _, _, HS.out, HI.out, HK.out, hln, rfl⟩
  have e3 : (kind == 3) = false := by simpa using k3
  clear k3
  by_cases k4 : kind = 4
  · subst k4
    have hq1 := tabLook_st hS0 (i + 1) (a + 1) (b + 1) hi ha hb (by omega) HW.out hk os
    have hE : (lookE hs os == lookE hs os) = true := by simp
    have HI : Hid ((lookS s hs os).within (k + 1)) := lookS_within HW.out _ _
    have HK : Hid (HsOk hs (k + 1)) := HO.out.more (Nat.le_succ _)
    have hc2 : ∀ W v1 A, St o (A :: boxI B #[.bool oo, .int .i64 4, .int .i64 os, .int .i64 og, .int .i64 on, .int .u64 ox] 39 :: its.set i (meterI 74 (some m) (lookS s hs os) v1)) W → Calls Try.prog 32 #[.pointer (some ⟨y, 0, none⟩), .int .i64 os] W fun e w' => e = .returned (.tuple #[(nowAt hs os).val, .int .i64 (lookE hs os)]) ∧ ∃ u', A.P w' ∧ Hid (St o (A :: after its i b d p j r c q f m n y g (lookS s hs os) v1 u' hs ws) w') := by
      intro W v1 A hS
      refine (refLook_st hS (p + 1 + 1) (j + 1 + 1) (set_other hp n4) (set_other hj n5) (by omega) HW.out hk os).mono ?_
      rintro e w' ⟨h1, u', h2⟩
      refine ⟨h1, u', h2.get 0 rfl, ?_⟩
      unfold after
      rw [set_back (i := b) (set_other hb n2), set_back (i := d) (set_other hd n3), set_back (i := j) (set_other (set_other hj n5) n14)]
      exact St.drop1 h2
    generalize nowAt hs os = X at *
    obtain ⟨xgn, xsa, xsp, xth, xdm, xwy⟩ := X
    simp only [Hd.val] at *
    generalize lookE hs os = E at *
    generalize lookS s hs os = s1 at *
    go_wp2_with fail
    refine hq1.mono ?_
    rintro e w1 ⟨rfl, v1, hS1'⟩
    have hS1 : St o (boxI B #[.bool oo, .int .i64 4, .int .i64 os, .int .i64 og, .int .i64 on, .int .u64 ox] 39 :: its.set i (meterI 74 (some m) s1 v1)) w1 := hS1'
    have hS2 := hS1.box #[.int .i64 xgn, .int .i64 xsa, .int .i64 xsp, .int .i64 xth, .bool xdm, .int .i64 xwy] 49
    have b2 : (w1.alloc (.cells #[.int .i64 xgn, .int .i64 xsa, .int .i64 xsp, .int .i64 xth, .bool xdm, .int .i64 xwy] 49)).cell? ⟨B, 2, none⟩ = some (.int .i64 os) := hS2.cell 1 rfl 2
    have hc := hc2 _ v1 _ hS2
    clear hc2 hq1 hS0 hS1 hS1' hS2 a1 a2 a3 a4 a5
    go_wp2_with fail
    generalize w1.alloc (.cells #[.int .i64 xgn, .int .i64 xsa, .int .i64 xsp, .int .i64 xth, .bool xdm, .int .i64 xwy] 49) = W1 at *
    generalize w1.heap.size = C at *
    refine hc.mono ?_
    rintro e w2 ⟨rfl, u', hA, HS⟩
    have hA' : w2.heap[C]? = some (.cells #[.int .i64 xgn, .int .i64 xsa, .int .i64 xsp, .int .i64 xth, .bool xdm, .int .i64 xwy] 49 (0, 0)) := hA
    have HT : Hid _ := (HS.out.box #[.int .i64 xgn, .int .i64 xsa, .int .i64 xsp, .int .i64 xth, .bool xdm, .int .i64 xwy] 49)
    have g0 : (w2.alloc (.cells #[.int .i64 xgn, .int .i64 xsa, .int .i64 xsp, .int .i64 xth, .bool xdm, .int .i64 xwy] 49)).cell? ⟨C, 0, none⟩ = some (.int .i64 xgn) := HT.out.cell 1 rfl 0
    have g1 : (w2.alloc (.cells #[.int .i64 xgn, .int .i64 xsa, .int .i64 xsp, .int .i64 xth, .bool xdm, .int .i64 xwy] 49)).cell? ⟨C, 1, none⟩ = some (.int .i64 xsa) := HT.out.cell 1 rfl 1
    have g2 : (w2.alloc (.cells #[.int .i64 xgn, .int .i64 xsa, .int .i64 xsp, .int .i64 xth, .bool xdm, .int .i64 xwy] 49)).cell? ⟨C, 2, none⟩ = some (.int .i64 xsp) := HT.out.cell 1 rfl 2
    have g3 : (w2.alloc (.cells #[.int .i64 xgn, .int .i64 xsa, .int .i64 xsp, .int .i64 xth, .bool xdm, .int .i64 xwy] 49)).cell? ⟨C, 3, none⟩ = some (.int .i64 xth) := HT.out.cell 1 rfl 3
    have g4 : (w2.alloc (.cells #[.int .i64 xgn, .int .i64 xsa, .int .i64 xsp, .int .i64 xth, .bool xdm, .int .i64 xwy] 49)).cell? ⟨C, 4, none⟩ = some (.bool xdm) := HT.out.cell 1 rfl 4
    have g5 : (w2.alloc (.cells #[.int .i64 xgn, .int .i64 xsa, .int .i64 xsp, .int .i64 xth, .bool xdm, .int .i64 xwy] 49)).cell? ⟨C, 5, none⟩ = some (.int .i64 xwy) := HT.out.cell 1 rfl 5
    have q0 : (xgn == xgn) = true := by simp
    have q1 : (xsa == xsa) = true := by simp
    have q2 : (xsp == xsp) = true := by simp
    have q3 : (xth == xth) = true := by simp
    have q4 : (xdm == xdm) = true := by simp
    have q5 : (xwy == xwy) = true := by simp
    have HU : Hid _ := HT.out.pop.pop
    clear hc b2 hA hA' HS HT
    go_wp2
    go_ret
    exact ⟨rfl, _, _, _, _, _, HU.out, HI.out, HK.out, rfl, rfl⟩
  have e4 : (kind == 4) = false := by simpa using k4
  clear k4
  by_cases k5 : kind = 5
  · subst k5
    have hq1 := tabDoom_st hS0 (i + 1) (a + 1) (b + 1) hi ha hb (by omega) HW.out hk HO.out os og on
    have hT : (claimR hs os on == claimR hs os on) = true := by simp
    have hE : ((doomOp og on).E hs os == (doomOp og on).E hs os) = true := by simp
    have HK : Hid (HsOk ((doomOp og on).H hs os) (k + 1)) := doom_keeps HO.out _ _ _
    have HI : Hid (((doomOp og on).S s hs os).within (k + 1)) := HOp.within _ HW.out _ _
    have hln : ((doomOp og on).H hs os).length = hs.length := HOp.len _ _ _
    have hc2 : ∀ W v1, St o (boxI B #[.bool oo, .int .i64 5, .int .i64 os, .int .i64 og, .int .i64 on, .int .u64 ox] 39 :: ((its.set i (meterI 74 (some m) ((doomOp og on).S s hs os) v1)).set b (hdRowI r c (some m) 3 ((doomOp og on).H hs os)))) W → Calls Try.prog 33 #[.pointer (some ⟨y, 0, none⟩), .int .i64 os, .int .i64 og, .int .i64 on] W fun e w' => e = .returned (.int .i64 ((doomOp og on).E hs os)) ∧ ∃ u', Hid (St o (after its i b d p j r c q f m n y g ((doomOp og on).S s hs os) v1 u' ((doomOp og on).H hs os) ws) w') := by
      intro W v1 hS
      refine (refDoom_st hS (p + 1) (j + 1) (set_other (set_other hp n4) n8) (set_other (set_other hj n5) n9) (by omega) HW.out hk HO.out (by omega) os og on).mono ?_
      rintro e w' ⟨h1, u', h2⟩
      refine ⟨h1, u', ?_⟩
      unfold after
      rw [set_back (i := d) (set_other (set_other hd n3) n7)]
      exact h2.pop
    generalize  claimR hs os on = R at *
    generalize (doomOp og on).E hs os = E at *
    generalize (doomOp og on).H hs os = hs1 at *
    generalize (doomOp og on).S s hs os = s1 at *
    go_wp2_with fail
    refine hq1.mono ?_
    rintro e w1 ⟨rfl, v1, hS1'⟩
    have hS1 : St o (boxI B #[.bool oo, .int .i64 5, .int .i64 os, .int .i64 og, .int .i64 on, .int .u64 ox] 39 :: ((its.set i (meterI 74 (some m) s1 v1)).set b (hdRowI r c (some m) 3 hs1))) w1 := hS1'
    have b2 : w1.cell? ⟨B, 2, none⟩ = some (.int .i64 os) := hS1.cell 0 rfl 2
    have b3 : w1.cell? ⟨B, 3, none⟩ = some (.int .i64 og) := hS1.cell 0 rfl 3
    have b4 : w1.cell? ⟨B, 4, none⟩ = some (.int .i64 on) := hS1.cell 0 rfl 4
    have b5 : w1.cell? ⟨B, 5, none⟩ = some (.int .u64 ox) := hS1.cell 0 rfl 5

    have hc := hc2 w1 v1 hS1
    clear hc2 hq1 hS0 hS1 hS1' a1 a2 a3 a4 a5
    go_wp2_with fail
    refine hc.mono ?_
    rintro e w2 ⟨rfl, u', HS⟩
    clear hc b2 b3 b4 b5
    go_wp2
    go_ret
    exact ⟨rfl, _, _, _, _, _, HS.out, HI.out, HK.out, hln, rfl⟩
  have e5 : (kind == 5) = false := by simpa using k5
  clear k5
  by_cases k6 : kind = 6
  · subst k6
    have hq1 := tabFree_st hS0 (i + 1) (a + 1) (b + 1) hi ha hb (by omega) HW.out hk HO.out os og
    have hT : (claimR hs os on == claimR hs os on) = true := by simp
    have hE : ((freeOp og).E hs os == (freeOp og).E hs os) = true := by simp
    have HK : Hid (HsOk ((freeOp og).H hs os) (k + 1)) := free_keeps HO.out _ _
    have HI : Hid (((freeOp og).S s hs os).within (k + 1)) := HOp.within _ HW.out _ _
    have hln : ((freeOp og).H hs os).length = hs.length := HOp.len _ _ _
    have hc2 : ∀ W v1, St o (boxI B #[.bool oo, .int .i64 6, .int .i64 os, .int .i64 og, .int .i64 on, .int .u64 ox] 39 :: ((its.set i (meterI 74 (some m) ((freeOp og).S s hs os) v1)).set b (hdRowI r c (some m) 3 ((freeOp og).H hs os)))) W → Calls Try.prog 34 #[.pointer (some ⟨y, 0, none⟩), .int .i64 os, .int .i64 og] W fun e w' => e = .returned (.int .i64 ((freeOp og).E hs os)) ∧ ∃ u', Hid (St o (after its i b d p j r c q f m n y g ((freeOp og).S s hs os) v1 u' ((freeOp og).H hs os) ws) w') := by
      intro W v1 hS
      refine (refFree_st hS (p + 1) (j + 1) (set_other (set_other hp n4) n8) (set_other (set_other hj n5) n9) (by omega) HW.out hk HO.out (by omega) os og).mono ?_
      rintro e w' ⟨h1, u', h2⟩
      refine ⟨h1, u', ?_⟩
      unfold after
      rw [set_back (i := d) (set_other (set_other hd n3) n7)]
      exact h2.pop
    generalize  claimR hs os on = R at *
    generalize (freeOp og).E hs os = E at *
    generalize (freeOp og).H hs os = hs1 at *
    generalize (freeOp og).S s hs os = s1 at *
    go_wp2_with fail
    refine hq1.mono ?_
    rintro e w1 ⟨rfl, v1, hS1'⟩
    have hS1 : St o (boxI B #[.bool oo, .int .i64 6, .int .i64 os, .int .i64 og, .int .i64 on, .int .u64 ox] 39 :: ((its.set i (meterI 74 (some m) s1 v1)).set b (hdRowI r c (some m) 3 hs1))) w1 := hS1'
    have b2 : w1.cell? ⟨B, 2, none⟩ = some (.int .i64 os) := hS1.cell 0 rfl 2
    have b3 : w1.cell? ⟨B, 3, none⟩ = some (.int .i64 og) := hS1.cell 0 rfl 3
    have b4 : w1.cell? ⟨B, 4, none⟩ = some (.int .i64 on) := hS1.cell 0 rfl 4
    have b5 : w1.cell? ⟨B, 5, none⟩ = some (.int .u64 ox) := hS1.cell 0 rfl 5

    have hc := hc2 w1 v1 hS1
    clear hc2 hq1 hS0 hS1 hS1' a1 a2 a3 a4 a5
    go_wp2_with fail
    refine hc.mono ?_
    rintro e w2 ⟨rfl, u', HS⟩
    clear hc b2 b3 b4 b5
    go_wp2
    go_ret
    exact ⟨rfl, _, _, _, _, _, HS.out, HI.out, HK.out, hln, rfl⟩
  have e6 : (kind == 6) = false := by simpa using k6
  clear k6
  by_cases k7 : kind = 7
  · subst k7
    have hq1 := tabWord_st hS0 (i + 1) (a + 1) (b + 1) (d + 1) hi ha hb hd (by omega) hl HW.out hk os on
    have hT : (wordR ws hs.length os on == wordR ws hs.length os on) = true := by simp
    have hE : (wordE hs.length os on == wordE hs.length os on) = true := by simp
    have HI : Hid ((wordS s hs.length os on).within (k + 1)) := wordS_within HW.out _ _ _
    have HLN : Hid ((ws).length = ws.length) := rfl
    have HK : Hid (HsOk hs (k + 1)) := HO.out.more (Nat.le_succ _)
    have hc2 : ∀ W v1, St o (boxI B #[.bool oo, .int .i64 7, .int .i64 os, .int .i64 og, .int .i64 on, .int .u64 ox] 39 :: (its.set i (meterI 74 (some m) (wordS s hs.length os on) v1))) W → Calls Try.prog 35 #[.pointer (some ⟨y, 0, none⟩), .int .i64 os, .int .i64 on] W fun e w' => e = .returned (.tuple #[.int .u64 (wordR ws hs.length os on), .int .i64 (wordE hs.length os on)]) ∧ ∃ u', Hid (St o (after its i b d p j r c q f m n y g (wordS s hs.length os on) v1 u' hs (ws)) w') := by
      intro W v1 hS
      refine (refWord_st hS (p + 1) (j + 1) (set_other hp n4) (set_other hj n5) (by omega) HW.out hk os on).mono ?_
      rintro e w' ⟨h1, u', h2⟩
      refine ⟨h1, u', ?_⟩
      unfold after
      rw [set_back (i := b) (set_other hb n2), set_back (i := d) (set_other hd n3), set_back (i := j) (set_other (set_other hj n5) n14)]
      exact h2.pop
    generalize wordR ws hs.length os on = R at *
    generalize wordE hs.length os on = E at *
    generalize wordS s hs.length os on = s1 at *
    go_wp2_with fail
    refine hq1.mono ?_
    rintro e w1 ⟨rfl, v1, hS1'⟩
    have hS1 : St o (boxI B #[.bool oo, .int .i64 7, .int .i64 os, .int .i64 og, .int .i64 on, .int .u64 ox] 39 :: (its.set i (meterI 74 (some m) s1 v1))) w1 := hS1'
    have b2 : w1.cell? ⟨B, 2, none⟩ = some (.int .i64 os) := hS1.cell 0 rfl 2
    have b3 : w1.cell? ⟨B, 3, none⟩ = some (.int .i64 og) := hS1.cell 0 rfl 3
    have b4 : w1.cell? ⟨B, 4, none⟩ = some (.int .i64 on) := hS1.cell 0 rfl 4
    have b5 : w1.cell? ⟨B, 5, none⟩ = some (.int .u64 ox) := hS1.cell 0 rfl 5

    have hc := hc2 w1 v1 hS1
    clear hc2 hq1 hS0 hS1 hS1' a1 a2 a3 a4 a5
    go_wp2_with fail
    refine hc.mono ?_
    rintro e w2 ⟨rfl, u', HS⟩
    clear hc b2 b3 b4 b5
    go_wp2
    go_ret
    exact ⟨rfl, _, _, _, _, _, HS.out, HI.out, HK.out, rfl, rfl⟩
  have e7 : (kind == 7) = false := by simpa using k7
  clear k7
  by_cases k8 : kind = 8
  · subst k8
    have hq1 := tabPut_st hS0 (i + 1) (a + 1) (b + 1) (d + 1) hi ha hb hd (by omega) hl HW.out hk os on ox
    have hT : (wordR ws hs.length os on == wordR ws hs.length os on) = true := by simp
    have hE : (wordE hs.length os on == wordE hs.length os on) = true := by simp
    have HI : Hid ((putS s hs.length os on).within (k + 1)) := putS_within HW.out _ _ _
    have HLN : Hid ((putW ws hs.length os on ox).length = ws.length) := putW_len _ _ _ _ _
    have HK : Hid (HsOk hs (k + 1)) := HO.out.more (Nat.le_succ _)
    have hc2 : ∀ W v1, St o (boxI B #[.bool oo, .int .i64 8, .int .i64 os, .int .i64 og, .int .i64 on, .int .u64 ox] 39 :: ((its.set i (meterI 74 (some m) (putS s hs.length os on) v1)).set d (wdRowI q f (some m) 4 (putW ws hs.length os on ox)))) W → Calls Try.prog 36 #[.pointer (some ⟨y, 0, none⟩), .int .i64 os, .int .i64 on, .int .u64 ox] W fun e w' => e = .returned (.int .i64 (wordE hs.length os on)) ∧ ∃ u', Hid (St o (after its i b d p j r c q f m n y g (putS s hs.length os on) v1 u' hs (putW ws hs.length os on ox)) w') := by
      intro W v1 hS
      refine (refPut_st hS (p + 1) (j + 1) (set_other (set_other hp n4) n11) (set_other (set_other hj n5) n12) (by omega) HW.out hk os on ox).mono ?_
      rintro e w' ⟨h1, u', h2⟩
      refine ⟨h1, u', ?_⟩
      unfold after
      rw [set_back (i := b) (set_other hb n2)]
      exact h2.pop
    generalize wordR ws hs.length os on = R at *
    generalize wordE hs.length os on = E at *
    generalize putW ws hs.length os on ox = ws1 at *
    generalize putS s hs.length os on = s1 at *
    go_wp2_with fail
    refine hq1.mono ?_
    rintro e w1 ⟨rfl, v1, hS1'⟩
    have hS1 : St o (boxI B #[.bool oo, .int .i64 8, .int .i64 os, .int .i64 og, .int .i64 on, .int .u64 ox] 39 :: ((its.set i (meterI 74 (some m) s1 v1)).set d (wdRowI q f (some m) 4 ws1))) w1 := hS1'
    have b2 : w1.cell? ⟨B, 2, none⟩ = some (.int .i64 os) := hS1.cell 0 rfl 2
    have b3 : w1.cell? ⟨B, 3, none⟩ = some (.int .i64 og) := hS1.cell 0 rfl 3
    have b4 : w1.cell? ⟨B, 4, none⟩ = some (.int .i64 on) := hS1.cell 0 rfl 4
    have b5 : w1.cell? ⟨B, 5, none⟩ = some (.int .u64 ox) := hS1.cell 0 rfl 5

    have hc := hc2 w1 v1 hS1
    clear hc2 hq1 hS0 hS1 hS1' a1 a2 a3 a4 a5
    go_wp2_with fail
    refine hc.mono ?_
    rintro e w2 ⟨rfl, u', HS⟩
    clear hc b2 b3 b4 b5
    go_wp2
    go_ret
    exact ⟨rfl, _, _, _, _, _, HS.out, HI.out, HK.out, rfl, HLN.out⟩
  have e8 : (kind == 8) = false := by simpa using k8
  clear k8
  have HS : Hid (St o (after its i b d p j r c q f m n y g s v u hs ws) W0) := by
    unfold after
    rw [set_back hi, set_back hb, set_back hd, set_back hp, set_back hj]
    exact hS0.pop
  have HI : Hid (s.within (k + 1)) := HW.out.more (Nat.le_succ _)
  have HK : Hid (HsOk hs (k + 1)) := HO.out.more (Nat.le_succ _)
  clear hS0
  go_wp2
  go_ret
  exact ⟨rfl, _, _, _, _, _, HS.out, HI.out, HK.out, rfl, rfl⟩

set_option maxRecDepth 100000 in
set_option maxHeartbeats 1000000 in
/-- A step that is none. -/
theorem does_begun {o w : World} {its : List It} (h : St o its w) (t y : Nat) (oo : Bool) (os og on ox : Int) :
    Calls Try.prog 14 #[.pointer (some ⟨t, 0, none⟩), .pointer (some ⟨y, 0, none⟩), .agg #[.bool oo, .int .i64 1, .int .i64 os, .int .i64 og, .int .i64 on, .int .u64 ox]] w fun e w' => e = .returned (.bool true) ∧ St o its w' := by
  have hS0 := h.box #[.bool oo, .int .i64 1, .int .i64 os, .int .i64 og, .int .i64 on, .int .u64 ox] 39
  clear h
  go_enter Try.func14, Try.ntmps14
  go_upto_region 1 with fail
  generalize w.alloc (.cells #[.bool oo, .int .i64 1, .int .i64 os, .int .i64 og, .int .i64 on, .int .u64 ox] 39) = W0 at *
  generalize w.heap.size = B at *
  have a1 : W0.cell? ⟨B, 1, none⟩ = some (.int .i64 1) := hS0.cell 0 rfl 1
  have HS : Hid (St o its W0) := hS0.pop
  clear hS0
  go_wp2
  go_ret
  exact ⟨rfl, HS.out⟩
end Go.Proofs.Ythaajlelaoimaaa

