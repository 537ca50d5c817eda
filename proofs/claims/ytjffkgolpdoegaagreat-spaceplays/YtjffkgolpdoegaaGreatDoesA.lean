/- Steps of SpacePlays over a space of the code and the document's: both answer the same, and stay the same. -/
import Derived.Test.YtjffkgolpdoegaaGreatRSpD
import Derived.Test.YtjffkgolpdoegaaGreatOps
import Derived.Deep.Cut
namespace Go.Proofs.YtjffkgolpdoegaaGreat
open Go.RowKit
set_option linter.unusedVariables false
set_option linter.unusedSimpArgs false
attribute [local go_sem ↓] Go.wp_at_zero Go.wp_at_succ

set_option maxRecDepth 100000 in
set_option maxHeartbeats 4000000 in
theorem does_turn {o w : World} {its : List It} {A : Ad} {B : Bd} {c : Cfg} {z : SSt} {v u p q : Value} (h : St o its w) (i j : Nat) (hij : i ≠ j) (hi : its[i]? = some (spI A c z v u)) (hj : its[j]? = some (rpI B c z p q)) {k : Nat} (ok : z.ok c k) (hk : k ≤ 977343669134) (oo : Bool) (oi on ox : Int) (la : Option Addr) (ll lc : Nat) (x : Ev) :
    Calls Tryz.prog 9 #[spp A, rpp B, .agg #[.bool oo, .int .i64 1, .int .i64 oi, .int .i64 on, .int .i64 ox, .slice la ll lc, .int .i64 x.kd, .int .i64 x.st, .int .i64 x.th, .int .i64 x.sp, .int .i64 x.ce, .int .i64 x.x, .bool x.ow, .int .i64 x.ga, .int .i64 x.er, .int .i64 x.by_]] w fun e w' => e = .returned (.bool true) ∧ ∃ z' v1 u1 v2 u2, St o ((its.set i (spI A c z' v1 u1)).set j (rpI B c z' v2 u2)) w' ∧ z'.ok c (k + 1) := by
  have hk2 : k ≤ 2932031007317 := by omega
  have h0 := h.box #[.bool oo, .int .i64 1, .int .i64 oi, .int .i64 on, .int .i64 ox, .slice la ll lc, .int .i64 x.kd, .int .i64 x.st, .int .i64 x.th, .int .i64 x.sp, .int .i64 x.ce, .int .i64 x.x, .bool x.ow, .int .i64 x.ga, .int .i64 x.er, .int .i64 x.by_] 41
  have HO : Hid ((z.turn oi).ok c (k + 1)) := ok.turn oi
  clear h
  unfold spp rpp
  go_enter Tryz.func9, Tryz.ntmps9
  go_upto_region 1 with fail
  generalize w.alloc (.cells #[.bool oo, .int .i64 1, .int .i64 oi, .int .i64 on, .int .i64 ox, .slice la ll lc, .int .i64 x.kd, .int .i64 x.st, .int .i64 x.th, .int .i64 x.sp, .int .i64 x.ce, .int .i64 x.x, .bool x.ow, .int .i64 x.ga, .int .i64 x.er, .int .i64 x.by_] 41) = W0 at *
  generalize w.heap.size = C at *
  have a1 : W0.cell? ⟨C, 1, none⟩ = some (.int .i64 1) := h0.cell 0 rfl 1
  have a2 : W0.cell? ⟨C, 2, none⟩ = some (.int .i64 oi) := h0.cell 0 rfl 2
  have hq : Calls Tryz.prog 23 #[.pointer (some ⟨A.sp, 0, none⟩), .int .i64 oi] W0 fun e w' => e = .returned (.tuple #[]) ∧ ∃ v1, (w'.cell? ⟨C, 2, none⟩ = some (.int .i64 oi)) ∧ St o (boxI C #[.bool oo, .int .i64 1, .int .i64 oi, .int .i64 on, .int .i64 ox, .slice la ll lc, .int .i64 x.kd, .int .i64 x.st, .int .i64 x.th, .int .i64 x.sp, .int .i64 x.ce, .int .i64 x.x, .bool x.ow, .int .i64 x.ga, .int .i64 x.er, .int .i64 x.by_] 41 :: its.set i (spI A c (z.turn oi) v1 u)) w' := by
    refine (spTurn h0 (i + 1) hi ok hk2 oi).mono ?_
    rintro e w' ⟨he, h'⟩
    have h'' : St o (boxI C #[.bool oo, .int .i64 1, .int .i64 oi, .int .i64 on, .int .i64 ox, .slice la ll lc, .int .i64 x.kd, .int .i64 x.st, .int .i64 x.th, .int .i64 x.sp, .int .i64 x.ce, .int .i64 x.x, .bool x.ow, .int .i64 x.ga, .int .i64 x.er, .int .i64 x.by_] 41 :: its.set i (spI A c (z.turn oi) v u)) w' := h'
    exact ⟨he, v, h''.cell 0 rfl 2, h''⟩
  have hr : ∀ W v1, St o (boxI C #[.bool oo, .int .i64 1, .int .i64 oi, .int .i64 on, .int .i64 ox, .slice la ll lc, .int .i64 x.kd, .int .i64 x.st, .int .i64 x.th, .int .i64 x.sp, .int .i64 x.ce, .int .i64 x.x, .bool x.ow, .int .i64 x.ga, .int .i64 x.er, .int .i64 x.by_] 41 :: its.set i (spI A c (z.turn oi) v1 u)) W → W.cell? ⟨B.sp, 6, none⟩ = some (.pointer (some ⟨B.m, 0, none⟩)) ∧ Calls Tryz.prog 35 #[.pointer (some ⟨B.m, 0, none⟩), .int .i64 oi] W.drew fun e w' => e = .returned (.tuple #[]) ∧ (w'.cell? ⟨C, 2, none⟩ = some (.int .i64 oi) ∧ w'.cell? ⟨B.sp, 6, none⟩ = some (.pointer (some ⟨B.m, 0, none⟩))) ∧ Hid (∃ v2, St o ((its.set i (spI A c (z.turn oi) v1 u)).set j (rpI B c (z.turn oi) v2 q)) w') := by
    intro W v1 hS
    refine ⟨rpCell hS (j + 1) (set_other hj hij) 6, (rpTurn hS.drew (j + 1) (set_other hj hij) ok hk2 oi).mono ?_⟩
    rintro e w' ⟨he, h2⟩
    have h3 : St o (boxI C #[.bool oo, .int .i64 1, .int .i64 oi, .int .i64 on, .int .i64 ox, .slice la ll lc, .int .i64 x.kd, .int .i64 x.st, .int .i64 x.th, .int .i64 x.sp, .int .i64 x.ce, .int .i64 x.x, .bool x.ow, .int .i64 x.ga, .int .i64 x.er, .int .i64 x.by_] 41 :: (its.set i (spI A c (z.turn oi) v1 u)).set j (rpI B c (z.turn oi) p q)) w' := h2
    exact ⟨he, ⟨h3.cell 0 rfl 2, rpCell h3 (j + 1) (set_self (set_other hj hij)) 6⟩, _, h3.pop⟩
  clear hij hi hj ok h0
  go_wp2_with fail
  refine hq.mono ?_
  rintro e w1 ⟨rfl, v1, cS, h1⟩
  have b2 := cS
  obtain ⟨bp, hr1⟩ := hr w1 v1 h1
  clear hq hr h1 a2 
  go_upto_region 4 with fail
  go_region_held3 (fun W => W.cell? ⟨C, 2, none⟩ = some (.int .i64 oi) ∧ W.cell? ⟨B.sp, 6, none⟩ = some (.pointer (some ⟨B.m, 0, none⟩))) (first | go_keep | exact rS)
    (first | (go_at_call 35; refine hr1.mono ?_; rintro e w2 ⟨rfl, rS, HS⟩))
  clear hr1 rS bp b2
  go_wp2
  obtain ⟨v2, HT⟩ := HS.out
  go_ret
  exact ⟨rfl, _, _, _, _, _, HT, HO.out⟩

set_option maxRecDepth 100000 in
set_option maxHeartbeats 4000000 in
theorem does_load {o w : World} {its : List It} {A : Ad} {B : Bd} {c : Cfg} {z : SSt} {v u p q : Value} (h : St o its w) (i j : Nat) (hij : i ≠ j) (hi : its[i]? = some (spI A c z v u)) (hj : its[j]? = some (rpI B c z p q)) {k : Nat} (ok : z.ok c k) (hk : k ≤ 977343669134) (oo : Bool) (oi on ox : Int) (la : Option Addr) (ll lc : Nat) (x : Ev) :
    Calls Tryz.prog 9 #[spp A, rpp B, .agg #[.bool oo, .int .i64 2, .int .i64 oi, .int .i64 on, .int .i64 ox, .slice la ll lc, .int .i64 x.kd, .int .i64 x.st, .int .i64 x.th, .int .i64 x.sp, .int .i64 x.ce, .int .i64 x.x, .bool x.ow, .int .i64 x.ga, .int .i64 x.er, .int .i64 x.by_]] w fun e w' => e = .returned (.bool true) ∧ ∃ z' v1 u1 v2 u2, St o ((its.set i (spI A c z' v1 u1)).set j (rpI B c z' v2 u2)) w' ∧ z'.ok c (k + 1) := by
  have hk2 : k ≤ 2932031007317 := by omega
  have h0 := h.box #[.bool oo, .int .i64 2, .int .i64 oi, .int .i64 on, .int .i64 ox, .slice la ll lc, .int .i64 x.kd, .int .i64 x.st, .int .i64 x.th, .int .i64 x.sp, .int .i64 x.ce, .int .i64 x.x, .bool x.ow, .int .i64 x.ga, .int .i64 x.er, .int .i64 x.by_] 41
  have HO : Hid ((z.load oi).ok c (k + 1)) := ok.load oi
  clear h
  unfold spp rpp
  go_enter Tryz.func9, Tryz.ntmps9
  go_upto_region 1 with fail
  generalize w.alloc (.cells #[.bool oo, .int .i64 2, .int .i64 oi, .int .i64 on, .int .i64 ox, .slice la ll lc, .int .i64 x.kd, .int .i64 x.st, .int .i64 x.th, .int .i64 x.sp, .int .i64 x.ce, .int .i64 x.x, .bool x.ow, .int .i64 x.ga, .int .i64 x.er, .int .i64 x.by_] 41) = W0 at *
  generalize w.heap.size = C at *
  have a1 : W0.cell? ⟨C, 1, none⟩ = some (.int .i64 2) := h0.cell 0 rfl 1
  have a2 : W0.cell? ⟨C, 2, none⟩ = some (.int .i64 oi) := h0.cell 0 rfl 2
  have hq : Calls Tryz.prog 24 #[.pointer (some ⟨A.sp, 0, none⟩), .int .i64 oi] W0 fun e w' => e = .returned (.tuple #[.int .i64 (loadR z.xs oi), .int .i64 (loadE z.xs oi)]) ∧ ∃ v1, (w'.cell? ⟨C, 2, none⟩ = some (.int .i64 oi)) ∧ St o (boxI C #[.bool oo, .int .i64 2, .int .i64 oi, .int .i64 on, .int .i64 ox, .slice la ll lc, .int .i64 x.kd, .int .i64 x.st, .int .i64 x.th, .int .i64 x.sp, .int .i64 x.ce, .int .i64 x.x, .bool x.ow, .int .i64 x.ga, .int .i64 x.er, .int .i64 x.by_] 41 :: its.set i (spI A c (z.load oi) v1 u)) w' := by
    refine (spLoad h0 (i + 1) hi ok hk2 oi).mono ?_
    rintro e w' ⟨he, v1, h'⟩
    have h'' : St o (boxI C #[.bool oo, .int .i64 2, .int .i64 oi, .int .i64 on, .int .i64 ox, .slice la ll lc, .int .i64 x.kd, .int .i64 x.st, .int .i64 x.th, .int .i64 x.sp, .int .i64 x.ce, .int .i64 x.x, .bool x.ow, .int .i64 x.ga, .int .i64 x.er, .int .i64 x.by_] 41 :: its.set i (spI A c (z.load oi) v1 u)) w' := h'
    exact ⟨he, v1, h''.cell 0 rfl 2, h''⟩
  have hr : ∀ W v1, St o (boxI C #[.bool oo, .int .i64 2, .int .i64 oi, .int .i64 on, .int .i64 ox, .slice la ll lc, .int .i64 x.kd, .int .i64 x.st, .int .i64 x.th, .int .i64 x.sp, .int .i64 x.ce, .int .i64 x.x, .bool x.ow, .int .i64 x.ga, .int .i64 x.er, .int .i64 x.by_] 41 :: its.set i (spI A c (z.load oi) v1 u)) W → W.cell? ⟨B.sp, 7, none⟩ = some (.pointer (some ⟨B.r, 0, none⟩)) ∧ Calls Tryz.prog 36 #[.pointer (some ⟨B.r, 0, none⟩), .int .i64 oi] W.drew fun e w' => e = .returned (.tuple #[.int .i64 (loadR z.xs oi), .int .i64 (loadE z.xs oi)]) ∧ (w'.cell? ⟨C, 2, none⟩ = some (.int .i64 oi) ∧ w'.cell? ⟨B.sp, 7, none⟩ = some (.pointer (some ⟨B.r, 0, none⟩))) ∧ Hid (∃ v2, St o ((its.set i (spI A c (z.load oi) v1 u)).set j (rpI B c (z.load oi) v2 q)) w') := by
    intro W v1 hS
    refine ⟨rpCell hS (j + 1) (set_other hj hij) 7, (rpLoad hS.drew (j + 1) (set_other hj hij) ok hk2 oi).mono ?_⟩
    rintro e w' ⟨he, v2, h2⟩
    have h3 : St o (boxI C #[.bool oo, .int .i64 2, .int .i64 oi, .int .i64 on, .int .i64 ox, .slice la ll lc, .int .i64 x.kd, .int .i64 x.st, .int .i64 x.th, .int .i64 x.sp, .int .i64 x.ce, .int .i64 x.x, .bool x.ow, .int .i64 x.ga, .int .i64 x.er, .int .i64 x.by_] 41 :: (its.set i (spI A c (z.load oi) v1 u)).set j (rpI B c (z.load oi) v2 q)) w' := h2
    exact ⟨he, ⟨h3.cell 0 rfl 2, rpCell h3 (j + 1) (set_self (set_other hj hij)) 7⟩, _, h3.pop⟩
  generalize loadR z.xs oi = R0 at *
  have t0 : (R0 == R0) = true := by simp
  generalize loadE z.xs oi = R1 at *
  have t1 : (R1 == R1) = true := by simp
  clear hij hi hj ok h0
  go_wp2_with fail
  refine hq.mono ?_
  rintro e w1 ⟨rfl, v1, cS, h1⟩
  have b2 := cS
  obtain ⟨bp, hr1⟩ := hr w1 v1 h1
  clear hq hr h1 a2 
  go_upto_region 7 with fail
  go_region_held3 (fun W => W.cell? ⟨C, 2, none⟩ = some (.int .i64 oi) ∧ W.cell? ⟨B.sp, 7, none⟩ = some (.pointer (some ⟨B.r, 0, none⟩))) (first | go_keep | exact rS)
    (first | (go_at_call 36; refine hr1.mono ?_; rintro e w2 ⟨rfl, rS, HS⟩))
  clear hr1 rS bp b2
  go_wp2
  obtain ⟨v2, HT⟩ := HS.out
  go_ret
  exact ⟨rfl, _, _, _, _, _, HT, HO.out⟩

set_option maxRecDepth 100000 in
set_option maxHeartbeats 4000000 in
theorem does_store {o w : World} {its : List It} {A : Ad} {B : Bd} {c : Cfg} {z : SSt} {v u p q : Value} (h : St o its w) (i j : Nat) (hij : i ≠ j) (hi : its[i]? = some (spI A c z v u)) (hj : its[j]? = some (rpI B c z p q)) {k : Nat} (ok : z.ok c k) (hk : k ≤ 977343669134) (oo : Bool) (oi on ox : Int) (la : Option Addr) (ll lc : Nat) (x : Ev) :
    Calls Tryz.prog 9 #[spp A, rpp B, .agg #[.bool oo, .int .i64 3, .int .i64 oi, .int .i64 on, .int .i64 ox, .slice la ll lc, .int .i64 x.kd, .int .i64 x.st, .int .i64 x.th, .int .i64 x.sp, .int .i64 x.ce, .int .i64 x.x, .bool x.ow, .int .i64 x.ga, .int .i64 x.er, .int .i64 x.by_]] w fun e w' => e = .returned (.bool true) ∧ ∃ z' v1 u1 v2 u2, St o ((its.set i (spI A c z' v1 u1)).set j (rpI B c z' v2 u2)) w' ∧ z'.ok c (k + 1) := by
  have hk2 : k ≤ 2932031007317 := by omega
  have h0 := h.box #[.bool oo, .int .i64 3, .int .i64 oi, .int .i64 on, .int .i64 ox, .slice la ll lc, .int .i64 x.kd, .int .i64 x.st, .int .i64 x.th, .int .i64 x.sp, .int .i64 x.ce, .int .i64 x.x, .bool x.ow, .int .i64 x.ga, .int .i64 x.er, .int .i64 x.by_] 41
  have HO : Hid ((z.store oi ox).ok c (k + 1)) := ok.store oi ox
  clear h
  unfold spp rpp
  go_enter Tryz.func9, Tryz.ntmps9
  go_upto_region 1 with fail
  generalize w.alloc (.cells #[.bool oo, .int .i64 3, .int .i64 oi, .int .i64 on, .int .i64 ox, .slice la ll lc, .int .i64 x.kd, .int .i64 x.st, .int .i64 x.th, .int .i64 x.sp, .int .i64 x.ce, .int .i64 x.x, .bool x.ow, .int .i64 x.ga, .int .i64 x.er, .int .i64 x.by_] 41) = W0 at *
  generalize w.heap.size = C at *
  have a1 : W0.cell? ⟨C, 1, none⟩ = some (.int .i64 3) := h0.cell 0 rfl 1
  have a2 : W0.cell? ⟨C, 2, none⟩ = some (.int .i64 oi) := h0.cell 0 rfl 2
  have a4 : W0.cell? ⟨C, 4, none⟩ = some (.int .i64 ox) := h0.cell 0 rfl 4
  have hq : Calls Tryz.prog 37 #[.pointer (some ⟨A.sp, 0, none⟩), .int .i64 oi, .int .i64 ox] W0 fun e w' => e = .returned (.int .i64 (loadE z.xs oi)) ∧ ∃ v1, (w'.cell? ⟨C, 2, none⟩ = some (.int .i64 oi) ∧ w'.cell? ⟨C, 4, none⟩ = some (.int .i64 ox)) ∧ St o (boxI C #[.bool oo, .int .i64 3, .int .i64 oi, .int .i64 on, .int .i64 ox, .slice la ll lc, .int .i64 x.kd, .int .i64 x.st, .int .i64 x.th, .int .i64 x.sp, .int .i64 x.ce, .int .i64 x.x, .bool x.ow, .int .i64 x.ga, .int .i64 x.er, .int .i64 x.by_] 41 :: its.set i (spI A c (z.store oi ox) v1 u)) w' := by
    refine (spStore h0 (i + 1) hi ok hk2 oi ox).mono ?_
    rintro e w' ⟨he, v1, h'⟩
    have h'' : St o (boxI C #[.bool oo, .int .i64 3, .int .i64 oi, .int .i64 on, .int .i64 ox, .slice la ll lc, .int .i64 x.kd, .int .i64 x.st, .int .i64 x.th, .int .i64 x.sp, .int .i64 x.ce, .int .i64 x.x, .bool x.ow, .int .i64 x.ga, .int .i64 x.er, .int .i64 x.by_] 41 :: its.set i (spI A c (z.store oi ox) v1 u)) w' := h'
    exact ⟨he, v1, ⟨h''.cell 0 rfl 2, h''.cell 0 rfl 4⟩, h''⟩
  have hr : ∀ W v1, St o (boxI C #[.bool oo, .int .i64 3, .int .i64 oi, .int .i64 on, .int .i64 ox, .slice la ll lc, .int .i64 x.kd, .int .i64 x.st, .int .i64 x.th, .int .i64 x.sp, .int .i64 x.ce, .int .i64 x.x, .bool x.ow, .int .i64 x.ga, .int .i64 x.er, .int .i64 x.by_] 41 :: its.set i (spI A c (z.store oi ox) v1 u)) W → W.cell? ⟨B.sp, 7, none⟩ = some (.pointer (some ⟨B.r, 0, none⟩)) ∧ Calls Tryz.prog 38 #[.pointer (some ⟨B.r, 0, none⟩), .int .i64 oi, .int .i64 ox] W.drew fun e w' => e = .returned (.int .i64 (loadE z.xs oi)) ∧ (w'.cell? ⟨C, 2, none⟩ = some (.int .i64 oi) ∧ w'.cell? ⟨C, 4, none⟩ = some (.int .i64 ox) ∧ w'.cell? ⟨B.sp, 7, none⟩ = some (.pointer (some ⟨B.r, 0, none⟩))) ∧ Hid (∃ v2, St o ((its.set i (spI A c (z.store oi ox) v1 u)).set j (rpI B c (z.store oi ox) v2 q)) w') := by
    intro W v1 hS
    refine ⟨rpCell hS (j + 1) (set_other hj hij) 7, (rpStore hS.drew (j + 1) (set_other hj hij) ok hk2 oi ox).mono ?_⟩
    rintro e w' ⟨he, v2, h2⟩
    have h3 : St o (boxI C #[.bool oo, .int .i64 3, .int .i64 oi, .int .i64 on, .int .i64 ox, .slice la ll lc, .int .i64 x.kd, .int .i64 x.st, .int .i64 x.th, .int .i64 x.sp, .int .i64 x.ce, .int .i64 x.x, .bool x.ow, .int .i64 x.ga, .int .i64 x.er, .int .i64 x.by_] 41 :: (its.set i (spI A c (z.store oi ox) v1 u)).set j (rpI B c (z.store oi ox) v2 q)) w' := h2
    exact ⟨he, ⟨h3.cell 0 rfl 2, h3.cell 0 rfl 4, rpCell h3 (j + 1) (set_self (set_other hj hij)) 7⟩, _, h3.pop⟩
  generalize loadE z.xs oi = R0 at *
  have t0 : (R0 == R0) = true := by simp
  clear hij hi hj ok h0
  go_wp2_with fail
  refine hq.mono ?_
  rintro e w1 ⟨rfl, v1, cS, h1⟩
  obtain ⟨b2, b4⟩ := cS
  obtain ⟨bp, hr1⟩ := hr w1 v1 h1
  clear hq hr h1 a2 a4 
  go_upto_region 11 with fail
  go_region_held3 (fun W => W.cell? ⟨C, 2, none⟩ = some (.int .i64 oi) ∧ W.cell? ⟨C, 4, none⟩ = some (.int .i64 ox) ∧ W.cell? ⟨B.sp, 7, none⟩ = some (.pointer (some ⟨B.r, 0, none⟩))) (first | go_keep | exact rS)
    (first | (go_at_call 38; refine hr1.mono ?_; rintro e w2 ⟨rfl, rS, HS⟩))
  clear hr1 rS bp b2 b4
  go_wp2
  obtain ⟨v2, HT⟩ := HS.out
  go_ret
  exact ⟨rfl, _, _, _, _, _, HT, HO.out⟩

set_option maxRecDepth 100000 in
set_option maxHeartbeats 4000000 in
theorem does_take {o w : World} {its : List It} {A : Ad} {B : Bd} {c : Cfg} {z : SSt} {v u p q : Value} (h : St o its w) (i j : Nat) (hij : i ≠ j) (hi : its[i]? = some (spI A c z v u)) (hj : its[j]? = some (rpI B c z p q)) {k : Nat} (ok : z.ok c k) (hk : k ≤ 977343669134) (oo : Bool) (oi on ox : Int) (la : Option Addr) (ll lc : Nat) (x : Ev) :
    Calls Tryz.prog 9 #[spp A, rpp B, .agg #[.bool oo, .int .i64 5, .int .i64 oi, .int .i64 on, .int .i64 ox, .slice la ll lc, .int .i64 x.kd, .int .i64 x.st, .int .i64 x.th, .int .i64 x.sp, .int .i64 x.ce, .int .i64 x.x, .bool x.ow, .int .i64 x.ga, .int .i64 x.er, .int .i64 x.by_]] w fun e w' => e = .returned (.bool true) ∧ ∃ z' v1 u1 v2 u2, St o ((its.set i (spI A c z' v1 u1)).set j (rpI B c z' v2 u2)) w' ∧ z'.ok c (k + 1) := by
  have hk2 : k ≤ 2932031007317 := by omega
  have h0 := h.box #[.bool oo, .int .i64 5, .int .i64 oi, .int .i64 on, .int .i64 ox, .slice la ll lc, .int .i64 x.kd, .int .i64 x.st, .int .i64 x.th, .int .i64 x.sp, .int .i64 x.ce, .int .i64 x.x, .bool x.ow, .int .i64 x.ga, .int .i64 x.er, .int .i64 x.by_] 41
  have HO : Hid ((z.take oi).ok c (k + 1)) := ok.take oi
  clear h
  unfold spp rpp
  go_enter Tryz.func9, Tryz.ntmps9
  go_upto_region 1 with fail
  generalize w.alloc (.cells #[.bool oo, .int .i64 5, .int .i64 oi, .int .i64 on, .int .i64 ox, .slice la ll lc, .int .i64 x.kd, .int .i64 x.st, .int .i64 x.th, .int .i64 x.sp, .int .i64 x.ce, .int .i64 x.x, .bool x.ow, .int .i64 x.ga, .int .i64 x.er, .int .i64 x.by_] 41) = W0 at *
  generalize w.heap.size = C at *
  have a1 : W0.cell? ⟨C, 1, none⟩ = some (.int .i64 5) := h0.cell 0 rfl 1
  have a2 : W0.cell? ⟨C, 2, none⟩ = some (.int .i64 oi) := h0.cell 0 rfl 2
  have hq : Calls Tryz.prog 25 #[.pointer (some ⟨A.g, 0, none⟩), .int .i64 oi] W0.drew fun e w' => e = .returned (.tuple #[.int .i64 (takeR z.x oi), .int .i64 (takeE z.x oi)]) ∧ ∃ v1, (w'.cell? ⟨C, 2, none⟩ = some (.int .i64 oi)) ∧ St o (boxI C #[.bool oo, .int .i64 5, .int .i64 oi, .int .i64 on, .int .i64 ox, .slice la ll lc, .int .i64 x.kd, .int .i64 x.st, .int .i64 x.th, .int .i64 x.sp, .int .i64 x.ce, .int .i64 x.x, .bool x.ow, .int .i64 x.ga, .int .i64 x.er, .int .i64 x.by_] 41 :: its.set i (spI A c (z.take oi) v1 u)) w' := by
    refine (spTake h0.drew (i + 1) hi ok hk2 oi).mono ?_
    rintro e w' ⟨he, v1, h'⟩
    have h'' : St o (boxI C #[.bool oo, .int .i64 5, .int .i64 oi, .int .i64 on, .int .i64 ox, .slice la ll lc, .int .i64 x.kd, .int .i64 x.st, .int .i64 x.th, .int .i64 x.sp, .int .i64 x.ce, .int .i64 x.x, .bool x.ow, .int .i64 x.ga, .int .i64 x.er, .int .i64 x.by_] 41 :: its.set i (spI A c (z.take oi) v1 u)) w' := h'
    exact ⟨he, v1, h''.cell 0 rfl 2, h''⟩
  have hg : Calls Tryz.prog 7 #[.pointer (some ⟨A.sp, 0, none⟩)] W0.drew fun e w' => e = .returned (.pointer (some ⟨A.g, 0, none⟩)) ∧ w' = W0.drew := spGate h0.drew (i + 1) hi
  have hr : ∀ W v1, St o (boxI C #[.bool oo, .int .i64 5, .int .i64 oi, .int .i64 on, .int .i64 ox, .slice la ll lc, .int .i64 x.kd, .int .i64 x.st, .int .i64 x.th, .int .i64 x.sp, .int .i64 x.ce, .int .i64 x.x, .bool x.ow, .int .i64 x.ga, .int .i64 x.er, .int .i64 x.by_] 41 :: its.set i (spI A c (z.take oi) v1 u)) W → W.cell? ⟨B.sp, 8, none⟩ = some (.pointer (some ⟨B.g, 0, none⟩)) ∧ Calls Tryz.prog 40 #[.pointer (some ⟨B.g, 0, none⟩), .int .i64 oi] W.drew fun e w' => e = .returned (.tuple #[.int .i64 (takeR z.x oi), .int .i64 (takeE z.x oi)]) ∧ (w'.cell? ⟨C, 2, none⟩ = some (.int .i64 oi) ∧ w'.cell? ⟨B.sp, 8, none⟩ = some (.pointer (some ⟨B.g, 0, none⟩))) ∧ Hid (∃ v2, St o ((its.set i (spI A c (z.take oi) v1 u)).set j (rpI B c (z.take oi) v2 q)) w') := by
    intro W v1 hS
    refine ⟨rpCell hS (j + 1) (set_other hj hij) 8, (rpTake hS.drew (j + 1) (set_other hj hij) ok hk2 oi).mono ?_⟩
    rintro e w' ⟨he, v2, h2⟩
    have h3 : St o (boxI C #[.bool oo, .int .i64 5, .int .i64 oi, .int .i64 on, .int .i64 ox, .slice la ll lc, .int .i64 x.kd, .int .i64 x.st, .int .i64 x.th, .int .i64 x.sp, .int .i64 x.ce, .int .i64 x.x, .bool x.ow, .int .i64 x.ga, .int .i64 x.er, .int .i64 x.by_] 41 :: (its.set i (spI A c (z.take oi) v1 u)).set j (rpI B c (z.take oi) v2 q)) w' := h2
    exact ⟨he, ⟨h3.cell 0 rfl 2, rpCell h3 (j + 1) (set_self (set_other hj hij)) 8⟩, _, h3.pop⟩
  generalize takeR z.x oi = R0 at *
  have t0 : (R0 == R0) = true := by simp
  generalize takeE z.x oi = R1 at *
  have t1 : (R1 == R1) = true := by simp
  clear hij hi hj ok h0
  go_upto_region 23 with fail
  go_region_held3 (fun W => W.cell? ⟨C, 2, none⟩ = some (.int .i64 oi)) (first | go_keep | exact cS)
    (first | (go_at_call 7; refine hg.mono ?_; rintro e wg ⟨rfl, rfl⟩) | (go_at_call 25; refine hq.mono ?_; rintro e w1 ⟨rfl, v1, cS, h1⟩))
  have b2 := cS
  obtain ⟨bp, hr1⟩ := hr w1 v1 h1
  clear hq hr h1 a2 hg
  go_upto_region 24 with fail
  go_region_held3 (fun W => W.cell? ⟨C, 2, none⟩ = some (.int .i64 oi) ∧ W.cell? ⟨B.sp, 8, none⟩ = some (.pointer (some ⟨B.g, 0, none⟩))) (first | go_keep | exact rS)
    (first | (go_at_call 40; refine hr1.mono ?_; rintro e w2 ⟨rfl, rS, HS⟩))
  clear hr1 rS bp b2
  go_wp2
  obtain ⟨v2, HT⟩ := HS.out
  go_ret
  exact ⟨rfl, _, _, _, _, _, HT, HO.out⟩

set_option maxRecDepth 100000 in
set_option maxHeartbeats 4000000 in
theorem does_give {o w : World} {its : List It} {A : Ad} {B : Bd} {c : Cfg} {z : SSt} {v u p q : Value} (h : St o its w) (i j : Nat) (hij : i ≠ j) (hi : its[i]? = some (spI A c z v u)) (hj : its[j]? = some (rpI B c z p q)) {k : Nat} (ok : z.ok c k) (hk : k ≤ 977343669134) (oo : Bool) (oi on ox : Int) (la : Option Addr) (ll lc : Nat) (x : Ev) :
    Calls Tryz.prog 9 #[spp A, rpp B, .agg #[.bool oo, .int .i64 6, .int .i64 oi, .int .i64 on, .int .i64 ox, .slice la ll lc, .int .i64 x.kd, .int .i64 x.st, .int .i64 x.th, .int .i64 x.sp, .int .i64 x.ce, .int .i64 x.x, .bool x.ow, .int .i64 x.ga, .int .i64 x.er, .int .i64 x.by_]] w fun e w' => e = .returned (.bool true) ∧ ∃ z' v1 u1 v2 u2, St o ((its.set i (spI A c z' v1 u1)).set j (rpI B c z' v2 u2)) w' ∧ z'.ok c (k + 1) := by
  have hk2 : k ≤ 2932031007317 := by omega
  have h0 := h.box #[.bool oo, .int .i64 6, .int .i64 oi, .int .i64 on, .int .i64 ox, .slice la ll lc, .int .i64 x.kd, .int .i64 x.st, .int .i64 x.th, .int .i64 x.sp, .int .i64 x.ce, .int .i64 x.x, .bool x.ow, .int .i64 x.ga, .int .i64 x.er, .int .i64 x.by_] 41
  have HO : Hid ((z.give oi).ok c (k + 1)) := ok.give oi
  clear h
  unfold spp rpp
  go_enter Tryz.func9, Tryz.ntmps9
  go_upto_region 1 with fail
  generalize w.alloc (.cells #[.bool oo, .int .i64 6, .int .i64 oi, .int .i64 on, .int .i64 ox, .slice la ll lc, .int .i64 x.kd, .int .i64 x.st, .int .i64 x.th, .int .i64 x.sp, .int .i64 x.ce, .int .i64 x.x, .bool x.ow, .int .i64 x.ga, .int .i64 x.er, .int .i64 x.by_] 41) = W0 at *
  generalize w.heap.size = C at *
  have a1 : W0.cell? ⟨C, 1, none⟩ = some (.int .i64 6) := h0.cell 0 rfl 1
  have a2 : W0.cell? ⟨C, 2, none⟩ = some (.int .i64 oi) := h0.cell 0 rfl 2
  have hq : Calls Tryz.prog 41 #[.pointer (some ⟨A.g, 0, none⟩), .int .i64 oi] W0.drew fun e w' => e = .returned (.int .i64 (giveE z.x oi)) ∧ ∃ v1, (w'.cell? ⟨C, 2, none⟩ = some (.int .i64 oi)) ∧ St o (boxI C #[.bool oo, .int .i64 6, .int .i64 oi, .int .i64 on, .int .i64 ox, .slice la ll lc, .int .i64 x.kd, .int .i64 x.st, .int .i64 x.th, .int .i64 x.sp, .int .i64 x.ce, .int .i64 x.x, .bool x.ow, .int .i64 x.ga, .int .i64 x.er, .int .i64 x.by_] 41 :: its.set i (spI A c (z.give oi) v1 u)) w' := by
    refine (spGive h0.drew (i + 1) hi ok hk2 oi).mono ?_
    rintro e w' ⟨he, v1, h'⟩
    have h'' : St o (boxI C #[.bool oo, .int .i64 6, .int .i64 oi, .int .i64 on, .int .i64 ox, .slice la ll lc, .int .i64 x.kd, .int .i64 x.st, .int .i64 x.th, .int .i64 x.sp, .int .i64 x.ce, .int .i64 x.x, .bool x.ow, .int .i64 x.ga, .int .i64 x.er, .int .i64 x.by_] 41 :: its.set i (spI A c (z.give oi) v1 u)) w' := h'
    exact ⟨he, v1, h''.cell 0 rfl 2, h''⟩
  have hg : Calls Tryz.prog 7 #[.pointer (some ⟨A.sp, 0, none⟩)] W0.drew fun e w' => e = .returned (.pointer (some ⟨A.g, 0, none⟩)) ∧ w' = W0.drew := spGate h0.drew (i + 1) hi
  have hr : ∀ W v1, St o (boxI C #[.bool oo, .int .i64 6, .int .i64 oi, .int .i64 on, .int .i64 ox, .slice la ll lc, .int .i64 x.kd, .int .i64 x.st, .int .i64 x.th, .int .i64 x.sp, .int .i64 x.ce, .int .i64 x.x, .bool x.ow, .int .i64 x.ga, .int .i64 x.er, .int .i64 x.by_] 41 :: its.set i (spI A c (z.give oi) v1 u)) W → W.cell? ⟨B.sp, 8, none⟩ = some (.pointer (some ⟨B.g, 0, none⟩)) ∧ Calls Tryz.prog 42 #[.pointer (some ⟨B.g, 0, none⟩), .int .i64 oi] W.drew fun e w' => e = .returned (.int .i64 (giveE z.x oi)) ∧ (w'.cell? ⟨C, 2, none⟩ = some (.int .i64 oi) ∧ w'.cell? ⟨B.sp, 8, none⟩ = some (.pointer (some ⟨B.g, 0, none⟩))) ∧ Hid (∃ v2, St o ((its.set i (spI A c (z.give oi) v1 u)).set j (rpI B c (z.give oi) v2 q)) w') := by
    intro W v1 hS
    refine ⟨rpCell hS (j + 1) (set_other hj hij) 8, (rpGive hS.drew (j + 1) (set_other hj hij) ok hk2 oi).mono ?_⟩
    rintro e w' ⟨he, v2, h2⟩
    have h3 : St o (boxI C #[.bool oo, .int .i64 6, .int .i64 oi, .int .i64 on, .int .i64 ox, .slice la ll lc, .int .i64 x.kd, .int .i64 x.st, .int .i64 x.th, .int .i64 x.sp, .int .i64 x.ce, .int .i64 x.x, .bool x.ow, .int .i64 x.ga, .int .i64 x.er, .int .i64 x.by_] 41 :: (its.set i (spI A c (z.give oi) v1 u)).set j (rpI B c (z.give oi) v2 q)) w' := h2
    exact ⟨he, ⟨h3.cell 0 rfl 2, rpCell h3 (j + 1) (set_self (set_other hj hij)) 8⟩, _, h3.pop⟩
  generalize giveE z.x oi = R0 at *
  have t0 : (R0 == R0) = true := by simp
  clear hij hi hj ok h0
  go_upto_region 27 with fail
  go_region_held3 (fun W => W.cell? ⟨C, 2, none⟩ = some (.int .i64 oi)) (first | go_keep | exact cS)
    (first | (go_at_call 7; refine hg.mono ?_; rintro e wg ⟨rfl, rfl⟩) | (go_at_call 41; refine hq.mono ?_; rintro e w1 ⟨rfl, v1, cS, h1⟩))
  have b2 := cS
  obtain ⟨bp, hr1⟩ := hr w1 v1 h1
  clear hq hr h1 a2 hg
  go_upto_region 28 with fail
  go_region_held3 (fun W => W.cell? ⟨C, 2, none⟩ = some (.int .i64 oi) ∧ W.cell? ⟨B.sp, 8, none⟩ = some (.pointer (some ⟨B.g, 0, none⟩))) (first | go_keep | exact rS)
    (first | (go_at_call 42; refine hr1.mono ?_; rintro e w2 ⟨rfl, rS, HS⟩))
  clear hr1 rS bp b2
  go_wp2
  obtain ⟨v2, HT⟩ := HS.out
  go_ret
  exact ⟨rfl, _, _, _, _, _, HT, HO.out⟩
end Go.Proofs.YtjffkgolpdoegaaGreat
