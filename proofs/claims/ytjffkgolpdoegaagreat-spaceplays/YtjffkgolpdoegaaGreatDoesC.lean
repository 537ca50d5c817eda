/- Steps of SpacePlays over a space of the code and the document's: both answer the same, and stay the same. -/
import Derived.Test.YtjffkgolpdoegaaGreatRSpD
import Derived.Test.YtjffkgolpdoegaaGreatOps
import Derived.Deep.Cut
namespace Go.Proofs.YtjffkgolpdoegaaGreat
open Go.RowKit
set_option linter.unusedVariables false
set_option linter.unusedSimpArgs false
attribute [local go_sem ↓] Go.wp_at_zero Go.wp_at_succ

set_option maxRecDepth 100000 in
set_option maxHeartbeats 4000000 in
theorem does_free {o w : World} {its : List It} {A : Ad} {B : Bd} {c : Cfg} {z : SSt} {v u p q : Value} (h : St o its w) (i j : Nat) (hij : i ≠ j) (hi : its[i]? = some (spI A c z v u)) (hj : its[j]? = some (rpI B c z p q)) {k : Nat} (ok : z.ok c k) (hk : k ≤ 977343669134) (oo : Bool) (oi on ox : Int) (la : Option Addr) (ll lc : Nat) (x : Ev) :
    Calls Tryz.prog 9 #[spp A, rpp B, .agg #[.bool oo, .int .i64 10, .int .i64 oi, .int .i64 on, .int .i64 ox, .slice la ll lc, .int .i64 x.kd, .int .i64 x.st, .int .i64 x.th, .int .i64 x.sp, .int .i64 x.ce, .int .i64 x.x, .bool x.ow, .int .i64 x.ga, .int .i64 x.er, .int .i64 x.by_]] w fun e w' => e = .returned (.bool true) ∧ ∃ z' v1 u1 v2 u2, St o ((its.set i (spI A c z' v1 u1)).set j (rpI B c z' v2 u2)) w' ∧ z'.ok c (k + 1) := by
  have hk2 : k ≤ 2932031007317 := by omega
  have h0 := h.box #[.bool oo, .int .i64 10, .int .i64 oi, .int .i64 on, .int .i64 ox, .slice la ll lc, .int .i64 x.kd, .int .i64 x.st, .int .i64 x.th, .int .i64 x.sp, .int .i64 x.ce, .int .i64 x.x, .bool x.ow, .int .i64 x.ga, .int .i64 x.er, .int .i64 x.by_] 41
  have HO : Hid ((z.op (freeOp on) oi).ok c (k + 1)) := ok.op (freeOp on) oi (free_keeps ok.hd on oi)
  clear h
  unfold spp rpp
  go_enter Tryz.func9, Tryz.ntmps9
  go_upto_region 1 with fail
  generalize w.alloc (.cells #[.bool oo, .int .i64 10, .int .i64 oi, .int .i64 on, .int .i64 ox, .slice la ll lc, .int .i64 x.kd, .int .i64 x.st, .int .i64 x.th, .int .i64 x.sp, .int .i64 x.ce, .int .i64 x.x, .bool x.ow, .int .i64 x.ga, .int .i64 x.er, .int .i64 x.by_] 41) = W0 at *
  generalize w.heap.size = C at *
  have a1 : W0.cell? ⟨C, 1, none⟩ = some (.int .i64 10) := h0.cell 0 rfl 1
  have a2 : W0.cell? ⟨C, 2, none⟩ = some (.int .i64 oi) := h0.cell 0 rfl 2
  have a3 : W0.cell? ⟨C, 3, none⟩ = some (.int .i64 on) := h0.cell 0 rfl 3
  have hq : Calls Tryz.prog 49 #[.pointer (some ⟨A.t, 0, none⟩), .int .i64 oi, .int .i64 on] W0.drew fun e w' => e = .returned (.int .i64 ((freeOp on).E z.hs oi)) ∧ ∃ v1, (w'.cell? ⟨C, 2, none⟩ = some (.int .i64 oi) ∧ w'.cell? ⟨C, 3, none⟩ = some (.int .i64 on)) ∧ St o (boxI C #[.bool oo, .int .i64 10, .int .i64 oi, .int .i64 on, .int .i64 ox, .slice la ll lc, .int .i64 x.kd, .int .i64 x.st, .int .i64 x.th, .int .i64 x.sp, .int .i64 x.ce, .int .i64 x.x, .bool x.ow, .int .i64 x.ga, .int .i64 x.er, .int .i64 x.by_] 41 :: its.set i (spI A c (z.op (freeOp on) oi) v1 u)) w' := by
    refine (spFree h0.drew (i + 1) hi ok hk2 oi on).mono ?_
    rintro e w' ⟨he, v1, h'⟩
    have h'' : St o (boxI C #[.bool oo, .int .i64 10, .int .i64 oi, .int .i64 on, .int .i64 ox, .slice la ll lc, .int .i64 x.kd, .int .i64 x.st, .int .i64 x.th, .int .i64 x.sp, .int .i64 x.ce, .int .i64 x.x, .bool x.ow, .int .i64 x.ga, .int .i64 x.er, .int .i64 x.by_] 41 :: its.set i (spI A c (z.op (freeOp on) oi) v1 u)) w' := h'
    exact ⟨he, v1, ⟨h''.cell 0 rfl 2, h''.cell 0 rfl 3⟩, h''⟩
  have hg : Calls Tryz.prog 8 #[.pointer (some ⟨A.sp, 0, none⟩)] W0.drew fun e w' => e = .returned (.pointer (some ⟨A.t, 0, none⟩)) ∧ w' = W0.drew := spSlots h0.drew (i + 1) hi
  have hr : ∀ W v1, St o (boxI C #[.bool oo, .int .i64 10, .int .i64 oi, .int .i64 on, .int .i64 ox, .slice la ll lc, .int .i64 x.kd, .int .i64 x.st, .int .i64 x.th, .int .i64 x.sp, .int .i64 x.ce, .int .i64 x.x, .bool x.ow, .int .i64 x.ga, .int .i64 x.er, .int .i64 x.by_] 41 :: its.set i (spI A c (z.op (freeOp on) oi) v1 u)) W → W.cell? ⟨B.sp, 9, none⟩ = some (.pointer (some ⟨B.y, 0, none⟩)) ∧ Calls Tryz.prog 50 #[.pointer (some ⟨B.y, 0, none⟩), .int .i64 oi, .int .i64 on] W.drew fun e w' => e = .returned (.int .i64 ((freeOp on).E z.hs oi)) ∧ (w'.cell? ⟨C, 2, none⟩ = some (.int .i64 oi) ∧ w'.cell? ⟨C, 3, none⟩ = some (.int .i64 on) ∧ w'.cell? ⟨B.sp, 9, none⟩ = some (.pointer (some ⟨B.y, 0, none⟩))) ∧ Hid (∃ v2, St o ((its.set i (spI A c (z.op (freeOp on) oi) v1 u)).set j (rpI B c (z.op (freeOp on) oi) v2 q)) w') := by
    intro W v1 hS
    refine ⟨rpCell hS (j + 1) (set_other hj hij) 9, (rpFree hS.drew (j + 1) (set_other hj hij) ok hk2 oi on).mono ?_⟩
    rintro e w' ⟨he, v2, h2⟩
    have h3 : St o (boxI C #[.bool oo, .int .i64 10, .int .i64 oi, .int .i64 on, .int .i64 ox, .slice la ll lc, .int .i64 x.kd, .int .i64 x.st, .int .i64 x.th, .int .i64 x.sp, .int .i64 x.ce, .int .i64 x.x, .bool x.ow, .int .i64 x.ga, .int .i64 x.er, .int .i64 x.by_] 41 :: (its.set i (spI A c (z.op (freeOp on) oi) v1 u)).set j (rpI B c (z.op (freeOp on) oi) v2 q)) w' := h2
    exact ⟨he, ⟨h3.cell 0 rfl 2, h3.cell 0 rfl 3, rpCell h3 (j + 1) (set_self (set_other hj hij)) 9⟩, _, h3.pop⟩
  generalize (freeOp on).E z.hs oi = R0 at *
  have t0 : (R0 == R0) = true := by simp
  clear hij hi hj ok h0
  go_upto_region 40 with fail
  go_region_held3 (fun W => W.cell? ⟨C, 2, none⟩ = some (.int .i64 oi) ∧ W.cell? ⟨C, 3, none⟩ = some (.int .i64 on)) (first | go_keep | exact cS)
    (first | (go_at_call 8; refine hg.mono ?_; rintro e wg ⟨rfl, rfl⟩) | (go_at_call 49; refine hq.mono ?_; rintro e w1 ⟨rfl, v1, cS, h1⟩))
  obtain ⟨b2, b3⟩ := cS
  obtain ⟨bp, hr1⟩ := hr w1 v1 h1
  clear hq hr h1 a2 a3 hg
  go_upto_region 41 with fail
  go_region_held3 (fun W => W.cell? ⟨C, 2, none⟩ = some (.int .i64 oi) ∧ W.cell? ⟨C, 3, none⟩ = some (.int .i64 on) ∧ W.cell? ⟨B.sp, 9, none⟩ = some (.pointer (some ⟨B.y, 0, none⟩))) (first | go_keep | exact rS)
    (first | (go_at_call 50; refine hr1.mono ?_; rintro e w2 ⟨rfl, rS, HS⟩))
  clear hr1 rS bp b2 b3
  go_wp2
  obtain ⟨v2, HT⟩ := HS.out
  go_ret
  exact ⟨rfl, _, _, _, _, _, HT, HO.out⟩

set_option maxRecDepth 100000 in
set_option maxHeartbeats 4000000 in
theorem does_word {o w : World} {its : List It} {A : Ad} {B : Bd} {c : Cfg} {z : SSt} {v u p q : Value} (h : St o its w) (i j : Nat) (hij : i ≠ j) (hi : its[i]? = some (spI A c z v u)) (hj : its[j]? = some (rpI B c z p q)) {k : Nat} (ok : z.ok c k) (hk : k ≤ 977343669134) (oo : Bool) (oi on ox : Int) (la : Option Addr) (ll lc : Nat) (x : Ev) :
    Calls Tryz.prog 9 #[spp A, rpp B, .agg #[.bool oo, .int .i64 11, .int .i64 oi, .int .i64 on, .int .i64 ox, .slice la ll lc, .int .i64 x.kd, .int .i64 x.st, .int .i64 x.th, .int .i64 x.sp, .int .i64 x.ce, .int .i64 x.x, .bool x.ow, .int .i64 x.ga, .int .i64 x.er, .int .i64 x.by_]] w fun e w' => e = .returned (.bool true) ∧ ∃ z' v1 u1 v2 u2, St o ((its.set i (spI A c z' v1 u1)).set j (rpI B c z' v2 u2)) w' ∧ z'.ok c (k + 1) := by
  have hk2 : k ≤ 2932031007317 := by omega
  have h0 := h.box #[.bool oo, .int .i64 11, .int .i64 oi, .int .i64 on, .int .i64 ox, .slice la ll lc, .int .i64 x.kd, .int .i64 x.st, .int .i64 x.th, .int .i64 x.sp, .int .i64 x.ce, .int .i64 x.x, .bool x.ow, .int .i64 x.ga, .int .i64 x.er, .int .i64 x.by_] 41
  have HO : Hid ((z.word oi on).ok c (k + 1)) := ok.word oi on
  clear h
  unfold spp rpp
  go_enter Tryz.func9, Tryz.ntmps9
  go_upto_region 1 with fail
  generalize w.alloc (.cells #[.bool oo, .int .i64 11, .int .i64 oi, .int .i64 on, .int .i64 ox, .slice la ll lc, .int .i64 x.kd, .int .i64 x.st, .int .i64 x.th, .int .i64 x.sp, .int .i64 x.ce, .int .i64 x.x, .bool x.ow, .int .i64 x.ga, .int .i64 x.er, .int .i64 x.by_] 41) = W0 at *
  generalize w.heap.size = C at *
  have a1 : W0.cell? ⟨C, 1, none⟩ = some (.int .i64 11) := h0.cell 0 rfl 1
  have a2 : W0.cell? ⟨C, 2, none⟩ = some (.int .i64 oi) := h0.cell 0 rfl 2
  have a3 : W0.cell? ⟨C, 3, none⟩ = some (.int .i64 on) := h0.cell 0 rfl 3
  have hq : Calls Tryz.prog 51 #[.pointer (some ⟨A.t, 0, none⟩), .int .i64 oi, .int .i64 on] W0.drew fun e w' => e = .returned (.tuple #[.int .u64 (wordR z.ws z.hs.length oi on), .int .i64 (wordE z.hs.length oi on)]) ∧ ∃ v1, (w'.cell? ⟨C, 2, none⟩ = some (.int .i64 oi) ∧ w'.cell? ⟨C, 3, none⟩ = some (.int .i64 on)) ∧ St o (boxI C #[.bool oo, .int .i64 11, .int .i64 oi, .int .i64 on, .int .i64 ox, .slice la ll lc, .int .i64 x.kd, .int .i64 x.st, .int .i64 x.th, .int .i64 x.sp, .int .i64 x.ce, .int .i64 x.x, .bool x.ow, .int .i64 x.ga, .int .i64 x.er, .int .i64 x.by_] 41 :: its.set i (spI A c (z.word oi on) v1 u)) w' := by
    refine (spWord h0.drew (i + 1) hi ok hk2 oi on).mono ?_
    rintro e w' ⟨he, v1, h'⟩
    have h'' : St o (boxI C #[.bool oo, .int .i64 11, .int .i64 oi, .int .i64 on, .int .i64 ox, .slice la ll lc, .int .i64 x.kd, .int .i64 x.st, .int .i64 x.th, .int .i64 x.sp, .int .i64 x.ce, .int .i64 x.x, .bool x.ow, .int .i64 x.ga, .int .i64 x.er, .int .i64 x.by_] 41 :: its.set i (spI A c (z.word oi on) v1 u)) w' := h'
    exact ⟨he, v1, ⟨h''.cell 0 rfl 2, h''.cell 0 rfl 3⟩, h''⟩
  have hg : Calls Tryz.prog 8 #[.pointer (some ⟨A.sp, 0, none⟩)] W0.drew fun e w' => e = .returned (.pointer (some ⟨A.t, 0, none⟩)) ∧ w' = W0.drew := spSlots h0.drew (i + 1) hi
  have hr : ∀ W v1, St o (boxI C #[.bool oo, .int .i64 11, .int .i64 oi, .int .i64 on, .int .i64 ox, .slice la ll lc, .int .i64 x.kd, .int .i64 x.st, .int .i64 x.th, .int .i64 x.sp, .int .i64 x.ce, .int .i64 x.x, .bool x.ow, .int .i64 x.ga, .int .i64 x.er, .int .i64 x.by_] 41 :: its.set i (spI A c (z.word oi on) v1 u)) W → W.cell? ⟨B.sp, 9, none⟩ = some (.pointer (some ⟨B.y, 0, none⟩)) ∧ Calls Tryz.prog 52 #[.pointer (some ⟨B.y, 0, none⟩), .int .i64 oi, .int .i64 on] W.drew fun e w' => e = .returned (.tuple #[.int .u64 (wordR z.ws z.hs.length oi on), .int .i64 (wordE z.hs.length oi on)]) ∧ (w'.cell? ⟨C, 2, none⟩ = some (.int .i64 oi) ∧ w'.cell? ⟨C, 3, none⟩ = some (.int .i64 on) ∧ w'.cell? ⟨B.sp, 9, none⟩ = some (.pointer (some ⟨B.y, 0, none⟩))) ∧ Hid (∃ v2, St o ((its.set i (spI A c (z.word oi on) v1 u)).set j (rpI B c (z.word oi on) v2 q)) w') := by
    intro W v1 hS
    refine ⟨rpCell hS (j + 1) (set_other hj hij) 9, (rpWord hS.drew (j + 1) (set_other hj hij) ok hk2 oi on).mono ?_⟩
    rintro e w' ⟨he, v2, h2⟩
    have h3 : St o (boxI C #[.bool oo, .int .i64 11, .int .i64 oi, .int .i64 on, .int .i64 ox, .slice la ll lc, .int .i64 x.kd, .int .i64 x.st, .int .i64 x.th, .int .i64 x.sp, .int .i64 x.ce, .int .i64 x.x, .bool x.ow, .int .i64 x.ga, .int .i64 x.er, .int .i64 x.by_] 41 :: (its.set i (spI A c (z.word oi on) v1 u)).set j (rpI B c (z.word oi on) v2 q)) w' := h2
    exact ⟨he, ⟨h3.cell 0 rfl 2, h3.cell 0 rfl 3, rpCell h3 (j + 1) (set_self (set_other hj hij)) 9⟩, _, h3.pop⟩
  generalize wordR z.ws z.hs.length oi on = R0 at *
  have t0 : (R0 == R0) = true := by simp
  generalize wordE z.hs.length oi on = R1 at *
  have t1 : (R1 == R1) = true := by simp
  clear hij hi hj ok h0
  go_upto_region 43 with fail
  go_region_held3 (fun W => W.cell? ⟨C, 2, none⟩ = some (.int .i64 oi) ∧ W.cell? ⟨C, 3, none⟩ = some (.int .i64 on)) (first | go_keep | exact cS)
    (first | (go_at_call 8; refine hg.mono ?_; rintro e wg ⟨rfl, rfl⟩) | (go_at_call 51; refine hq.mono ?_; rintro e w1 ⟨rfl, v1, cS, h1⟩))
  obtain ⟨b2, b3⟩ := cS
  obtain ⟨bp, hr1⟩ := hr w1 v1 h1
  clear hq hr h1 a2 a3 hg
  go_upto_region 44 with fail
  go_region_held3 (fun W => W.cell? ⟨C, 2, none⟩ = some (.int .i64 oi) ∧ W.cell? ⟨C, 3, none⟩ = some (.int .i64 on) ∧ W.cell? ⟨B.sp, 9, none⟩ = some (.pointer (some ⟨B.y, 0, none⟩))) (first | go_keep | exact rS)
    (first | (go_at_call 52; refine hr1.mono ?_; rintro e w2 ⟨rfl, rS, HS⟩))
  clear hr1 rS bp b2 b3
  go_wp2
  obtain ⟨v2, HT⟩ := HS.out
  go_ret
  exact ⟨rfl, _, _, _, _, _, HT, HO.out⟩

set_option maxRecDepth 100000 in
set_option maxHeartbeats 4000000 in
theorem does_put {o w : World} {its : List It} {A : Ad} {B : Bd} {c : Cfg} {z : SSt} {v u p q : Value} (h : St o its w) (i j : Nat) (hij : i ≠ j) (hi : its[i]? = some (spI A c z v u)) (hj : its[j]? = some (rpI B c z p q)) {k : Nat} (ok : z.ok c k) (hk : k ≤ 977343669134) (oo : Bool) (oi on ox : Int) (la : Option Addr) (ll lc : Nat) (x : Ev) :
    Calls Tryz.prog 9 #[spp A, rpp B, .agg #[.bool oo, .int .i64 12, .int .i64 oi, .int .i64 on, .int .i64 ox, .slice la ll lc, .int .i64 x.kd, .int .i64 x.st, .int .i64 x.th, .int .i64 x.sp, .int .i64 x.ce, .int .i64 x.x, .bool x.ow, .int .i64 x.ga, .int .i64 x.er, .int .i64 x.by_]] w fun e w' => e = .returned (.bool true) ∧ ∃ z' v1 u1 v2 u2, St o ((its.set i (spI A c z' v1 u1)).set j (rpI B c z' v2 u2)) w' ∧ z'.ok c (k + 1) := by
  have hk2 : k ≤ 2932031007317 := by omega
  have h0 := h.box #[.bool oo, .int .i64 12, .int .i64 oi, .int .i64 on, .int .i64 ox, .slice la ll lc, .int .i64 x.kd, .int .i64 x.st, .int .i64 x.th, .int .i64 x.sp, .int .i64 x.ce, .int .i64 x.x, .bool x.ow, .int .i64 x.ga, .int .i64 x.er, .int .i64 x.by_] 41
  have HO : Hid ((z.put oi on (ox % 18446744073709551616)).ok c (k + 1)) := ok.put oi on (ox % 18446744073709551616)
  clear h
  unfold spp rpp
  go_enter Tryz.func9, Tryz.ntmps9
  go_upto_region 1 with fail
  generalize w.alloc (.cells #[.bool oo, .int .i64 12, .int .i64 oi, .int .i64 on, .int .i64 ox, .slice la ll lc, .int .i64 x.kd, .int .i64 x.st, .int .i64 x.th, .int .i64 x.sp, .int .i64 x.ce, .int .i64 x.x, .bool x.ow, .int .i64 x.ga, .int .i64 x.er, .int .i64 x.by_] 41) = W0 at *
  generalize w.heap.size = C at *
  have a1 : W0.cell? ⟨C, 1, none⟩ = some (.int .i64 12) := h0.cell 0 rfl 1
  have a2 : W0.cell? ⟨C, 2, none⟩ = some (.int .i64 oi) := h0.cell 0 rfl 2
  have a3 : W0.cell? ⟨C, 3, none⟩ = some (.int .i64 on) := h0.cell 0 rfl 3
  have a4 : W0.cell? ⟨C, 4, none⟩ = some (.int .i64 ox) := h0.cell 0 rfl 4
  have hq : Calls Tryz.prog 53 #[.pointer (some ⟨A.t, 0, none⟩), .int .i64 oi, .int .i64 on, .int .u64 (ox % 18446744073709551616)] W0.drew fun e w' => e = .returned (.int .i64 (wordE z.hs.length oi on)) ∧ ∃ v1, (w'.cell? ⟨C, 2, none⟩ = some (.int .i64 oi) ∧ w'.cell? ⟨C, 3, none⟩ = some (.int .i64 on) ∧ w'.cell? ⟨C, 4, none⟩ = some (.int .i64 ox)) ∧ St o (boxI C #[.bool oo, .int .i64 12, .int .i64 oi, .int .i64 on, .int .i64 ox, .slice la ll lc, .int .i64 x.kd, .int .i64 x.st, .int .i64 x.th, .int .i64 x.sp, .int .i64 x.ce, .int .i64 x.x, .bool x.ow, .int .i64 x.ga, .int .i64 x.er, .int .i64 x.by_] 41 :: its.set i (spI A c (z.put oi on (ox % 18446744073709551616)) v1 u)) w' := by
    refine (spPut h0.drew (i + 1) hi ok hk2 oi on (ox % 18446744073709551616)).mono ?_
    rintro e w' ⟨he, v1, h'⟩
    have h'' : St o (boxI C #[.bool oo, .int .i64 12, .int .i64 oi, .int .i64 on, .int .i64 ox, .slice la ll lc, .int .i64 x.kd, .int .i64 x.st, .int .i64 x.th, .int .i64 x.sp, .int .i64 x.ce, .int .i64 x.x, .bool x.ow, .int .i64 x.ga, .int .i64 x.er, .int .i64 x.by_] 41 :: its.set i (spI A c (z.put oi on (ox % 18446744073709551616)) v1 u)) w' := h'
    exact ⟨he, v1, ⟨h''.cell 0 rfl 2, h''.cell 0 rfl 3, h''.cell 0 rfl 4⟩, h''⟩
  have hg : Calls Tryz.prog 8 #[.pointer (some ⟨A.sp, 0, none⟩)] W0.drew fun e w' => e = .returned (.pointer (some ⟨A.t, 0, none⟩)) ∧ w' = W0.drew := spSlots h0.drew (i + 1) hi
  have hr : ∀ W v1, St o (boxI C #[.bool oo, .int .i64 12, .int .i64 oi, .int .i64 on, .int .i64 ox, .slice la ll lc, .int .i64 x.kd, .int .i64 x.st, .int .i64 x.th, .int .i64 x.sp, .int .i64 x.ce, .int .i64 x.x, .bool x.ow, .int .i64 x.ga, .int .i64 x.er, .int .i64 x.by_] 41 :: its.set i (spI A c (z.put oi on (ox % 18446744073709551616)) v1 u)) W → W.cell? ⟨B.sp, 9, none⟩ = some (.pointer (some ⟨B.y, 0, none⟩)) ∧ Calls Tryz.prog 54 #[.pointer (some ⟨B.y, 0, none⟩), .int .i64 oi, .int .i64 on, .int .u64 (ox % 18446744073709551616)] W.drew fun e w' => e = .returned (.int .i64 (wordE z.hs.length oi on)) ∧ (w'.cell? ⟨C, 2, none⟩ = some (.int .i64 oi) ∧ w'.cell? ⟨C, 3, none⟩ = some (.int .i64 on) ∧ w'.cell? ⟨C, 4, none⟩ = some (.int .i64 ox) ∧ w'.cell? ⟨B.sp, 9, none⟩ = some (.pointer (some ⟨B.y, 0, none⟩))) ∧ Hid (∃ v2, St o ((its.set i (spI A c (z.put oi on (ox % 18446744073709551616)) v1 u)).set j (rpI B c (z.put oi on (ox % 18446744073709551616)) v2 q)) w') := by
    intro W v1 hS
    refine ⟨rpCell hS (j + 1) (set_other hj hij) 9, (rpPut hS.drew (j + 1) (set_other hj hij) ok hk2 oi on (ox % 18446744073709551616)).mono ?_⟩
    rintro e w' ⟨he, v2, h2⟩
    have h3 : St o (boxI C #[.bool oo, .int .i64 12, .int .i64 oi, .int .i64 on, .int .i64 ox, .slice la ll lc, .int .i64 x.kd, .int .i64 x.st, .int .i64 x.th, .int .i64 x.sp, .int .i64 x.ce, .int .i64 x.x, .bool x.ow, .int .i64 x.ga, .int .i64 x.er, .int .i64 x.by_] 41 :: (its.set i (spI A c (z.put oi on (ox % 18446744073709551616)) v1 u)).set j (rpI B c (z.put oi on (ox % 18446744073709551616)) v2 q)) w' := h2
    exact ⟨he, ⟨h3.cell 0 rfl 2, h3.cell 0 rfl 3, h3.cell 0 rfl 4, rpCell h3 (j + 1) (set_self (set_other hj hij)) 9⟩, _, h3.pop⟩
  generalize wordE z.hs.length oi on = R0 at *
  have t0 : (R0 == R0) = true := by simp
  clear hij hi hj ok h0
  go_upto_region 47 with fail
  go_region_held3 (fun W => W.cell? ⟨C, 2, none⟩ = some (.int .i64 oi) ∧ W.cell? ⟨C, 3, none⟩ = some (.int .i64 on) ∧ W.cell? ⟨C, 4, none⟩ = some (.int .i64 ox)) (first | go_keep | exact cS)
    (first | (go_at_call 8; refine hg.mono ?_; rintro e wg ⟨rfl, rfl⟩) | (go_at_call 53; refine hq.mono ?_; rintro e w1 ⟨rfl, v1, cS, h1⟩))
  obtain ⟨b2, b3, b4⟩ := cS
  obtain ⟨bp, hr1⟩ := hr w1 v1 h1
  clear hq hr h1 a2 a3 a4 hg
  go_upto_region 48 with fail
  go_region_held3 (fun W => W.cell? ⟨C, 2, none⟩ = some (.int .i64 oi) ∧ W.cell? ⟨C, 3, none⟩ = some (.int .i64 on) ∧ W.cell? ⟨C, 4, none⟩ = some (.int .i64 ox) ∧ W.cell? ⟨B.sp, 9, none⟩ = some (.pointer (some ⟨B.y, 0, none⟩))) (first | go_keep | exact rS)
    (first | (go_at_call 54; refine hr1.mono ?_; rintro e w2 ⟨rfl, rS, HS⟩))
  clear hr1 rS bp b2 b3 b4
  go_wp2
  obtain ⟨v2, HT⟩ := HS.out
  go_ret
  exact ⟨rfl, _, _, _, _, _, HT, HO.out⟩
end Go.Proofs.YtjffkgolpdoegaaGreat
