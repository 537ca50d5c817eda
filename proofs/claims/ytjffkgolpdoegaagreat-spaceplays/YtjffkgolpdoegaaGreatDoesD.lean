/- Steps of SpacePlays over a space of the code and the document's: both answer the same, and stay the same. -/
import Derived.Test.YtjffkgolpdoegaaGreatRSpD
import Derived.Test.YtjffkgolpdoegaaGreatOps
import Derived.Deep.Cut
namespace Go.Proofs.YtjffkgolpdoegaaGreat
open Go.RowKit
set_option linter.unusedVariables false
set_option linter.unusedSimpArgs false
attribute [local go_sem ↓] Go.wp_at_zero Go.wp_at_succ

set_option maxRecDepth 100000 in
set_option maxHeartbeats 4000000 in
theorem does_note {o w : World} {its : List It} {A : Ad} {B : Bd} {c : Cfg} {z : SSt} {v u p q : Value} (h : St o its w) (i j : Nat) (hij : i ≠ j) (hi : its[i]? = some (spI A c z v u)) (hj : its[j]? = some (rpI B c z p q)) {k : Nat} (ok : z.ok c k) (hk : k ≤ 977343669134) (oo : Bool) (oi on ox : Int) (la : Option Addr) (ll lc : Nat) (x : Ev) :
    Calls Tryz.prog 9 #[spp A, rpp B, .agg #[.bool oo, .int .i64 13, .int .i64 oi, .int .i64 on, .int .i64 ox, .slice la ll lc, .int .i64 x.kd, .int .i64 x.st, .int .i64 x.th, .int .i64 x.sp, .int .i64 x.ce, .int .i64 x.x, .bool x.ow, .int .i64 x.ga, .int .i64 x.er, .int .i64 x.by_]] w fun e w' => e = .returned (.bool true) ∧ ∃ z' v1 u1 v2 u2, St o ((its.set i (spI A c z' v1 u1)).set j (rpI B c z' v2 u2)) w' ∧ z'.ok c (k + 1) := by
  have hb : (z.ev.length + 1) * 80 ≤ 140737488355328 := by have := ok.el; omega
  have h0 := h.box #[.bool oo, .int .i64 13, .int .i64 oi, .int .i64 on, .int .i64 ox, .slice la ll lc, .int .i64 x.kd, .int .i64 x.st, .int .i64 x.th, .int .i64 x.sp, .int .i64 x.ce, .int .i64 x.x, .bool x.ow, .int .i64 x.ga, .int .i64 x.er, .int .i64 x.by_] 41
  have HO : Hid ((z.noted x).ok c (k + 1)) := ok.noted x
  clear h
  unfold spp rpp
  go_enter Tryz.func9, Tryz.ntmps9
  go_upto_region 1 with fail
  generalize w.alloc (.cells #[.bool oo, .int .i64 13, .int .i64 oi, .int .i64 on, .int .i64 ox, .slice la ll lc, .int .i64 x.kd, .int .i64 x.st, .int .i64 x.th, .int .i64 x.sp, .int .i64 x.ce, .int .i64 x.x, .bool x.ow, .int .i64 x.ga, .int .i64 x.er, .int .i64 x.by_] 41) = W0 at *
  generalize w.heap.size = C at *
  have a1 : W0.cell? ⟨C, 1, none⟩ = some (.int .i64 13) := h0.cell 0 rfl 1
  have a6 : W0.cell? ⟨C, 6, none⟩ = some (.int .i64 x.kd) := h0.cell 0 rfl 6
  have a7 : W0.cell? ⟨C, 7, none⟩ = some (.int .i64 x.st) := h0.cell 0 rfl 7
  have a8 : W0.cell? ⟨C, 8, none⟩ = some (.int .i64 x.th) := h0.cell 0 rfl 8
  have a9 : W0.cell? ⟨C, 9, none⟩ = some (.int .i64 x.sp) := h0.cell 0 rfl 9
  have a10 : W0.cell? ⟨C, 10, none⟩ = some (.int .i64 x.ce) := h0.cell 0 rfl 10
  have a11 : W0.cell? ⟨C, 11, none⟩ = some (.int .i64 x.x) := h0.cell 0 rfl 11
  have a12 : W0.cell? ⟨C, 12, none⟩ = some (.bool x.ow) := h0.cell 0 rfl 12
  have a13 : W0.cell? ⟨C, 13, none⟩ = some (.int .i64 x.ga) := h0.cell 0 rfl 13
  have a14 : W0.cell? ⟨C, 14, none⟩ = some (.int .i64 x.er) := h0.cell 0 rfl 14
  have a15 : W0.cell? ⟨C, 15, none⟩ = some (.int .i64 x.by_) := h0.cell 0 rfl 15
  have hq : Calls Tryz.prog 26 #[.pointer (some ⟨A.sp, 0, none⟩), .agg #[.int .i64 x.kd, .int .i64 x.st, .int .i64 x.th, .int .i64 x.sp, .int .i64 x.ce, .int .i64 x.x, .bool x.ow, .int .i64 x.ga, .int .i64 x.er, .int .i64 x.by_]] W0 fun e w' => e = .returned (.tuple #[]) ∧ ∃ u1, St o (boxI C #[.bool oo, .int .i64 13, .int .i64 oi, .int .i64 on, .int .i64 ox, .slice la ll lc, .int .i64 x.kd, .int .i64 x.st, .int .i64 x.th, .int .i64 x.sp, .int .i64 x.ce, .int .i64 x.x, .bool x.ow, .int .i64 x.ga, .int .i64 x.er, .int .i64 x.by_] 41 :: its.set i (spI A c (z.noted x) v u1)) w' := spNote h0 (i + 1) hi hb x
  have hr : ∀ W u1, St o (boxI C #[.bool oo, .int .i64 13, .int .i64 oi, .int .i64 on, .int .i64 ox, .slice la ll lc, .int .i64 x.kd, .int .i64 x.st, .int .i64 x.th, .int .i64 x.sp, .int .i64 x.ce, .int .i64 x.x, .bool x.ow, .int .i64 x.ga, .int .i64 x.er, .int .i64 x.by_] 41 :: its.set i (spI A c (z.noted x) v u1)) W → Calls Tryz.prog 55 #[.pointer (some ⟨B.sp, 0, none⟩), .agg #[.int .i64 x.kd, .int .i64 x.st, .int .i64 x.th, .int .i64 x.sp, .int .i64 x.ce, .int .i64 x.x, .bool x.ow, .int .i64 x.ga, .int .i64 x.er, .int .i64 x.by_]] W fun e w' => e = .returned (.tuple #[]) ∧ Hid (∃ u2, St o ((its.set i (spI A c (z.noted x) v u1)).set j (rpI B c (z.noted x) p u2)) w') := by
    intro W u1 hS
    refine (rpNote hS (j + 1) (set_other hj hij) hb x).mono ?_
    rintro e w' ⟨he, u2, h2⟩
    have h3 : St o (boxI C #[.bool oo, .int .i64 13, .int .i64 oi, .int .i64 on, .int .i64 ox, .slice la ll lc, .int .i64 x.kd, .int .i64 x.st, .int .i64 x.th, .int .i64 x.sp, .int .i64 x.ce, .int .i64 x.x, .bool x.ow, .int .i64 x.ga, .int .i64 x.er, .int .i64 x.by_] 41 :: (its.set i (spI A c (z.noted x) v u1)).set j (rpI B c (z.noted x) p u2)) w' := h2
    exact ⟨he, u2, h3.pop⟩
  clear hij hi hj ok h0
  go_wp2_with fail
  refine hq.mono ?_
  rintro e w1 ⟨rfl, u1, h1⟩
  have hr1 := hr w1 u1 h1
  have b6 : w1.cell? ⟨C, 6, none⟩ = some (.int .i64 x.kd) := h1.cell 0 rfl 6
  have b7 : w1.cell? ⟨C, 7, none⟩ = some (.int .i64 x.st) := h1.cell 0 rfl 7
  have b8 : w1.cell? ⟨C, 8, none⟩ = some (.int .i64 x.th) := h1.cell 0 rfl 8
  have b9 : w1.cell? ⟨C, 9, none⟩ = some (.int .i64 x.sp) := h1.cell 0 rfl 9
  have b10 : w1.cell? ⟨C, 10, none⟩ = some (.int .i64 x.ce) := h1.cell 0 rfl 10
  have b11 : w1.cell? ⟨C, 11, none⟩ = some (.int .i64 x.x) := h1.cell 0 rfl 11
  have b12 : w1.cell? ⟨C, 12, none⟩ = some (.bool x.ow) := h1.cell 0 rfl 12
  have b13 : w1.cell? ⟨C, 13, none⟩ = some (.int .i64 x.ga) := h1.cell 0 rfl 13
  have b14 : w1.cell? ⟨C, 14, none⟩ = some (.int .i64 x.er) := h1.cell 0 rfl 14
  have b15 : w1.cell? ⟨C, 15, none⟩ = some (.int .i64 x.by_) := h1.cell 0 rfl 15
  clear hq hr h1 a1 a6 a7 a8 a9 a10 a11 a12 a13 a14 a15
  go_wp2_with fail
  refine hr1.mono ?_
  rintro e w2 ⟨rfl, HS⟩
  clear hr1 b6 b7 b8 b9 b10 b11 b12 b13 b14 b15
  go_wp2
  obtain ⟨u2, HT⟩ := HS.out
  go_ret
  exact ⟨rfl, _, _, _, _, _, HT, HO.out⟩
set_option maxRecDepth 100000 in
set_option maxHeartbeats 4000000 in
theorem does_none {o w : World} {its : List It} {A : Ad} {B : Bd} {c : Cfg} {z : SSt} {v u p q : Value} (h : St o its w) (i j : Nat) (hij : i ≠ j) (hi : its[i]? = some (spI A c z v u)) (hj : its[j]? = some (rpI B c z p q)) {k : Nat} (ok : z.ok c k) (hk : k ≤ 977343669134) (oo : Bool) (kind oi on ox : Int) (la : Option Addr) (ll lc : Nat) (x : Ev) (e1 : (kind == 1) = false) (e2 : (kind == 2) = false) (e3 : (kind == 3) = false) (e4 : (kind == 4) = false) (e5 : (kind == 5) = false) (e6 : (kind == 6) = false) (e7 : (kind == 7) = false) (e8 : (kind == 8) = false) (e9 : (kind == 9) = false) (e10 : (kind == 10) = false) (e11 : (kind == 11) = false) (e12 : (kind == 12) = false) (e13 : (kind == 13) = false) :
    Calls Tryz.prog 9 #[spp A, rpp B, .agg #[.bool oo, .int .i64 kind, .int .i64 oi, .int .i64 on, .int .i64 ox, .slice la ll lc, .int .i64 x.kd, .int .i64 x.st, .int .i64 x.th, .int .i64 x.sp, .int .i64 x.ce, .int .i64 x.x, .bool x.ow, .int .i64 x.ga, .int .i64 x.er, .int .i64 x.by_]] w fun e w' => e = .returned (.bool true) ∧ ∃ z' v1 u1 v2 u2, St o ((its.set i (spI A c z' v1 u1)).set j (rpI B c z' v2 u2)) w' ∧ z'.ok c (k + 1) := by
  have h0 := h.box #[.bool oo, .int .i64 kind, .int .i64 oi, .int .i64 on, .int .i64 ox, .slice la ll lc, .int .i64 x.kd, .int .i64 x.st, .int .i64 x.th, .int .i64 x.sp, .int .i64 x.ce, .int .i64 x.x, .bool x.ow, .int .i64 x.ga, .int .i64 x.er, .int .i64 x.by_] 41
  have HO : Hid (z.ok c (k + 1)) := ok.more (Nat.le_succ k)
  have HT : Hid (∀ W, St o (boxI w.heap.size #[.bool oo, .int .i64 kind, .int .i64 oi, .int .i64 on, .int .i64 ox, .slice la ll lc, .int .i64 x.kd, .int .i64 x.st, .int .i64 x.th, .int .i64 x.sp, .int .i64 x.ce, .int .i64 x.x, .bool x.ow, .int .i64 x.ga, .int .i64 x.er, .int .i64 x.by_] 41 :: its) W → St o ((its.set i (spI A c z v u)).set j (rpI B c z p q)) W) := by
    intro W hS
    rw [set_back hi, set_back hj]
    exact hS.pop
  clear h hi hj hij ok
  unfold spp rpp
  go_enter Tryz.func9, Tryz.ntmps9
  go_upto_region 1 with fail
  have HS := HT.out _ h0
  have a1 : (w.alloc (.cells #[.bool oo, .int .i64 kind, .int .i64 oi, .int .i64 on, .int .i64 ox, .slice la ll lc, .int .i64 x.kd, .int .i64 x.st, .int .i64 x.th, .int .i64 x.sp, .int .i64 x.ce, .int .i64 x.x, .bool x.ow, .int .i64 x.ga, .int .i64 x.er, .int .i64 x.by_] 41)).cell? ⟨w.heap.size, 1, none⟩ = some (.int .i64 kind) := h0.cell 0 rfl 1
  clear HT h0
  generalize w.alloc (.cells #[.bool oo, .int .i64 kind, .int .i64 oi, .int .i64 on, .int .i64 ox, .slice la ll lc, .int .i64 x.kd, .int .i64 x.st, .int .i64 x.th, .int .i64 x.sp, .int .i64 x.ce, .int .i64 x.x, .bool x.ow, .int .i64 x.ga, .int .i64 x.er, .int .i64 x.by_] 41) = W0 at *
  generalize w.heap.size = C at *
  have HS2 : Hid (St o ((its.set i (spI A c z v u)).set j (rpI B c z p q)) W0) := HS
  clear HS
  go_wp2
  go_ret
  exact ⟨rfl, _, _, _, _, _, HS2.out, HO.out⟩
end Go.Proofs.YtjffkgolpdoegaaGreat
