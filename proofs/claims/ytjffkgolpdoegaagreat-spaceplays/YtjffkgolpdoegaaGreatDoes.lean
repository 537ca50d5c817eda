/- A step of SpacePlays over both spaces, whatever it is. -/
import Derived.Test.YtjffkgolpdoegaaGreatDoesA
import Derived.Test.YtjffkgolpdoegaaGreatDoesB
import Derived.Test.YtjffkgolpdoegaaGreatDoesC
import Derived.Test.YtjffkgolpdoegaaGreatDoesD
import Derived.Test.YtjffkgolpdoegaaGreatDoesE
namespace Go.Proofs.YtjffkgolpdoegaaGreat
open Go.RowKit
set_option linter.unusedVariables false
set_option linter.unusedSimpArgs false

theorem does_st {o w : World} {its : List It} {A : Ad} {B : Bd} {c : Cfg} {z : SSt} {v u p q : Value} (h : St o its w) (i j : Nat) (hij : i ≠ j) (hi : its[i]? = some (spI A c z v u)) (hj : its[j]? = some (rpI B c z p q)) {k : Nat} (ok : z.ok c k) (hk : k ≤ 977343669134) (op : OpD)
    (hL : NumsIn o op.la_l op.ll_l op.zs_l) (hrc : op.ll_l ≤ op.lc_l ∧ op.lc_l * 8 ≤ 140737488351232 ∧ (op.la_l = none → op.ll_l = 0 ∧ op.lc_l = 0)) :
    Calls Tryz.prog 9 #[spp A, rpp B, .agg #[.bool op.other, .int .i64 op.kind, .int .i64 op.i, .int .i64 op.n, .int .i64 op.x, .slice op.la_l op.ll_l op.lc_l, .int .i64 op.e_kd, .int .i64 op.e_st, .int .i64 op.e_th, .int .i64 op.e_sp, .int .i64 op.e_ce, .int .i64 op.e_x, .bool op.e_ow, .int .i64 op.e_ga, .int .i64 op.e_er, .int .i64 op.e_by]] w fun e w' => e = .returned (.bool true) ∧ ∃ z' v1 u1 v2 u2, St o ((its.set i (spI A c z' v1 u1)).set j (rpI B c z' v2 u2)) w' ∧ z'.ok c (k + 1) := by
  obtain ⟨oo, kind, oi, on, ox, la, ll, lc, zs, ekd, est, eth, esp, ece, ex, eow, ega, eer, eby⟩ := op
  simp only at hL hrc ⊢
  by_cases k1 : kind = 1
  · subst k1
    exact does_turn h i j hij hi hj ok hk oo oi on ox la ll lc ⟨ekd, est, eth, esp, ece, ex, eow, ega, eer, eby⟩
  have e1 : (kind == 1) = false := by simpa using k1
  by_cases k2 : kind = 2
  · subst k2
    exact does_load h i j hij hi hj ok hk oo oi on ox la ll lc ⟨ekd, est, eth, esp, ece, ex, eow, ega, eer, eby⟩
  have e2 : (kind == 2) = false := by simpa using k2
  by_cases k3 : kind = 3
  · subst k3
    exact does_store h i j hij hi hj ok hk oo oi on ox la ll lc ⟨ekd, est, eth, esp, ece, ex, eow, ega, eer, eby⟩
  have e3 : (kind == 3) = false := by simpa using k3
  by_cases k4 : kind = 4
  · subst k4
    exact does_fill h i j hij hi hj ok hk oo oi on ox la ll lc ⟨ekd, est, eth, esp, ece, ex, eow, ega, eer, eby⟩ hL hrc
  have e4 : (kind == 4) = false := by simpa using k4
  by_cases k5 : kind = 5
  · subst k5
    exact does_take h i j hij hi hj ok hk oo oi on ox la ll lc ⟨ekd, est, eth, esp, ece, ex, eow, ega, eer, eby⟩
  have e5 : (kind == 5) = false := by simpa using k5
  by_cases k6 : kind = 6
  · subst k6
    exact does_give h i j hij hi hj ok hk oo oi on ox la ll lc ⟨ekd, est, eth, esp, ece, ex, eow, ega, eer, eby⟩
  have e6 : (kind == 6) = false := by simpa using k6
  by_cases k7 : kind = 7
  · subst k7
    exact does_claim h i j hij hi hj ok hk oo oi on ox la ll lc ⟨ekd, est, eth, esp, ece, ex, eow, ega, eer, eby⟩
  have e7 : (kind == 7) = false := by simpa using k7
  by_cases k8 : kind = 8
  · subst k8
    exact does_ready h i j hij hi hj ok hk oo oi on ox la ll lc ⟨ekd, est, eth, esp, ece, ex, eow, ega, eer, eby⟩
  have e8 : (kind == 8) = false := by simpa using k8
  by_cases k9 : kind = 9
  · subst k9
    exact does_doom h i j hij hi hj ok hk oo oi on ox la ll lc ⟨ekd, est, eth, esp, ece, ex, eow, ega, eer, eby⟩
  have e9 : (kind == 9) = false := by simpa using k9
  by_cases k10 : kind = 10
  · subst k10
    exact does_free h i j hij hi hj ok hk oo oi on ox la ll lc ⟨ekd, est, eth, esp, ece, ex, eow, ega, eer, eby⟩
  have e10 : (kind == 10) = false := by simpa using k10
  by_cases k11 : kind = 11
  · subst k11
    exact does_word h i j hij hi hj ok hk oo oi on ox la ll lc ⟨ekd, est, eth, esp, ece, ex, eow, ega, eer, eby⟩
  have e11 : (kind == 11) = false := by simpa using k11
  by_cases k12 : kind = 12
  · subst k12
    exact does_put h i j hij hi hj ok hk oo oi on ox la ll lc ⟨ekd, est, eth, esp, ece, ex, eow, ega, eer, eby⟩
  have e12 : (kind == 12) = false := by simpa using k12
  by_cases k13 : kind = 13
  · subst k13
    exact does_note h i j hij hi hj ok hk oo oi on ox la ll lc ⟨ekd, est, eth, esp, ece, ex, eow, ega, eer, eby⟩
  have e13 : (kind == 13) = false := by simpa using k13
  exact does_none h i j hij hi hj ok hk oo kind oi on ox la ll lc ⟨ekd, est, eth, esp, ece, ex, eow, ega, eer, eby⟩ e1 e2 e3 e4 e5 e6 e7 e8 e9 e10 e11 e12 e13
end Go.Proofs.YtjffkgolpdoegaaGreat
