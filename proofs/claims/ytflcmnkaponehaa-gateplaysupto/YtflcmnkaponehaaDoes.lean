/- A step over a gate of the code and the document's: both answer the same, and stay the same. -/
import Derived.Test.YtflcmnkaponehaaRefGate
import Derived.Test.YtflcmnkaponehaaOps
import Derived.Deep.RegionHeld3
namespace Go.Proofs.Ytflcmnkaponehaa
open Go.RowKit
set_option linter.unusedVariables false
set_option linter.unusedSimpArgs false
attribute [local go_sem ↓] Go.wp_at_zero Go.wp_at_succ

def doesX (x : Gt) (kind t : Int) : Gt := if kind = 2 then takeX x t else if kind = 3 then giveX x t else x
def doesS (s : Mt) (x : Gt) (kind t : Int) : Mt := if kind = 2 then takeS s x t else if kind = 3 then giveS s x t else if kind = 4 then s.note 2 0 1 true else s
theorem doesS_within {s : Mt} {n : Nat} (h : s.within n) (x : Gt) (kind t : Int) : (doesS s x kind t).within (n + 1) := by
  unfold doesS
  split
  · exact takeS_within h x t
  · split
    · exact giveS_within h x t
    · split
      · exact h.note _ _ _ _
      · exact h.more (Nat.le_succ _)
theorem doesX_near (x : Gt) (kind t : Int) : x.n ≤ (doesX x kind t).n ∧ (doesX x kind t).n ≤ x.n + 1 := by
  unfold doesX
  split
  · exact takeX_near x t
  · split
    · exact giveX_near x t
    · exact ⟨Int.le_refl _, by omega⟩
theorem doesX_ok {x : Gt} (h : GOk x.n x.o) (kind t : Int) : GOk (doesX x kind t).n (doesX x kind t).o := by
  unfold doesX
  split
  · exact GOk.take h t
  · split
    · exact GOk.give h t
    · exact h

/-- Where a gate, its row, both meters and the document's gate stand in a list of things. -/
structure Spots (its : List It) (i a b p q : Nat) (g r c m n y : Nat) (s : Mt) (v u : Value) (x : Gt) : Prop where
  hi : its[i]? = some (meterI 51 (some m) s v)
  ha : its[a]? = some (gateI g r)
  hb : its[b]? = some (gtRowI r c (some m) 2 [x])
  hp : its[p]? = some (meterI 31 (some n) s u)
  hq : its[q]? = some (refGateI y n x)
  ne : i ≠ a ∧ i ≠ b ∧ i ≠ p ∧ i ≠ q ∧ b ≠ a ∧ b ≠ p ∧ b ≠ q ∧ p ≠ a ∧ p ≠ q ∧ q ≠ a
def after (its : List It) (i b p q : Nat) (r c m n y : Nat) (s : Mt) (v u : Value) (x : Gt) : List It :=
  (((its.set i (meterI 51 (some m) s v)).set b (gtRowI r c (some m) 2 [x])).set p (meterI 31 (some n) s u)).set q (refGateI y n x)
theorem Spots.same {its : List It} {i a b p q g r c m n y : Nat} {s : Mt} {v u : Value} {x : Gt} (h : Spots its i a b p q g r c m n y s v u x) : after its i b p q r c m n y s v u x = its := by
  unfold after
  rw [set_back h.hi, set_back h.hb, set_back h.hp, set_back h.hq]

set_option maxRecDepth 100000 in
set_option maxHeartbeats 2000000 in
theorem does_st {o w : World} {its : List It} (h : St o its w) (i a b p q : Nat) {g r c m n y : Nat} {s : Mt} {v u : Value} {x : Gt} (hs : Spots its i a b p q g r c m n y s v u x)
    {k : Nat} (hw : s.within k) (hk : k ≤ 2199023255552) (hx0 : 0 ≤ x.n) (hx1 : x.n ≤ 4611686018427387904) (hx : GOk x.n x.o) (other : Bool) (kind t : Int) :
    Calls Try.prog 10 #[.pointer (some ⟨g, 0, none⟩), .pointer (some ⟨y, 0, none⟩), .agg #[.bool other, .int .i64 kind, .int .i64 t]] w fun e w' => e = .returned (.bool true) ∧
      ∃ v' u', St o (after its i b p q r c m n y (doesS s x kind t) v' u' (doesX x kind t)) w' := by
  have hsame := hs.same
  obtain ⟨hi, ha, hb, hp, hq, n1, n2, n3, n4, n5, n6, n7, n8, n9, n10⟩ := hs
  have hS0 := h.box #[.bool other, .int .i64 kind, .int .i64 t] 38
  have k0 : (w.alloc (.cells #[.bool other, .int .i64 kind, .int .i64 t] 38)).cell? ⟨w.heap.size, 1, none⟩ = some (.int .i64 kind) := hS0.cell 0 rfl 1
  have k1 : (w.alloc (.cells #[.bool other, .int .i64 kind, .int .i64 t] 38)).cell? ⟨w.heap.size, 2, none⟩ = some (.int .i64 t) := hS0.cell 0 rfl 2
  by_cases h2 : kind = 2
  · subst h2
    simp only [doesS, doesX, if_true]
    have hT := gateTake_st hS0 (i + 1) (a + 1) (b + 1) hi ha hb (by omega) hw hk hx0 hx1 t
    have e1 : (takeR x t == takeR x t) = true := by simp
    have e2 : (takeE x t == takeE x t) = true := by simp
    generalize hR : takeR x t = R at *
    generalize hE : takeE x t = E at *
    go_enter Try.func10, Try.ntmps10
    go_wp2_with fail
    generalize w.alloc (.cells #[.bool other, .int .i64 2, .int .i64 t] 38) = W0 at *
    generalize w.heap.size = B at *
    refine hT.mono ?_
    rintro e w1 ⟨rfl, v', hS1⟩
    have l1 : w1.cell? ⟨B, 2, none⟩ = some (.int .i64 t) := hS1.cell 0 rfl 2
    have hU := refTake_st hS1 (p + 1) (q + 1) (set_other (set_other hp (by omega)) (by omega)) (set_other (set_other hq (by omega)) (by omega)) (by omega) hw hk hx0 hx1 hx t
    rw [hR, hE] at hU
    clear hT k0 k1 hS0 h hS1
    go_wp2_with fail
    refine hU.mono ?_
    rintro e w2 ⟨rfl, u', hS2⟩
    have HS : Hid (St o (after its i b p q r c m n y (takeS s x t) v' u' (takeX x t)) w2) := hS2.pop
    clear hU hS2
    go_wp2
    go_ret
    exact ⟨rfl, v', u', HS.out⟩
  · have e2 : (kind == 2) = false := by simpa using h2
    by_cases h3 : kind = 3
    · subst h3
      simp only [doesS, doesX, if_true, if_neg h2]
      have hT := gateGive_st hS0 (i + 1) (a + 1) (b + 1) hi ha hb (by omega) hw hk hx0 hx1 t
      have e1 : (giveE x t == giveE x t) = true := by simp
      generalize hE : giveE x t = E at *
      go_enter Try.func10, Try.ntmps10
      go_wp2_with fail
      generalize w.alloc (.cells #[.bool other, .int .i64 3, .int .i64 t] 38) = W0 at *
      generalize w.heap.size = B at *
      refine hT.mono ?_
      rintro e w1 ⟨rfl, v', hS1⟩
      have l1 : w1.cell? ⟨B, 2, none⟩ = some (.int .i64 t) := hS1.cell 0 rfl 2
      have hU := refGive_st hS1 (p + 1) (q + 1) (set_other (set_other hp (by omega)) (by omega)) (set_other (set_other hq (by omega)) (by omega)) (by omega) hw hk hx0 hx1 hx t
      rw [hE] at hU
      clear hT k0 k1 hS0 h hS1
      go_wp2_with fail
      refine hU.mono ?_
      rintro e w2 ⟨rfl, u', hS2⟩
      have HS : Hid (St o (after its i b p q r c m n y (giveS s x t) v' u' (giveX x t)) w2) := hS2.pop
      clear hU hS2
      go_wp2
      go_ret
      exact ⟨rfl, v', u', HS.out⟩
    · have e3 : (kind == 3) = false := by simpa using h3
      by_cases h4 : kind = 4
      · subst h4
        simp only [doesS, doesX, if_true, if_neg h2, if_neg h3]
        have hT := gateLook_st hS0 (i + 1) (a + 1) (b + 1) hi ha hb (by omega) hw hk
        obtain ⟨xn, xo⟩ := x
        simp only [Gt.val] at *
        have q1 : (xn == xn) = true := by simp
        have q2 : (xo == xo) = true := by simp
        go_enter Try.func10, Try.ntmps10
        go_wp2_with fail
        generalize w.alloc (.cells #[.bool other, .int .i64 4, .int .i64 t] 38) = W0 at *
        generalize w.heap.size = B at *
        refine hT.mono ?_
        rintro e w1 ⟨rfl, v', hS1⟩
        have hS2 := hS1.box #[.int .i64 xn, .int .i64 xo] 34
        clear hT k0 k1 hS0 h hS1
        go_wp2_with fail
        generalize w1.alloc (.cells #[.int .i64 xn, .int .i64 xo] 34) = w2 at *
        generalize w1.heap.size = H at *
        have d0 : w2.cell? ⟨H, 0, none⟩ = some (.int .i64 xn) := hS2.cell 0 rfl 0
        have d1 : w2.cell? ⟨H, 1, none⟩ = some (.int .i64 xo) := hS2.cell 0 rfl 1
        have hU : Calls Try.prog 21 #[.pointer (some ⟨y, 0, none⟩)] w2.drew fun e w' => e = .returned (.agg #[.int .i64 xn, .int .i64 xo]) ∧
            ∃ u', (w'.cell? ⟨H, 0, none⟩ = some (.int .i64 xn) ∧ w'.cell? ⟨H, 1, none⟩ = some (.int .i64 xo)) ∧ Hid (St o (after its i b p q r c m n y (s.note 2 0 1 true) v' u' ⟨xn, xo⟩) w') := by
          refine (refLook_st hS2.drew (p + 2) (q + 2) (set_other hp (by omega)) (set_other hq (by omega)) (by omega) hw hk).mono ?_
          rintro e w' ⟨he, u', hS3⟩
          refine ⟨he, u', ⟨hS3.cell 0 rfl 0, hS3.cell 0 rfl 1⟩, ?_⟩
          have hS4 : St o ((its.set i (meterI 51 (some m) (s.note 2 0 1 true) v')).set p (meterI 31 (some n) (s.note 2 0 1 true) u')) w' := hS3.pop.pop
          unfold after
          rw [set_back (set_other hb n2), set_back (set_other (set_other hq n4) n9)]
          exact hS4
        clear hS2
        go_region_held3 (fun w' => w'.cell? ⟨H, 0, none⟩ = some (.int .i64 xn) ∧ w'.cell? ⟨H, 1, none⟩ = some (.int .i64 xo)) (first | go_keep | exact hcc)
          (first | (go_at_call 21; refine hU.mono ?_; rintro e w' ⟨rfl, u', hcc, hS⟩))
        go_wp2
        go_ret
        exact ⟨rfl, v', u', hS.out⟩
      · have e4 : (kind == 4) = false := by simpa using h4
        simp only [doesS, doesX, if_neg h2, if_neg h3, if_neg h4]
        have HS : Hid (St o (after its i b p q r c m n y s v u x) (w.alloc (.cells #[.bool other, .int .i64 kind, .int .i64 t] 38))) := by rw [hsame]; exact hS0.pop
        clear hS0 h h2 h3 h4
        go_enter Try.func10, Try.ntmps10
        go_wp2
        go_ret
        exact ⟨rfl, v, u, HS.out⟩
end Go.Proofs.Ytflcmnkaponehaa
