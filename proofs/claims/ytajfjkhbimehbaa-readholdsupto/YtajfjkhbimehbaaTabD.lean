/- What the calls on heads do: Ready, Doom, Free; Word and Put. -/
import Derived.Test.YtajfjkhbimehbaaTabC
namespace Go.Proofs.Ytajfjkhbimehbaa
open Go.RowKit
set_option linter.unusedVariables false
set_option linter.unusedSimpArgs false
attribute [local go_sem ↓] Go.wp_at_zero Go.wp_at_succ

set_option maxRecDepth 100000 in
set_option maxHeartbeats 1000000 in
theorem tabReady_st {o w : World} {its : List It} (h : St o its w) (i a b : Nat) {t r c q : Nat} {mo : Option Nat} {s : Mt} {v : Value} {hs : List Hd} (hi : its[i]? = some (meterI 115 mo s v)) (ha : its[a]? = some (tabI t r q)) (hb : its[b]? = some (hdRowI r c mo 3 hs)) (hib : i ≠ b)
    {n N : Nat} (hw : s.within n) (hn : n ≤ 4611686018427) (hok : HsOk hs N) (k g p : Int) :
    Calls Try.prog 35 #[.pointer (some ⟨t, 0, none⟩), .int .i64 k, .int .i64 g, .int .i64 p] w fun e w' => e = .returned (.int .i64 ((readyOp g p).E hs k)) ∧
      ∃ v', St o ((its.set i (meterI 115 mo ((readyOp g p).S s hs k) v')).set b (hdRowI r c mo 3 ((readyOp g p).H hs k))) w' := by
  by_cases hp : p < 1
  · have hS : Hid (St o ((its.set i (meterI 115 mo s v)).set b (hdRowI r c mo 3 hs)) w) := keep_all h hi hb
    have e1 : (readyOp g p).E hs k = 1 := by simp [HOp.E, readyOp, hp]
    have e2 : (readyOp g p).S s hs k = s := by simp [HOp.S, readyOp, hp]
    have e3 : (readyOp g p).H hs k = hs := by simp [HOp.H, readyOp, hp]
    rw [e1, e2, e3]
    clear h
    go_enter Try.func35, Try.ntmps35
    go_wp2
    go_ret
    exact ⟨rfl, v, hS.out⟩
  · obtain ⟨a1, a2, a3⟩ := ready_agree (hs := hs) k g p hp s
    have hnow := tabNow_st h a b ha hb k
    generalize nowAt hs k = x at *
    obtain ⟨xgn, xsa, xsp, xth, xdm, xwy⟩ := x
    simp only [Hd.val] at *
    have htr : ∀ w1, St o its w1 → Calls Try.prog 55 #[.pointer (some ⟨t, 0, none⟩), .int .i64 k, .agg #[.int .i64 g, .int .i64 1, .int .i64 xsp, .int .i64 xth, .bool xdm, .int .i64 xwy], .agg #[.int .i64 g, .int .i64 2, .int .i64 p, .int .i64 xth, .bool xdm, .int .i64 xwy], .int .i64 4] ((w1.alloc (.cells #[.int .i64 g, .int .i64 1, .int .i64 xsp, .int .i64 xth, .bool xdm, .int .i64 xwy] 47)).alloc (.cells #[.int .i64 g, .int .i64 2, .int .i64 p, .int .i64 xth, .bool xdm, .int .i64 xwy] 47)) fun e w' => e = .returned (.int .i64 ((readyOp g p).E hs k)) ∧
        ∃ v', Hid (St o ((its.set i (meterI 115 mo ((readyOp g p).S s hs k) v')).set b (hdRowI r c mo 3 ((readyOp g p).H hs k))) w') := by
      intro w1 hS
      have hS2 := ((hS.box #[.int .i64 g, .int .i64 1, .int .i64 xsp, .int .i64 xth, .bool xdm, .int .i64 xwy] 47).box #[.int .i64 g, .int .i64 2, .int .i64 p, .int .i64 xth, .bool xdm, .int .i64 xwy] 47)
      refine (tabTrade_st hS2 (i + 2) (a + 2) (b + 2) hi ha hb (by omega) hw hn k ⟨g, 1, xsp, xth, xdm, xwy⟩ ⟨g, 2, p, xth, xdm, xwy⟩ 4).mono ?_
      rintro e w' ⟨h1, v', h2⟩
      rw [a1] at h1
      rw [a2, a3] at h2
      exact ⟨h1, v', h2.pop.pop⟩
    clear h a1 a2 a3
    generalize (readyOp g p).E hs k = E at *
    generalize (readyOp g p).H hs k = hs' at *
    generalize (readyOp g p).S s hs k = s' at *
    go_enter Try.func35, Try.ntmps35
    go_wp2_with fail
    refine hnow.mono ?_
    rintro e w1 ⟨rfl, hS1⟩
    have hT := htr w1 hS1
    clear htr hnow hS1
    go_wp2_with fail
    refine hT.mono ?_
    rintro e w3 ⟨rfl, v', HS⟩
    clear hT
    go_wp2
    go_ret
    exact ⟨rfl, v', HS.out⟩

set_option maxRecDepth 100000 in
set_option maxHeartbeats 1000000 in
theorem tabDoom_st {o w : World} {its : List It} (h : St o its w) (i a b : Nat) {t r c q : Nat} {mo : Option Nat} {s : Mt} {v : Value} {hs : List Hd} (hi : its[i]? = some (meterI 115 mo s v)) (ha : its[a]? = some (tabI t r q)) (hb : its[b]? = some (hdRowI r c mo 3 hs)) (hib : i ≠ b)
    {n N : Nat} (hw : s.within n) (hn : n ≤ 4611686018427) (hok : HsOk hs N) (k g th : Int) :
    Calls Try.prog 29 #[.pointer (some ⟨t, 0, none⟩), .int .i64 k, .int .i64 g, .int .i64 th] w fun e w' => e = .returned (.int .i64 ((doomOp g th).E hs k)) ∧
      ∃ v', St o ((its.set i (meterI 115 mo ((doomOp g th).S s hs k) v')).set b (hdRowI r c mo 3 ((doomOp g th).H hs k))) w' := by
  cases ht : isTh th
  · have hS : Hid (St o ((its.set i (meterI 115 mo s v)).set b (hdRowI r c mo 3 hs)) w) := keep_all h hi hb
    have hth : Calls Try.prog 53 #[.int .i64 th] w fun e w' => e = .returned (.bool false) ∧ w' = w := ht ▸ isThread_any th w
    have e1 : (doomOp g th).E hs k = 1 := by simp [HOp.E, doomOp, ht]
    have e2 : (doomOp g th).S s hs k = s := by simp [HOp.S, doomOp, ht]
    have e3 : (doomOp g th).H hs k = hs := by simp [HOp.H, doomOp, ht]
    rw [e1, e2, e3]
    clear h
    go_enter Try.func29, Try.ntmps29
    go_wp2_with (go_at_call 53; refine hth.mono ?_; rintro e w' ⟨rfl, rfl⟩)
    go_ret
    exact ⟨rfl, v, hS.out⟩
  have hth : Calls Try.prog 53 #[.int .i64 th] w fun e w' => e = .returned (.bool true) ∧ w' = w := ht ▸ isThread_any th w
  obtain ⟨a1, a2, a3⟩ := doom_agree (hs := hs) k g th ht s
  have hnow := tabNow_st h a b ha hb k
  generalize nowAt hs k = x at *
  obtain ⟨xgn, xsa, xsp, xth, xdm, xwy⟩ := x
  simp only [Hd.val] at *
  cases xdm
  · simp only [Bool.false_eq_true, if_false] at a1 a2 a3
    have htr : ∀ w1, St o its w1 → Calls Try.prog 55 #[.pointer (some ⟨t, 0, none⟩), .int .i64 k, .agg #[.int .i64 g, .int .i64 2, .int .i64 xsp, .int .i64 xth, .bool false, .int .i64 xwy], .agg #[.int .i64 g, .int .i64 2, .int .i64 xsp, .int .i64 xth, .bool true, .int .i64 th], .int .i64 4] ((w1.alloc (.cells #[.int .i64 g, .int .i64 2, .int .i64 xsp, .int .i64 xth, .bool false, .int .i64 xwy] 47)).alloc (.cells #[.int .i64 g, .int .i64 2, .int .i64 xsp, .int .i64 xth, .bool true, .int .i64 th] 47)) fun e w' => e = .returned (.int .i64 ((doomOp g th).E hs k)) ∧
        ∃ v', Hid (St o ((its.set i (meterI 115 mo ((doomOp g th).S s hs k) v')).set b (hdRowI r c mo 3 ((doomOp g th).H hs k))) w') := by
      intro w1 hS
      have hS2 := ((hS.box #[.int .i64 g, .int .i64 2, .int .i64 xsp, .int .i64 xth, .bool false, .int .i64 xwy] 47).box #[.int .i64 g, .int .i64 2, .int .i64 xsp, .int .i64 xth, .bool true, .int .i64 th] 47)
      refine (tabTrade_st hS2 (i + 2) (a + 2) (b + 2) hi ha hb (by omega) hw hn k ⟨g, 2, xsp, xth, false, xwy⟩ ⟨g, 2, xsp, xth, true, th⟩ 4).mono ?_
      rintro e w' ⟨h1, v', h2⟩
      rw [a1] at h1
      rw [a2, a3] at h2
      exact ⟨h1, v', h2.pop.pop⟩
    clear h a1 a2 a3
    generalize (doomOp g th).E hs k = E at *
    generalize (doomOp g th).H hs k = hs' at *
    generalize (doomOp g th).S s hs k = s' at *
    go_enter Try.func29, Try.ntmps29
    go_wp2_with (go_at_call 53; refine hth.mono ?_; rintro e w' ⟨rfl, rfl⟩)
    refine hnow.mono ?_
    rintro e w1 ⟨rfl, hS1⟩
    have hT := htr w1 hS1
    clear htr hnow hS1
    go_wp2_with fail
    refine hT.mono ?_
    rintro e w3 ⟨rfl, v', HS⟩
    clear hT
    go_wp2
    go_ret
    exact ⟨rfl, v', HS.out⟩
  · simp only [if_true] at a1 a2 a3
    have htr : ∀ w1, St o its w1 → Calls Try.prog 55 #[.pointer (some ⟨t, 0, none⟩), .int .i64 k, .agg #[.int .i64 g, .int .i64 2, .int .i64 xsp, .int .i64 xth, .bool true, .int .i64 xwy], .agg #[.int .i64 g, .int .i64 2, .int .i64 xsp, .int .i64 xth, .bool true, .int .i64 xwy], .int .i64 4] ((w1.alloc (.cells #[.int .i64 g, .int .i64 2, .int .i64 xsp, .int .i64 xth, .bool true, .int .i64 xwy] 47)).alloc (.cells #[.int .i64 g, .int .i64 2, .int .i64 xsp, .int .i64 xth, .bool true, .int .i64 xwy] 47)) fun e w' => e = .returned (.int .i64 ((doomOp g th).E hs k)) ∧
        ∃ v', Hid (St o ((its.set i (meterI 115 mo ((doomOp g th).S s hs k) v')).set b (hdRowI r c mo 3 ((doomOp g th).H hs k))) w') := by
      intro w1 hS
      have hS2 := ((hS.box #[.int .i64 g, .int .i64 2, .int .i64 xsp, .int .i64 xth, .bool true, .int .i64 xwy] 47).box #[.int .i64 g, .int .i64 2, .int .i64 xsp, .int .i64 xth, .bool true, .int .i64 xwy] 47)
      refine (tabTrade_st hS2 (i + 2) (a + 2) (b + 2) hi ha hb (by omega) hw hn k ⟨g, 2, xsp, xth, true, xwy⟩ ⟨g, 2, xsp, xth, true, xwy⟩ 4).mono ?_
      rintro e w' ⟨h1, v', h2⟩
      rw [a1] at h1
      rw [a2, a3] at h2
      exact ⟨h1, v', h2.pop.pop⟩
    clear h a1 a2 a3
    generalize (doomOp g th).E hs k = E at *
    generalize (doomOp g th).H hs k = hs' at *
    generalize (doomOp g th).S s hs k = s' at *
    go_enter Try.func29, Try.ntmps29
    go_wp2_with (go_at_call 53; refine hth.mono ?_; rintro e w' ⟨rfl, rfl⟩)
    refine hnow.mono ?_
    rintro e w1 ⟨rfl, hS1⟩
    have hT := htr w1 hS1
    clear htr hnow hS1
    go_wp2_with fail
    refine hT.mono ?_
    rintro e w3 ⟨rfl, v', HS⟩
    clear hT
    go_wp2
    go_ret
    exact ⟨rfl, v', HS.out⟩

set_option maxRecDepth 100000 in
set_option maxHeartbeats 1000000 in
theorem tabFree_st {o w : World} {its : List It} (h : St o its w) (i a b : Nat) {t r c q : Nat} {mo : Option Nat} {s : Mt} {v : Value} {hs : List Hd} (hi : its[i]? = some (meterI 115 mo s v)) (ha : its[a]? = some (tabI t r q)) (hb : its[b]? = some (hdRowI r c mo 3 hs)) (hib : i ≠ b)
    {n N : Nat} (hw : s.within n) (hn : n ≤ 4611686018427) (hok : HsOk hs N) (k g : Int) :
    Calls Try.prog 33 #[.pointer (some ⟨t, 0, none⟩), .int .i64 k, .int .i64 g] w fun e w' => e = .returned (.int .i64 ((freeOp g).E hs k)) ∧
      ∃ v', St o ((its.set i (meterI 115 mo ((freeOp g).S s hs k) v')).set b (hdRowI r c mo 3 ((freeOp g).H hs k))) w' := by
  obtain ⟨a1, a2, a3⟩ := free_agree hok k g s
  have hnow := tabNow_st h a b ha hb k
  have hx := (nowAt_ok hok k).st
  generalize nowAt hs k = x at *
  obtain ⟨xgn, xsa, xsp, xth, xdm, xwy⟩ := x
  simp only [Hd.val] at *
  have hsa : xsa = 0 ∨ xsa = 1 ∨ xsa = 2 := by
    rcases hx with hx | hx | hx
    · exact .inl hx.1
    · exact .inr (.inl hx.1)
    · exact .inr (.inr hx.1)
  clear hx
  rcases hsa with rfl | rfl | rfl
  · have hm : max (0 : Int) 1 = 1 := by decide
    simp only [hm] at a1 a2 a3
    have htr : ∀ w1, St o its w1 → Calls Try.prog 55 #[.pointer (some ⟨t, 0, none⟩), .int .i64 k, .agg #[.int .i64 g, .int .i64 1, .int .i64 xsp, .int .i64 xth, .bool xdm, .int .i64 xwy], .agg #[.int .i64 g, .int .i64 0, .int .i64 0, .int .i64 0, .bool false, .int .i64 0], .int .i64 4] (w1.alloc (.cells #[.int .i64 g, .int .i64 1, .int .i64 xsp, .int .i64 xth, .bool xdm, .int .i64 xwy] 47)) fun e w' => e = .returned (.int .i64 ((freeOp g).E hs k)) ∧
        ∃ v', Hid (St o ((its.set i (meterI 115 mo ((freeOp g).S s hs k) v')).set b (hdRowI r c mo 3 ((freeOp g).H hs k))) w') := by
      intro w1 hS
      have hS2 := (hS.box #[.int .i64 g, .int .i64 1, .int .i64 xsp, .int .i64 xth, .bool xdm, .int .i64 xwy] 47)
      refine (tabTrade_st hS2 (i + 1) (a + 1) (b + 1) hi ha hb (by omega) hw hn k ⟨g, 1, xsp, xth, xdm, xwy⟩ ⟨g, 0, 0, 0, false, 0⟩ 4).mono ?_
      rintro e w' ⟨h1, v', h2⟩
      rw [a1] at h1
      rw [a2, a3] at h2
      exact ⟨h1, v', h2.pop⟩
    clear h a1 a2 a3
    generalize (freeOp g).E hs k = E at *
    generalize (freeOp g).H hs k = hs' at *
    generalize (freeOp g).S s hs k = s' at *
    go_enter Try.func33, Try.ntmps33
    go_wp2_with fail
    refine hnow.mono ?_
    rintro e w1 ⟨rfl, hS1⟩
    have hT := htr w1 hS1
    clear htr hnow hS1
    go_wp2_with fail
    refine hT.mono ?_
    rintro e w3 ⟨rfl, v', HS⟩
    clear hT
    go_wp2
    go_ret
    exact ⟨rfl, v', HS.out⟩
  · have hm : max (1 : Int) 1 = 1 := by decide
    simp only [hm] at a1 a2 a3
    have htr : ∀ w1, St o its w1 → Calls Try.prog 55 #[.pointer (some ⟨t, 0, none⟩), .int .i64 k, .agg #[.int .i64 g, .int .i64 1, .int .i64 xsp, .int .i64 xth, .bool xdm, .int .i64 xwy], .agg #[.int .i64 g, .int .i64 0, .int .i64 0, .int .i64 0, .bool false, .int .i64 0], .int .i64 4] (w1.alloc (.cells #[.int .i64 g, .int .i64 1, .int .i64 xsp, .int .i64 xth, .bool xdm, .int .i64 xwy] 47)) fun e w' => e = .returned (.int .i64 ((freeOp g).E hs k)) ∧
        ∃ v', Hid (St o ((its.set i (meterI 115 mo ((freeOp g).S s hs k) v')).set b (hdRowI r c mo 3 ((freeOp g).H hs k))) w') := by
      intro w1 hS
      have hS2 := (hS.box #[.int .i64 g, .int .i64 1, .int .i64 xsp, .int .i64 xth, .bool xdm, .int .i64 xwy] 47)
      refine (tabTrade_st hS2 (i + 1) (a + 1) (b + 1) hi ha hb (by omega) hw hn k ⟨g, 1, xsp, xth, xdm, xwy⟩ ⟨g, 0, 0, 0, false, 0⟩ 4).mono ?_
      rintro e w' ⟨h1, v', h2⟩
      rw [a1] at h1
      rw [a2, a3] at h2
      exact ⟨h1, v', h2.pop⟩
    clear h a1 a2 a3
    generalize (freeOp g).E hs k = E at *
    generalize (freeOp g).H hs k = hs' at *
    generalize (freeOp g).S s hs k = s' at *
    go_enter Try.func33, Try.ntmps33
    go_wp2_with fail
    refine hnow.mono ?_
    rintro e w1 ⟨rfl, hS1⟩
    have hT := htr w1 hS1
    clear htr hnow hS1
    go_wp2_with fail
    refine hT.mono ?_
    rintro e w3 ⟨rfl, v', HS⟩
    clear hT
    go_wp2
    go_ret
    exact ⟨rfl, v', HS.out⟩
  · have hm : max (2 : Int) 1 = 2 := by decide
    simp only [hm] at a1 a2 a3
    have htr : ∀ w1, St o its w1 → Calls Try.prog 55 #[.pointer (some ⟨t, 0, none⟩), .int .i64 k, .agg #[.int .i64 g, .int .i64 2, .int .i64 xsp, .int .i64 xth, .bool xdm, .int .i64 xwy], .agg #[.int .i64 g, .int .i64 0, .int .i64 0, .int .i64 0, .bool false, .int .i64 0], .int .i64 4] (w1.alloc (.cells #[.int .i64 g, .int .i64 2, .int .i64 xsp, .int .i64 xth, .bool xdm, .int .i64 xwy] 47)) fun e w' => e = .returned (.int .i64 ((freeOp g).E hs k)) ∧
        ∃ v', Hid (St o ((its.set i (meterI 115 mo ((freeOp g).S s hs k) v')).set b (hdRowI r c mo 3 ((freeOp g).H hs k))) w') := by
      intro w1 hS
      have hS2 := (hS.box #[.int .i64 g, .int .i64 2, .int .i64 xsp, .int .i64 xth, .bool xdm, .int .i64 xwy] 47)
      refine (tabTrade_st hS2 (i + 1) (a + 1) (b + 1) hi ha hb (by omega) hw hn k ⟨g, 2, xsp, xth, xdm, xwy⟩ ⟨g, 0, 0, 0, false, 0⟩ 4).mono ?_
      rintro e w' ⟨h1, v', h2⟩
      rw [a1] at h1
      rw [a2, a3] at h2
      exact ⟨h1, v', h2.pop⟩
    clear h a1 a2 a3
    generalize (freeOp g).E hs k = E at *
    generalize (freeOp g).H hs k = hs' at *
    generalize (freeOp g).S s hs k = s' at *
    go_enter Try.func33, Try.ntmps33
    go_wp2_with fail
    refine hnow.mono ?_
    rintro e w1 ⟨rfl, hS1⟩
    have hT := htr w1 hS1
    clear htr hnow hS1
    go_wp2_with fail
    refine hT.mono ?_
    rintro e w3 ⟨rfl, v', HS⟩
    clear hT
    go_wp2
    go_ret
    exact ⟨rfl, v', HS.out⟩

/-- What Word and Put answer, note and leave. -/
def wordE (n : Nat) (i j : Int) : Int := match wordAt n i j with | none => 2 | some _ => 0
def wordR (ws : List Int) (n : Nat) (i j : Int) : Int := match wordAt n i j with | none => 0 | some k => ws.getD k 0
def wordS (s : Mt) (n : Nat) (i j : Int) : Mt := match wordAt n i j with | none => s | some k => s.note 4 k 1 true
def putS (s : Mt) (n : Nat) (i j : Int) : Mt := match wordAt n i j with | none => s | some k => s.note 4 k 2 true
def putW (ws : List Int) (n : Nat) (i j x : Int) : List Int := match wordAt n i j with | none => ws | some k => ws.set k x
theorem wordS_within {s : Mt} {n : Nat} (h : s.within n) (m : Nat) (i j : Int) : (wordS s m i j).within (n + 1) := by
  unfold wordS
  split
  · exact h.more (Nat.le_succ _)
  · exact h.note _ _ _ _
theorem putS_within {s : Mt} {n : Nat} (h : s.within n) (m : Nat) (i j : Int) : (putS s m i j).within (n + 1) := by
  unfold putS
  split
  · exact h.more (Nat.le_succ _)
  · exact h.note _ _ _ _
theorem putW_len (ws : List Int) (n : Nat) (i j x : Int) : (putW ws n i j x).length = ws.length := by
  unfold putW
  split
  · rfl
  · simp
theorem word_cases (n : Nat) (i j : Int) : (∃ a b : Nat, i = a ∧ j = b ∧ a < n ∧ b < 2 ∧ hasWd n i j = true ∧ wordAt n i j = some (a * 2 + b)) ∨ (hasWd n i j = false ∧ wordAt n i j = none) := by
  by_cases h : 0 ≤ i ∧ i < n ∧ 0 ≤ j ∧ j < 2
  · left
    obtain ⟨h1, h2, h3, h4⟩ := h
    obtain ⟨a, rfl⟩ := Int.eq_ofNat_of_zero_le h1
    obtain ⟨b, rfl⟩ := Int.eq_ofNat_of_zero_le h3
    refine ⟨a, b, rfl, rfl, by omega, by omega, ?_, ?_⟩
    · simp only [hasWd, hasSlot, Bool.and_eq_true, decide_eq_true_eq]
      exact ⟨⟨⟨h1, h2⟩, h3⟩, h4⟩
    · unfold wordAt
      rw [if_pos ⟨h1, h2, h3, h4⟩]
      rfl
  · right
    refine ⟨?_, ?_⟩
    · cases hx : hasWd n i j
      · rfl
      · simp only [hasWd, hasSlot, Bool.and_eq_true, decide_eq_true_eq] at hx
        exact absurd ⟨hx.1.1.1, hx.1.1.2, hx.1.2, hx.2⟩ h
    · unfold wordAt
      rw [if_neg h]

set_option maxRecDepth 100000 in
set_option maxHeartbeats 1000000 in
theorem tabPut_st {o w : World} {its : List It} (h : St o its w) (i a b d : Nat) {t r c q f : Nat} {mo : Option Nat} {s : Mt} {v : Value} {hs : List Hd} {ws : List Int} (hi : its[i]? = some (meterI 115 mo s v)) (ha : its[a]? = some (tabI t r q)) (hb : its[b]? = some (hdRowI r c mo 3 hs)) (hd : its[d]? = some (wdRowI q f mo 4 ws)) (hid : i ≠ d) (hl : ws.length = hs.length * 2)
    {n : Nat} (hw : s.within n) (hn : n ≤ 4611686018427) (k j : Int) (x : Int) :
    Calls Try.prog 80 #[.pointer (some ⟨t, 0, none⟩), .int .i64 k, .int .i64 j, .int .u64 x] w fun e w' => e = .returned (.int .i64 (wordE hs.length k j)) ∧ ∃ v', St o ((its.set i (meterI 115 mo (putS s hs.length k j) v')).set d (wdRowI q f mo 4 (putW ws hs.length k j x))) w' := by
  have hh := tabHasWord_st h a b ha hb k j
  unfold wordE putS putW
  rcases word_cases hs.length k j with ⟨k', j', rfl, rfl, hk, hj, e1, e2⟩ | ⟨e1, e2⟩
  · simp only [e2]
    rw [e1] at hh
    have c1 : w.cell? ⟨t, 1, none⟩ = some (.pointer (some ⟨q, 0, none⟩)) := h.cell a ha 1
    have hin : k' * 2 + j' < ws.length := by omega
    have hle : (hs.length : Int) ≤ 4096 := by have := (show HdRow w r c mo 3 hs from h.get b hb).small; omega
    have i0 : (0 : Int) ≤ (k' : Int) := Int.natCast_nonneg _
    have i1 : (k' : Int) < (hs.length : Int) := by omega
    have i2 : (0 : Int) ≤ (j' : Int) := Int.natCast_nonneg _
    have i3 : (j' : Int) < 2 := by omega
    have ec : ((k' * 2 + j' : Nat) : Int) = (k' : Int) * 2 + (j' : Int) := by omega
    have hc : Calls Try.prog 91 #[.pointer (some ⟨q, 0, none⟩), .int .i64 ((k' : Int) * 2 + (j' : Int)), .int .u64 x] w fun e w' => e = .returned (.int .i64 0) ∧ ∃ v', Hid (St o ((its.set i (meterI 115 mo (s.note 4 ((k' * 2 + j' : Nat) : Int) 2 true) v')).set d (wdRowI q f mo 4 (ws.set (k' * 2 + j') x))) w') := by
      rw [← ec]
      exact wdStore_st h i d hi hd hid hw hn (k' * 2 + j') hin x
    clear h
    go_enter Try.func80, Try.ntmps80
    go_wp2_with (first | (go_at_call 90; refine hh.mono ?_; rintro e w' ⟨rfl, rfl⟩) | (go_at_call 91; refine hc.mono ?_; rintro e w1 ⟨rfl, v', hS⟩))
    go_ret
    exact ⟨rfl, v', hS.out⟩
  · simp only [e2]
    rw [e1] at hh
    have HS : Hid (St o its w) := h
    clear h
    go_enter Try.func80, Try.ntmps80
    go_wp2_with (go_at_call 90; refine hh.mono ?_; rintro e w' ⟨rfl, rfl⟩)
    go_ret
    refine ⟨rfl, v, ?_⟩
    rw [set_back hi, set_back hd]
    exact HS.out

end Go.Proofs.Ytajfjkhbimehbaa
