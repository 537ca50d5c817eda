/- The document's begin: how it lies in memory, and what its calls do. -/
import Derived.Test.YtpjhljfcoejndaaGreatLate
import Derived.Test.YtpjhljfcoejndaaGreatRSp
import Derived.BigQuiet
namespace Go.Proofs.YtpjhljfcoejndaaGreat
open Go.RowKit
set_option linter.unusedVariables false
set_option linter.unusedSimpArgs false
attribute [local go_sem ↓] Go.wp_at_zero Go.wp_at_succ

/-- The document's begin is told by the code's. -/
def rgI (k s : Nat) (b : Bg) : It := boxI k #[.pointer (some ⟨s, 0, none⟩), .int .i64 b.th, .int .i64 b.sp, .int .i64 b.sl, .int .i64 b.wd, .int .i64 b.gn, .bool (b.st == 3), .int .i64 b.e] 93
/-- What a begin may be, among n slots. -/
def BFit (n : Nat) (b : Bg) : Prop :=
  (b.st = 0 ∧ b.gn = 0 ∧ b.wd = 0 ∧ 0 ≤ b.sl ∧ b.sl < n) ∨ (b.st = 1 ∧ 1 ≤ b.gn ∧ 0 ≤ b.wd ∧ b.wd < 2 ∧ 0 ≤ b.sl ∧ b.sl ≤ n) ∨ (b.st = 2 ∧ 1 ≤ b.gn ∧ b.wd = 2 ∧ 0 ≤ b.sl ∧ b.sl ≤ n) ∨ (b.st = 3 ∧ 0 ≤ b.wd ∧ b.wd ≤ 2 ∧ 0 ≤ b.sl ∧ b.sl ≤ n)
theorem BFit.fine {n : Nat} {b : Bg} (h : BFit n b) (h8 : n ≤ 8) : b.fine := by
  rcases h with h | h | h | h <;> exact ⟨by omega, by omega, by omega, by omega⟩
theorem BFit.new {n : Nat} (h : 1 ≤ n) (th sp : Int) : BFit n (Bg.new th sp) := .inl ⟨rfl, rfl, rfl, Int.le_refl _, by show (0 : Int) < n; omega⟩
theorem claimR_pos {hs : List Hd} {k : Nat} (ok : HsOk hs k) {i t : Int} (h : (claimOp t).E hs i = 0) : 1 ≤ claimR hs i t := by
  unfold HOp.E claimOp at h
  unfold claimR
  cases ht : isTh t
  · simp [ht] at h
  · simp only [ht, if_true] at h ⊢
    cases hh : headAt hs i with
    | none => simp [hh] at h
    | some x =>
      simp only [hh] at h ⊢
      have := (ok x (headAt_mem hh)).g0
      split at h
      · rename_i hx
        rw [if_pos hx]
        omega
      · simp at h
theorem BFit.next {z : SSt} {k : Nat} {b : Bg} (h : BFit z.hs.length b) (ok : HsOk z.hs k) : BFit z.hs.length (b.next z) := by
  unfold Bg.next
  rcases h with ⟨a, b1, b2, b3, b4⟩ | ⟨a, b1, b2, b3, b4, b5⟩ | ⟨a, b1, b2, b3, b4⟩ | ⟨a, b1, b2, b3, b4⟩
  · rw [if_pos a]
    unfold Bg.claim
    split
    · rename_i hE
      exact .inr (.inl ⟨rfl, claimR_pos ok hE, by show 0 ≤ b.wd; omega, by show b.wd < 2; omega, b3, by show b.sl ≤ _; omega⟩)
    · split
      · rename_i hl
        exact .inr (.inr (.inr ⟨rfl, by show 0 ≤ b.wd; omega, by show b.wd ≤ 2; omega, by show 0 ≤ b.sl + 1; omega, by show b.sl + 1 ≤ _; omega⟩))
      · exact .inl ⟨a, b1, b2, by show 0 ≤ b.sl + 1; omega, by show b.sl + 1 < _; omega⟩
  · rw [if_neg (by omega), if_pos a]
    unfold Bg.clear
    split
    · exact .inr (.inr (.inl ⟨rfl, b1, by show b.wd + 1 = 2; omega, b4, b5⟩))
    · exact .inr (.inl ⟨a, b1, by show 0 ≤ b.wd + 1; omega, by show b.wd + 1 < 2; omega, b4, b5⟩)
  · rw [if_neg (by omega), if_neg (by omega), if_pos a]
    exact .inr (.inr (.inr ⟨rfl, by show 0 ≤ b.wd; omega, by show b.wd ≤ 2; omega, b3, b4⟩))
  · rw [if_neg (by omega), if_neg (by omega), if_neg (by omega)]
    exact .inr (.inr (.inr ⟨a, b1, b2, b3, b4⟩))

section
variable {o w : World} {its : List It} {B : Bd} {c : Cfg} {z : SSt} {v u : Value} {k s : Nat} {b : Bg}
theorem rgCell (h : St o its w) (j : Nat) (hj : its[j]? = some (rgI k s b)) (n : Nat) : w.cell? ⟨k, n, none⟩ = (#[.pointer (some ⟨s, 0, none⟩), .int .i64 b.th, .int .i64 b.sp, .int .i64 b.sl, .int .i64 b.wd, .int .i64 b.gn, .bool (b.st == 3), .int .i64 b.e] : Array Value)[n]? := h.cell j hj n
theorem rgFrozen (h : St o its w) (j : Nat) (hj : its[j]? = some (rgI k s b)) (n : Nat) : w.frozen? ⟨k, n, none⟩ = false := h.frozen j hj n

set_option maxRecDepth 100000 in
theorem rgNew_out (p : Value) (th sp : Int) (hn : ¬ (1 ≤ th ∧ th ≤ 8 ∧ 1 ≤ sp)) (w : World) :
    Calls Tryz.prog 10 #[p, .int .i64 th, .int .i64 sp] w fun e w' => e = .returned (.tuple #[.pointer none, .int .i64 1]) ∧ w' = w := by
  have ht := refGthread th w
  by_cases h1 : gTh th = true
  · rw [h1] at ht
    simp only [gTh, Bool.and_eq_true, decide_eq_true_eq] at h1
    have h3 : sp < 1 := by omega
    clear hn
    go_enter Tryz.func10, Tryz.ntmps10
    go_wp2_with (go_at_call 32; refine ht.mono ?_; rintro e w' ⟨rfl, rfl⟩)
    go_ret2
    exact ⟨rfl, rfl⟩
  · rw [show gTh th = false from by simpa using h1] at ht
    clear hn h1
    go_enter Tryz.func10, Tryz.ntmps10
    go_wp2_with (go_at_call 32; refine ht.mono ?_; rintro e w' ⟨rfl, rfl⟩)
    go_ret2
    exact ⟨rfl, rfl⟩

set_option maxRecDepth 100000 in
theorem rgNew_st (h : St o its w) (th sp : Int) (hn : 1 ≤ th ∧ th ≤ 8 ∧ 1 ≤ sp) :
    Calls Tryz.prog 10 #[rpp B, .int .i64 th, .int .i64 sp] w fun e w' => ∃ k, e = .returned (.tuple #[.pointer (some ⟨k, 0, none⟩), .int .i64 0]) ∧ St o (rgI k B.sp (Bg.new th sp) :: its) w' := by
  have HS : Hid (St o (rgI w.heap.size B.sp (Bg.new th sp) :: its) (w.alloc (.cells #[.pointer (some ⟨B.sp, 0, none⟩), .int .i64 th, .int .i64 sp, .int .i64 0, .int .i64 0, .int .i64 0, .bool false, .int .i64 0] 93))) := h.box #[.pointer (some ⟨B.sp, 0, none⟩), .int .i64 th, .int .i64 sp, .int .i64 0, .int .i64 0, .int .i64 0, .bool false, .int .i64 0] 93
  have ht := refGthread th w
  rw [show gTh th = true from by simp [gTh]; omega] at ht
  have n3 : ¬ sp < 1 := by omega
  clear h hn
  unfold rpp at *
  go_enter Tryz.func10, Tryz.ntmps10
  go_wp2_with (go_at_call 32; refine ht.mono ?_; rintro e w' ⟨rfl, rfl⟩)
  go_ret2
  exact ⟨_, rfl, HS.out⟩

set_option maxRecDepth 100000 in
theorem rgSlot (h : St o its w) (j : Nat) (hj : its[j]? = some (rgI k s b)) :
    Calls Tryz.prog 52 #[.pointer (some ⟨k, 0, none⟩)] w fun e w' => e = .returned (.tuple #[.int .i64 b.slotA, .int .i64 b.slotB, .int .i64 b.slotE]) ∧ ∃ q, w' = w.drewN q := by
  have c3 : w.cell? ⟨k, 3, none⟩ = some (.int .i64 b.sl) := rgCell h j hj 3
  have c5 : w.cell? ⟨k, 5, none⟩ = some (.int .i64 b.gn) := rgCell h j hj 5
  have c6 : w.cell? ⟨k, 6, none⟩ = some (.bool (b.st == 3)) := rgCell h j hj 6
  have c7 : w.cell? ⟨k, 7, none⟩ = some (.int .i64 b.e) := rgCell h j hj 7
  clear h hj
  unfold Bg.slotA Bg.slotB Bg.slotE
  obtain ⟨th, sp, st, sl, gn, wd, e⟩ := b
  simp only at *
  by_cases h3 : st = 3
  · rw [show (st == 3) = true from by simp [h3]] at c6
    by_cases h0 : e = 0
    · subst h0
      rw [if_pos ⟨h3, rfl⟩, if_pos ⟨h3, rfl⟩, if_pos h3]
      clear h3
      go_enter Tryz.func52, Tryz.ntmps52
      go_wp2_with fail
      go_quiet (fail)
      go_wp2
      exact bodyPost_ret (v := .tuple #[.int .i64 sl, .int .i64 gn, .int .i64 0]) (by simp [results, Tryz.results52, go_sem]) rfl ⟨rfl, _, rfl⟩
    · have e0 : (e != 0) = true := by simpa using h0
      rw [if_neg (fun x => h0 x.2), if_neg (fun x => h0 x.2), if_pos h3]
      clear h3 h0
      go_enter Tryz.func52, Tryz.ntmps52
      go_wp2_with fail
      go_quiet (fail)
      go_wp2
      exact bodyPost_ret (v := .tuple #[.int .i64 0, .int .i64 0, .int .i64 e]) (by simp [results, Tryz.results52, go_sem]) rfl ⟨rfl, _, rfl⟩
  · rw [show (st == 3) = false from by simpa using h3] at c6
    rw [if_neg (fun x => h3 x.1), if_neg (fun x => h3 x.1), if_neg h3]
    clear h3
    go_enter Tryz.func52, Tryz.ntmps52
    go_wp2
    exact bodyPost_ret (v := .tuple #[.int .i64 0, .int .i64 0, .int .i64 4]) (by simp [results, Tryz.results52, go_sem]) rfl ⟨rfl, 0, rfl⟩

set_option maxRecDepth 100000 in
set_option maxHeartbeats 2000000 in
theorem rgStep0 (h : St o its w) (i j : Nat) (hij : i ≠ j) (hi : its[i]? = some (rpI B c z v u)) (hj : its[j]? = some (rgI k B.sp b)) {n : Nat} (ok : z.ok c n) (hn : n ≤ 4611686018427) (hb : BFit z.hs.length b) (a : b.st = 0) (g0 : b.gn = 0) :
    Calls Tryz.prog 12 #[.pointer (some ⟨k, 0, none⟩)] w fun r w' => r = .returned (.int .i64 b.ans) ∧ ∃ v', St o ((its.set i (rpI B c (z.goes b) v' u)).set j (rgI k B.sp (b.next z))) w' := by
  have c0 : w.cell? ⟨k, 0, none⟩ = some (.pointer (some ⟨B.sp, 0, none⟩)) := rgCell h j hj 0
  have c1 : w.cell? ⟨k, 1, none⟩ = some (.int .i64 b.th) := rgCell h j hj 1
  have c2 : w.cell? ⟨k, 2, none⟩ = some (.int .i64 b.sp) := rgCell h j hj 2
  have c3 : w.cell? ⟨k, 3, none⟩ = some (.int .i64 b.sl) := rgCell h j hj 3
  have c4 : w.cell? ⟨k, 4, none⟩ = some (.int .i64 b.wd) := rgCell h j hj 4
  have c5 : w.cell? ⟨k, 5, none⟩ = some (.int .i64 b.gn) := rgCell h j hj 5
  have c6 : w.cell? ⟨k, 6, none⟩ = some (.bool (b.st == 3)) := rgCell h j hj 6
  have p9 : w.cell? ⟨B.sp, 9, none⟩ = some (.pointer (some ⟨B.y, 0, none⟩)) := rpCell h i hi 9
  have hfine := hb.fine ok.h8
  obtain ⟨s0, s1, w0, w1⟩ := hfine
  unfold Bg.ans SSt.goes Bg.next
  rw [if_pos (.inl a), if_pos a, if_pos a]
  rw [show (b.st == 3) = false from by simp [a]] at c6
  rw [g0] at c5
  have hlen : ((z.op (claimOp b.th) b.sl).hs.length : Int) = c.sl := by rw [show (z.op (claimOp b.th) b.sl).hs.length = z.hs.length from HOp.len _ _ _]; exact ok.hl
  have hlen2 : (z.hs.length : Int) = c.sl := ok.hl
  have hq : Calls Tryz.prog 37 #[.pointer (some ⟨B.y, 0, none⟩), .int .i64 b.sl, .int .i64 b.th] w.drew fun e w' => e = .returned (.tuple #[.int .i64 (claimR z.hs b.sl b.th), .int .i64 ((claimOp b.th).E z.hs b.sl)]) ∧ (w'.cell? ⟨k, 0, none⟩ = some (.pointer (some ⟨B.sp, 0, none⟩)) ∧ w'.cell? ⟨B.sp, 9, none⟩ = some (.pointer (some ⟨B.y, 0, none⟩)) ∧ w'.cell? ⟨k, 3, none⟩ = some (.int .i64 b.sl) ∧ w'.cell? ⟨k, 1, none⟩ = some (.int .i64 b.th)) ∧ ∃ v', Hid (St o (its.set i (rpI B c (z.op (claimOp b.th) b.sl) v' u)) w') := by
    refine (rpClaim h.drew i hi ok hn b.sl b.th).mono ?_
    rintro e w' ⟨he, v', h'⟩
    have hj' := set_other (A := rpI B c (z.op (claimOp b.th) b.sl) v' u) hj hij
    exact ⟨he, ⟨rgCell h' j hj' 0, rpCell h' i (set_self hi) 9, rgCell h' j hj' 3, rgCell h' j hj' 1⟩, v', h'⟩
  have HJ : Hid (∀ v', (its.set i (rpI B c (z.op (claimOp b.th) b.sl) v' u))[j]? = some (rgI k B.sp b)) := fun v' => set_other hj hij
  have HI : Hid (∀ v', (its.set i (rpI B c (z.op (claimOp b.th) b.sl) v' u))[i]? = some (rpI B c (z.op (claimOp b.th) b.sl) v' u)) := fun v' => set_self hi
  have HIJ : Hid (i ≠ j) := hij
  clear h hi hj ok hij c2 c4 hlen
  rw [hlen2]
  generalize (claimOp b.th).E z.hs b.sl = E at *
  generalize claimR z.hs b.sl b.th = R at *
  generalize z.op (claimOp b.th) b.sl = z' at *
  clear hlen2
  obtain ⟨th, sp, st, sl, gn, wd, er⟩ := b
  simp only at *
  subst a
  by_cases hE : E = 0
  · subst hE
    go_enter Tryz.func12, Tryz.ntmps12
    go_upto_region 6 with fail
    go_region_held3 (fun W => W.cell? ⟨k, 0, none⟩ = some (.pointer (some ⟨B.sp, 0, none⟩)) ∧ W.cell? ⟨B.sp, 9, none⟩ = some (.pointer (some ⟨B.y, 0, none⟩)) ∧ W.cell? ⟨k, 3, none⟩ = some (.int .i64 sl) ∧ W.cell? ⟨k, 1, none⟩ = some (.int .i64 th)) (first | go_keep | exact rS)
      (first | (go_at_call 37; refine hq.mono ?_; rintro e w2 ⟨rfl, rS, v', HS⟩))
    clear hq c0 c1 c3 c5 c6 p9 rS
    have f5 := rgFrozen HS.out j (HJ.out v') 5
    have d5 : w2.cell? ⟨k, 5, none⟩ = some (.int .i64 gn) := rgCell HS.out j (HJ.out v') 5
    have HT : Hid (St o ((its.set i (rpI B c z' v' u)).set j (rgI k B.sp ⟨th, sp, 1, sl, R, wd, er⟩)) (w2.setCell ⟨k, 5, none⟩ (.int .i64 R))) := HS.out.write j (HJ.out v') 5 (.int .i64 R)
    clear HS HJ HI
    go_wp2
    go_ret
    refine ⟨rfl, v', ?_⟩
    rw [Bg.claim, if_pos rfl]
    exact HT.out
  · have hE1 : (E == 0) = false := by simpa using hE
    go_enter Tryz.func12, Tryz.ntmps12
    go_upto_region 6 with fail
    go_region_held3 (fun W => W.cell? ⟨k, 0, none⟩ = some (.pointer (some ⟨B.sp, 0, none⟩)) ∧ W.cell? ⟨B.sp, 9, none⟩ = some (.pointer (some ⟨B.y, 0, none⟩)) ∧ W.cell? ⟨k, 3, none⟩ = some (.int .i64 sl) ∧ W.cell? ⟨k, 1, none⟩ = some (.int .i64 th)) (first | go_keep | exact rS)
      (first | (go_at_call 37; refine hq.mono ?_; rintro e w2 ⟨rfl, rS, v', HS⟩))
    obtain ⟨d0, d9, d3, d1⟩ := rS
    clear hq c0 c1 c3 c5 c6 p9
    have f3 := rgFrozen HS.out j (HJ.out v') 3
    have h3 : St o ((its.set i (rpI B c z' v' u)).set j (rgI k B.sp ⟨th, sp, 0, sl + 1, gn, wd, er⟩)) (w2.setCell ⟨k, 3, none⟩ (.int .i64 (sl + 1))) := HS.out.write j (HJ.out v') 3 (.int .i64 (sl + 1))
    go_upto_region 11 with fail
    generalize w2.setCell ⟨k, 3, none⟩ (.int .i64 (sl + 1)) = w3 at *
    have HJ3 : Hid (((its.set i (rpI B c z' v' u)).set j (rgI k B.sp ⟨th, sp, 0, sl + 1, gn, wd, er⟩))[j]? = some (rgI k B.sp ⟨th, sp, 0, sl + 1, gn, wd, er⟩)) := set_self (HJ.out v')
    have HI3 : Hid (((its.set i (rpI B c z' v' u)).set j (rgI k B.sp ⟨th, sp, 0, sl + 1, gn, wd, er⟩))[i]? = some (rpI B c z' v' u)) := set_other (HI.out v') (Ne.symm HIJ.out)
    have g0' : w3.cell? ⟨k, 0, none⟩ = some (.pointer (some ⟨B.sp, 0, none⟩)) := rgCell h3 j HJ3.out 0
    have g3 : w3.cell? ⟨k, 3, none⟩ = some (.int .i64 (sl + 1)) := rgCell h3 j HJ3.out 3
    have g1 : w3.cell? ⟨B.sp, 1, none⟩ = some (.int .i64 c.sl) := rpCell h3 i HI3.out 1
    have HS3 : Hid (∀ q, St o ((its.set i (rpI B c z' v' u)).set j (rgI k B.sp ⟨th, sp, 0, sl + 1, gn, wd, er⟩)) (w3.drewN q)) := fun q => h3.calm ((Kept.refl _ w3).drewN q)
    have f6 : ∀ q, (w3.drewN q).frozen? ⟨k, 6, none⟩ = false := fun q => rgFrozen (HS3.out q) j HJ3.out 6
    have f7 : ∀ q, (w3.drewN q).frozen? ⟨k, 7, none⟩ = false := fun q => rgFrozen (HS3.out q) j HJ3.out 7
    have e6 : ∀ q, (w3.drewN q).cell? ⟨k, 6, none⟩ = some (.bool false) := fun q => rgCell (HS3.out q) j HJ3.out 6
    have e7 : ∀ q, (w3.drewN q).cell? ⟨k, 7, none⟩ = some (.int .i64 er) := fun q => rgCell (HS3.out q) j HJ3.out 7
    clear h3 HS HJ HI d0 d1 d3 d9 f3
    by_cases hlast : sl + 1 = c.sl
    · have he : ((sl + 1 : Int) == c.sl) = true := by simpa using hlast
      have HT : Hid (∀ q, St o ((its.set i (rpI B c z' v' u)).set j (rgI k B.sp ⟨th, sp, 3, sl + 1, gn, wd, 6⟩)) (((w3.drewN q).setCell ⟨k, 6, none⟩ (.bool true)).setCell ⟨k, 7, none⟩ (.int .i64 6))) := by
        intro q
        have h4 := ((HS3.out q).write j HJ3.out 6 (.bool true)).write j (set_self HJ3.out) 7 (.int .i64 6)
        rw [set_same, set_same] at h4
        exact h4
      clear HS3 HJ3 HI3
      go_quiet (fail)
      clear g0' g3 g1
      go_wp2
      go_ret
      refine ⟨rfl, v', ?_⟩
      rw [Bg.claim, if_neg hE, if_pos hlast]
      exact HT.out _
    · have he : ((sl + 1 : Int) == c.sl) = false := by simpa using hlast
      clear HJ3 HI3 f6 f7 e6 e7
      go_quiet (fail)
      clear g0' g3 g1
      go_wp2
      go_ret
      refine ⟨rfl, v', ?_⟩
      rw [Bg.claim, if_neg hE, if_neg hlast]
      exact HS3.out _


set_option maxRecDepth 100000 in
set_option maxHeartbeats 2000000 in
theorem rgStep1 (h : St o its w) (i j : Nat) (hij : i ≠ j) (hi : its[i]? = some (rpI B c z v u)) (hj : its[j]? = some (rgI k B.sp b)) {n : Nat} (ok : z.ok c n) (hn : n ≤ 4611686018427) (hb : BFit z.hs.length b) (a : b.st = 1) (g0 : 1 ≤ b.gn) (g2 : b.wd < 2) :
    Calls Tryz.prog 12 #[.pointer (some ⟨k, 0, none⟩)] w fun r w' => r = .returned (.int .i64 b.ans) ∧ ∃ v', St o ((its.set i (rpI B c (z.goes b) v' u)).set j (rgI k B.sp (b.next z))) w' := by
  have c0 : w.cell? ⟨k, 0, none⟩ = some (.pointer (some ⟨B.sp, 0, none⟩)) := rgCell h j hj 0
  have c1 : w.cell? ⟨k, 1, none⟩ = some (.int .i64 b.th) := rgCell h j hj 1
  have c2 : w.cell? ⟨k, 2, none⟩ = some (.int .i64 b.sp) := rgCell h j hj 2
  have c3 : w.cell? ⟨k, 3, none⟩ = some (.int .i64 b.sl) := rgCell h j hj 3
  have c4 : w.cell? ⟨k, 4, none⟩ = some (.int .i64 b.wd) := rgCell h j hj 4
  have c5 : w.cell? ⟨k, 5, none⟩ = some (.int .i64 b.gn) := rgCell h j hj 5
  have c6 : w.cell? ⟨k, 6, none⟩ = some (.bool (b.st == 3)) := rgCell h j hj 6
  have p9 : w.cell? ⟨B.sp, 9, none⟩ = some (.pointer (some ⟨B.y, 0, none⟩)) := rpCell h i hi 9
  have hfine := hb.fine ok.h8
  obtain ⟨s0, s1, w0, w1⟩ := hfine
  unfold Bg.ans SSt.goes Bg.next
  have n0 : ¬ b.st = 0 := by omega
  rw [if_pos (.inr (.inl a)), if_neg n0, if_neg n0, if_pos a, if_pos a]
  rw [show (b.st == 3) = false from by simp [a]] at c6
  have hg : (b.gn == 0) = false := by simp; omega
  have hq : Calls Tryz.prog 38 #[.pointer (some ⟨B.y, 0, none⟩), .int .i64 b.sl, .int .i64 b.wd, .int .u64 0] w.drew fun e w' => e = .returned (.int .i64 (wordE z.hs.length b.sl b.wd)) ∧ (w'.cell? ⟨k, 0, none⟩ = some (.pointer (some ⟨B.sp, 0, none⟩)) ∧ w'.cell? ⟨B.sp, 9, none⟩ = some (.pointer (some ⟨B.y, 0, none⟩)) ∧ w'.cell? ⟨k, 3, none⟩ = some (.int .i64 b.sl) ∧ w'.cell? ⟨k, 4, none⟩ = some (.int .i64 b.wd)) ∧ ∃ v', Hid (St o (its.set i (rpI B c (z.put b.sl b.wd 0) v' u)) w') := by
    refine (rpPut h.drew i hi ok hn b.sl b.wd 0).mono ?_
    rintro e w' ⟨he, v', h'⟩
    have hj' := set_other (A := rpI B c (z.put b.sl b.wd 0) v' u) hj hij
    exact ⟨he, ⟨rgCell h' j hj' 0, rpCell h' i (set_self hi) 9, rgCell h' j hj' 3, rgCell h' j hj' 4⟩, v', h'⟩
  have HJ : Hid (∀ v', (its.set i (rpI B c (z.put b.sl b.wd 0) v' u))[j]? = some (rgI k B.sp b)) := fun v' => set_other hj hij
  clear h hi hj ok hij c1 c2 n0
  generalize wordE z.hs.length b.sl b.wd = E at *
  generalize z.put b.sl b.wd 0 = z' at *
  obtain ⟨th, sp, st, sl, gn, wd, er⟩ := b
  simp only at *
  subst a
  go_enter Tryz.func12, Tryz.ntmps12
  go_upto_region 15 with fail
  go_region_held3 (fun W => W.cell? ⟨k, 0, none⟩ = some (.pointer (some ⟨B.sp, 0, none⟩)) ∧ W.cell? ⟨B.sp, 9, none⟩ = some (.pointer (some ⟨B.y, 0, none⟩)) ∧ W.cell? ⟨k, 3, none⟩ = some (.int .i64 sl) ∧ W.cell? ⟨k, 4, none⟩ = some (.int .i64 wd)) (first | go_keep | exact rS)
    (first | (go_at_call 38; refine hq.mono ?_; rintro e w2 ⟨rfl, rS, v', HS⟩))
  obtain ⟨d0, d9, d3, d4⟩ := rS
  clear hq c0 c3 c4 c5 c6 p9 d0 d9 d3
  have f4 := rgFrozen HS.out j (HJ.out v') 4
  have HT : Hid (St o ((its.set i (rpI B c z' v' u)).set j (rgI k B.sp (Bg.clear ⟨th, sp, 1, sl, gn, wd, er⟩))) (w2.setCell ⟨k, 4, none⟩ (.int .i64 (wd + 1)))) := by
    have h2 := HS.out.write j (HJ.out v') 4 (.int .i64 (wd + 1))
    have e3 : ((if wd + 1 = 2 then (2 : Int) else 1) == 3) = false := by split <;> rfl
    have : rgI k B.sp (Bg.clear ⟨th, sp, 1, sl, gn, wd, er⟩) = boxI k (#[.pointer (some ⟨B.sp, 0, none⟩), .int .i64 th, .int .i64 sp, .int .i64 sl, .int .i64 (wd + 1), .int .i64 gn, .bool false, .int .i64 er]) 93 := by
      simp only [rgI, Bg.clear]
      rw [e3]
    rw [this]
    exact h2
  clear HS HJ
  go_wp2
  go_ret
  exact ⟨rfl, v', HT.out⟩


set_option maxRecDepth 100000 in
set_option maxHeartbeats 2000000 in
theorem rgStep3 (h : St o its w) (i j : Nat) (hij : i ≠ j) (hi : its[i]? = some (rpI B c z v u)) (hj : its[j]? = some (rgI k B.sp b)) {n : Nat} (ok : z.ok c n) (hn : n ≤ 4611686018427) (hb : BFit z.hs.length b) (a : b.st = 3) :
    Calls Tryz.prog 12 #[.pointer (some ⟨k, 0, none⟩)] w fun r w' => r = .returned (.int .i64 b.ans) ∧ ∃ v', St o ((its.set i (rpI B c (z.goes b) v' u)).set j (rgI k B.sp (b.next z))) w' := by
  have c0 : w.cell? ⟨k, 0, none⟩ = some (.pointer (some ⟨B.sp, 0, none⟩)) := rgCell h j hj 0
  have c1 : w.cell? ⟨k, 1, none⟩ = some (.int .i64 b.th) := rgCell h j hj 1
  have c2 : w.cell? ⟨k, 2, none⟩ = some (.int .i64 b.sp) := rgCell h j hj 2
  have c3 : w.cell? ⟨k, 3, none⟩ = some (.int .i64 b.sl) := rgCell h j hj 3
  have c4 : w.cell? ⟨k, 4, none⟩ = some (.int .i64 b.wd) := rgCell h j hj 4
  have c5 : w.cell? ⟨k, 5, none⟩ = some (.int .i64 b.gn) := rgCell h j hj 5
  have c6 : w.cell? ⟨k, 6, none⟩ = some (.bool (b.st == 3)) := rgCell h j hj 6
  have p9 : w.cell? ⟨B.sp, 9, none⟩ = some (.pointer (some ⟨B.y, 0, none⟩)) := rpCell h i hi 9
  have hfine := hb.fine ok.h8
  obtain ⟨s0, s1, w0, w1⟩ := hfine
  unfold Bg.ans SSt.goes Bg.next
  have n0 : ¬ b.st = 0 := by omega
  have n1 : ¬ b.st = 1 := by omega
  have n2 : ¬ b.st = 2 := by omega
  rw [if_neg (fun x => x.elim n0 (fun x => x.elim n1 n2)), if_neg n0, if_neg n0, if_neg n1, if_neg n1, if_neg n2, if_neg n2]
  rw [show (b.st == 3) = true from by simp [a]] at c6
  have HT : Hid (St o ((its.set i (rpI B c z v u)).set j (rgI k B.sp b)) w) := by
    rw [set_back hi, set_back hj]; exact h
  clear h hi hj ok
  go_enter Tryz.func12, Tryz.ntmps12
  go_wp2
  go_ret
  exact ⟨rfl, v, HT.out⟩

end
end Go.Proofs.YtpjhljfcoejndaaGreat
