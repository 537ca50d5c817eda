/- A begin that is under way: how it lies in memory, and what its calls do. -/
import Derived.Test.YthbcbjkgjgmegaaGreatSpA
import Derived.Test.YthbcbjkgjgmegaaGreatSame
import Derived.BigQuiet
namespace Go.Proofs.YthbcbjkgjgmegaaGreat
open Go.RowKit
set_option linter.unusedVariables false
set_option linter.unusedSimpArgs false
attribute [local go_sem ↓] Go.wp_at_zero Go.wp_at_succ

/-- What a begin keeps: thread, stamp, what it does next, slot, generation, word, error. -/
structure Bg where
  th : Int
  sp : Int
  st : Int
  sl : Int
  gn : Int
  wd : Int
  e : Int
def Bg.cells (b : Bg) (t : Nat) : Array Value := #[.pointer (some ⟨t, 0, none⟩), .int .i64 b.th, .int .i64 b.sp, .int .i64 b.st, .int .i64 b.sl, .int .i64 b.gn, .int .i64 b.wd, .int .i64 b.e]
def bgI (k t : Nat) (b : Bg) : It := boxI k (b.cells t) 342
def Bg.new (th sp : Int) : Bg := ⟨th, sp, 0, 0, 0, 0, 0⟩
def Bg.over (b : Bg) (e : Int) : Bg := ⟨b.th, b.sp, 3, b.sl, b.gn, b.wd, e⟩
/-- A slot was tried: R is the generation, E the error, n how many slots there are. -/
def Bg.claim (b : Bg) (R E n : Int) : Bg :=
  if E = 0 then ⟨b.th, b.sp, 1, b.sl, R, b.wd, b.e⟩ else if b.sl + 1 = n then ⟨b.th, b.sp, 3, b.sl + 1, b.gn, b.wd, 6⟩ else ⟨b.th, b.sp, b.st, b.sl + 1, b.gn, b.wd, b.e⟩
/-- A word was cleared. -/
def Bg.clear (b : Bg) : Bg := ⟨b.th, b.sp, if b.wd + 1 = 2 then 2 else b.st, b.sl, b.gn, b.wd + 1, b.e⟩
def Bg.next (b : Bg) (z : SSt) : Bg :=
  if b.st = 0 then b.claim (claimR z.hs b.sl b.th) ((claimOp b.th).E z.hs b.sl) z.hs.length else if b.st = 1 then b.clear else if b.st = 2 then b.over ((readyOp b.gn b.sp).E z.hs b.sl) else b
/-- What its next step makes of a space. -/
def SSt.goes (z : SSt) (b : Bg) : SSt :=
  if b.st = 0 then z.op (claimOp b.th) b.sl else if b.st = 1 then z.put b.sl b.wd 0 else if b.st = 2 then z.op (readyOp b.gn b.sp) b.sl else z
def Bg.ans (b : Bg) : Int := if b.st = 0 ∨ b.st = 1 ∨ b.st = 2 then 1 else 3
/-- Its numbers can be counted on. -/
structure Bg.fine (b : Bg) : Prop where
  s0 : 0 ≤ b.sl
  s1 : b.sl ≤ 8
  w0 : 0 ≤ b.wd
  w1 : b.wd ≤ 2

section
variable {o w : World} {its : List It} {A : Ad} {c : Cfg} {z : SSt} {v u : Value} {k t : Nat} {b : Bg}

theorem bgCell (h : St o its w) (j : Nat) (hj : its[j]? = some (bgI k t b)) (n : Nat) : w.cell? ⟨k, n, none⟩ = (b.cells t)[n]? := h.cell j hj n
theorem bgFrozen (h : St o its w) (j : Nat) (hj : its[j]? = some (bgI k t b)) (n : Nat) : w.frozen? ⟨k, n, none⟩ = false := h.frozen j hj n

set_option maxRecDepth 100000 in
theorem bgNew_out (p : Value) (th sp : Int) (hn : ¬ (1 ≤ th ∧ th ≤ 8 ∧ 1 ≤ sp)) (w : World) :
    Calls Tryz.prog 216 #[p, .int .i64 th, .int .i64 sp] w fun e w' => e = .returned (.tuple #[.pointer none, .int .i64 1]) ∧ w' = w := by
  by_cases h1 : th < 1
  · clear hn
    go_enter Tryz.func216, Tryz.ntmps216
    go_wp2
    go_ret2
    exact ⟨rfl, rfl⟩
  · by_cases h2 : 8 < th
    · clear hn
      go_enter Tryz.func216, Tryz.ntmps216
      go_wp2
      go_ret2
      exact ⟨rfl, rfl⟩
    · have h3 : sp < 1 := by omega
      clear hn
      go_enter Tryz.func216, Tryz.ntmps216
      go_wp2
      go_ret2
      exact ⟨rfl, rfl⟩

set_option maxRecDepth 100000 in
theorem bgNew_st (h : St o its w) (i : Nat) (hi : its[i]? = some (spI A c z v u)) (th sp : Int) (hn : 1 ≤ th ∧ th ≤ 8 ∧ 1 ≤ sp) :
    Calls Tryz.prog 216 #[spp A, .int .i64 th, .int .i64 sp] w fun e w' => ∃ k, e = .returned (.tuple #[.pointer (some ⟨k, 0, none⟩), .int .i64 0]) ∧ St o (bgI k A.t (Bg.new th sp) :: its) w' := by
  have hs := spSlots h i hi
  have HS : Hid (St o (bgI w.heap.size A.t (Bg.new th sp) :: its) (w.alloc (.cells #[.pointer (some ⟨A.t, 0, none⟩), .int .i64 th, .int .i64 sp, .int .i64 0, .int .i64 0, .int .i64 0, .int .i64 0, .int .i64 0] 342))) := h.box ((Bg.new th sp).cells A.t) 342
  have n1 : ¬ th < 1 := by omega
  have n2 : ¬ 8 < th := by omega
  have n3 : ¬ sp < 1 := by omega
  clear h hi hn
  unfold spp at *
  go_enter Tryz.func216, Tryz.ntmps216
  go_wp2_with (go_at_call 243; refine hs.mono ?_; rintro e w' ⟨rfl, rfl⟩)
  go_ret2
  exact ⟨_, rfl, HS.out⟩

theorem bgDone (h : St o its w) (j : Nat) (hj : its[j]? = some (bgI k t b)) :
    Calls Tryz.prog 358 #[.pointer (some ⟨k, 0, none⟩)] w fun e w' => e = .returned (.bool (b.st == 3)) ∧ w' = w := by
  have c3 : w.cell? ⟨k, 3, none⟩ = some (.int .i64 b.st) := bgCell h j hj 3
  clear h hj
  go_enter Tryz.func358, Tryz.ntmps358
  go_wp2
  go_ret
  exact ⟨rfl, rfl⟩

def Bg.slotA (b : Bg) : Int := if b.st = 3 ∧ b.e = 0 then b.sl else 0
def Bg.slotB (b : Bg) : Int := if b.st = 3 ∧ b.e = 0 then b.gn else 0
def Bg.slotE (b : Bg) : Int := if b.st = 3 then b.e else 4
set_option maxRecDepth 100000 in
theorem bgSlot (h : St o its w) (j : Nat) (hj : its[j]? = some (bgI k t b)) :
    Calls Tryz.prog 359 #[.pointer (some ⟨k, 0, none⟩)] w fun e w' => e = .returned (.tuple #[.int .i64 b.slotA, .int .i64 b.slotB, .int .i64 b.slotE]) ∧ ∃ q, w' = w.drewN q := by
  have hd := bgDone h j hj
  have c4 : w.cell? ⟨k, 4, none⟩ = some (.int .i64 b.sl) := bgCell h j hj 4
  have c5 : w.cell? ⟨k, 5, none⟩ = some (.int .i64 b.gn) := bgCell h j hj 5
  have c7 : w.cell? ⟨k, 7, none⟩ = some (.int .i64 b.e) := bgCell h j hj 7
  clear h hj
  unfold Bg.slotA Bg.slotB Bg.slotE
  obtain ⟨th, sp, st, sl, gn, wd, e⟩ := b
  simp only at *
  by_cases h3 : st = 3
  · have e3 : (st == 3) = true := by simp [h3]
    rw [e3] at hd
    by_cases h0 : e = 0
    · subst h0
      rw [if_pos ⟨h3, rfl⟩, if_pos ⟨h3, rfl⟩, if_pos h3]
      clear h3 e3
      go_enter Tryz.func359, Tryz.ntmps359
      go_wp2_with (go_at_call 358; refine hd.mono ?_; rintro e w' ⟨rfl, rfl⟩)
      go_quiet (fail)
      go_wp2
      exact bodyPost_ret (v := .tuple #[.int .i64 sl, .int .i64 gn, .int .i64 0]) (by simp [results, Tryz.results359, go_sem]) rfl ⟨rfl, _, rfl⟩
    · have e0 : (e != 0) = true := by simpa using h0
      rw [if_neg (fun x => h0 x.2), if_neg (fun x => h0 x.2), if_pos h3]
      clear h3 e3 h0
      go_enter Tryz.func359, Tryz.ntmps359
      go_wp2_with (go_at_call 358; refine hd.mono ?_; rintro e w' ⟨rfl, rfl⟩)
      go_quiet (fail)
      go_wp2
      exact bodyPost_ret (v := .tuple #[.int .i64 0, .int .i64 0, .int .i64 e]) (by simp [results, Tryz.results359, go_sem]) rfl ⟨rfl, _, rfl⟩
  · have e3 : (st == 3) = false := by simpa using h3
    rw [e3] at hd
    rw [if_neg (fun x => h3 x.1), if_neg (fun x => h3 x.1), if_neg h3]
    clear h3 e3
    go_enter Tryz.func359, Tryz.ntmps359
    go_wp2_with (go_at_call 358; refine hd.mono ?_; rintro e w' ⟨rfl, rfl⟩)
    exact bodyPost_ret (v := .tuple #[.int .i64 0, .int .i64 0, .int .i64 4]) (by simp [results, Tryz.results359, go_sem]) rfl ⟨rfl, 0, rfl⟩

set_option maxRecDepth 100000 in
theorem bgEnd (h : St o its w) (j : Nat) (hj : its[j]? = some (bgI k t b)) (e : Int) :
    Calls Tryz.prog 362 #[.pointer (some ⟨k, 0, none⟩), .int .i64 e] w fun r w' => r = .returned (.tuple #[]) ∧ St o (its.set j (bgI k t (b.over e))) w' := by
  have f3 := bgFrozen h j hj 3
  have f7 := bgFrozen h j hj 7
  have c3 : w.cell? ⟨k, 3, none⟩ = some (.int .i64 b.st) := bgCell h j hj 3
  have c7 : w.cell? ⟨k, 7, none⟩ = some (.int .i64 b.e) := bgCell h j hj 7
  have HS : Hid (St o (its.set j (bgI k t (b.over e))) ((w.setCell ⟨k, 3, none⟩ (.int .i64 3)).setCell ⟨k, 7, none⟩ (.int .i64 e))) := by
    have h2 := (h.write j hj 3 (.int .i64 3)).write j (set_self hj) 7 (.int .i64 e)
    rw [set_same] at h2
    exact h2
  clear h hj
  go_enter Tryz.func362, Tryz.ntmps362
  go_wp2
  go_end0
  exact ⟨rfl, HS.out⟩

set_option maxRecDepth 100000 in
set_option maxHeartbeats 1000000 in
theorem bgClear (h : St o its w) (i j : Nat) (hij : i ≠ j) (hi : its[i]? = some (spI A c z v u)) (hj : its[j]? = some (bgI k A.t b)) {n : Nat} (ok : z.ok c n) (hn : n ≤ 4611686018427) (hb : b.fine) :
    Calls Tryz.prog 361 #[.pointer (some ⟨k, 0, none⟩)] w fun r w' => r = .returned (.tuple #[]) ∧ ∃ v', St o ((its.set i (spI A c (z.put b.sl b.wd 0) v' u)).set j (bgI k A.t b.clear)) w' := by
  have c0 : w.cell? ⟨k, 0, none⟩ = some (.pointer (some ⟨A.t, 0, none⟩)) := bgCell h j hj 0
  have c4 : w.cell? ⟨k, 4, none⟩ = some (.int .i64 b.sl) := bgCell h j hj 4
  have c6 : w.cell? ⟨k, 6, none⟩ = some (.int .i64 b.wd) := bgCell h j hj 6
  have hq : Calls Tryz.prog 292 #[.pointer (some ⟨A.t, 0, none⟩), .int .i64 b.sl, .int .i64 b.wd, .int .u64 0] w.drew fun e w' => e = .returned (.int .i64 (wordE z.hs.length b.sl b.wd)) ∧ (w'.cell? ⟨k, 0, none⟩ = some (.pointer (some ⟨A.t, 0, none⟩)) ∧ w'.cell? ⟨k, 4, none⟩ = some (.int .i64 b.sl) ∧ w'.cell? ⟨k, 6, none⟩ = some (.int .i64 b.wd)) ∧ ∃ v', Hid (St o (its.set i (spI A c (z.put b.sl b.wd 0) v' u)) w') := by
    refine (spPut h.drew i hi ok hn b.sl b.wd 0).mono ?_
    rintro e w' ⟨he, v', h'⟩
    have hj' := set_other (A := spI A c (z.put b.sl b.wd 0) v' u) hj hij
    exact ⟨he, ⟨bgCell h' j hj' 0, bgCell h' j hj' 4, bgCell h' j hj' 6⟩, v', h'⟩
  obtain ⟨b0, b1⟩ : 0 ≤ b.wd ∧ b.wd ≤ 2 := ⟨hb.w0, hb.w1⟩
  generalize wordE z.hs.length b.sl b.wd = E at *
  have HJ : Hid (∀ v', (its.set i (spI A c (z.put b.sl b.wd 0) v' u))[j]? = some (bgI k A.t b)) := fun v' => set_other hj hij
  clear h hi hj ok hb hij
  generalize z.put b.sl b.wd 0 = z' at *
  obtain ⟨th, sp, st, sl, gn, wd, e⟩ := b
  simp only at *
  go_enter Tryz.func361, Tryz.ntmps361
  go_upto_region 0 with fail
  go_region_held3 (fun W => W.cell? ⟨k, 0, none⟩ = some (.pointer (some ⟨A.t, 0, none⟩)) ∧ W.cell? ⟨k, 4, none⟩ = some (.int .i64 sl) ∧ W.cell? ⟨k, 6, none⟩ = some (.int .i64 wd)) (first | go_keep | exact rS)
    (first | (go_at_call 292; refine hq.mono ?_; rintro e w2 ⟨rfl, rS, v', HS⟩))
  obtain ⟨d0, d4, d6⟩ := rS
  clear hq c0 c4 c6
  have f6 := bgFrozen HS.out j (HJ.out v') 6
  have f3 := bgFrozen HS.out j (HJ.out v') 3
  have d3 : w2.cell? ⟨k, 3, none⟩ = some (.int .i64 st) := bgCell HS.out j (HJ.out v') 3
  by_cases hw : wd = 1
  · subst hw
    have HT : Hid (St o ((its.set i (spI A c z' v' u)).set j (bgI k A.t (Bg.clear ⟨th, sp, st, sl, gn, 1, e⟩))) ((w2.setCell ⟨k, 6, none⟩ (.int .i64 2)).setCell ⟨k, 3, none⟩ (.int .i64 2))) := by
      have h2 := (HS.out.write j (HJ.out v') 6 (.int .i64 2)).write j (set_self (HJ.out v')) 3 (.int .i64 2)
      rw [set_same] at h2
      exact h2
    clear HS HJ
    go_wp2
    go_end0
    exact ⟨rfl, v', HT.out⟩
  · have hne : ((wd + 1 : Int) == 2) = false := by simp; omega
    have HT : Hid (St o ((its.set i (spI A c z' v' u)).set j (bgI k A.t (Bg.clear ⟨th, sp, st, sl, gn, wd, e⟩))) (w2.setCell ⟨k, 6, none⟩ (.int .i64 (wd + 1)))) := by
      have h2 := HS.out.write j (HJ.out v') 6 (.int .i64 (wd + 1))
      have e2 : Bg.clear ⟨th, sp, st, sl, gn, wd, e⟩ = ⟨th, sp, st, sl, gn, wd + 1, e⟩ := by simp only [Bg.clear]; rw [if_neg (by omega)]
      rw [e2]
      exact h2
    clear HS HJ hw
    go_wp2
    go_end0
    exact ⟨rfl, v', HT.out⟩

set_option maxRecDepth 100000 in
set_option maxHeartbeats 1000000 in
theorem bgClaim (h : St o its w) (i j : Nat) (hij : i ≠ j) (hi : its[i]? = some (spI A c z v u)) (hj : its[j]? = some (bgI k A.t b)) {n : Nat} (ok : z.ok c n) (hn : n ≤ 4611686018427) (hb : b.fine) :
    Calls Tryz.prog 354 #[.pointer (some ⟨k, 0, none⟩)] w fun r w' => r = .returned (.tuple #[]) ∧ ∃ v', St o ((its.set i (spI A c (z.op (claimOp b.th) b.sl) v' u)).set j (bgI k A.t (b.claim (claimR z.hs b.sl b.th) ((claimOp b.th).E z.hs b.sl) z.hs.length))) w' := by
  have c0 : w.cell? ⟨k, 0, none⟩ = some (.pointer (some ⟨A.t, 0, none⟩)) := bgCell h j hj 0
  have c4 : w.cell? ⟨k, 4, none⟩ = some (.int .i64 b.sl) := bgCell h j hj 4
  have c1 : w.cell? ⟨k, 1, none⟩ = some (.int .i64 b.th) := bgCell h j hj 1
  have hlen : (z.op (claimOp b.th) b.sl).hs.length = z.hs.length := HOp.len _ _ _
  have hq : Calls Tryz.prog 364 #[.pointer (some ⟨A.t, 0, none⟩), .int .i64 b.sl, .int .i64 b.th] w.drew fun e w' => e = .returned (.tuple #[.int .i64 (claimR z.hs b.sl b.th), .int .i64 ((claimOp b.th).E z.hs b.sl)]) ∧ (w'.cell? ⟨k, 0, none⟩ = some (.pointer (some ⟨A.t, 0, none⟩)) ∧ w'.cell? ⟨k, 4, none⟩ = some (.int .i64 b.sl) ∧ w'.cell? ⟨k, 1, none⟩ = some (.int .i64 b.th)) ∧ ∃ v', Hid (St o (its.set i (spI A c (z.op (claimOp b.th) b.sl) v' u)) w') := by
    refine (spClaim h.drew i hi ok hn b.sl b.th).mono ?_
    rintro e w' ⟨he, v', h'⟩
    have hj' := set_other (A := spI A c (z.op (claimOp b.th) b.sl) v' u) hj hij
    exact ⟨he, ⟨bgCell h' j hj' 0, bgCell h' j hj' 4, bgCell h' j hj' 1⟩, v', h'⟩
  obtain ⟨b0, b1⟩ : 0 ≤ b.sl ∧ b.sl ≤ 8 := ⟨hb.s0, hb.s1⟩
  have HJ : Hid (∀ v', (its.set i (spI A c (z.op (claimOp b.th) b.sl) v' u))[j]? = some (bgI k A.t b)) := fun v' => set_other hj hij
  have HI : Hid (∀ v', (its.set i (spI A c (z.op (claimOp b.th) b.sl) v' u))[i]? = some (spI A c (z.op (claimOp b.th) b.sl) v' u)) := fun v' => set_self hi
  have HIJ : Hid (i ≠ j) := hij
  clear h hi hj ok hb hij
  generalize (claimOp b.th).E z.hs b.sl = E at *
  generalize claimR z.hs b.sl b.th = R at *
  generalize z.op (claimOp b.th) b.sl = z' at *
  rw [← hlen]
  clear hlen
  obtain ⟨th, sp, st, sl, gn, wd, er⟩ := b
  simp only at *
  by_cases hE : E = 0
  · subst hE
    go_enter Tryz.func354, Tryz.ntmps354
    go_upto_region 0 with fail
    go_region_held3 (fun W => W.cell? ⟨k, 0, none⟩ = some (.pointer (some ⟨A.t, 0, none⟩)) ∧ W.cell? ⟨k, 4, none⟩ = some (.int .i64 sl) ∧ W.cell? ⟨k, 1, none⟩ = some (.int .i64 th)) (first | go_keep | exact rS)
      (first | (go_at_call 364; refine hq.mono ?_; rintro e w2 ⟨rfl, rS, v', HS⟩))
    clear hq c0 c4 c1 rS
    have f5 := bgFrozen HS.out j (HJ.out v') 5
    have f3 := bgFrozen HS.out j (HJ.out v') 3
    have d5 : w2.cell? ⟨k, 5, none⟩ = some (.int .i64 gn) := bgCell HS.out j (HJ.out v') 5
    have d3 : w2.cell? ⟨k, 3, none⟩ = some (.int .i64 st) := bgCell HS.out j (HJ.out v') 3
    have HT : Hid (St o ((its.set i (spI A c z' v' u)).set j (bgI k A.t ⟨th, sp, 1, sl, R, wd, er⟩)) ((w2.setCell ⟨k, 5, none⟩ (.int .i64 R)).setCell ⟨k, 3, none⟩ (.int .i64 1))) := by
      have h2 := (HS.out.write j (HJ.out v') 5 (.int .i64 R)).write j (set_self (HJ.out v')) 3 (.int .i64 1)
      rw [set_same] at h2
      exact h2
    clear HS HJ HI
    go_wp2
    refine bodyPost_ret (results_none rfl _ _ _) rfl ?_
    refine ⟨rfl, v', ?_⟩
    rw [Bg.claim, if_pos rfl]
    exact HT.out
  · have hE1 : (E == 0) = false := by simpa using hE
    go_enter Tryz.func354, Tryz.ntmps354
    go_upto_region 0 with fail
    go_region_held3 (fun W => W.cell? ⟨k, 0, none⟩ = some (.pointer (some ⟨A.t, 0, none⟩)) ∧ W.cell? ⟨k, 4, none⟩ = some (.int .i64 sl) ∧ W.cell? ⟨k, 1, none⟩ = some (.int .i64 th)) (first | go_keep | exact rS)
      (first | (go_at_call 364; refine hq.mono ?_; rintro e w2 ⟨rfl, rS, v', HS⟩))
    obtain ⟨d0, d4, d1⟩ := rS
    clear hq c0 c4 c1
    have f4 := bgFrozen HS.out j (HJ.out v') 4
    have h3 : St o ((its.set i (spI A c z' v' u)).set j (bgI k A.t ⟨th, sp, st, sl + 1, gn, wd, er⟩)) (w2.setCell ⟨k, 4, none⟩ (.int .i64 (sl + 1))) := HS.out.write j (HJ.out v') 4 (.int .i64 (sl + 1))
    go_upto_region 4 with fail
    generalize w2.setCell ⟨k, 4, none⟩ (.int .i64 (sl + 1)) = w3 at *
    have HJ3 : Hid (((its.set i (spI A c z' v' u)).set j (bgI k A.t ⟨th, sp, st, sl + 1, gn, wd, er⟩))[j]? = some (bgI k A.t ⟨th, sp, st, sl + 1, gn, wd, er⟩)) := set_self (HJ.out v')
    have HI3 : Hid (((its.set i (spI A c z' v' u)).set j (bgI k A.t ⟨th, sp, st, sl + 1, gn, wd, er⟩))[i]? = some (spI A c z' v' u)) := set_other (HI.out v') (Ne.symm HIJ.out)
    have g0 : w3.cell? ⟨k, 0, none⟩ = some (.pointer (some ⟨A.t, 0, none⟩)) := bgCell h3 j HJ3.out 0
    have g4 : w3.cell? ⟨k, 4, none⟩ = some (.int .i64 (sl + 1)) := bgCell h3 j HJ3.out 4
    have hL : ∀ n, Calls Tryz.prog 119 #[.pointer (some ⟨A.t, 0, none⟩)] (w3.drewN n) fun e w' => e = .returned (.int .i64 z'.hs.length) ∧ ∃ m, w' = w3.drewN m := by
      intro n
      refine (spLen (h3.calm ((Kept.refl _ w3).drewN n)) i HI3.out).mono ?_
      rintro e w' ⟨he, rfl⟩
      exact ⟨he, n, rfl⟩
    have HS3 : Hid (St o ((its.set i (spI A c z' v' u)).set j (bgI k A.t ⟨th, sp, st, sl + 1, gn, wd, er⟩)) w3) := h3
    clear h3 HS HJ HI d0 d1 d4 f4
    by_cases hlast : sl + 1 = (z'.hs.length : Int)
    · have he : ((sl + 1 : Int) == (z'.hs.length : Int)) = true := by simpa using hlast
      go_quiet (first | (go_at_call 119; exact hL _))
      have hend : ∀ n, Calls Tryz.prog 362 #[.pointer (some ⟨k, 0, none⟩), .int .i64 6] (w3.drewN n) fun r w' => r = .returned (.tuple #[]) ∧ Hid (St o ((its.set i (spI A c z' v' u)).set j (bgI k A.t ⟨th, sp, 3, sl + 1, gn, wd, 6⟩)) w') := by
        intro n
        refine (bgEnd (HS3.out.calm ((Kept.refl _ w3).drewN n)) j HJ3.out 6).mono ?_
        rintro e w' ⟨he, h'⟩
        rw [set_same] at h'
        exact ⟨he, h'⟩
      clear HS3 HJ3 HI3 hL g0 g4
      go_wp2_with fail
      refine (hend _).mono ?_
      rintro e w4 ⟨rfl, HT⟩
      clear hend
      go_wp2
      go_end0
      refine ⟨rfl, v', ?_⟩
      rw [Bg.claim, if_neg hE, if_pos hlast]
      exact HT.out
    · have he : ((sl + 1 : Int) == (z'.hs.length : Int)) = false := by simpa using hlast
      have HT : Hid (∀ n, St o ((its.set i (spI A c z' v' u)).set j (bgI k A.t ⟨th, sp, st, sl + 1, gn, wd, er⟩)) (w3.drewN n)) := fun n => HS3.out.calm ((Kept.refl _ w3).drewN n)
      go_quiet (first | (go_at_call 119; exact hL _))
      clear HS3 HJ3 HI3 hL g0 g4
      go_wp2
      go_end0
      refine ⟨rfl, v', ?_⟩
      rw [Bg.claim, if_neg hE, if_neg hlast]
      exact HT.out _

set_option maxRecDepth 100000 in
set_option maxHeartbeats 1000000 in
theorem bgStep (h : St o its w) (i j : Nat) (hij : i ≠ j) (hi : its[i]? = some (spI A c z v u)) (hj : its[j]? = some (bgI k A.t b)) {n : Nat} (ok : z.ok c n) (hn : n ≤ 4611686018427) (hb : b.fine) :
    Calls Tryz.prog 357 #[.pointer (some ⟨k, 0, none⟩)] w fun r w' => r = .returned (.int .i64 b.ans) ∧ ∃ v', St o ((its.set i (spI A c (z.goes b) v' u)).set j (bgI k A.t (b.next z))) w' := by
  have c3 : w.cell? ⟨k, 3, none⟩ = some (.int .i64 b.st) := bgCell h j hj 3
  unfold Bg.ans SSt.goes Bg.next
  by_cases h0 : b.st = 0
  · rw [if_pos (.inl h0), if_pos h0, if_pos h0]
    rw [h0] at c3
    have hq := bgClaim h i j hij hi hj ok hn hb
    clear h hi hj ok hb h0
    generalize z.op (claimOp b.th) b.sl = z' at *
    generalize b.claim (claimR z.hs b.sl b.th) ((claimOp b.th).E z.hs b.sl) z.hs.length = b' at *
    go_enter Tryz.func357, Tryz.ntmps357
    go_wp2_with fail
    refine hq.mono ?_
    rintro e w' ⟨rfl, v', h'⟩
    have HT : Hid (St o ((its.set i (spI A c z' v' u)).set j (bgI k A.t b')) w') := h'
    clear hq h' c3
    go_wp2
    go_ret
    exact ⟨rfl, v', HT.out⟩
  have e0 : (b.st == 0) = false := by simpa using h0
  rw [if_neg h0, if_neg h0]
  by_cases h1 : b.st = 1
  · rw [if_pos (.inr (.inl h1)), if_pos h1, if_pos h1]
    rw [h1] at c3
    have hq := bgClear h i j hij hi hj ok hn hb
    clear h hi hj ok hb h0 e0 h1
    generalize z.put b.sl b.wd 0 = z' at *
    generalize b.clear = b' at *
    go_enter Tryz.func357, Tryz.ntmps357
    go_wp2_with fail
    refine hq.mono ?_
    rintro e w' ⟨rfl, v', h'⟩
    have HT : Hid (St o ((its.set i (spI A c z' v' u)).set j (bgI k A.t b')) w') := h'
    clear hq h' c3
    go_wp2
    go_ret
    exact ⟨rfl, v', HT.out⟩
  have e1 : (b.st == 1) = false := by simpa using h1
  rw [if_neg h1, if_neg h1]
  by_cases h2 : b.st = 2
  · rw [if_pos (.inr (.inr h2)), if_pos h2, if_pos h2]
    rw [h2] at c3
    have c0 : w.cell? ⟨k, 0, none⟩ = some (.pointer (some ⟨A.t, 0, none⟩)) := bgCell h j hj 0
    have c2 : w.cell? ⟨k, 2, none⟩ = some (.int .i64 b.sp) := bgCell h j hj 2
    have c4 : w.cell? ⟨k, 4, none⟩ = some (.int .i64 b.sl) := bgCell h j hj 4
    have c5 : w.cell? ⟨k, 5, none⟩ = some (.int .i64 b.gn) := bgCell h j hj 5
    have hq : Calls Tryz.prog 363 #[.pointer (some ⟨A.t, 0, none⟩), .int .i64 b.sl, .int .i64 b.gn, .int .i64 b.sp] w.drew fun e w' => e = .returned (.int .i64 ((readyOp b.gn b.sp).E z.hs b.sl)) ∧ (w'.cell? ⟨k, 0, none⟩ = some (.pointer (some ⟨A.t, 0, none⟩)) ∧ w'.cell? ⟨k, 4, none⟩ = some (.int .i64 b.sl) ∧ w'.cell? ⟨k, 5, none⟩ = some (.int .i64 b.gn) ∧ w'.cell? ⟨k, 2, none⟩ = some (.int .i64 b.sp)) ∧ ∃ v', Hid (St o (its.set i (spI A c (z.op (readyOp b.gn b.sp) b.sl) v' u)) w') := by
      refine (spReady h.drew i hi ok hn b.sl b.gn b.sp).mono ?_
      rintro e w' ⟨he, v', h'⟩
      have hj' := set_other (A := spI A c (z.op (readyOp b.gn b.sp) b.sl) v' u) hj hij
      exact ⟨he, ⟨bgCell h' j hj' 0, bgCell h' j hj' 4, bgCell h' j hj' 5, bgCell h' j hj' 2⟩, v', h'⟩
    have HJ : Hid (∀ v', (its.set i (spI A c (z.op (readyOp b.gn b.sp) b.sl) v' u))[j]? = some (bgI k A.t b)) := fun v' => set_other hj hij
    generalize (readyOp b.gn b.sp).E z.hs b.sl = E at *
    have he : ∀ W v', Hid (St o (its.set i (spI A c (z.op (readyOp b.gn b.sp) b.sl) v' u)) W) → Calls Tryz.prog 362 #[.pointer (some ⟨k, 0, none⟩), .int .i64 E] W fun r w' => r = .returned (.tuple #[]) ∧ (w'.cell? ⟨k, 0, none⟩ = some (.pointer (some ⟨A.t, 0, none⟩)) ∧ w'.cell? ⟨k, 4, none⟩ = some (.int .i64 b.sl) ∧ w'.cell? ⟨k, 5, none⟩ = some (.int .i64 b.gn) ∧ w'.cell? ⟨k, 2, none⟩ = some (.int .i64 b.sp)) ∧ Hid (St o ((its.set i (spI A c (z.op (readyOp b.gn b.sp) b.sl) v' u)).set j (bgI k A.t (b.over E))) w') := by
      intro W v' hS
      refine (bgEnd hS.out j (HJ.out v') E).mono ?_
      rintro e w' ⟨he, h'⟩
      have hj' := set_self (A := bgI k A.t (b.over E)) (HJ.out v')
      exact ⟨he, ⟨bgCell h' j hj' 0, bgCell h' j hj' 4, bgCell h' j hj' 5, bgCell h' j hj' 2⟩, h'⟩
    clear h hi hj ok hb h0 e0 h1 e1 h2
    generalize z.op (readyOp b.gn b.sp) b.sl = z' at *
    generalize b.over E = b' at *
    obtain ⟨th, sp, st, sl, gn, wd, er⟩ := b
    simp only at *
    go_enter Tryz.func357, Tryz.ntmps357
    go_upto_region 8 with fail
    go_region_held3 (fun W => W.cell? ⟨k, 0, none⟩ = some (.pointer (some ⟨A.t, 0, none⟩)) ∧ W.cell? ⟨k, 4, none⟩ = some (.int .i64 sl) ∧ W.cell? ⟨k, 5, none⟩ = some (.int .i64 gn) ∧ W.cell? ⟨k, 2, none⟩ = some (.int .i64 sp)) (first | go_keep | exact rS)
      (first | (go_at_call 363; refine hq.mono ?_; rintro e w2 ⟨rfl, rS, v', HS⟩) | (go_at_call 362; refine (he _ _ HS).mono ?_; rintro e w4 ⟨rfl, rS, HT⟩))
    clear hq he c0 c2 c3 c4 c5 rS HJ
    go_wp2
    go_ret
    exact ⟨rfl, v', HT.out⟩
  have e2 : (b.st == 2) = false := by simpa using h2
  rw [if_neg (fun x => x.elim h0 (fun x => x.elim h1 h2)), if_neg h2, if_neg h2]
  have HT : Hid (St o ((its.set i (spI A c z v u)).set j (bgI k A.t b)) w) := by
    rw [set_back hi, set_back hj]; exact h
  clear h hi hj ok hb h0 h1 h2
  go_enter Tryz.func357, Tryz.ntmps357
  go_wp2
  go_ret
  exact ⟨rfl, v, HT.out⟩
end
end Go.Proofs.YthbcbjkgjgmegaaGreat
