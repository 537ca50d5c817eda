/- The document's space: how it lies in memory, and what can be asked of it, call by call. -/
import Derived.Test.YtajfjkhbimehbaaGreatSpE
import Derived.Test.YtajfjkhbimehbaaGreatRr
import Derived.Test.YtajfjkhbimehbaaGreatRefGate
import Derived.Test.YtajfjkhbimehbaaGreatRefWords
namespace Go.Proofs.YtajfjkhbimehbaaGreat
open Go.RowKit
set_option linter.unusedVariables false
set_option linter.unusedSimpArgs false
attribute [local go_sem ↓] Go.wp_at_zero Go.wp_at_succ

/-- Where the parts of the document's space lie. -/
structure Bd where
  sp : Nat
  m : Nat
  r : Nat
  c : Nat
  g : Nat
  y : Nat
  k : Nat
def rpF (B : Bd) (c : Cfg) (v : Value) : Array Value := #[.int .i64 c.ce, .int .i64 c.sl, .int .i64 c.bi, .int .i64 c.ta, .int .i64 c.ba, .int .i64 c.de, .pointer (some ⟨B.m, 0, none⟩), .pointer (some ⟨B.r, 0, none⟩), .pointer (some ⟨B.g, 0, none⟩), .pointer (some ⟨B.y, 0, none⟩), v]
def rpL (B : Bd) (c : Cfg) (z : SSt) (v u : Value) : List It :=
  [headI 41 (rpF B c) B.sp u z.ev, refGateI B.g B.m z.x, rrRowI B.r B.c B.m 1 z.xs, refI B.y B.k B.m z.hs z.ws, meterI 67 (some B.m) z.s v]
def rpI (B : Bd) (c : Cfg) (z : SSt) (v u : Value) : It := joinI (rpL B c z v u)
def rpp (B : Bd) : Value := .pointer (some ⟨B.sp, 0, none⟩)
section
variable {o w : World} {its R : List It} {B : Bd} {c : Cfg} {z : SSt} {v u : Value}
theorem rpAt0 : (rpL B c z v u ++ R)[0]? = some (headI 41 (rpF B c) B.sp u z.ev) := rfl
theorem rpAt1 : (rpL B c z v u ++ R)[1]? = some (refGateI B.g B.m z.x) := rfl
theorem rpAt2 : (rpL B c z v u ++ R)[2]? = some (rrRowI B.r B.c B.m 1 z.xs) := rfl
theorem rpAt3 : (rpL B c z v u ++ R)[3]? = some (refI B.y B.k B.m z.hs z.ws) := rfl
theorem rpAt4 : (rpL B c z v u ++ R)[4]? = some (meterI 67 (some B.m) z.s v) := rfl
theorem rpHead (h : St o its w) (i : Nat) (hi : its[i]? = some (rpI B c z v u)) : HeadAt 41 (rpF B c) w B.sp u z.ev := (h.open i hi).get 0 rpAt0
theorem rpCell (h : St o its w) (i : Nat) (hi : its[i]? = some (rpI B c z v u)) (j : Nat) : w.cell? ⟨B.sp, j, none⟩ = (rpF B c u)[j]? := cell_of_heap (rpHead h i hi).heap
theorem rpFrozen (h : St o its w) (i : Nat) (hi : its[i]? = some (rpI B c z v u)) (j : Nat) : w.frozen? ⟨B.sp, j, none⟩ = false := frozen_of_heap (rpHead h i hi).heap
theorem rpMeter (h : St o its w) (i : Nat) (hi : its[i]? = some (rpI B c z v u)) : MeterAt 67 166 w B.m z.s.st z.s.th z.s.dn z.s.mo v z.s.l := (h.open i hi).get 4 rpAt4
theorem rpGate (h : St o its w) (i : Nat) (hi : its[i]? = some (rpI B c z v u)) (j : Nat) : w.cell? ⟨B.g, j, none⟩ = (#[.pointer (some ⟨B.m, 0, none⟩), .int .i64 z.x.n, .int .i64 z.x.o] : Array Value)[j]? := (h.open i hi).cell 1 rpAt1 j
theorem rpRow (h : St o its w) (i : Nat) (hi : its[i]? = some (rpI B c z v u)) : RrRow w B.r B.c B.m 1 z.xs := (h.open i hi).get 2 rpAt2
theorem rpTab (h : St o its w) (i : Nat) (hi : its[i]? = some (rpI B c z v u)) : RefTab w B.y B.k B.m z.hs z.ws := (h.open i hi).get 3 rpAt3

theorem rpTurn (h : St o its w) (i : Nat) (hi : its[i]? = some (rpI B c z v u)) {k : Nat} (ok : z.ok c k) (hk : k ≤ 4611686018427) (t : Int) : Calls Tryz.prog 10 #[.pointer (some ⟨B.m, 0, none⟩), .int .i64 t] w fun e w' => e = .returned (.tuple #[]) ∧ St o (its.set i (rpI B c (z.turn t) v u)) w' := by
  refine (refBegin_st (h.open i hi) 4 rpAt4 ok.met hk t).mono ?_
  rintro e w' ⟨he, h'⟩
  exact ⟨he, St.shut (l := rpL B c (z.turn t) v u) hi h'⟩

theorem rpLoad (h : St o its w) (i : Nat) (hi : its[i]? = some (rpI B c z v u)) {k : Nat} (ok : z.ok c k) (hk : k ≤ 4611686018427) (j : Int) : Calls Tryz.prog 80 #[.pointer (some ⟨B.r, 0, none⟩), .int .i64 j] w fun e w' => e = .returned (.tuple #[.int .i64 (loadR z.xs j), .int .i64 (loadE z.xs j)]) ∧ ∃ v', St o (its.set i (rpI B c (z.load j) v' u)) w' := by
  rcases cin_cases z.xs j with ⟨n, hn, rfl, hc⟩ | ⟨hn, hc⟩
  · refine (rrLoad_st (h.open i hi) 4 2 rpAt4 rpAt2 (by omega) ok.met hk n hn).mono ?_
    rintro e w' ⟨he, v', h'⟩
    refine ⟨?_, v', ?_⟩
    · rw [he]; simp [loadR, loadE, hc, hn]
    · have : z.load n = ⟨z.s.note 1 n 1 true, z.xs, z.x, z.hs, z.ws, z.ev⟩ := by simp [SSt.load, loadS, hc]
      rw [this]
      exact St.shut (l := rpL B c ⟨z.s.note 1 n 1 true, z.xs, z.x, z.hs, z.ws, z.ev⟩ v' u) hi h'
  · refine (rrLoad_out j (rpRow h i hi) hn).mono ?_
    rintro e w' ⟨he, rfl⟩
    refine ⟨?_, v, ?_⟩
    · rw [he]; simp [loadR, loadE, hc]
    · have : z.load j = z := by simp [SSt.load, loadS, hc]
      rw [this, set_back hi]
      exact h
theorem rpStore (h : St o its w) (i : Nat) (hi : its[i]? = some (rpI B c z v u)) {k : Nat} (ok : z.ok c k) (hk : k ≤ 4611686018427) (j x : Int) : Calls Tryz.prog 42 #[.pointer (some ⟨B.r, 0, none⟩), .int .i64 j, .int .i64 x] w fun e w' => e = .returned (.int .i64 (loadE z.xs j)) ∧ ∃ v', St o (its.set i (rpI B c (z.store j x) v' u)) w' := by
  rcases cin_cases z.xs j with ⟨n, hn, rfl, hc⟩ | ⟨hn, hc⟩
  · refine (rrStore_st (h.open i hi) 4 2 rpAt4 rpAt2 (by omega) ok.met hk n hn x).mono ?_
    rintro e w' ⟨he, v', h'⟩
    refine ⟨?_, v', ?_⟩
    · rw [he]; simp [loadE, hc]
    · have : z.store n x = ⟨z.s.note 1 n 2 true, z.xs.set n x, z.x, z.hs, z.ws, z.ev⟩ := by simp [SSt.store, storeS, storeX, hc]
      rw [this]
      exact St.shut (l := rpL B c ⟨z.s.note 1 n 2 true, z.xs.set n x, z.x, z.hs, z.ws, z.ev⟩ v' u) hi h'
  · refine (rrStore_out j x (rpRow h i hi) hn).mono ?_
    rintro e w' ⟨he, rfl⟩
    refine ⟨?_, v, ?_⟩
    · rw [he]; simp [loadE, hc]
    · have : z.store j x = z := by simp [SSt.store, storeS, storeX, hc]
      rw [this, set_back hi]
      exact h
theorem rpFill (h : St o its w) (i : Nat) (hi : its[i]? = some (rpI B c z v u)) {zs : List Int} {la : Option Addr} {n lc : Nat} (hl : NumsIn w la n zs) (hn : n ≤ 17592186044416) (hap : ∀ a, la = some a → 0 < n → a.block ≠ B.c) : Calls Tryz.prog 8 #[.pointer (some ⟨B.r, 0, none⟩), .slice la n lc] w fun e w' => e = .returned (.int .i64 (fillErr z.xs zs)) ∧ St o (its.set i (rpI B c (z.fill zs) v u)) w' := by
  refine (rrFill_st (h.open i hi) 2 rpAt2 hl hn hap).mono ?_
  rintro e w' ⟨he, h'⟩
  exact ⟨he, St.shut (l := rpL B c (z.fill zs) v u) hi h'⟩

theorem rpTake (h : St o its w) (i : Nat) (hi : its[i]? = some (rpI B c z v u)) {k : Nat} (ok : z.ok c k) (hk : k ≤ 4611686018427) (t : Int) : Calls Tryz.prog 45 #[.pointer (some ⟨B.g, 0, none⟩), .int .i64 t] w fun e w' => e = .returned (.tuple #[.int .i64 (takeR z.x t), .int .i64 (takeE z.x t)]) ∧ ∃ v', St o (its.set i (rpI B c (z.take t) v' u)) w' := by
  refine (refGtake_st (h.open i hi) 4 1 rpAt4 rpAt1 (by omega) ok.met hk ok.g0 (by have := ok.g1; omega) ok.gk t).mono ?_
  rintro e w' ⟨he, v', h'⟩
  exact ⟨he, v', St.shut (l := rpL B c (z.take t) v' u) hi h'⟩

theorem rpGive (h : St o its w) (i : Nat) (hi : its[i]? = some (rpI B c z v u)) {k : Nat} (ok : z.ok c k) (hk : k ≤ 4611686018427) (t : Int) : Calls Tryz.prog 47 #[.pointer (some ⟨B.g, 0, none⟩), .int .i64 t] w fun e w' => e = .returned (.int .i64 (giveE z.x t)) ∧ ∃ v', St o (its.set i (rpI B c (z.give t) v' u)) w' := by
  refine (refGgive_st (h.open i hi) 4 1 rpAt4 rpAt1 (by omega) ok.met hk ok.g0 (by have := ok.g1; omega) ok.gk t).mono ?_
  rintro e w' ⟨he, v', h'⟩
  exact ⟨he, v', St.shut (l := rpL B c (z.give t) v' u) hi h'⟩

theorem rpClaim (h : St o its w) (i : Nat) (hi : its[i]? = some (rpI B c z v u)) {k : Nat} (ok : z.ok c k) (hk : k ≤ 4611686018427) (j n : Int) : Calls Tryz.prog 50 #[.pointer (some ⟨B.y, 0, none⟩), .int .i64 j, .int .i64 n] w fun e w' => e = .returned (.tuple #[.int .i64 (claimR z.hs j n), .int .i64 ((claimOp n).E z.hs j)]) ∧ ∃ v', St o (its.set i (rpI B c (z.op (claimOp n) j) v' u)) w' := by
  refine (refClaim_st (h.open i hi) 4 3 rpAt4 rpAt3 (by omega) ok.met hk ok.hd (by omega) j n).mono ?_
  rintro e w' ⟨he, v', h'⟩
  exact ⟨he, v', St.shut (l := rpL B c (z.op (claimOp n) j) v' u) hi h'⟩

theorem rpReady (h : St o its w) (i : Nat) (hi : its[i]? = some (rpI B c z v u)) {k : Nat} (ok : z.ok c k) (hk : k ≤ 4611686018427) (j g p : Int) : Calls Tryz.prog 52 #[.pointer (some ⟨B.y, 0, none⟩), .int .i64 j, .int .i64 g, .int .i64 p] w fun e w' => e = .returned (.int .i64 ((readyOp g p).E z.hs j)) ∧ ∃ v', St o (its.set i (rpI B c (z.op (readyOp g p) j) v' u)) w' := by
  refine (refReady_st (h.open i hi) 4 3 rpAt4 rpAt3 (by omega) ok.met hk ok.hd (by omega) j g p).mono ?_
  rintro e w' ⟨he, v', h'⟩
  exact ⟨he, v', St.shut (l := rpL B c (z.op (readyOp g p) j) v' u) hi h'⟩

theorem rpDoom (h : St o its w) (i : Nat) (hi : its[i]? = some (rpI B c z v u)) {k : Nat} (ok : z.ok c k) (hk : k ≤ 4611686018427) (j g t : Int) : Calls Tryz.prog 54 #[.pointer (some ⟨B.y, 0, none⟩), .int .i64 j, .int .i64 g, .int .i64 t] w fun e w' => e = .returned (.int .i64 ((doomOp g t).E z.hs j)) ∧ ∃ v', St o (its.set i (rpI B c (z.op (doomOp g t) j) v' u)) w' := by
  refine (refDoom_st (h.open i hi) 4 3 rpAt4 rpAt3 (by omega) ok.met hk ok.hd (by omega) j g t).mono ?_
  rintro e w' ⟨he, v', h'⟩
  exact ⟨he, v', St.shut (l := rpL B c (z.op (doomOp g t) j) v' u) hi h'⟩

theorem rpFree (h : St o its w) (i : Nat) (hi : its[i]? = some (rpI B c z v u)) {k : Nat} (ok : z.ok c k) (hk : k ≤ 4611686018427) (j g : Int) : Calls Tryz.prog 56 #[.pointer (some ⟨B.y, 0, none⟩), .int .i64 j, .int .i64 g] w fun e w' => e = .returned (.int .i64 ((freeOp g).E z.hs j)) ∧ ∃ v', St o (its.set i (rpI B c (z.op (freeOp g) j) v' u)) w' := by
  refine (refFree_st (h.open i hi) 4 3 rpAt4 rpAt3 (by omega) ok.met hk ok.hd (by omega) j g).mono ?_
  rintro e w' ⟨he, v', h'⟩
  exact ⟨he, v', St.shut (l := rpL B c (z.op (freeOp g) j) v' u) hi h'⟩

theorem rpPut (h : St o its w) (i : Nat) (hi : its[i]? = some (rpI B c z v u)) {k : Nat} (ok : z.ok c k) (hk : k ≤ 4611686018427) (j n x : Int) : Calls Tryz.prog 58 #[.pointer (some ⟨B.y, 0, none⟩), .int .i64 j, .int .i64 n, .int .u64 x] w fun e w' => e = .returned (.int .i64 (wordE z.hs.length j n)) ∧ ∃ v', St o (its.set i (rpI B c (z.put j n x) v' u)) w' := by
  refine (refPut_st (h.open i hi) 4 3 rpAt4 rpAt3 (by omega) ok.met hk j n x).mono ?_
  rintro e w' ⟨he, v', h'⟩
  exact ⟨he, v', St.shut (l := rpL B c (z.put j n x) v' u) hi h'⟩

end
end Go.Proofs.YtajfjkhbimehbaaGreat
