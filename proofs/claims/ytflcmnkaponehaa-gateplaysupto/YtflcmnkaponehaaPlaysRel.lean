/- GatePlays: two gates of one meter and the document's two: how they lie in memory, and what each step of a round leaves of them. -/
import Derived.Test.YtflcmnkaponehaaDoes
import Derived.Test.YtflcmnkaponehaaSame
namespace Go.Proofs.Ytflcmnkaponehaa
open Go.RowKit
set_option linter.unusedVariables false
set_option linter.unusedSimpArgs false

/-- The document's gates y, x and its meter n; the code's gates h, g with their rows, and their meter m. -/
def pits (g r c h p d m n x y : Nat) (s : Mt) (v u : Value) (xn xo yn yo : Int) : List It :=
  [refGateI y n ⟨yn, yo⟩, refGateI x n ⟨xn, xo⟩, meterI 31 (some n) s u, gateI h p, gtRowI p d (some m) 2 [⟨yn, yo⟩], gateI g r, gtRowI r c (some m) 2 [⟨xn, xo⟩], meterI 51 (some m) s v]

/-- What a round leaves. -/
structure PRel (w : World) (g r c h p d m n x y k : Nat) (s : Mt) (v u : Value) (xn xo yn yo : Int) (W : World) : Prop where
  wi : s.within k
  x0 : 0 ≤ xn
  x1 : xn ≤ k
  y0 : 0 ≤ yn
  y1 : yn ≤ k
  xk : GOk xn xo
  yk : GOk yn yo
  st : St w (pits g r c h p d m n x y s v u xn xo yn yo) W

section
variable {w W : World} {g r c h p d m n x y k : Nat} {s : Mt} {v u : Value} {xn xo yn yo : Int}

theorem PRel.calm {W' : World} (a : PRel w g r c h p d m n x y k s v u xn xo yn yo W) (kk : Kept (fun _ => False) W W') : PRel w g r c h p d m n x y k s v u xn xo yn yo W' :=
  ⟨a.wi, a.x0, a.x1, a.y0, a.y1, a.xk, a.yk, a.st.calm kk⟩

theorem spots_x (s : Mt) (v u : Value) (xn xo yn yo : Int) : Spots (pits g r c h p d m n x y s v u xn xo yn yo) 7 5 6 2 1 g r c m n x s v u ⟨xn, xo⟩ := ⟨rfl, rfl, rfl, rfl, rfl, by decide⟩
theorem spots_y (s : Mt) (v u : Value) (xn xo yn yo : Int) : Spots (pits g r c h p d m n x y s v u xn xo yn yo) 7 3 4 2 0 h p d m n y s v u ⟨yn, yo⟩ := ⟨rfl, rfl, rfl, rfl, rfl, by decide⟩

/-- A step over the first pair. -/
theorem does_x (a : PRel w g r c h p d m n x y k s v u xn xo yn yo W) (hk : k ≤ 1048576) (other : Bool) (kind t : Int) :
    Calls Try.prog 10 #[.pointer (some ⟨g, 0, none⟩), .pointer (some ⟨x, 0, none⟩), .agg #[.bool other, .int .i64 kind, .int .i64 t]] W fun e w' => e = .returned (.bool true) ∧
      ∃ s' v' u' xn' xo', PRel w g r c h p d m n x y (k + 1) s' v' u' xn' xo' yn yo w' := by
  refine (does_st a.st 7 5 6 2 1 (spots_x s v u xn xo yn yo) a.wi (by omega) a.x0 (by have := a.x1; show xn ≤ _; omega) a.xk other kind t).mono ?_
  rintro e w' ⟨he, v', u', hS⟩
  have b := doesX_near ⟨xn, xo⟩ kind t
  have b0 := a.x0
  have b1 := a.x1
  have b2 := a.y1
  exact ⟨he, doesS s ⟨xn, xo⟩ kind t, v', u', (doesX ⟨xn, xo⟩ kind t).n, (doesX ⟨xn, xo⟩ kind t).o,
    ⟨doesS_within a.wi _ _ _, Int.le_trans a.x0 b.1, by have := b.2; simp only at this; omega, a.y0, by omega, doesX_ok a.xk kind t, a.yk, hS⟩⟩
/-- A step over the second pair. -/
theorem does_y (a : PRel w g r c h p d m n x y k s v u xn xo yn yo W) (hk : k ≤ 1048576) (other : Bool) (kind t : Int) :
    Calls Try.prog 10 #[.pointer (some ⟨h, 0, none⟩), .pointer (some ⟨y, 0, none⟩), .agg #[.bool other, .int .i64 kind, .int .i64 t]] W fun e w' => e = .returned (.bool true) ∧
      ∃ s' v' u' yn' yo', PRel w g r c h p d m n x y (k + 1) s' v' u' xn xo yn' yo' w' := by
  refine (does_st a.st 7 3 4 2 0 (spots_y s v u xn xo yn yo) a.wi (by omega) a.y0 (by have := a.y1; show yn ≤ _; omega) a.yk other kind t).mono ?_
  rintro e w' ⟨he, v', u', hS⟩
  have b := doesX_near ⟨yn, yo⟩ kind t
  have b0 := a.y0
  have b1 := a.y1
  have b2 := a.x1
  exact ⟨he, doesS s ⟨yn, yo⟩ kind t, v', u', (doesX ⟨yn, yo⟩ kind t).n, (doesX ⟨yn, yo⟩ kind t).o,
    ⟨doesS_within a.wi _ _ _, a.x0, by omega, Int.le_trans a.y0 b.1, by have := b.2; simp only at this; omega, a.xk, doesX_ok a.yk kind t, hS⟩⟩
/-- Behind a Begin a step does nothing more. -/
theorem begun_x (a : PRel w g r c h p d m n x y k s v u xn xo yn yo W) (hk : k ≤ 1048577) (other : Bool) (t : Int) :
    Calls Try.prog 10 #[.pointer (some ⟨g, 0, none⟩), .pointer (some ⟨x, 0, none⟩), .agg #[.bool other, .int .i64 1, .int .i64 t]] W fun e w' => e = .returned (.bool true) ∧
      ∃ v' u', PRel w g r c h p d m n x y k s v' u' xn xo yn yo w' := by
  refine (does_st a.st 7 5 6 2 1 (spots_x s v u xn xo yn yo) a.wi (by omega) a.x0 (by have := a.x1; show xn ≤ _; omega) a.xk other 1 t).mono ?_
  rintro e w' ⟨he, v', u', hS⟩
  exact ⟨he, v', u', ⟨a.wi, a.x0, a.x1, a.y0, a.y1, a.xk, a.yk, hS⟩⟩
theorem begun_y (a : PRel w g r c h p d m n x y k s v u xn xo yn yo W) (hk : k ≤ 1048577) (other : Bool) (t : Int) :
    Calls Try.prog 10 #[.pointer (some ⟨h, 0, none⟩), .pointer (some ⟨y, 0, none⟩), .agg #[.bool other, .int .i64 1, .int .i64 t]] W fun e w' => e = .returned (.bool true) ∧
      ∃ v' u', PRel w g r c h p d m n x y k s v' u' xn xo yn yo w' := by
  refine (does_st a.st 7 3 4 2 0 (spots_y s v u xn xo yn yo) a.wi (by omega) a.y0 (by have := a.y1; show yn ≤ _; omega) a.yk other 1 t).mono ?_
  rintro e w' ⟨he, v', u', hS⟩
  exact ⟨he, v', u', ⟨a.wi, a.x0, a.x1, a.y0, a.y1, a.xk, a.yk, hS⟩⟩

/-- Begin of the code's meter, beside a block of plain cells. -/
theorem begin_one {B : Nat} {oc : Array Value} (hS : St w (boxI B oc 38 :: pits g r c h p d m n x y s v u xn xo yn yo) W) (hw : s.within k) (hk : k ≤ 1048576) (t : Int) :
    Calls Try.prog 8 #[.pointer (some ⟨m, 0, none⟩), .int .i64 t] W fun e w' => e = .returned (.tuple #[]) ∧
      St w [boxI B oc 38, refGateI y n ⟨yn, yo⟩, refGateI x n ⟨xn, xo⟩, meterI 31 (some n) s u, gateI h p, gtRowI p d (some m) 2 [⟨yn, yo⟩], gateI g r, gtRowI r c (some m) 2 [⟨xn, xo⟩], meterI 51 (some m) (s.start t) v] w' :=
  begin_st hS 8 rfl hw (by omega) t
/-- Begin of the document's, behind it. -/
theorem begin_two {B : Nat} {oc : Array Value} {t : Int} (hS : St w [boxI B oc 38, refGateI y n ⟨yn, yo⟩, refGateI x n ⟨xn, xo⟩, meterI 31 (some n) s u, gateI h p, gtRowI p d (some m) 2 [⟨yn, yo⟩], gateI g r, gtRowI r c (some m) 2 [⟨xn, xo⟩], meterI 51 (some m) (s.start t) v] W) (hw : s.within k) (hk : k ≤ 1048576) :
    Calls Try.prog 9 #[.pointer (some ⟨n, 0, none⟩), .int .i64 t] W fun e w' => e = .returned (.tuple #[]) ∧
      St w (boxI B oc 38 :: pits g r c h p d m n x y (s.start t) v u xn xo yn yo) w' :=
  refBegin_st hS 3 rfl hw (by omega) t

theorem now_x (a : PRel w g r c h p d m n x y k s v u xn xo yn yo W) :
    Calls Try.prog 11 #[.pointer (some ⟨g, 0, none⟩)] W fun e w' => e = .returned (.agg #[.int .i64 xn, .int .i64 xo]) ∧ PRel w g r c h p d m n x y k s v u xn xo yn yo w' := by
  refine (gateNow_st a.st 5 6 rfl rfl).mono ?_
  rintro e w' ⟨he, hS⟩
  exact ⟨he, a.wi, a.x0, a.x1, a.y0, a.y1, a.xk, a.yk, hS⟩
theorem now_y (a : PRel w g r c h p d m n x y k s v u xn xo yn yo W) :
    Calls Try.prog 11 #[.pointer (some ⟨h, 0, none⟩)] W fun e w' => e = .returned (.agg #[.int .i64 yn, .int .i64 yo]) ∧ PRel w g r c h p d m n x y k s v u xn xo yn yo w' := by
  refine (gateNow_st a.st 3 4 rfl rfl).mono ?_
  rintro e w' ⟨he, hS⟩
  exact ⟨he, a.wi, a.x0, a.x1, a.y0, a.y1, a.xk, a.yk, hS⟩
theorem done_m (a : PRel w g r c h p d m n x y k s v u xn xo yn yo W) :
    Calls Try.prog 12 #[.pointer (some ⟨m, 0, none⟩)] W fun e w' => e = .returned (.int .i64 s.dn) ∧ PRel w g r c h p d m n x y k s v u xn xo yn yo w' := by
  refine (done_st a.st 7 rfl).mono ?_
  rintro e w' ⟨he, rfl⟩
  exact ⟨he, a⟩

/-- The cells that the comparison reads. -/
structure Reads (x y n : Nat) (xn xo yn yo dn : Int) (W : World) : Prop where
  a1 : W.cell? ⟨x, 1, none⟩ = some (.int .i64 xn)
  a2 : W.cell? ⟨x, 2, none⟩ = some (.int .i64 xo)
  b1 : W.cell? ⟨y, 1, none⟩ = some (.int .i64 yn)
  b2 : W.cell? ⟨y, 2, none⟩ = some (.int .i64 yo)
  e2 : W.cell? ⟨n, 2, none⟩ = some (.int .i64 dn)
theorem PRel.reads (a : PRel w g r c h p d m n x y k s v u xn xo yn yo W) : Reads x y n xn xo yn yo s.dn W :=
  ⟨a.st.cell 1 rfl 1, a.st.cell 1 rfl 2, a.st.cell 0 rfl 1, a.st.cell 0 rfl 2, cell_of_heap (show MeterAt _ _ W n _ _ _ _ _ _ from a.st.get 2 rfl).heap⟩
theorem PRel.log (a : PRel w g r c h p d m n x y k s v u xn xo yn yo W) : W.cell? ⟨n, 4, none⟩ = some u := cell_of_heap (show MeterAt _ _ W n _ _ _ _ _ _ from a.st.get 2 rfl).heap

/-- The log that the meter tells, and the document's: the same. -/
theorem log_m (a : PRel w g r c h p d m n x y k s v u xn xo yn yo W) (hk : k ≤ 1048576) :
    Calls Try.prog 14 #[.pointer (some ⟨m, 0, none⟩)] W fun e w' => ∃ v', e = .returned v' ∧ w'.ownsRow 0 60 6 v' s.l.length (logCells s.l) ∧ PRel w g r c h p d m n x y k s v u xn xo yn yo w' := by
  refine (log_st a.st 7 rfl a.wi (by omega)).mono ?_
  rintro e w' ⟨v', he, hS⟩
  exact ⟨v', he, hS.get 0 rfl, a.wi, a.x0, a.x1, a.y0, a.y1, a.xk, a.yk, hS.pop⟩
theorem same_m {v' : Value} (a : PRel w g r c h p d m n x y k s v u xn xo yn yo W) (hk : k ≤ 1048576) (ho : W.ownsRow 0 60 6 v' s.l.length (logCells s.l)) :
    Calls Try.prog 13 #[v', u] W fun e w' => e = .returned (.bool true) ∧ PRel w g r c h p d m n x y k s v u xn xo yn yo w' := by
  have hn : MeterAt 31 60 W n s.st s.th s.dn s.mo u s.l := a.st.get 2 rfl
  refine (same_true 0 0 v' u s.l W ho hn.own (by have := a.wi.len; omega)).mono ?_
  rintro e w' ⟨he, q, rfl⟩
  exact ⟨he, a.calm ((Kept.refl _ W).drewN q)⟩
end
end Go.Proofs.Ytflcmnkaponehaa
