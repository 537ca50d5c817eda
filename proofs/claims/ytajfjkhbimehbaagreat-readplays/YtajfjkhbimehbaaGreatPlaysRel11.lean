/- Two reads tell the same; a space is what the document's is. Four reads of the code and of the document over one space and the document's. -/
import Derived.Test.YtajfjkhbimehbaaGreatRr11E
import Derived.Test.YtajfjkhbimehbaaGreatRSpD
import Derived.Test.YtajfjkhbimehbaaGreatUp
import Derived.Deep.RegionHeld3
import Derived.Test.YtajfjkhbimehbaaGreatRaw11C
namespace Go.Proofs.YtajfjkhbimehbaaGreat
open Go.RowKit
set_option linter.unusedVariables false
set_option linter.unusedSimpArgs false
attribute [local go_sem ↓] Go.wp_at_zero Go.wp_at_succ

theorem buildFr (a b c : Int) (d e : Int) (W : World) : (Instr.build 50 #[(0, .int .i64 a), (1, .int .i64 b), (2, .int .i64 c), (3, .agg #[.int .u64 d, .int .u64 e])]).run Tryz.prog W = .ok (.agg #[.int .i64 a, .int .i64 b, .int .i64 c, .int .u64 d, .int .u64 e]) W := by kernel_rfl
def buildOpF (t : TypeId) (ps : Array (Nat × Value)) : Sem Next := do pure (.value (← Instr.build t ps))
theorem exec_buildFr (ρ : Operand → Value) (dst : Option Tmp) (x y z t : Operand) (ty : TypeId) (pos : String) (after : Array Edge) (guard : Option (Nat × Bool)) :
    execOp ρ { dst, op := .build 50 #[(0, x), (1, y), (2, z), (3, t)], type := ty, pos, after, guard } = buildOpF 50 #[(0, ρ x), (1, ρ y), (2, ρ z), (3, ρ t)] := by simp [execOp, buildOpF]
theorem run_buildFr (a b c : Int) (d e : Int) (W : World) : (buildOpF 50 #[(0, .int .i64 a), (1, .int .i64 b), (2, .int .i64 c), (3, .agg #[.int .u64 d, .int .u64 e])]).run Tryz.prog W = .ok (.value (.agg #[.int .i64 a, .int .i64 b, .int .i64 c, .int .u64 d, .int .u64 e])) W := by
  simp only [buildOpF, Sem.run_bind, Sem.run_pure, buildFr, Result.andThen_ok]
attribute [local go_sem ↓] exec_buildFr run_buildFr exec_eqFr run_eqFr

set_option maxRecDepth 100000 in
set_option maxHeartbeats 2000000 in
theorem told_st {o w : World} {its : List It} {k t k2 s : Nat} {c : Cfg} {b : Rd} (h : St o its w) (i j : Nat) (hi : its[i]? = some (rdI k t b)) (hj : its[j]? = some (rrI k2 s b)) (hr : RFit c b) :
    Calls Tryz.prog 17 #[.pointer (some ⟨k, 0, none⟩), .pointer (some ⟨k2, 0, none⟩)] w fun e w' => e = .returned (.bool true) ∧ St o its w' := by
  have h1 := rdValue h i hi
  have h2 : ∀ q, Calls Tryz.prog 59 #[.pointer (some ⟨k2, 0, none⟩)] (w.drewN q) fun e w' => e = .returned (.tuple #[.int .i64 b.valX, .int .i64 b.e]) ∧ ∃ m, w' = w.drewN m := by
    intro q
    refine (rrValue (h.calm ((Kept.refl _ w).drewN q)) j hj hr.fit.st hr.er).mono ?_
    rintro e w' ⟨he, m, rfl⟩
    exact ⟨he, q + m, by rw [World.drewN_drewN]⟩
  obtain ⟨P, HP⟩ : ∃ P : World → Prop, P = fun W => St o its W := ⟨_, rfl⟩
  have HQ : Hid (∀ q, P (w.drewN q).drew) := fun q => by rw [HP]; exact (h.calm ((Kept.refl _ w).drewN q)).drew
  have D1 : Hid (∀ W, P W → Calls Tryz.prog 20 #[.pointer (some ⟨k, 0, none⟩)] W fun e w' => e = .returned (.bool (b.st == 4)) ∧ P w') := fun W hW => by
    have hW' := hW
    rw [HP] at hW'
    refine (rdDone hW' i hi hr.fit.st).mono ?_
    rintro e w' ⟨he, rfl⟩
    exact ⟨he, hW⟩
  have D2 : Hid (∀ W, P W → Calls Tryz.prog 60 #[.pointer (some ⟨k2, 0, none⟩)] W fun e w' => e = .returned (.bool (b.st == 4)) ∧ P w') := fun W hW => by
    have hW' := hW
    rw [HP] at hW'
    refine (rrDone hW' j hj hr.fit.st).mono ?_
    rintro e w' ⟨he, rfl⟩
    exact ⟨he, hW⟩
  have F1 : Hid (∀ W, P W → Calls Tryz.prog 22 #[.pointer (some ⟨k, 0, none⟩)] W fun e w' => e = .returned (.agg #[.int .i64 b.sl, .int .i64 b.gn, .int .i64 b.sn, .int .u64 b.sg.lo, .int .u64 b.sg.hi]) ∧ P w') := fun W hW => by
    rw [HP] at hW ⊢
    exact rdFrom hW i hi
  have CH : Hid (∀ W, P W → W.cell? ⟨k2, 1, none⟩ = some (.int .i64 b.sl) ∧ W.cell? ⟨k2, 2, none⟩ = some (.int .i64 b.gn) ∧ W.cell? ⟨k2, 3, none⟩ = some (.int .i64 b.sn) ∧ W.cell? ⟨k2, 4, none⟩ = some (.int .u64 b.sg.lo) ∧ W.cell? ⟨k2, 5, none⟩ = some (.int .u64 b.sg.hi) ∧ P W) := fun W hW => by
    have hW' := hW
    rw [HP] at hW'
    exact ⟨rrCell hW' j hj 1, rrCell hW' j hj 2, rrCell hW' j hj 3, rrCell hW' j hj 4, rrCell hW' j hj 5, hW⟩
  have HE : Hid (∀ W, P W → St o its W) := fun W hW => by rw [HP] at hW; exact hW
  clear h hi hj hr HP
  generalize b.valX = x1 at *
  generalize b.e = x2 at *
  generalize (b.st == 4) = f at *
  generalize b.sl = y0 at *
  generalize b.gn = y1 at *
  generalize b.sn = y2 at *
  generalize b.sg.lo = y3 at *
  generalize b.sg.hi = y4 at *
  have t1 : (x1 == x1) = true := by simp
  have t2 : (x2 == x2) = true := by simp
  have t4 : (f == f) = true := by simp
  go_enter Tryz.func17, Tryz.ntmps17
  go_wp2_with fail
  refine h1.mono ?_
  rintro e w1 ⟨rfl, q1, rfl⟩
  clear h1
  have h3 := h2 q1
  clear h2
  go_wp2_with fail
  refine h3.mono ?_
  rintro e w2 ⟨rfl, q2, rfl⟩
  clear h3
  have hH := HQ.out q2
  clear HQ
  go_upto_region 3 with fail
  go_region_held3 (fun W => W.cell? ⟨k2, 1, none⟩ = some (.int .i64 y0) ∧ W.cell? ⟨k2, 2, none⟩ = some (.int .i64 y1) ∧ W.cell? ⟨k2, 3, none⟩ = some (.int .i64 y2) ∧ W.cell? ⟨k2, 4, none⟩ = some (.int .u64 y3) ∧ W.cell? ⟨k2, 5, none⟩ = some (.int .u64 y4) ∧ P W)
    (exact CH.out _ hH)
    (first | (go_at_call 20; refine (D1.out _ hH).mono ?_; rintro e wx ⟨rfl, hH⟩) | (go_at_call 60; refine (D2.out _ hH).mono ?_; rintro e wx ⟨rfl, hH⟩) | (go_at_call 22; refine (F1.out _ hH).mono ?_; rintro e wx ⟨rfl, hH⟩))
  go_wp2
  go_ret
  exact ⟨rfl, HE.out _ hH⟩

set_option maxRecDepth 100000 in
set_option maxHeartbeats 2000000 in
theorem same_st {o w : World} {its : List It} {A : Ad} {B : Bd} {c : Cfg} {z : SSt} {v u p q : Value} (h : St o its w) (i j : Nat) (hi : its[i]? = some (spI A c z v u)) (hj : its[j]? = some (rpI B c z p q)) {k : Nat} (ok : z.ok c k) (hk : k ≤ 4611686018427) :
    Calls Tryz.prog 18 #[spp A, rpp B] w fun e w' => e = .returned (.bool true) ∧ St o its w' := by
  obtain ⟨nx, hnx⟩ : ∃ nx, z.xs.length = nx := ⟨_, rfl⟩
  obtain ⟨nh, hnh⟩ : ∃ nh, z.hs.length = nh := ⟨_, rfl⟩
  obtain ⟨P, HP⟩ : ∃ P : World → Prop, P = fun W => St o its W := ⟨_, rfl⟩
  have hH : P w.drew := by rw [HP]; exact h.drew
  have CH : Hid (∀ W, P W → W.cell? ⟨A.sp, 0, none⟩ = some (.pointer (some ⟨A.m, 0, none⟩)) ∧ W.cell? ⟨B.sp, 6, none⟩ = some (.pointer (some ⟨B.m, 0, none⟩)) ∧ W.cell? ⟨B.m, 4, none⟩ = some p ∧ W.cell? ⟨B.m, 3, none⟩ = some (.int .i64 z.s.mo) ∧ P W) := by
    intro W h
    have h' := h
    rw [HP] at h'
    exact ⟨spCell h' i hi 0, rpCell h' j hj 6, cell_of_heap (rpMeter h' j hj).heap, cell_of_heap (rpMeter h' j hj).heap, h⟩
  have V1 : ∀ W, P W → Calls Tryz.prog 62 #[.pointer (some ⟨A.sp, 0, none⟩)] W fun e w' => ∃ pa ca ps cs, e = .returned (.agg #[.slice (some ⟨pa, 0, none⟩) nx ca, .int .i64 z.x.n, .int .i64 z.x.o, .slice (some ⟨ps, 0, none⟩) nh cs]) ∧ P w' ∧ Hid (St o (ownI 2 1 (.slice (some ⟨pa, 0, none⟩) nx ca) nx (clCells z.xs) :: ownI 156 8 (.slice (some ⟨ps, 0, none⟩) nh cs) nh (slCells (slots z.hs z.ws)) :: its) w') := by
    intro W h
    rw [HP] at h ⊢
    refine (spView h i hi ok.wl ok.h1 ok.h8).mono ?_
    rintro e w' ⟨va, vs, he, h'⟩
    have hx1 : 0 < z.xs.length := ok.c1
    have hx2 : 0 < z.hs.length := ok.h1
    rw [hnx, hnh] at *
    obtain ⟨pa, ca, rfl⟩ := h'.form 0 rfl hx1
    obtain ⟨ps, cs, rfl⟩ := h'.form 1 rfl hx2
    exact ⟨pa, ca, ps, cs, he, St.tail [_, _] h', h'⟩
  have I1 : ∀ W pa ca ps cs, Hid (St o (ownI 2 1 (.slice (some ⟨pa, 0, none⟩) nx ca) nx (clCells z.xs) :: ownI 156 8 (.slice (some ⟨ps, 0, none⟩) nh cs) nh (slCells (slots z.hs z.ws)) :: its) W) → Calls Tryz.prog 61 #[.pointer (some ⟨B.sp, 0, none⟩), .agg #[.slice (some ⟨pa, 0, none⟩) nx ca, .int .i64 z.x.n, .int .i64 z.x.o, .slice (some ⟨ps, 0, none⟩) nh cs]] W fun e w' => e = .returned (.bool true) ∧ P w' := by
    intro W pa ca ps cs h
    rw [HP]
    refine (rpIs h.out (j + 2) 0 1 hj rfl rfl hnx hnh (by have := ok.h8; omega)).mono ?_
    rintro e w' ⟨he, hk⟩
    exact ⟨he, St.tail [_, _] (h.out.calm hk)⟩
  have G1 : ∀ W, P W → Calls Tryz.prog 64 #[.pointer (some ⟨A.m, 0, none⟩)] W fun e w' => ∃ vl, e = .returned vl ∧ P w' ∧ Hid (St o (ownI 166 6 vl z.s.l.length (logCells z.s.l) :: its) w') := by
    intro W h
    rw [HP] at h ⊢
    refine (spLog h i hi ok hk).mono ?_
    rintro e w' ⟨vl, he, h'⟩
    exact ⟨vl, he, h'.pop, h'⟩
  have S1 : ∀ W vl, Hid (St o (ownI 166 6 vl z.s.l.length (logCells z.s.l) :: its) W) → Calls Tryz.prog 63 #[vl, p] W fun e w' => e = .returned (.bool true) ∧ P w' := by
    intro W vl h
    rw [HP]
    have ha : W.ownsRow 0 166 6 vl z.s.l.length (logCells z.s.l) := h.out.get 0 rfl
    refine (same_true 0 0 vl p z.s.l W ha (rpMeter h.out (j + 1) hj).own (by have := ok.met.len; omega)).mono ?_
    rintro e w' ⟨he, q, rfl⟩
    exact ⟨he, (h.out.calm ((Kept.refl _ W).drewN q)).pop⟩
  have M1 : ∀ W, P W → Calls Tryz.prog 65 #[.pointer (some ⟨A.m, 0, none⟩)] W fun e w' => e = .returned (.int .i64 z.s.mo) ∧ P w' := by
    intro W h
    have h' := h
    rw [HP] at h'
    refine (spMost h' i hi).mono ?_
    rintro e w' ⟨he, rfl⟩
    exact ⟨he, h⟩
  have HE : Hid (∀ W, P W → St o its W) := by
    intro W h
    rw [HP] at h
    exact h
  clear HP h hi hj ok hnx hnh
  generalize z.s.mo = mo at *
  have tm : (mo == mo) = true := by simp
  unfold spp rpp
  go_enter Tryz.func18, Tryz.ntmps18
  go_upto_region 1 with fail
  go_region_held3 (fun W => W.cell? ⟨A.sp, 0, none⟩ = some (.pointer (some ⟨A.m, 0, none⟩)) ∧ W.cell? ⟨B.sp, 6, none⟩ = some (.pointer (some ⟨B.m, 0, none⟩)) ∧ W.cell? ⟨B.m, 4, none⟩ = some p ∧ W.cell? ⟨B.m, 3, none⟩ = some (.int .i64 mo) ∧ P W)
    (exact CH.out _ hH)
    (first | (go_at_call 62; refine (V1 _ hH).mono ?_; rintro e wx ⟨pa, ca, ps, cs, rfl, hH, hV⟩) | (go_at_call 61; refine (I1 _ _ _ _ _ hV).mono ?_; rintro e wx ⟨rfl, hH⟩) | (go_at_call 64; refine (G1 _ hH).mono ?_; rintro e wx ⟨vl, rfl, hH, hV⟩) | (go_at_call 63; refine (S1 _ _ hV).mono ?_; rintro e wx ⟨rfl, hH⟩) | (go_at_call 65; refine (M1 _ hH).mono ?_; rintro e wx ⟨rfl, hH⟩))
  go_wp2
  go_ret
  exact ⟨rfl, HE.out _ hH⟩
end Go.Proofs.YtajfjkhbimehbaaGreat

namespace Go.Proofs.YtajfjkhbimehbaaGreat
open Go.RowKit
set_option linter.unusedVariables false
set_option linter.unusedSimpArgs false

abbrev Mc := Option (Nat × Nat × Rd)
def mcL (t s : Nat) : Mc → List It
  | none => []
  | some (k1, k2, b) => [rdI k1 t b, rrI k2 s b]
def mcI (t s : Nat) (x : Mc) : It := joinI (mcL t s x)
def ptr1 : Mc → Value
  | none => .pointer none
  | some (k1, _, _) => .pointer (some ⟨k1, 0, none⟩)
def ptr2 : Mc → Value
  | none => .pointer none
  | some (_, k2, _) => .pointer (some ⟨k2, 0, none⟩)
def xI (X : Nat) (ms : List Mc) : It := boxI X (ms.map ptr1).toArray 43
def yI (Y : Nat) (ms : List Mc) : It := boxI Y (ms.map ptr2).toArray 45
def FitAll (c : Cfg) (ms : List Mc) : Prop := ∀ (m : Nat) (k1 k2 : Nat) (b : Rd), ms[m]? = some (some (k1, k2, b)) → RFit c b
/-- All that there is. -/
def plL (A : Ad) (B : Bd) (c : Cfg) (X Y : Nat) (ms : List Mc) (z : SSt) (v u p q : Value) : List It := xI X ms :: yI Y ms :: spI A c z v u :: rpI B c z p q :: ms.map (mcI A.sp B.sp)
def PRel (w : World) (c : Cfg) (A : Ad) (B : Bd) (X Y : Nat) (kk : Nat) (ms : List Mc) (wr : World) : Prop :=
  ∃ z v u p q, ms.length = 4 ∧ z.ok c (kk + 1) ∧ FitAll c ms ∧ St w (plL A B c X Y ms z v u p q) wr

theorem mc_at {t s : Nat} {ms : List Mc} {m : Nat} {x : Mc} (h : ms[m]? = some x) : (ms.map (mcI t s))[m]? = some (mcI t s x) := by simp [h]
theorem mc_set {t s : Nat} (ms : List Mc) (m : Nat) (x : Mc) : (ms.map (mcI t s)).set m (mcI t s x) = (ms.set m x).map (mcI t s) := by rw [List.map_set]
theorem x_at {ms : List Mc} {m : Nat} {x : Mc} (h : ms[m]? = some x) : ((ms.map ptr1).toArray)[m]? = some (ptr1 x) := by simp [h]
theorem y_at {ms : List Mc} {m : Nat} {x : Mc} (h : ms[m]? = some x) : ((ms.map ptr2).toArray)[m]? = some (ptr2 x) := by simp [h]
theorem x_set (ms : List Mc) (m : Nat) (x : Mc) : ((ms.map ptr1).toArray).setIfInBounds m (ptr1 x) = ((ms.set m x).map ptr1).toArray := by rw [List.setIfInBounds_toArray, List.map_set]
theorem y_set (ms : List Mc) (m : Nat) (x : Mc) : ((ms.map ptr2).toArray).setIfInBounds m (ptr2 x) = ((ms.set m x).map ptr2).toArray := by rw [List.setIfInBounds_toArray, List.map_set]
theorem FitAll.set {n : Cfg} {ms : List Mc} (h : FitAll n ms) (m : Nat) (k1 k2 : Nat) {b : Rd} (hb : RFit n b) : FitAll n (ms.set m (some (k1, k2, b))) := by
  intro j a1 a2 b' hj
  by_cases hm : m = j
  · subst hm
    have hl : m < (ms.set m (some (k1, k2, b))).length := (List.getElem?_eq_some_iff.1 hj).1
    rw [List.length_set] at hl
    rw [List.getElem?_set_self hl] at hj
    simp only [Option.some.injEq, Prod.mk.injEq] at hj
    rw [← hj.2.2]
    exact hb
  · rw [List.getElem?_set_ne hm] at hj
    exact h j a1 a2 b' hj
theorem FitAll.drop {n : Cfg} {ms : List Mc} (h : FitAll n ms) (m : Nat) : FitAll n (ms.set m none) := by
  intro j a1 a2 b' hj
  by_cases hm : m = j
  · subst hm
    have hl : m < (ms.set m none).length := (List.getElem?_eq_some_iff.1 hj).1
    rw [List.length_set] at hl
    rw [List.getElem?_set_self hl] at hj
    simp at hj
  · rw [List.getElem?_set_ne hm] at hj
    exact h j a1 a2 b' hj

section
variable {o w : World} {its pre L : List It} {A' : It} {m : Nat}
/-- What lies at m of the rest is put in its place. -/
theorem St.swapIn {l : List It} (h : St o (l ++ (pre ++ L)) w) (hL : L[m]? = some A') : St o (pre ++ L.set m (joinI l)) w := by
  have p1 : (l ++ (pre ++ L)).Perm (A' :: (l ++ (pre ++ L.eraseIdx m))) := by
    have a1 : (pre ++ L).Perm (A' :: (pre ++ L.eraseIdx m)) := ((perm_at hL).append_left pre).trans List.perm_middle
    exact (a1.append_left l).trans List.perm_middle
  have h2 := (h.perm p1).pop
  have h3 := h2.unite
  have p2 : (joinI l :: (pre ++ L.eraseIdx m)).Perm (pre ++ L.set m (joinI l)) := List.perm_middle.symm.trans ((perm_set hL (joinI l)).symm.append_left pre)
  exact h3.perm p2
end
end Go.Proofs.YtajfjkhbimehbaaGreat
