/- Spaces: what they hold, and how they lie in memory. What can be asked of a space: call by call. -/
import Derived.Test.YthbcbjkgjgmegaaGreatJoin
import Derived.Test.YthbcbjkgjgmegaaGreatClX
import Derived.Test.YthbcbjkgjgmegaaGreatTurn
import Derived.Test.YthbcbjkgjgmegaaGreatCk
namespace Go.Proofs.YthbcbjkgjgmegaaGreat
open Go.RowKit
set_option linter.unusedVariables false
set_option linter.unusedSimpArgs false
attribute [local go_sem ↓] Go.wp_at_zero Go.wp_at_succ

/-- One event. -/
structure Ev where
  kd : Int
  st : Int
  th : Int
  sp : Int
  ce : Int
  x : Int
  ow : Bool
  ga : Int
  er : Int
  by_ : Int
def Ev.cells (e : Ev) : List Value := [.int .i64 e.kd, .int .i64 e.st, .int .i64 e.th, .int .i64 e.sp, .int .i64 e.ce, .int .i64 e.x, .bool e.ow, .int .i64 e.ga, .int .i64 e.er, .int .i64 e.by_]
def Ev.val (e : Ev) : Value := .agg #[.int .i64 e.kd, .int .i64 e.st, .int .i64 e.th, .int .i64 e.sp, .int .i64 e.ce, .int .i64 e.x, .bool e.ow, .int .i64 e.ga, .int .i64 e.er, .int .i64 e.by_]
def Ev.at_ (e : Ev) (n : Int) : Ev := ⟨e.kd, n, e.th, e.sp, e.ce, e.x, e.ow, e.ga, e.er, e.by_⟩
def evCells : List Ev → List Value
  | [] => []
  | a :: l => a.cells ++ evCells l
theorem evCells_append (l k : List Ev) : evCells (l ++ k) = evCells l ++ evCells k := by
  induction l with
  | nil => rfl
  | cons a l ih => simp [evCells, ih]
theorem evCells_length (l : List Ev) : (evCells l).length = l.length * 10 := by
  induction l with
  | nil => rfl
  | cons a l ih => simp [evCells, Ev.cells, ih]; omega
theorem evCells_one (l : List Ev) : ∀ u ∈ evCells l, u.oneCell' = true := by
  induction l with
  | nil => intro u h; cases h
  | cons a l ih =>
    intro u h
    simp only [evCells, List.mem_append] at h
    rcases h with h | h
    · simp only [Ev.cells, List.mem_cons, List.not_mem_nil, or_false] at h
      rcases h with h | h | h | h | h | h | h | h | h | h <;> subst h <;> rfl
    · exact ih u h
theorem ev_cells (l : List Ev) : ∀ j (hj : j < l.length), (evCells l)[j * 10]? = some (.int .i64 l[j].kd) ∧ (evCells l)[j * 10 + 1]? = some (.int .i64 l[j].st) ∧ (evCells l)[j * 10 + 2]? = some (.int .i64 l[j].th) ∧ (evCells l)[j * 10 + 3]? = some (.int .i64 l[j].sp) ∧ (evCells l)[j * 10 + 4]? = some (.int .i64 l[j].ce) ∧ (evCells l)[j * 10 + 5]? = some (.int .i64 l[j].x) ∧ (evCells l)[j * 10 + 6]? = some (.bool l[j].ow) ∧ (evCells l)[j * 10 + 7]? = some (.int .i64 l[j].ga) ∧ (evCells l)[j * 10 + 8]? = some (.int .i64 l[j].er) ∧ (evCells l)[j * 10 + 9]? = some (.int .i64 l[j].by_) := by
  induction l with
  | nil => intro j hj; simp at hj
  | cons a l ih =>
    intro j hj
    cases j with
    | zero => simp [evCells, Ev.cells]
    | succ j =>
      have h := ih j (by simpa using hj)
      have e : ∀ d, (evCells (a :: l))[(j + 1) * 10 + d]? = (evCells l)[j * 10 + d]? := by
        intro d
        simp only [evCells]
        rw [List.getElem?_append_right (by simp [Ev.cells]; omega)]
        congr 1
        simp [Ev.cells]; omega
      have e0 : (evCells (a :: l))[(j + 1) * 10]? = (evCells l)[j * 10]? := e 0
      rw [e0, e 1, e 2, e 3, e 4, e 5, e 6, e 7, e 8, e 9]
      simpa using h
theorem Tryz.infoEv : (Tryz.prog.info? 145).map (fun i => (i.zero, i.size, i.bytes)) = some (some (.agg #[.int .i64 0, .int .i64 0, .int .i64 0, .int .i64 0, .int .i64 0, .int .i64 0, .bool false, .int .i64 0, .int .i64 0, .int .i64 0]), 10, 80) := by kernel_rfl

/-- A block that has a list of events in its last cell. -/
structure HeadAt (ty : TypeId) (F : Value → Array Value) (w : World) (k : Nat) (v : Value) (l : List Ev) : Prop where
  heap : w.heap[k]? = some (.cells (F v) ty (0, 0))
  own : w.ownsRow 0 145 10 v l.length (evCells l)
  apart : v.ownBlock ≠ some k
def headI (ty : TypeId) (F : Value → Array Value) (k : Nat) (v : Value) (l : List Ev) : It :=
  ⟨k :: v.ownBlock.toList, fun w => HeadAt ty F w k v l,
   fun w w' h p => ⟨(h k (by simp)).trans p.heap, own_loc p.own (fun b hb => h b (by simp [hb])), p.apart⟩,
   fun w p b hb => by
     rcases List.mem_cons.1 hb with rfl | hb
     · exact lt_of_heap p.heap
     · exact (p.own.lt b (by simpa using hb)).2⟩

/-- What there is to be seen of a space. -/
structure SSt where
  s : Mt
  xs : List Int
  x : Gt
  hs : List Hd
  ws : List Int
  ev : List Ev
def SSt.zero (c : Cfg) : SSt := ⟨Mt.zero, List.replicate c.ce.toNat 0, Gt.zero, List.replicate c.sl.toNat Hd.zero, List.replicate (c.sl.toNat * 2) 0, []⟩
/-- It is what at most k calls have left of a space made of c. -/
structure SSt.ok (z : SSt) (c : Cfg) (k : Nat) : Prop where
  met : z.s.within k
  hd : HsOk z.hs k
  g0 : 0 ≤ z.x.n
  g1 : z.x.n ≤ k
  gk : GOk z.x.n z.x.o
  wl : z.ws.length = z.hs.length * 2
  el : z.ev.length ≤ k
  cl : (z.xs.length : Int) = c.ce
  hl : (z.hs.length : Int) = c.sl
  c1 : 1 ≤ z.xs.length
  c2 : z.xs.length ≤ 256
  h1 : 1 ≤ z.hs.length
  h8 : z.hs.length ≤ 8
theorem SSt.ok_zero (c : Cfg) (h : c.fits = true) (k : Nat) : (SSt.zero c).ok c k := by
  obtain ⟨a1, a2, a3, a4⟩ := Cfg.fits_cells h
  exact ⟨Mt.within_zero k, HsOk.rep _ _, Int.le_refl _, Int.natCast_nonneg _, .inl ⟨rfl, rfl⟩, by simp [SSt.zero], Nat.zero_le _, by simp [SSt.zero]; omega, by simp [SSt.zero]; omega, by simp [SSt.zero]; omega, by simp [SSt.zero]; omega, by simp [SSt.zero]; omega, by simp [SSt.zero]; omega⟩
theorem SSt.ok.more {z : SSt} {c : Cfg} {k n : Nat} (h : z.ok c k) (hk : k ≤ n) : z.ok c n :=
  ⟨h.met.more hk, h.hd.more hk, h.g0, by have := h.g1; omega, h.gk, h.wl, by have := h.el; omega, h.cl, h.hl, h.c1, h.c2, h.h1, h.h8⟩

/-- Where a space's parts lie. -/
structure Ad where
  sp : Nat
  m : Nat
  r : Nat
  c : Nat
  g : Nat
  gr : Nat
  gc : Nat
  t : Nat
  hr : Nat
  hc : Nat
  q : Nat
  f : Nat
def spF (A : Ad) (c : Cfg) (v : Value) : Array Value := #[.pointer (some ⟨A.m, 0, none⟩), .int .i64 c.ce, .int .i64 c.sl, .int .i64 c.bi, .int .i64 c.ta, .int .i64 c.ba, .int .i64 c.de, .pointer (some ⟨A.r, 0, none⟩), .pointer (some ⟨A.g, 0, none⟩), .pointer (some ⟨A.t, 0, none⟩), v]
def spL (A : Ad) (c : Cfg) (z : SSt) (v u : Value) : List It :=
  [headI 92 (spF A c) A.sp u z.ev, gateI A.g A.gr, gtRowI A.gr A.gc (some A.m) 2 [z.x], tabI A.t A.hr A.q, wdRowI A.q A.f (some A.m) 4 z.ws, hdRowI A.hr A.hc (some A.m) 3 z.hs, clRowI A.r A.c (some A.m) 1 z.xs, meterI 174 (some A.m) z.s v]
def spI (A : Ad) (c : Cfg) (z : SSt) (v u : Value) : It := joinI (spL A c z v u)
def spp (A : Ad) : Value := .pointer (some ⟨A.sp, 0, none⟩)
section
variable {o w : World} {its R : List It} {A : Ad} {c : Cfg} {z : SSt} {v u : Value}
theorem spAt0 : (spL A c z v u ++ R)[0]? = some (headI 92 (spF A c) A.sp u z.ev) := rfl
theorem spAt1 : (spL A c z v u ++ R)[1]? = some (gateI A.g A.gr) := rfl
theorem spAt2 : (spL A c z v u ++ R)[2]? = some (gtRowI A.gr A.gc (some A.m) 2 [z.x]) := rfl
theorem spAt3 : (spL A c z v u ++ R)[3]? = some (tabI A.t A.hr A.q) := rfl
theorem spAt4 : (spL A c z v u ++ R)[4]? = some (wdRowI A.q A.f (some A.m) 4 z.ws) := rfl
theorem spAt5 : (spL A c z v u ++ R)[5]? = some (hdRowI A.hr A.hc (some A.m) 3 z.hs) := rfl
theorem spAt6 : (spL A c z v u ++ R)[6]? = some (clRowI A.r A.c (some A.m) 1 z.xs) := rfl
theorem spAt7 : (spL A c z v u ++ R)[7]? = some (meterI 174 (some A.m) z.s v) := rfl
theorem spHead (h : St o its w) (i : Nat) (hi : its[i]? = some (spI A c z v u)) : HeadAt 92 (spF A c) w A.sp u z.ev := (h.open i hi).get 0 spAt0
theorem spCell (h : St o its w) (i : Nat) (hi : its[i]? = some (spI A c z v u)) (j : Nat) : w.cell? ⟨A.sp, j, none⟩ = (spF A c u)[j]? := cell_of_heap (spHead h i hi).heap
theorem spFrozen (h : St o its w) (i : Nat) (hi : its[i]? = some (spI A c z v u)) (j : Nat) : w.frozen? ⟨A.sp, j, none⟩ = false := frozen_of_heap (spHead h i hi).heap
end
end Go.Proofs.YthbcbjkgjgmegaaGreat

namespace Go.Proofs.YthbcbjkgjgmegaaGreat
open Go.RowKit
set_option linter.unusedVariables false
set_option linter.unusedSimpArgs false
attribute [local go_sem ↓] Go.wp_at_zero Go.wp_at_succ

/-- Is there such a cell? -/
def cin (xs : List Int) (k : Int) : Bool := decide (0 ≤ k) && decide (k < xs.length)
theorem cin_cases (xs : List Int) (k : Int) : (∃ n : Nat, ∃ h : n < xs.length, k = n ∧ cin xs k = true) ∨ (¬ (0 ≤ k ∧ k < xs.length) ∧ cin xs k = false) := by
  by_cases h : 0 ≤ k ∧ k < xs.length
  · obtain ⟨n, rfl⟩ := Int.eq_ofNat_of_zero_le h.1
    exact .inl ⟨n, by omega, rfl, by simp [cin]; omega⟩
  · refine .inr ⟨h, ?_⟩
    simp only [cin, Bool.and_eq_false_iff, decide_eq_false_iff_not]
    omega
def loadE (xs : List Int) (k : Int) : Int := if cin xs k then 0 else 2
def loadR (xs : List Int) (k : Int) : Int := if cin xs k then xs.getD k.toNat 0 else 0
def loadS (s : Mt) (xs : List Int) (k : Int) : Mt := if cin xs k then s.note 1 k 1 true else s
def storeS (s : Mt) (xs : List Int) (k : Int) : Mt := if cin xs k then s.note 1 k 2 true else s
def storeX (xs : List Int) (k x : Int) : List Int := if cin xs k then xs.set k.toNat x else xs
theorem loadS_within {s : Mt} {n : Nat} (h : s.within n) (xs : List Int) (k : Int) : (loadS s xs k).within (n + 1) := by
  unfold loadS; split
  · exact h.note _ _ _ _
  · exact h.more (Nat.le_succ _)
theorem storeS_within {s : Mt} {n : Nat} (h : s.within n) (xs : List Int) (k : Int) : (storeS s xs k).within (n + 1) := by
  unfold storeS; split
  · exact h.note _ _ _ _
  · exact h.more (Nat.le_succ _)
theorem storeX_length (xs : List Int) (k x : Int) : (storeX xs k x).length = xs.length := by
  unfold storeX; split <;> simp

def SSt.turn (z : SSt) (t : Int) : SSt := ⟨z.s.start t, z.xs, z.x, z.hs, z.ws, z.ev⟩
def SSt.load (z : SSt) (k : Int) : SSt := ⟨loadS z.s z.xs k, z.xs, z.x, z.hs, z.ws, z.ev⟩
def SSt.store (z : SSt) (k x : Int) : SSt := ⟨storeS z.s z.xs k, storeX z.xs k x, z.x, z.hs, z.ws, z.ev⟩
def SSt.fill (z : SSt) (l : List Int) : SSt := ⟨z.s, fillRow z.xs l, z.x, z.hs, z.ws, z.ev⟩
def SSt.take (z : SSt) (t : Int) : SSt := ⟨takeS z.s z.x t, z.xs, takeX z.x t, z.hs, z.ws, z.ev⟩
def SSt.give (z : SSt) (t : Int) : SSt := ⟨giveS z.s z.x t, z.xs, giveX z.x t, z.hs, z.ws, z.ev⟩
def SSt.op (z : SSt) (p : HOp) (i : Int) : SSt := ⟨p.S z.s z.hs i, z.xs, z.x, p.H z.hs i, z.ws, z.ev⟩
def SSt.word (z : SSt) (i j : Int) : SSt := ⟨wordS z.s z.hs.length i j, z.xs, z.x, z.hs, z.ws, z.ev⟩
def SSt.put (z : SSt) (i j x : Int) : SSt := ⟨putS z.s z.hs.length i j, z.xs, z.x, z.hs, putW z.ws z.hs.length i j x, z.ev⟩
def SSt.noted (z : SSt) (e : Ev) : SSt := ⟨z.s, z.xs, z.x, z.hs, z.ws, z.ev ++ [e.at_ z.s.st]⟩
section
variable {z : SSt} {c : Cfg} {k : Nat}
theorem SSt.ok.turn (h : z.ok c k) (t : Int) : (z.turn t).ok c (k + 1) :=
  let g := h.more (Nat.le_succ k); ⟨h.met.start t, g.hd, g.g0, g.g1, g.gk, g.wl, g.el, g.cl, g.hl, g.c1, g.c2, g.h1, g.h8⟩
theorem SSt.ok.load (h : z.ok c k) (i : Int) : (z.load i).ok c (k + 1) :=
  let g := h.more (Nat.le_succ k); ⟨loadS_within h.met _ _, g.hd, g.g0, g.g1, g.gk, g.wl, g.el, g.cl, g.hl, g.c1, g.c2, g.h1, g.h8⟩
theorem SSt.ok.store (h : z.ok c k) (i x : Int) : (z.store i x).ok c (k + 1) :=
  let g := h.more (Nat.le_succ k); ⟨storeS_within h.met _ _, g.hd, g.g0, g.g1, g.gk, g.wl, g.el, by simp only [SSt.store, storeX_length]; exact g.cl, g.hl, by simp only [SSt.store, storeX_length]; exact g.c1, by simp only [SSt.store, storeX_length]; exact g.c2, g.h1, g.h8⟩
theorem SSt.ok.fill (h : z.ok c k) (l : List Int) : (z.fill l).ok c (k + 1) :=
  let g := h.more (Nat.le_succ k); ⟨g.met, g.hd, g.g0, g.g1, g.gk, g.wl, g.el, by simp only [SSt.fill, fillRow_length]; exact g.cl, g.hl, by simp only [SSt.fill, fillRow_length]; exact g.c1, by simp only [SSt.fill, fillRow_length]; exact g.c2, g.h1, g.h8⟩
theorem SSt.ok.take (h : z.ok c k) (t : Int) : (z.take t).ok c (k + 1) :=
  let g := h.more (Nat.le_succ k); ⟨takeS_within h.met _ _, g.hd, by have := takeX_near z.x t; have := h.g0; simp only [SSt.take]; omega, by have := takeX_near z.x t; have := h.g1; simp only [SSt.take]; omega, GOk.take h.gk t, g.wl, g.el, g.cl, g.hl, g.c1, g.c2, g.h1, g.h8⟩
theorem SSt.ok.give (h : z.ok c k) (t : Int) : (z.give t).ok c (k + 1) :=
  let g := h.more (Nat.le_succ k); ⟨giveS_within h.met _ _, g.hd, by have := giveX_near z.x t; have := h.g0; simp only [SSt.give]; omega, by have := giveX_near z.x t; have := h.g1; simp only [SSt.give]; omega, GOk.give h.gk t, g.wl, g.el, g.cl, g.hl, g.c1, g.c2, g.h1, g.h8⟩
theorem SSt.ok.op (h : z.ok c k) (p : HOp) (i : Int) (hp : HsOk (p.H z.hs i) (k + 1)) : (z.op p i).ok c (k + 1) :=
  let g := h.more (Nat.le_succ k); ⟨HOp.within p h.met _ _, hp, g.g0, g.g1, g.gk, by simp only [SSt.op, HOp.len]; exact g.wl, g.el, g.cl, by simp only [SSt.op, HOp.len]; exact g.hl, g.c1, g.c2, by simp only [SSt.op, HOp.len]; exact g.h1, by simp only [SSt.op, HOp.len]; exact g.h8⟩
theorem SSt.ok.word (h : z.ok c k) (i j : Int) : (z.word i j).ok c (k + 1) :=
  let g := h.more (Nat.le_succ k); ⟨wordS_within h.met _ _ _, g.hd, g.g0, g.g1, g.gk, g.wl, g.el, g.cl, g.hl, g.c1, g.c2, g.h1, g.h8⟩
theorem SSt.ok.put (h : z.ok c k) (i j x : Int) : (z.put i j x).ok c (k + 1) :=
  let g := h.more (Nat.le_succ k); ⟨putS_within h.met _ _ _, g.hd, g.g0, g.g1, g.gk, by simp only [SSt.put, putW_len]; exact g.wl, g.el, g.cl, g.hl, g.c1, g.c2, g.h1, g.h8⟩
theorem SSt.ok.noted (h : z.ok c k) (e : Ev) : (z.noted e).ok c (k + 1) :=
  let g := h.more (Nat.le_succ k); ⟨g.met, g.hd, g.g0, g.g1, g.gk, g.wl, by have := h.el; simp only [SSt.noted, List.length_append, List.length_singleton]; omega, g.cl, g.hl, g.c1, g.c2, g.h1, g.h8⟩
end

section
variable {o w : World} {its : List It} {A : Ad} {c : Cfg} {z : SSt} {v u : Value}

theorem spGate (h : St o its w) (i : Nat) (hi : its[i]? = some (spI A c z v u)) :
    Calls Tryz.prog 300 #[spp A] w fun e w' => e = .returned (.pointer (some ⟨A.g, 0, none⟩)) ∧ w' = w := by
  have hc : w.cell? ⟨A.sp, 8, none⟩ = some (.pointer (some ⟨A.g, 0, none⟩)) := spCell h i hi 8
  clear h hi
  unfold spp
  go_enter Tryz.func300, Tryz.ntmps300
  go_wp2
  go_ret
  exact ⟨rfl, rfl⟩

theorem spSlots (h : St o its w) (i : Nat) (hi : its[i]? = some (spI A c z v u)) :
    Calls Tryz.prog 243 #[spp A] w fun e w' => e = .returned (.pointer (some ⟨A.t, 0, none⟩)) ∧ w' = w := by
  have hc : w.cell? ⟨A.sp, 9, none⟩ = some (.pointer (some ⟨A.t, 0, none⟩)) := spCell h i hi 9
  clear h hi
  unfold spp
  go_enter Tryz.func243, Tryz.ntmps243
  go_wp2
  go_ret
  exact ⟨rfl, rfl⟩

theorem spSteps (h : St o its w) (i : Nat) (hi : its[i]? = some (spI A c z v u)) : Calls Tryz.prog 215 #[.pointer (some ⟨A.m, 0, none⟩)] w fun e w' => e = .returned (.int .i64 z.s.st) ∧ w' = w := steps_st (h.open i hi) 7 spAt7
theorem spStep (h : St o its w) (i : Nat) (hi : its[i]? = some (spI A c z v u)) :
    Calls Tryz.prog 192 #[spp A] w fun e w' => e = .returned (.int .i64 z.s.st) ∧ w' = w := by
  have hc : w.cell? ⟨A.sp, 0, none⟩ = some (.pointer (some ⟨A.m, 0, none⟩)) := spCell h i hi 0
  have hq := spSteps h i hi
  clear h hi
  unfold spp
  go_enter Tryz.func192, Tryz.ntmps192
  go_wp2_with (go_at_call 215; refine hq.mono ?_; rintro e w' ⟨rfl, rfl⟩)
  go_ret
  exact ⟨rfl, rfl⟩

set_option maxRecDepth 100000 in
theorem spTurn (h : St o its w) (i : Nat) (hi : its[i]? = some (spI A c z v u)) {k : Nat} (ok : z.ok c k) (hk : k ≤ 4611686018427) (t : Int) :
    Calls Tryz.prog 24 #[spp A, .int .i64 t] w fun e w' => e = .returned (.tuple #[]) ∧ St o (its.set i (spI A c (z.turn t) v u)) w' := by
  have hc : w.cell? ⟨A.sp, 0, none⟩ = some (.pointer (some ⟨A.m, 0, none⟩)) := spCell h i hi 0
  have hq : Calls Tryz.prog 63 #[.pointer (some ⟨A.m, 0, none⟩), .int .i64 t] w fun e w' => e = .returned (.tuple #[]) ∧ Hid (St o (its.set i (spI A c (z.turn t) v u)) w') := by
    refine (begin_st (h.open i hi) 7 spAt7 ok.met hk t).mono ?_
    rintro e w' ⟨he, h'⟩
    exact ⟨he, St.shut (l := spL A c (z.turn t) v u) hi h'⟩
  clear h hi ok
  unfold spp
  go_enter Tryz.func24, Tryz.ntmps24
  go_wp2_with fail
  refine hq.mono ?_
  rintro e w' ⟨rfl, HS⟩
  clear hq hc
  go_wp2
  go_end0
  exact ⟨rfl, HS.out⟩

theorem clLoad_any (h : St o its w) (i : Nat) (hi : its[i]? = some (spI A c z v u)) {k : Nat} (ok : z.ok c k) (hk : k ≤ 4611686018427) (k2 : Int) : Calls Tryz.prog 299 #[.pointer (some ⟨A.r, 0, none⟩), .int .i64 k2] w fun e w' => e = .returned (.tuple #[.int .i64 (loadR z.xs k2), .int .i64 (loadE z.xs k2)]) ∧ ∃ v', St o (its.set i (spI A c (z.load k2) v' u)) w' := by
  rcases cin_cases z.xs k2 with ⟨n, hn, rfl, hc⟩ | ⟨hn, hc⟩
  · refine (clLoad_st (h.open i hi) 7 6 spAt7 spAt6 (by omega) ok.met hk n hn).mono ?_
    rintro e w' ⟨he, v', h'⟩
    refine ⟨?_, v', ?_⟩
    · rw [he]; simp [loadR, loadE, hc, hn]
    · have : z.load n = ⟨z.s.note 1 n 1 true, z.xs, z.x, z.hs, z.ws, z.ev⟩ := by simp [SSt.load, loadS, hc]
      rw [this]
      exact St.shut (l := spL A c ⟨z.s.note 1 n 1 true, z.xs, z.x, z.hs, z.ws, z.ev⟩ v' u) hi h'
  · refine (clLoad_out k2 (show ClRow w A.r A.c (some A.m) 1 z.xs from (h.open i hi).get 6 spAt6) hn).mono ?_
    rintro e w' ⟨he, rfl⟩
    refine ⟨?_, v, ?_⟩
    · rw [he]; simp [loadR, loadE, hc]
    · have : z.load k2 = z := by simp [SSt.load, loadS, hc]
      rw [this, set_back hi]
      exact h

theorem clStore_any (h : St o its w) (i : Nat) (hi : its[i]? = some (spI A c z v u)) {k : Nat} (ok : z.ok c k) (hk : k ≤ 4611686018427) (k2 x : Int) : Calls Tryz.prog 330 #[.pointer (some ⟨A.r, 0, none⟩), .int .i64 k2, .int .i64 x] w fun e w' => e = .returned (.int .i64 (loadE z.xs k2)) ∧ ∃ v', St o (its.set i (spI A c (z.store k2 x) v' u)) w' := by
  rcases cin_cases z.xs k2 with ⟨n, hn, rfl, hc⟩ | ⟨hn, hc⟩
  · refine (clStore_st (h.open i hi) 7 6 spAt7 spAt6 (by omega) ok.met hk n hn x).mono ?_
    rintro e w' ⟨he, v', h'⟩
    refine ⟨?_, v', ?_⟩
    · rw [he]; simp [loadE, hc]
    · have : z.store n x = ⟨z.s.note 1 n 2 true, z.xs.set n x, z.x, z.hs, z.ws, z.ev⟩ := by simp [SSt.store, storeS, storeX, hc]
      rw [this]
      exact St.shut (l := spL A c ⟨z.s.note 1 n 2 true, z.xs.set n x, z.x, z.hs, z.ws, z.ev⟩ v' u) hi h'
  · refine (clStore_out k2 x (show ClRow w A.r A.c (some A.m) 1 z.xs from (h.open i hi).get 6 spAt6) hn).mono ?_
    rintro e w' ⟨he, rfl⟩
    refine ⟨?_, v, ?_⟩
    · rw [he]; simp [loadE, hc]
    · have : z.store k2 x = z := by simp [SSt.store, storeS, storeX, hc]
      rw [this, set_back hi]
      exact h

set_option maxRecDepth 100000 in
theorem spLoad (h : St o its w) (i : Nat) (hi : its[i]? = some (spI A c z v u)) {k : Nat} (ok : z.ok c k) (hk : k ≤ 4611686018427) (j : Int) :
    Calls Tryz.prog 293 #[spp A, .int .i64 j] w fun e w' => e = .returned (.tuple #[.int .i64 (loadR z.xs j), .int .i64 (loadE z.xs j)]) ∧ ∃ v', St o (its.set i (spI A c (z.load j) v' u)) w' := by
  have hc : w.cell? ⟨A.sp, 7, none⟩ = some (.pointer (some ⟨A.r, 0, none⟩)) := spCell h i hi 7
  have hq : Calls Tryz.prog 299 #[.pointer (some ⟨A.r, 0, none⟩), .int .i64 j] w fun e w' => e = .returned (.tuple #[.int .i64 (loadR z.xs j), .int .i64 (loadE z.xs j)]) ∧ ∃ v', Hid (St o (its.set i (spI A c (z.load j) v' u)) w') := clLoad_any h i hi ok hk j
  clear h hi ok
  unfold spp
  go_enter Tryz.func293, Tryz.ntmps293
  go_wp2_with fail
  refine hq.mono ?_
  rintro e w' ⟨rfl, v', HS⟩
  clear hq hc
  go_wp2
  go_ret2
  exact ⟨rfl, v', HS.out⟩

set_option maxRecDepth 100000 in
theorem spStore (h : St o its w) (i : Nat) (hi : its[i]? = some (spI A c z v u)) {k : Nat} (ok : z.ok c k) (hk : k ≤ 4611686018427) (j x : Int) :
    Calls Tryz.prog 425 #[spp A, .int .i64 j, .int .i64 x] w fun e w' => e = .returned (.int .i64 (loadE z.xs j)) ∧ ∃ v', St o (its.set i (spI A c (z.store j x) v' u)) w' := by
  have hc : w.cell? ⟨A.sp, 7, none⟩ = some (.pointer (some ⟨A.r, 0, none⟩)) := spCell h i hi 7
  have hq : Calls Tryz.prog 330 #[.pointer (some ⟨A.r, 0, none⟩), .int .i64 j, .int .i64 x] w fun e w' => e = .returned (.int .i64 (loadE z.xs j)) ∧ ∃ v', Hid (St o (its.set i (spI A c (z.store j x) v' u)) w') := clStore_any h i hi ok hk j x
  clear h hi ok
  unfold spp
  go_enter Tryz.func425, Tryz.ntmps425
  go_wp2_with fail
  refine hq.mono ?_
  rintro e w' ⟨rfl, v', HS⟩
  clear hq hc
  go_wp2
  go_ret
  exact ⟨rfl, v', HS.out⟩

theorem clFill_any (h : St o its w) (i : Nat) (hi : its[i]? = some (spI A c z v u)) {zs : List Int} {la : Option Addr} {n lc : Nat} (hl : NumsIn w la n zs) (hn : n ≤ 17592186044416) : Calls Tryz.prog 69 #[.pointer (some ⟨A.r, 0, none⟩), .slice la n lc] w fun e w' => e = .returned (.int .i64 (fillErr z.xs zs)) ∧ St o (its.set i (spI A c (z.fill zs) v u)) w' := by
  refine (clFill_st (h.open i hi) 6 spAt6 hl hn).mono ?_
  rintro e w' ⟨he, h'⟩
  exact ⟨he, St.shut (l := spL A c (z.fill zs) v u) hi h'⟩

set_option maxRecDepth 100000 in
theorem spFill (h : St o its w) (i : Nat) (hi : its[i]? = some (spI A c z v u)) {k : Nat} (ok : z.ok c k) (hk : k ≤ 4611686018427) {zs : List Int} {la : Option Addr} {n lc : Nat} (hl : NumsIn w la n zs) (hn : n ≤ 17592186044416) :
    Calls Tryz.prog 26 #[spp A, .slice la n lc] w fun e w' => e = .returned (.int .i64 (fillErr z.xs zs)) ∧ St o (its.set i (spI A c (z.fill zs) v u)) w' := by
  have hc : w.cell? ⟨A.sp, 7, none⟩ = some (.pointer (some ⟨A.r, 0, none⟩)) := spCell h i hi 7
  have hq : Calls Tryz.prog 69 #[.pointer (some ⟨A.r, 0, none⟩), .slice la n lc] w fun e w' => e = .returned (.int .i64 (fillErr z.xs zs)) ∧ Hid (St o (its.set i (spI A c (z.fill zs) v u)) w') := clFill_any h i hi hl hn
  clear h hi ok
  unfold spp
  go_enter Tryz.func26, Tryz.ntmps26
  go_wp2_with fail
  refine hq.mono ?_
  rintro e w' ⟨rfl, HS⟩
  clear hq hc
  go_wp2
  go_ret
  exact ⟨rfl, HS.out⟩

theorem spTake (h : St o its w) (i : Nat) (hi : its[i]? = some (spI A c z v u)) {k : Nat} (ok : z.ok c k) (hk : k ≤ 4611686018427) (t : Int) : Calls Tryz.prog 383 #[.pointer (some ⟨A.g, 0, none⟩), .int .i64 t] w fun e w' => e = .returned (.tuple #[.int .i64 (takeR z.x t), .int .i64 (takeE z.x t)]) ∧ ∃ v', St o (its.set i (spI A c (z.take t) v' u)) w' := by
  refine (gateTake_st (h.open i hi) 7 1 2 spAt7 spAt1 spAt2 (by omega) ok.met hk ok.g0 (by have := ok.g1; omega) t).mono ?_
  rintro e w' ⟨he, v', h'⟩
  exact ⟨he, v', St.shut (l := spL A c (z.take t) v' u) hi h'⟩

theorem spGive (h : St o its w) (i : Nat) (hi : its[i]? = some (spI A c z v u)) {k : Nat} (ok : z.ok c k) (hk : k ≤ 4611686018427) (t : Int) : Calls Tryz.prog 412 #[.pointer (some ⟨A.g, 0, none⟩), .int .i64 t] w fun e w' => e = .returned (.int .i64 (giveE z.x t)) ∧ ∃ v', St o (its.set i (spI A c (z.give t) v' u)) w' := by
  refine (gateGive_st (h.open i hi) 7 1 2 spAt7 spAt1 spAt2 (by omega) ok.met hk ok.g0 (by have := ok.g1; omega) t).mono ?_
  rintro e w' ⟨he, v', h'⟩
  exact ⟨he, v', St.shut (l := spL A c (z.give t) v' u) hi h'⟩

theorem spNow (h : St o its w) (i : Nat) (hi : its[i]? = some (spI A c z v u)) : Calls Tryz.prog 78 #[.pointer (some ⟨A.g, 0, none⟩)] w fun e w' => e = .returned z.x.val ∧ St o its w' := by
  refine (gateNow_st (h.open i hi) 1 2 spAt1 spAt2).mono ?_
  rintro e w' ⟨he, h'⟩
  have := St.shut (l := spL A c z v u) hi h'
  rw [show its.set i (joinI (spL A c z v u)) = its from set_back hi] at this
  exact ⟨he, this⟩

theorem spLen (h : St o its w) (i : Nat) (hi : its[i]? = some (spI A c z v u)) : Calls Tryz.prog 119 #[.pointer (some ⟨A.t, 0, none⟩)] w fun e w' => e = .returned (.int .i64 z.hs.length) ∧ w' = w := tabLen_st (h.open i hi) 3 5 spAt3 spAt5

theorem spClaim (h : St o its w) (i : Nat) (hi : its[i]? = some (spI A c z v u)) {k : Nat} (ok : z.ok c k) (hk : k ≤ 4611686018427) (j n : Int) : Calls Tryz.prog 364 #[.pointer (some ⟨A.t, 0, none⟩), .int .i64 j, .int .i64 n] w fun e w' => e = .returned (.tuple #[.int .i64 (claimR z.hs j n), .int .i64 ((claimOp n).E z.hs j)]) ∧ ∃ v', St o (its.set i (spI A c (z.op (claimOp n) j) v' u)) w' := by
  refine (tabClaim_st (h.open i hi) 7 3 5 spAt7 spAt3 spAt5 (by omega) ok.met hk ok.hd (by omega) j n).mono ?_
  rintro e w' ⟨he, v', h'⟩
  exact ⟨he, v', St.shut (l := spL A c (z.op (claimOp n) j) v' u) hi h'⟩

theorem spReady (h : St o its w) (i : Nat) (hi : its[i]? = some (spI A c z v u)) {k : Nat} (ok : z.ok c k) (hk : k ≤ 4611686018427) (j g p : Int) : Calls Tryz.prog 363 #[.pointer (some ⟨A.t, 0, none⟩), .int .i64 j, .int .i64 g, .int .i64 p] w fun e w' => e = .returned (.int .i64 ((readyOp g p).E z.hs j)) ∧ ∃ v', St o (its.set i (spI A c (z.op (readyOp g p) j) v' u)) w' := by
  refine (tabReady_st (h.open i hi) 7 3 5 spAt7 spAt3 spAt5 (by omega) ok.met hk ok.hd j g p).mono ?_
  rintro e w' ⟨he, v', h'⟩
  exact ⟨he, v', St.shut (l := spL A c (z.op (readyOp g p) j) v' u) hi h'⟩

theorem spDoom (h : St o its w) (i : Nat) (hi : its[i]? = some (spI A c z v u)) {k : Nat} (ok : z.ok c k) (hk : k ≤ 4611686018427) (j g t : Int) : Calls Tryz.prog 423 #[.pointer (some ⟨A.t, 0, none⟩), .int .i64 j, .int .i64 g, .int .i64 t] w fun e w' => e = .returned (.int .i64 ((doomOp g t).E z.hs j)) ∧ ∃ v', St o (its.set i (spI A c (z.op (doomOp g t) j) v' u)) w' := by
  refine (tabDoom_st (h.open i hi) 7 3 5 spAt7 spAt3 spAt5 (by omega) ok.met hk ok.hd j g t).mono ?_
  rintro e w' ⟨he, v', h'⟩
  exact ⟨he, v', St.shut (l := spL A c (z.op (doomOp g t) j) v' u) hi h'⟩

theorem spFree (h : St o its w) (i : Nat) (hi : its[i]? = some (spI A c z v u)) {k : Nat} (ok : z.ok c k) (hk : k ≤ 4611686018427) (j g : Int) : Calls Tryz.prog 348 #[.pointer (some ⟨A.t, 0, none⟩), .int .i64 j, .int .i64 g] w fun e w' => e = .returned (.int .i64 ((freeOp g).E z.hs j)) ∧ ∃ v', St o (its.set i (spI A c (z.op (freeOp g) j) v' u)) w' := by
  refine (tabFree_st (h.open i hi) 7 3 5 spAt7 spAt3 spAt5 (by omega) ok.met hk ok.hd j g).mono ?_
  rintro e w' ⟨he, v', h'⟩
  exact ⟨he, v', St.shut (l := spL A c (z.op (freeOp g) j) v' u) hi h'⟩

theorem spWord (h : St o its w) (i : Nat) (hi : its[i]? = some (spI A c z v u)) {k : Nat} (ok : z.ok c k) (hk : k ≤ 4611686018427) (j n : Int) : Calls Tryz.prog 417 #[.pointer (some ⟨A.t, 0, none⟩), .int .i64 j, .int .i64 n] w fun e w' => e = .returned (.tuple #[.int .u64 (wordR z.ws z.hs.length j n), .int .i64 (wordE z.hs.length j n)]) ∧ ∃ v', St o (its.set i (spI A c (z.word j n) v' u)) w' := by
  refine (tabWord_st (h.open i hi) 7 3 5 4 spAt7 spAt3 spAt5 spAt4 (by omega) ok.wl ok.met hk j n).mono ?_
  rintro e w' ⟨he, v', h'⟩
  exact ⟨he, v', St.shut (l := spL A c (z.word j n) v' u) hi h'⟩
theorem spPut (h : St o its w) (i : Nat) (hi : its[i]? = some (spI A c z v u)) {k : Nat} (ok : z.ok c k) (hk : k ≤ 4611686018427) (j n x : Int) : Calls Tryz.prog 292 #[.pointer (some ⟨A.t, 0, none⟩), .int .i64 j, .int .i64 n, .int .u64 x] w fun e w' => e = .returned (.int .i64 (wordE z.hs.length j n)) ∧ ∃ v', St o (its.set i (spI A c (z.put j n x) v' u)) w' := by
  refine (tabPut_st (h.open i hi) 7 3 5 4 spAt7 spAt3 spAt5 spAt4 (by omega) ok.wl ok.met hk j n x).mono ?_
  rintro e w' ⟨he, v', h'⟩
  exact ⟨he, v', St.shut (l := spL A c (z.put j n x) v' u) hi h'⟩

end
end Go.Proofs.YthbcbjkgjgmegaaGreat
