/- Spaces: what they hold, and how they lie in memory. -/
import Derived.Test.YtajfjkhbimehbaaGreatJoin
import Derived.Test.YtajfjkhbimehbaaGreatClX
import Derived.Test.YtajfjkhbimehbaaGreatTurn
import Derived.Test.YtajfjkhbimehbaaGreatCk
namespace Go.Proofs.YtajfjkhbimehbaaGreat
open Go.RowKit
set_option linter.unusedVariables false
set_option linter.unusedSimpArgs false
attribute [local go_sem ↓] Go.wp_at_zero Go.wp_at_succ

/-- One event. -/
structure Ev where
  kd : Int
  st : Int
  th : Int
  sp : Int
  ce : Int
  x : Int
  ow : Bool
  ga : Int
  er : Int
  by_ : Int
def Ev.cells (e : Ev) : List Value := [.int .i64 e.kd, .int .i64 e.st, .int .i64 e.th, .int .i64 e.sp, .int .i64 e.ce, .int .i64 e.x, .bool e.ow, .int .i64 e.ga, .int .i64 e.er, .int .i64 e.by_]
def Ev.val (e : Ev) : Value := .agg #[.int .i64 e.kd, .int .i64 e.st, .int .i64 e.th, .int .i64 e.sp, .int .i64 e.ce, .int .i64 e.x, .bool e.ow, .int .i64 e.ga, .int .i64 e.er, .int .i64 e.by_]
def Ev.at_ (e : Ev) (n : Int) : Ev := ⟨e.kd, n, e.th, e.sp, e.ce, e.x, e.ow, e.ga, e.er, e.by_⟩
def evCells : List Ev → List Value
  | [] => []
  | a :: l => a.cells ++ evCells l
theorem evCells_append (l k : List Ev) : evCells (l ++ k) = evCells l ++ evCells k := by
  induction l with
  | nil => rfl
  | cons a l ih => simp [evCells, ih]
theorem evCells_length (l : List Ev) : (evCells l).length = l.length * 10 := by
  induction l with
  | nil => rfl
  | cons a l ih => simp [evCells, Ev.cells, ih]; omega
theorem evCells_one (l : List Ev) : ∀ u ∈ evCells l, u.oneCell' = true := by
  induction l with
  | nil => intro u h; cases h
  | cons a l ih =>
    intro u h
    simp only [evCells, List.mem_append] at h
    rcases h with h | h
    · simp only [Ev.cells, List.mem_cons, List.not_mem_nil, or_false] at h
      rcases h with h | h | h | h | h | h | h | h | h | h <;> subst h <;> rfl
    · exact ih u h
theorem ev_cells (l : List Ev) : ∀ j (hj : j < l.length), (evCells l)[j * 10]? = some (.int .i64 l[j].kd) ∧ (evCells l)[j * 10 + 1]? = some (.int .i64 l[j].st) ∧ (evCells l)[j * 10 + 2]? = some (.int .i64 l[j].th) ∧ (evCells l)[j * 10 + 3]? = some (.int .i64 l[j].sp) ∧ (evCells l)[j * 10 + 4]? = some (.int .i64 l[j].ce) ∧ (evCells l)[j * 10 + 5]? = some (.int .i64 l[j].x) ∧ (evCells l)[j * 10 + 6]? = some (.bool l[j].ow) ∧ (evCells l)[j * 10 + 7]? = some (.int .i64 l[j].ga) ∧ (evCells l)[j * 10 + 8]? = some (.int .i64 l[j].er) ∧ (evCells l)[j * 10 + 9]? = some (.int .i64 l[j].by_) := by
  induction l with
  | nil => intro j hj; simp at hj
  | cons a l ih =>
    intro j hj
    cases j with
    | zero => simp [evCells, Ev.cells]
    | succ j =>
      have h := ih j (by simpa using hj)
      have e : ∀ d, (evCells (a :: l))[(j + 1) * 10 + d]? = (evCells l)[j * 10 + d]? := by
        intro d
        simp only [evCells]
        rw [List.getElem?_append_right (by simp [Ev.cells]; omega)]
        congr 1
        simp [Ev.cells]; omega
      have e0 : (evCells (a :: l))[(j + 1) * 10]? = (evCells l)[j * 10]? := e 0
      rw [e0, e 1, e 2, e 3, e 4, e 5, e 6, e 7, e 8, e 9]
      simpa using h
theorem Tryz.infoEv : (Tryz.prog.info? 209).map (fun i => (i.zero, i.size, i.bytes)) = some (some (.agg #[.int .i64 0, .int .i64 0, .int .i64 0, .int .i64 0, .int .i64 0, .int .i64 0, .bool false, .int .i64 0, .int .i64 0, .int .i64 0]), 10, 80) := by kernel_rfl

/-- A block that has a list of events in its last cell. -/
structure HeadAt (ty : TypeId) (F : Value → Array Value) (w : World) (k : Nat) (v : Value) (l : List Ev) : Prop where
  heap : w.heap[k]? = some (.cells (F v) ty (0, 0))
  own : w.ownsRow 0 209 10 v l.length (evCells l)
  apart : v.ownBlock ≠ some k
def headI (ty : TypeId) (F : Value → Array Value) (k : Nat) (v : Value) (l : List Ev) : It :=
  ⟨k :: v.ownBlock.toList, fun w => HeadAt ty F w k v l,
   fun w w' h p => ⟨(h k (by simp)).trans p.heap, own_loc p.own (fun b hb => h b (by simp [hb])), p.apart⟩,
   fun w p b hb => by
     rcases List.mem_cons.1 hb with rfl | hb
     · exact lt_of_heap p.heap
     · exact (p.own.lt b (by simpa using hb)).2⟩

/-- What there is to be seen of a space. -/
structure SSt where
  s : Mt
  xs : List Int
  x : Gt
  hs : List Hd
  ws : List Int
  ev : List Ev
def SSt.zero (c : Cfg) : SSt := ⟨Mt.zero, List.replicate c.ce.toNat 0, Gt.zero, List.replicate c.sl.toNat Hd.zero, List.replicate (c.sl.toNat * 2) 0, []⟩
/-- It is what at most k calls have left of a space made of c. -/
structure SSt.ok (z : SSt) (c : Cfg) (k : Nat) : Prop where
  met : z.s.within k
  hd : HsOk z.hs k
  g0 : 0 ≤ z.x.n
  g1 : z.x.n ≤ k
  gk : GOk z.x.n z.x.o
  wl : z.ws.length = z.hs.length * 2
  el : z.ev.length ≤ k
  cl : (z.xs.length : Int) = c.ce
  hl : (z.hs.length : Int) = c.sl
  c1 : 1 ≤ z.xs.length
  c2 : z.xs.length ≤ 256
  h1 : 1 ≤ z.hs.length
  h8 : z.hs.length ≤ 8
theorem SSt.ok_zero (c : Cfg) (h : c.fits = true) (k : Nat) : (SSt.zero c).ok c k := by
  obtain ⟨a1, a2, a3, a4⟩ := Cfg.fits_cells h
  exact ⟨Mt.within_zero k, HsOk.rep _ _, Int.le_refl _, Int.natCast_nonneg _, .inl ⟨rfl, rfl⟩, by simp [SSt.zero], Nat.zero_le _, by simp [SSt.zero]; omega, by simp [SSt.zero]; omega, by simp [SSt.zero]; omega, by simp [SSt.zero]; omega, by simp [SSt.zero]; omega, by simp [SSt.zero]; omega⟩
theorem SSt.ok.more {z : SSt} {c : Cfg} {k n : Nat} (h : z.ok c k) (hk : k ≤ n) : z.ok c n :=
  ⟨h.met.more hk, h.hd.more hk, h.g0, by have := h.g1; omega, h.gk, h.wl, by have := h.el; omega, h.cl, h.hl, h.c1, h.c2, h.h1, h.h8⟩

/-- Where a space's parts lie. -/
structure Ad where
  sp : Nat
  m : Nat
  r : Nat
  c : Nat
  g : Nat
  gr : Nat
  gc : Nat
  t : Nat
  hr : Nat
  hc : Nat
  q : Nat
  f : Nat
def spF (A : Ad) (c : Cfg) (v : Value) : Array Value := #[.pointer (some ⟨A.m, 0, none⟩), .int .i64 c.ce, .int .i64 c.sl, .int .i64 c.bi, .int .i64 c.ta, .int .i64 c.ba, .int .i64 c.de, .pointer (some ⟨A.r, 0, none⟩), .pointer (some ⟨A.g, 0, none⟩), .pointer (some ⟨A.t, 0, none⟩), v]
def spL (A : Ad) (c : Cfg) (z : SSt) (v u : Value) : List It :=
  [headI 64 (spF A c) A.sp u z.ev, gateI A.g A.gr, gtRowI A.gr A.gc (some A.m) 2 [z.x], tabI A.t A.hr A.q, wdRowI A.q A.f (some A.m) 4 z.ws, hdRowI A.hr A.hc (some A.m) 3 z.hs, clRowI A.r A.c (some A.m) 1 z.xs, meterI 109 (some A.m) z.s v]
def spI (A : Ad) (c : Cfg) (z : SSt) (v u : Value) : It := joinI (spL A c z v u)
def spp (A : Ad) : Value := .pointer (some ⟨A.sp, 0, none⟩)
section
variable {o w : World} {its R : List It} {A : Ad} {c : Cfg} {z : SSt} {v u : Value}
theorem spAt0 : (spL A c z v u ++ R)[0]? = some (headI 64 (spF A c) A.sp u z.ev) := rfl
theorem spAt1 : (spL A c z v u ++ R)[1]? = some (gateI A.g A.gr) := rfl
theorem spAt2 : (spL A c z v u ++ R)[2]? = some (gtRowI A.gr A.gc (some A.m) 2 [z.x]) := rfl
theorem spAt3 : (spL A c z v u ++ R)[3]? = some (tabI A.t A.hr A.q) := rfl
theorem spAt4 : (spL A c z v u ++ R)[4]? = some (wdRowI A.q A.f (some A.m) 4 z.ws) := rfl
theorem spAt5 : (spL A c z v u ++ R)[5]? = some (hdRowI A.hr A.hc (some A.m) 3 z.hs) := rfl
theorem spAt6 : (spL A c z v u ++ R)[6]? = some (clRowI A.r A.c (some A.m) 1 z.xs) := rfl
theorem spAt7 : (spL A c z v u ++ R)[7]? = some (meterI 109 (some A.m) z.s v) := rfl
theorem spHead (h : St o its w) (i : Nat) (hi : its[i]? = some (spI A c z v u)) : HeadAt 64 (spF A c) w A.sp u z.ev := (h.open i hi).get 0 spAt0
theorem spCell (h : St o its w) (i : Nat) (hi : its[i]? = some (spI A c z v u)) (j : Nat) : w.cell? ⟨A.sp, j, none⟩ = (spF A c u)[j]? := cell_of_heap (spHead h i hi).heap
theorem spFrozen (h : St o its w) (i : Nat) (hi : its[i]? = some (spI A c z v u)) (j : Nat) : w.frozen? ⟨A.sp, j, none⟩ = false := frozen_of_heap (spHead h i hi).heap
end
end Go.Proofs.YtajfjkhbimehbaaGreat
