/- Reads as plain data: what a step makes of one, and of the space. No program is named here. -/
import Derived.Test.YtajfjkhbimehbaaGreatSpA
import Derived.Test.YtajfjkhbimehbaaGreatSigB
namespace Go.Proofs.YtajfjkhbimehbaaGreat
open Go.RowKit
set_option linter.unusedVariables false
set_option linter.unusedSimpArgs false

/-- A read that is under way: what it goes out from, the cell, its bits; st: 0 it publishes, 1 it loads, 2 the gate, 3 the head, 4 done. -/
structure Rd where
  sl : Int
  gn : Int
  sn : Int
  sg : Sg
  ce : Int
  bi : Sg
  st : Nat
  va : Int
  e : Int
def Rd.miss (r : Rd) : List Nat := (r.bi.minus r.sg).words
def Rd.on (r : Rd) : Rd := { r with st := if r.miss = [] then 1 else 0 }
def Sg.setW (s : Sg) (i x : Nat) : Sg := if i = 0 then ⟨x, s.hi⟩ else ⟨s.lo, x⟩
def Rd.both (r : Rd) (i : Nat) : Nat := word (r.sg.join r.bi) i
def Rd.pub (r : Rd) : Rd := { r with sg := r.sg.setW (r.miss.headD 0) (r.both (r.miss.headD 0)) }.on
/-- The head of its slot lets it go on. -/
def Rd.fair (r : Rd) (h : Hd) : Bool := (h.sa == 2) && (h.gn == r.gn) && !h.dm
def Rd.next (r : Rd) (z : SSt) : Rd :=
  if r.st = 0 then r.pub
  else if r.st = 1 then { r with va := loadR z.xs r.ce, st := 2 }
  else if r.st = 2 then (if z.x.n % 2 = 0 then (if z.x.n = r.sn then { r with st := 3 } else { r with sn := z.x.n, st := 1 }) else r)
  else if r.st = 3 then { r with st := 4, e := if r.fair (nowAt z.hs r.sl) then 0 else 7 }
  else r
def SSt.glook (z : SSt) : SSt := ⟨z.s.note 2 0 1 true, z.xs, z.x, z.hs, z.ws, z.ev⟩
def SSt.look (z : SSt) (i : Int) : SSt := ⟨lookS z.s z.hs i, z.xs, z.x, z.hs, z.ws, z.ev⟩
def SSt.reads (z : SSt) (r : Rd) : SSt :=
  if r.st = 0 then z.put r.sl (r.miss.headD 0 : Nat) (r.both (r.miss.headD 0) : Nat)
  else if r.st = 1 then z.load r.ce
  else if r.st = 2 then z.glook
  else if r.st = 3 then z.look r.sl
  else z
def Rd.ans (r : Rd) (z : SSt) : Int := if r.st = 4 then 3 else if r.st = 2 ∧ z.x.n % 2 ≠ 0 then 2 else 1
def Rd.new (sl gn sn : Int) (sg : Sg) (ce : Int) (bi : Sg) : Rd := (⟨sl, gn, sn, sg, ce, bi, 0, 0, 4⟩ : Rd).on
/-- What a read may be. -/
structure Rd.fit (r : Rd) : Prop where
  sg : r.sg.ok
  bi : r.bi.ok
  st : r.st ≤ 4
  pub : r.st = 0 → r.miss ≠ []
theorem SSt.ok.glook {z : SSt} {c : Cfg} {k : Nat} (h : z.ok c k) : z.glook.ok c (k + 1) :=
  let g := h.more (Nat.le_succ k); ⟨h.met.note _ _ _ _, g.hd, g.g0, g.g1, g.gk, g.wl, g.el, g.cl, g.hl, g.c1, g.c2, g.h1, g.h8⟩
theorem SSt.ok.look {z : SSt} {c : Cfg} {k : Nat} (h : z.ok c k) (i : Int) : (z.look i).ok c (k + 1) :=
  let g := h.more (Nat.le_succ k); ⟨lookS_within h.met _ _, g.hd, g.g0, g.g1, g.gk, g.wl, g.el, g.cl, g.hl, g.c1, g.c2, g.h1, g.h8⟩
theorem SSt.ok.reads {z : SSt} {c : Cfg} {k : Nat} (h : z.ok c k) (r : Rd) : (z.reads r).ok c (k + 1) := by
  unfold SSt.reads
  split
  · exact h.put _ _ _
  · split
    · exact h.load _
    · split
      · exact h.glook
      · split
        · exact h.look _
        · exact h.more (Nat.le_succ _)
theorem words_lt {d : Sg} {i : Nat} (h : i ∈ d.words) : i < 2 := by
  have := (List.mem_filter.1 h).1
  simpa using this
theorem miss_head {r : Rd} (h : r.miss ≠ []) : ∃ i l, r.miss = i :: l ∧ i < 2 ∧ r.miss.headD 0 = i := by
  match hm : r.miss with
  | [] => exact absurd hm h
  | i :: l => exact ⟨i, l, rfl, words_lt (d := r.bi.minus r.sg) (by show i ∈ r.miss; rw [hm]; simp), rfl⟩
theorem word_lt {d : Sg} (h : d.ok) (i : Nat) : word d i < 18446744073709551616 := by
  unfold word; split
  · exact h.1
  · exact h.2
theorem Sg.ok_setW {s : Sg} (h : s.ok) (i x : Nat) (hx : x < 18446744073709551616) : (s.setW i x).ok := by
  unfold Sg.setW; split
  · exact ⟨hx, h.2⟩
  · exact ⟨h.1, hx⟩
theorem Rd.fit_on {r : Rd} (h1 : r.sg.ok) (h2 : r.bi.ok) : r.on.fit := by
  refine ⟨h1, h2, ?_, ?_⟩
  · unfold Rd.on; simp only; split <;> omega
  · intro h0 hm
    have hm' : r.miss = [] := hm
    unfold Rd.on at h0
    simp [hm'] at h0
theorem Rd.fit.next {r : Rd} (h : r.fit) (z : SSt) : (r.next z).fit := by
  unfold Rd.next
  split
  · exact Rd.fit_on (r := { r with sg := r.sg.setW (r.miss.headD 0) (r.both (r.miss.headD 0)) }) (Sg.ok_setW h.sg _ _ (word_lt (Sg.ok_join h.sg h.bi) _)) h.bi
  · split
    · exact ⟨h.sg, h.bi, by simp, by simp⟩
    · split
      · split
        · split
          · exact ⟨h.sg, h.bi, by simp, by simp⟩
          · exact ⟨h.sg, h.bi, by simp, by simp⟩
        · exact h
      · split
        · exact ⟨h.sg, h.bi, by simp, by simp⟩
        · exact h
end Go.Proofs.YtajfjkhbimehbaaGreat
