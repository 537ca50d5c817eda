/- Looks and doomings as plain data: what a step makes of one, and of the space; how they lie in memory. -/
import Derived.Test.YtgjmamgohidbiaaGreatVt
import Derived.Test.YtgjmamgohidbiaaGreatSigB
import Derived.Test.YtgjmamgohidbiaaGreatSpA
import Derived.Test.YtgjmamgohidbiaaGreatEqS
namespace Go.Proofs.YtgjmamgohidbiaaGreat
open Go.RowKit
set_option linter.unusedVariables false
set_option linter.unusedSimpArgs false

/-- Words are words. -/
def WsOk (ws : List Int) : Prop := ∀ x, x ∈ ws → ∃ n : Nat, x = n ∧ n < 18446744073709551616
theorem WsOk.rep (n : Nat) : WsOk (List.replicate n 0) := fun x hx => ⟨0, by rw [(List.mem_replicate.1 hx).2]; rfl, by decide⟩
theorem WsOk.set {ws : List Int} (h : WsOk ws) (k : Nat) {x : Nat} (hx : x < 18446744073709551616) : WsOk (ws.set k (x : Int)) := fun y hy => by
  rcases List.mem_or_eq_of_mem_set hy with hy | rfl
  · exact h y hy
  · exact ⟨x, rfl, hx⟩
theorem WsOk.put {ws : List Int} (h : WsOk ws) (n : Nat) (i j : Int) {x : Nat} (hx : x < 18446744073709551616) : WsOk (putW ws n i j (x : Int)) := by
  unfold putW
  split
  · exact h
  · exact h.set _ hx
theorem WsOk.word {ws : List Int} (h : WsOk ws) (n : Nat) (i j : Int) : ∃ x : Nat, wordR ws n i j = (x : Int) ∧ x < 18446744073709551616 := by
  unfold wordR
  split
  · exact ⟨0, rfl, by decide⟩
  · rename_i q _
    rw [List.getD_eq_getElem?_getD]
    cases e : ws[q]? with
    | none => exact ⟨0, rfl, by decide⟩
    | some y => exact h y (List.mem_of_getElem? e)

/-- A look that is under way. -/
structure Lk where
  wr : Sg
  left : List Nat
  inW : Bool
  met : Vt
  ld : List Nat
  vs : List Vt
/-- It is the next slot's turn. -/
def Lk.pass (k : Lk) : Lk := { k with left := k.left.tail, inW := false, met := Vt.zero, ld := [] }
def Hd.lives (h : Hd) : Bool := (h.sa == 2) && !h.dm
def Lk.head (k : Lk) (s : Nat) (h : Hd) : Lk := if h.lives then { k with met := ⟨s, h.gn, h.sp, h.th⟩, inW := true } else k.pass
def Sg.meets (a b : Sg) : Bool := !((a.meet b).same Sg.zero)
def Lk.word (k : Lk) (x : Nat) : Lk :=
  match k.ld with
  | [] => { k with ld := [x] }
  | a :: _ => ({ k with vs := if (⟨a, x⟩ : Sg).meets k.wr then k.vs ++ [k.met] else k.vs } : Lk).pass
def Lk.next (k : Lk) (z : SSt) : Lk :=
  match k.left with
  | [] => k
  | s :: _ => if k.inW then k.word (wordR z.ws z.hs.length k.met.so k.ld.length).toNat else k.head s (nowAt z.hs s)
def SSt.look (z : SSt) (i : Int) : SSt := ⟨lookS z.s z.hs i, z.xs, z.x, z.hs, z.ws, z.ev⟩
def SSt.looks (z : SSt) (k : Lk) : SSt :=
  match k.left with
  | [] => z
  | s :: _ => if k.inW then z.word k.met.so k.ld.length else z.look s
def Lk.ans (k : Lk) : Int := if k.left = [] then 3 else 1
/-- What a look may be. -/
structure Lk.fit (k : Lk) : Prop where
  wr : k.wr.ok
  ld : k.ld.length ≤ 1
  lw : ∀ x, x ∈ k.ld → x < 18446744073709551616
  out : k.inW = false → k.ld = []
  lv : k.left.length ≤ 8
  vn : k.vs.length + k.left.length ≤ 8
def othersOf (n own : Nat) : List Nat := (List.range n).filter (fun i => i != own)
def Lk.new (wr : Sg) (n own : Nat) : Lk := ⟨wr, othersOf n own, false, Vt.zero, [], []⟩
theorem SSt.ok.look {z : SSt} {c : Cfg} {k : Nat} (h : z.ok c k) (i : Int) : (z.look i).ok c (k + 1) :=
  let g := h.more (Nat.le_succ k); ⟨lookS_within h.met _ _, g.hd, g.g0, g.g1, g.gk, g.wl, g.el, g.cl, g.hl, g.c1, g.c2, g.h1, g.h8⟩
theorem SSt.ok.looks {z : SSt} {c : Cfg} {k : Nat} (h : z.ok c k) (r : Lk) : (z.looks r).ok c (k + 1) := by
  unfold SSt.looks
  split
  · exact h.more (Nat.le_succ _)
  · split
    · exact h.word _ _
    · exact h.look _
theorem SSt.looks_ws (z : SSt) (r : Lk) : (z.looks r).ws = z.ws := by
  unfold SSt.looks
  split
  · rfl
  · split <;> rfl
theorem SSt.looks_hs (z : SSt) (r : Lk) : (z.looks r).hs = z.hs := by
  unfold SSt.looks
  split
  · rfl
  · split <;> rfl
theorem Lk.fit.pass {k : Lk} (h : k.fit) : k.pass.fit :=
  ⟨h.wr, by simp [Lk.pass], by simp [Lk.pass], fun _ => rfl, by have := h.lv; simp [Lk.pass]; omega, by have := h.vn; simp [Lk.pass]; omega⟩
theorem Lk.fit.word {k : Lk} (h : k.fit) (hi : k.inW = true) (h0 : k.left ≠ []) {x : Nat} (hx : x < 18446744073709551616) : (k.word x).fit := by
  unfold Lk.word
  have hp := List.length_pos_iff.2 h0
  split
  · exact ⟨h.wr, by simp, fun y hy => by simp at hy; omega, fun e => by simp [hi] at e, h.lv, h.vn⟩
  · refine ⟨h.wr, by simp [Lk.pass], by simp [Lk.pass], fun _ => rfl, by have := h.lv; simp [Lk.pass]; omega, ?_⟩
    have := h.vn
    simp only [Lk.pass]
    split <;> simp <;> omega
theorem Lk.fit.head {k : Lk} (h : k.fit) (s : Nat) (x : Hd) : (k.head s x).fit := by
  unfold Lk.head
  split
  · exact ⟨h.wr, h.ld, h.lw, fun e => by simp at e, h.lv, h.vn⟩
  · exact h.pass
theorem Lk.fit.next {k : Lk} (h : k.fit) {z : SSt} (hw : WsOk z.ws) : (k.next z).fit := by
  unfold Lk.next
  split
  · exact h
  · rename_i s r hl
    split
    · rename_i hi
      obtain ⟨x, hx, hx2⟩ := hw.word z.hs.length k.met.so k.ld.length
      rw [hx]
      exact h.word hi (by rw [hl]; simp) (by simpa using hx2)
    · exact h.head _ _
theorem othersOf_le (n own : Nat) : (othersOf n own).length ≤ n := by
  have := List.length_filter_le (fun i => i != own) (List.range n)
  simpa [othersOf] using this
theorem Lk.fit_new {wr : Sg} (h : wr.ok) {n : Nat} (hn : n ≤ 8) (own : Nat) : (Lk.new wr n own).fit := by
  have := othersOf_le n own
  exact ⟨h, by simp [Lk.new], by simp [Lk.new], fun _ => rfl, by simp [Lk.new]; omega, by simp [Lk.new]; omega⟩

/-- Part of a row, from some place on. -/
def tailI (e : TypeId) (sz : Nat) (v : Value) (n : Nat) (xs : List Value) : It :=
  ⟨if n = 0 then [] else v.ownBlock.toList,
   fun w => xs.length = n * sz ∧ ((n = 0 ∧ ∃ a c, v = .slice a 0 c) ∨ (0 < n ∧ ∃ g off cap cur, v = .slice (some ⟨g, off, none⟩) n cap ∧ w.heap[g]? = some (.cells cur e (0, 0)) ∧ n ≤ cap ∧ ∀ j u, xs[j]? = some u → cur[off + j]? = some u)),
   fun w w' h p => ⟨p.1, by
     rcases p.2 with p2 | ⟨h0, g, off, cap, cur, rfl, hg, r⟩
     · exact .inl p2
     · exact .inr ⟨h0, g, off, cap, cur, rfl, (h g (by rw [if_neg (by omega)]; simp [Value.ownBlock])).trans hg, r⟩⟩,
   fun w p b hb => by
     rcases p.2 with ⟨h0, _⟩ | ⟨h0, g, off, cap, cur, rfl, hg, r⟩
     · simp [h0] at hb
     · rw [if_neg (by omega)] at hb
       simp [Value.ownBlock] at hb
       subst hb
       exact lt_of_heap hg⟩
theorem tail_nodup (e : TypeId) (sz : Nat) (v : Value) (n : Nat) (xs : List Value) : (tailI e sz v n xs).fp.Nodup := by
  unfold tailI
  simp only
  split
  · exact List.nodup_nil
  · exact own_nodup v
theorem own_tail {w : World} {b : Nat} {e : TypeId} {sz : Nat} {v : Value} {n : Nat} {xs : List Value} (h : w.ownsRow b e sz v n xs) : (tailI e sz v n xs).P w := by
  refine ⟨h.1, ?_⟩
  rcases h.2 with ⟨rfl, hn⟩ | ⟨g, cap, cur, rfl, hb, hg, hc, hm, hs, ht⟩
  · exact .inl ⟨hn, none, 0, rfl⟩
  · by_cases hn : n = 0
    · exact .inl ⟨hn, _, _, by rw [hn]⟩
    · refine .inr ⟨by omega, g, 0, cap, cur, rfl, hg, hc, fun j u hj => ?_⟩
      rw [← ht, List.getElem?_take] at hj
      split at hj
      · simpa using hj
      · cases hj
theorem St.ownTail {o w : World} {its : List It} (h : St o its w) (i : Nat) {e : TypeId} {sz : Nat} {v : Value} {n : Nat} {xs : List Value} (hi : its[i]? = some (ownI e sz v n xs)) : St o (its.set i (tailI e sz v n xs)) w :=
  h.set i hi (Kept.refl _ w) (own_tail (show w.ownsRow 0 e sz v n xs from h.get i hi)) (tail_nodup ..) (fun b hb => by
    left
    simp only [tailI] at hb
    split at hb
    · cases hb
    · exact hb)
/-- Its cells. -/
theorem St.tailForm {o w : World} {its : List It} (h : St o its w) (i : Nat) {e : TypeId} {sz : Nat} {v : Value} {n : Nat} {xs : List Value} (hi : its[i]? = some (tailI e sz v n xs)) (h0 : 0 < n) : ∃ g off cap, v = .slice (some ⟨g, off, none⟩) n cap ∧ n ≤ cap ∧ xs.length = n * sz ∧ ∀ j u, xs[j]? = some u → w.cell? ⟨g, off + j, none⟩ = some u := by
  obtain ⟨p1, p2⟩ := h.get i hi
  rcases p2 with ⟨h1, _⟩ | ⟨_, g, off, cap, cur, rfl, hg, hc, ht⟩
  · omega
  · exact ⟨g, off, cap, rfl, hc, p1, fun j u hj => by rw [cell_of_heap hg]; exact ht j u hj⟩
/-- The first one is gone. -/
theorem St.tailCut {o w : World} {its : List It} (h : St o its w) (i : Nat) {e : TypeId} {sz g off n cap : Nat} {xs : List Value} (hi : its[i]? = some (tailI e sz (.slice (some ⟨g, off, none⟩) (n + 1) cap) (n + 1) xs)) {v' : Value} (hv : (∃ cap', n ≤ cap' ∧ v' = .slice (some ⟨g, off + sz, none⟩) n cap') ∨ (n = 0 ∧ ∃ a c, v' = .slice a n c)) : St o (its.set i (tailI e sz v' n (xs.drop sz))) w := by
  obtain ⟨p1, p2⟩ := h.get i hi
  rcases p2 with ⟨h1, _⟩ | ⟨_, g', off', cap'', cur, e', hg, hc, ht⟩
  · omega
  · simp only [Value.slice.injEq, Option.some.injEq, Addr.mk.injEq, and_true, true_and] at e'
    obtain ⟨⟨rfl, rfl⟩, rfl⟩ := e'
    have hlen : (xs.drop sz).length = n * sz := by rw [List.length_drop, p1, Nat.add_mul]; omega
    rcases hv with ⟨cap', hcap, rfl⟩ | ⟨rfl, a, c, rfl⟩
    · refine h.set i hi (Kept.refl _ w) ⟨hlen, ?_⟩ (tail_nodup ..) (fun b hb => ?_)
      · by_cases hn : n = 0
        · exact .inl ⟨hn, _, _, by rw [hn]⟩
        · refine .inr ⟨by omega, g, off + sz, cap', cur, rfl, hg, hcap, fun j u hj => ?_⟩
          rw [List.getElem?_drop] at hj
          rw [Nat.add_assoc]
          exact ht _ u hj
      · left
        simp only [tailI] at hb ⊢
        split at hb
        · cases hb
        · rw [if_neg (by omega)]
          simpa [Value.ownBlock] using hb
    · exact h.set i hi (Kept.refl _ w) ⟨hlen, .inl ⟨rfl, a, c, rfl⟩⟩ (tail_nodup ..) (fun b hb => by simp [tailI] at hb)

/-- Where there is one thing less. -/
theorem erase_get {its : List It} {i j : Nat} {A : It} (hij : i ≠ j) (hi : its[i]? = some A) : ∃ i', (its.eraseIdx j)[i']? = some A ∧ ∀ X, (its.eraseIdx j).set i' X = (its.set i X).eraseIdx j := by
  by_cases h : i < j
  · refine ⟨i, by rw [List.getElem?_eraseIdx_of_lt h]; exact hi, fun X => ?_⟩
    rw [List.eraseIdx_set_gt h]
  · refine ⟨i - 1, by rw [List.getElem?_eraseIdx_of_ge (by omega), show i - 1 + 1 = i by omega]; exact hi, fun X => ?_⟩
    rw [List.eraseIdx_set_lt (by omega)]

def wCells (l : List Nat) : List Value := l.map fun b : Nat => .int .u64 (b : Int)
def Lk.cells (k : Lk) (t : Nat) (vl vd vv : Value) : Array Value :=
  #[.pointer (some ⟨t, 0, none⟩), .int .u64 k.wr.lo, .int .u64 k.wr.hi, vl, .bool k.inW, .int .i64 k.met.so, .int .i64 k.met.ge, .int .i64 k.met.sp, .int .i64 k.met.th, vd, vv]
def lkL (K t : Nat) (k : Lk) (vl vd vv : Value) : List It :=
  [boxI K (k.cells t vl vd vv) 219, tailI 3 1 vl k.left.length (cellsOf k.left), ownI 85 1 vd k.ld.length (wCells k.ld), ownI 104 4 vv k.vs.length (vtCells k.vs)]
def lkI (K t : Nat) (k : Lk) (vl vd vv : Value) : It := joinI (lkL K t k vl vd vv)

/-- Doomings. -/
structure Dm where
  wy : Int
  left : List Vt
  dn : List Vt
def Dm.next (d : Dm) (hs : List Hd) : Dm :=
  match d.left with
  | [] => d
  | t :: l => ⟨d.wy, l, if (doomOp t.ge d.wy).E hs t.so = 0 then d.dn ++ [t] else d.dn⟩
def SSt.dooms (z : SSt) (d : Dm) : SSt :=
  match d.left with
  | [] => z
  | t :: _ => z.op (doomOp t.ge d.wy) t.so
def Dm.ans (d : Dm) : Int := if d.left = [] then 3 else 1
theorem SSt.ok.dooms {z : SSt} {c : Cfg} {k : Nat} (h : z.ok c k) (d : Dm) : (z.dooms d).ok c (k + 1) := by
  unfold SSt.dooms
  split
  · exact h.more (Nat.le_succ _)
  · exact h.op _ _ (doom_keeps h.hd _ _ _)
theorem SSt.dooms_ws (z : SSt) (d : Dm) : (z.dooms d).ws = z.ws := by
  unfold SSt.dooms
  split <;> rfl
def Dm.cells (d : Dm) (t : Nat) (vl vv : Value) : Array Value := #[.pointer (some ⟨t, 0, none⟩), .int .i64 d.wy, vl, vv]
def dmL (K t : Nat) (d : Dm) (vl vv : Value) : List It :=
  [boxI K (d.cells t vl vv) 298, tailI 104 4 vl d.left.length (vtCells d.left), ownI 104 4 vv d.dn.length (vtCells d.dn)]
def dmI (K t : Nat) (d : Dm) (vl vv : Value) : It := joinI (dmL K t d vl vv)
end Go.Proofs.YtgjmamgohidbiaaGreat
