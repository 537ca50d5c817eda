/- Looks and doomings as plain data: what a step makes of one, and of the space; how they lie in memory. Looks: has, others, copies of victims, Done, Victims, nextSlot, together. Looks: together, a head, a word, a step. -/
import Derived.Test.YthbcbjkgjgmegaaGreatRdC
import Derived.Test.YthbcbjkgjgmegaaGreatVt
import Derived.Test.YthbcbjkgjgmegaaGreatSigB
import Derived.Test.YthbcbjkgjgmegaaGreatSpA
import Derived.Test.YthbcbjkgjgmegaaGreatEqS
import Derived.Test.YthbcbjkgjgmegaaGreatSpE
import Derived.Laws.AppendOwnNone
import Derived.Deep.AppendLies
import Derived.Deep.Cut
import Derived.Deep.CutBlock
import Derived.Deep.RegionLaw
namespace Go.Proofs.YthbcbjkgjgmegaaGreat
open Go.RowKit
set_option linter.unusedVariables false
set_option linter.unusedSimpArgs false

/-- Words are words. -/
def WsOk (ws : List Int) : Prop := ∀ x, x ∈ ws → ∃ n : Nat, x = n ∧ n < 18446744073709551616
theorem WsOk.rep (n : Nat) : WsOk (List.replicate n 0) := fun x hx => ⟨0, by rw [(List.mem_replicate.1 hx).2]; rfl, by decide⟩
theorem WsOk.set {ws : List Int} (h : WsOk ws) (k : Nat) {x : Nat} (hx : x < 18446744073709551616) : WsOk (ws.set k (x : Int)) := fun y hy => by
  rcases List.mem_or_eq_of_mem_set hy with hy | rfl
  · exact h y hy
  · exact ⟨x, rfl, hx⟩
theorem WsOk.put {ws : List Int} (h : WsOk ws) (n : Nat) (i j : Int) {x : Nat} (hx : x < 18446744073709551616) : WsOk (putW ws n i j (x : Int)) := by
  unfold putW
  split
  · exact h
  · exact h.set _ hx
theorem WsOk.word {ws : List Int} (h : WsOk ws) (n : Nat) (i j : Int) : ∃ x : Nat, wordR ws n i j = (x : Int) ∧ x < 18446744073709551616 := by
  unfold wordR
  split
  · exact ⟨0, rfl, by decide⟩
  · rename_i q _
    rw [List.getD_eq_getElem?_getD]
    cases e : ws[q]? with
    | none => exact ⟨0, rfl, by decide⟩
    | some y => exact h y (List.mem_of_getElem? e)

/-- A look that is under way. -/
structure Lk where
  wr : Sg
  left : List Nat
  inW : Bool
  met : Vt
  ld : List Nat
  vs : List Vt
/-- It is the next slot's turn. -/
def Lk.pass (k : Lk) : Lk := { k with left := k.left.tail, inW := false, met := Vt.zero, ld := [] }
def Hd.lives (h : Hd) : Bool := (h.sa == 2) && !h.dm
def Lk.head (k : Lk) (s : Nat) (h : Hd) : Lk := if h.lives then { k with met := ⟨s, h.gn, h.sp, h.th⟩, inW := true } else k.pass
def Sg.meets (a b : Sg) : Bool := !((a.meet b).same Sg.zero)
def Lk.word (k : Lk) (x : Nat) : Lk :=
  match k.ld with
  | [] => { k with ld := [x] }
  | a :: _ => ({ k with vs := if (⟨a, x⟩ : Sg).meets k.wr then k.vs ++ [k.met] else k.vs } : Lk).pass
def Lk.next (k : Lk) (z : SSt) : Lk :=
  match k.left with
  | [] => k
  | s :: _ => if k.inW then k.word (wordR z.ws z.hs.length k.met.so k.ld.length).toNat else k.head s (nowAt z.hs s)
def SSt.looks (z : SSt) (k : Lk) : SSt :=
  match k.left with
  | [] => z
  | s :: _ => if k.inW then z.word k.met.so k.ld.length else z.look s
def Lk.ans (k : Lk) : Int := if k.left = [] then 3 else 1
/-- What a look may be. -/
structure Lk.fit (k : Lk) : Prop where
  wr : k.wr.ok
  ld : k.ld.length ≤ 1
  lw : ∀ x, x ∈ k.ld → x < 18446744073709551616
  out : k.inW = false → k.ld = []
  lv : k.left.length ≤ 8
  vn : k.vs.length + k.left.length ≤ 8
def othersOf (n own : Nat) : List Nat := (List.range n).filter (fun i => i != own)
def Lk.new (wr : Sg) (n own : Nat) : Lk := ⟨wr, othersOf n own, false, Vt.zero, [], []⟩
theorem SSt.ok.looks {z : SSt} {c : Cfg} {k : Nat} (h : z.ok c k) (r : Lk) : (z.looks r).ok c (k + 1) := by
  unfold SSt.looks
  split
  · exact h.more (Nat.le_succ _)
  · split
    · exact h.word _ _
    · exact h.look _
theorem SSt.looks_ws (z : SSt) (r : Lk) : (z.looks r).ws = z.ws := by
  unfold SSt.looks
  split
  · rfl
  · split <;> rfl
theorem SSt.looks_hs (z : SSt) (r : Lk) : (z.looks r).hs = z.hs := by
  unfold SSt.looks
  split
  · rfl
  · split <;> rfl
theorem Lk.fit.pass {k : Lk} (h : k.fit) : k.pass.fit :=
  ⟨h.wr, by simp [Lk.pass], by simp [Lk.pass], fun _ => rfl, by have := h.lv; simp [Lk.pass]; omega, by have := h.vn; simp [Lk.pass]; omega⟩
theorem Lk.fit.word {k : Lk} (h : k.fit) (hi : k.inW = true) (h0 : k.left ≠ []) {x : Nat} (hx : x < 18446744073709551616) : (k.word x).fit := by
  unfold Lk.word
  have hp := List.length_pos_iff.2 h0
  split
  · exact ⟨h.wr, by simp, fun y hy => by simp at hy; omega, fun e => by simp [hi] at e, h.lv, h.vn⟩
  · refine ⟨h.wr, by simp [Lk.pass], by simp [Lk.pass], fun _ => rfl, by have := h.lv; simp [Lk.pass]; omega, ?_⟩
    have := h.vn
    simp only [Lk.pass]
    split <;> simp <;> omega
theorem Lk.fit.head {k : Lk} (h : k.fit) (s : Nat) (x : Hd) : (k.head s x).fit := by
  unfold Lk.head
  split
  · exact ⟨h.wr, h.ld, h.lw, fun e => by simp at e, h.lv, h.vn⟩
  · exact h.pass
theorem Lk.fit.next {k : Lk} (h : k.fit) {z : SSt} (hw : WsOk z.ws) : (k.next z).fit := by
  unfold Lk.next
  split
  · exact h
  · rename_i s r hl
    split
    · rename_i hi
      obtain ⟨x, hx, hx2⟩ := hw.word z.hs.length k.met.so k.ld.length
      rw [hx]
      exact h.word hi (by rw [hl]; simp) (by simpa using hx2)
    · exact h.head _ _
theorem othersOf_le (n own : Nat) : (othersOf n own).length ≤ n := by
  have := List.length_filter_le (fun i => i != own) (List.range n)
  simpa [othersOf] using this
theorem Lk.fit_new {wr : Sg} (h : wr.ok) {n : Nat} (hn : n ≤ 8) (own : Nat) : (Lk.new wr n own).fit := by
  have := othersOf_le n own
  exact ⟨h, by simp [Lk.new], by simp [Lk.new], fun _ => rfl, by simp [Lk.new]; omega, by simp [Lk.new]; omega⟩

/-- Part of a row, from some place on. -/
def tailI (e : TypeId) (sz : Nat) (v : Value) (n : Nat) (xs : List Value) : It :=
  ⟨if n = 0 then [] else v.ownBlock.toList,
   fun w => xs.length = n * sz ∧ ((n = 0 ∧ ∃ a c, v = .slice a 0 c) ∨ (0 < n ∧ ∃ g off cap cur, v = .slice (some ⟨g, off, none⟩) n cap ∧ w.heap[g]? = some (.cells cur e (0, 0)) ∧ n ≤ cap ∧ ∀ j u, xs[j]? = some u → cur[off + j]? = some u)),
   fun w w' h p => ⟨p.1, by
     rcases p.2 with p2 | ⟨h0, g, off, cap, cur, rfl, hg, r⟩
     · exact .inl p2
     · exact .inr ⟨h0, g, off, cap, cur, rfl, (h g (by rw [if_neg (by omega)]; simp [Value.ownBlock])).trans hg, r⟩⟩,
   fun w p b hb => by
     rcases p.2 with ⟨h0, _⟩ | ⟨h0, g, off, cap, cur, rfl, hg, r⟩
     · simp [h0] at hb
     · rw [if_neg (by omega)] at hb
       simp [Value.ownBlock] at hb
       subst hb
       exact lt_of_heap hg⟩
theorem tail_nodup (e : TypeId) (sz : Nat) (v : Value) (n : Nat) (xs : List Value) : (tailI e sz v n xs).fp.Nodup := by
  unfold tailI
  simp only
  split
  · exact List.nodup_nil
  · exact own_nodup v
theorem own_tail {w : World} {b : Nat} {e : TypeId} {sz : Nat} {v : Value} {n : Nat} {xs : List Value} (h : w.ownsRow b e sz v n xs) : (tailI e sz v n xs).P w := by
  refine ⟨h.1, ?_⟩
  rcases h.2 with ⟨rfl, hn⟩ | ⟨g, cap, cur, rfl, hb, hg, hc, hm, hs, ht⟩
  · exact .inl ⟨hn, none, 0, rfl⟩
  · by_cases hn : n = 0
    · exact .inl ⟨hn, _, _, by rw [hn]⟩
    · refine .inr ⟨by omega, g, 0, cap, cur, rfl, hg, hc, fun j u hj => ?_⟩
      rw [← ht, List.getElem?_take] at hj
      split at hj
      · simpa using hj
      · cases hj
theorem St.ownTail {o w : World} {its : List It} (h : St o its w) (i : Nat) {e : TypeId} {sz : Nat} {v : Value} {n : Nat} {xs : List Value} (hi : its[i]? = some (ownI e sz v n xs)) : St o (its.set i (tailI e sz v n xs)) w :=
  h.set i hi (Kept.refl _ w) (own_tail (show w.ownsRow 0 e sz v n xs from h.get i hi)) (tail_nodup ..) (fun b hb => by
    left
    simp only [tailI] at hb
    split at hb
    · cases hb
    · exact hb)
/-- Its cells. -/
theorem St.tailForm {o w : World} {its : List It} (h : St o its w) (i : Nat) {e : TypeId} {sz : Nat} {v : Value} {n : Nat} {xs : List Value} (hi : its[i]? = some (tailI e sz v n xs)) (h0 : 0 < n) : ∃ g off cap, v = .slice (some ⟨g, off, none⟩) n cap ∧ n ≤ cap ∧ xs.length = n * sz ∧ ∀ j u, xs[j]? = some u → w.cell? ⟨g, off + j, none⟩ = some u := by
  obtain ⟨p1, p2⟩ := h.get i hi
  rcases p2 with ⟨h1, _⟩ | ⟨_, g, off, cap, cur, rfl, hg, hc, ht⟩
  · omega
  · exact ⟨g, off, cap, rfl, hc, p1, fun j u hj => by rw [cell_of_heap hg]; exact ht j u hj⟩
/-- The first one is gone. -/
theorem St.tailCut {o w : World} {its : List It} (h : St o its w) (i : Nat) {e : TypeId} {sz g off n cap : Nat} {xs : List Value} (hi : its[i]? = some (tailI e sz (.slice (some ⟨g, off, none⟩) (n + 1) cap) (n + 1) xs)) {v' : Value} (hv : (∃ cap', n ≤ cap' ∧ v' = .slice (some ⟨g, off + sz, none⟩) n cap') ∨ (n = 0 ∧ ∃ a c, v' = .slice a n c)) : St o (its.set i (tailI e sz v' n (xs.drop sz))) w := by
  obtain ⟨p1, p2⟩ := h.get i hi
  rcases p2 with ⟨h1, _⟩ | ⟨_, g', off', cap'', cur, e', hg, hc, ht⟩
  · omega
  · simp only [Value.slice.injEq, Option.some.injEq, Addr.mk.injEq, and_true, true_and] at e'
    obtain ⟨⟨rfl, rfl⟩, rfl⟩ := e'
    have hlen : (xs.drop sz).length = n * sz := by rw [List.length_drop, p1, Nat.add_mul]; omega
    rcases hv with ⟨cap', hcap, rfl⟩ | ⟨rfl, a, c, rfl⟩
    · refine h.set i hi (Kept.refl _ w) ⟨hlen, ?_⟩ (tail_nodup ..) (fun b hb => ?_)
      · by_cases hn : n = 0
        · exact .inl ⟨hn, _, _, by rw [hn]⟩
        · refine .inr ⟨by omega, g, off + sz, cap', cur, rfl, hg, hcap, fun j u hj => ?_⟩
          rw [List.getElem?_drop] at hj
          rw [Nat.add_assoc]
          exact ht _ u hj
      · left
        simp only [tailI] at hb ⊢
        split at hb
        · cases hb
        · rw [if_neg (by omega)]
          simpa [Value.ownBlock] using hb
    · exact h.set i hi (Kept.refl _ w) ⟨hlen, .inl ⟨rfl, a, c, rfl⟩⟩ (tail_nodup ..) (fun b hb => by simp [tailI] at hb)

/-- Where there is one thing less. -/
theorem erase_get {its : List It} {i j : Nat} {A : It} (hij : i ≠ j) (hi : its[i]? = some A) : ∃ i', (its.eraseIdx j)[i']? = some A ∧ ∀ X, (its.eraseIdx j).set i' X = (its.set i X).eraseIdx j := by
  by_cases h : i < j
  · refine ⟨i, by rw [List.getElem?_eraseIdx_of_lt h]; exact hi, fun X => ?_⟩
    rw [List.eraseIdx_set_gt h]
  · refine ⟨i - 1, by rw [List.getElem?_eraseIdx_of_ge (by omega), show i - 1 + 1 = i by omega]; exact hi, fun X => ?_⟩
    rw [List.eraseIdx_set_lt (by omega)]

def wCells (l : List Nat) : List Value := l.map fun b : Nat => .int .u64 (b : Int)
def Lk.cells (k : Lk) (t : Nat) (vl vd vv : Value) : Array Value :=
  #[.pointer (some ⟨t, 0, none⟩), .int .u64 k.wr.lo, .int .u64 k.wr.hi, vl, .bool k.inW, .int .i64 k.met.so, .int .i64 k.met.ge, .int .i64 k.met.sp, .int .i64 k.met.th, vd, vv]
def lkL (K t : Nat) (k : Lk) (vl vd vv : Value) : List It :=
  [boxI K (k.cells t vl vd vv) 387, tailI 3 1 vl k.left.length (cellsOf k.left), ownI 128 1 vd k.ld.length (wCells k.ld), ownI 374 4 vv k.vs.length (vtCells k.vs)]
def lkI (K t : Nat) (k : Lk) (vl vd vv : Value) : It := joinI (lkL K t k vl vd vv)

/-- Doomings. -/
structure Dm where
  wy : Int
  left : List Vt
  dn : List Vt
def Dm.next (d : Dm) (hs : List Hd) : Dm :=
  match d.left with
  | [] => d
  | t :: l => ⟨d.wy, l, if (doomOp t.ge d.wy).E hs t.so = 0 then d.dn ++ [t] else d.dn⟩
def SSt.dooms (z : SSt) (d : Dm) : SSt :=
  match d.left with
  | [] => z
  | t :: _ => z.op (doomOp t.ge d.wy) t.so
def Dm.ans (d : Dm) : Int := if d.left = [] then 3 else 1
theorem SSt.ok.dooms {z : SSt} {c : Cfg} {k : Nat} (h : z.ok c k) (d : Dm) : (z.dooms d).ok c (k + 1) := by
  unfold SSt.dooms
  split
  · exact h.more (Nat.le_succ _)
  · exact h.op _ _ (doom_keeps h.hd _ _ _)
theorem SSt.dooms_ws (z : SSt) (d : Dm) : (z.dooms d).ws = z.ws := by
  unfold SSt.dooms
  split <;> rfl
def Dm.cells (d : Dm) (t : Nat) (vl vv : Value) : Array Value := #[.pointer (some ⟨t, 0, none⟩), .int .i64 d.wy, vl, vv]
def dmL (K t : Nat) (d : Dm) (vl vv : Value) : List It :=
  [boxI K (d.cells t vl vv) 447, tailI 374 4 vl d.left.length (vtCells d.left), ownI 374 4 vv d.dn.length (vtCells d.dn)]
def dmI (K t : Nat) (d : Dm) (vl vv : Value) : It := joinI (dmL K t d vl vv)
end Go.Proofs.YthbcbjkgjgmegaaGreat

namespace Go.Proofs.YthbcbjkgjgmegaaGreat
open Go.RowKit
set_option linter.unusedVariables false
set_option linter.unusedSimpArgs false
attribute [local go_sem ↓] Go.wp_at_zero Go.wp_at_succ

section
variable {o w : World} {its R : List It} {A : Ad} {c : Cfg} {z : SSt} {v u : Value} {K t : Nat} {k : Lk} {vl vd vv : Value}
def inT (n : Nat) (s : Int) : Bool := decide (0 ≤ s) && decide (s < n)
set_option maxRecDepth 100000 in
theorem lkHas (h : St o its w) (i : Nat) (hi : its[i]? = some (spI A c z v u)) (s : Int) :
    Calls Tryz.prog 280 #[.pointer (some ⟨A.t, 0, none⟩), .int .i64 s] w fun e w' => e = .returned (.bool (inT z.hs.length s)) ∧ w' = w := by
  have hl := spLen h i hi
  clear h hi
  generalize z.hs.length = n at *
  unfold inT
  by_cases h0 : 0 ≤ s
  · by_cases h1 : s < n
    · rw [decide_eq_true h0, decide_eq_true h1]
      go_enter Tryz.func280, Tryz.ntmps280
      go_wp2_with (go_at_call 119; refine hl.mono ?_; rintro e wq ⟨rfl, rfl⟩)
      go_ret
      exact ⟨rfl, rfl⟩
    · rw [decide_eq_true h0]
      go_enter Tryz.func280, Tryz.ntmps280
      go_wp2_with (go_at_call 119; refine hl.mono ?_; rintro e wq ⟨rfl, rfl⟩)
      go_ret
      exact ⟨rfl, rfl⟩
  · rw [decide_eq_false h0]
    clear hl
    go_enter Tryz.func280, Tryz.ntmps280
    go_wp2
    go_ret
    exact ⟨rfl, rfl⟩

theorem made_ints (n : Nat) : madeCells (Value.int .i64 0).cells (n * 1) = (List.replicate n (Value.int .i64 0)).toArray := by
  apply Array.ext'
  apply List.ext_getElem?
  intro j
  have hc : (Value.int .i64 0).cells = #[.int .i64 0] := rfl
  by_cases hj : j < n
  · simp [madeCells, hc, hj, Nat.mod_one]
  · rw [List.getElem?_eq_none (by simp [size_madeCells]; omega), List.getElem?_eq_none (by simp; omega)]
def othersBelow (own j : Nat) : List Nat := (List.range j).filter (fun i => i != own)
theorem othersBelow_succ (own j : Nat) : othersBelow own (j + 1) = othersBelow own j ++ (if j != own then [j] else []) := by
  unfold othersBelow
  rw [List.range_succ, List.filter_append]
  cases h : j != own <;> simp [h]
theorem othersBelow_le (own j : Nat) : (othersBelow own j).length ≤ j := by
  have := List.length_filter_le (fun i => i != own) (List.range j)
  simpa [othersBelow] using this

set_option maxRecDepth 100000 in
set_option maxHeartbeats 1000000 in
theorem lkOthers (n own : Nat) (hn : n ≤ 8) (w : World) :
    Calls Tryz.prog 281 #[.int .i64 n, .int .i64 own] w fun e w' => ∃ v, e = .returned v ∧ w'.ownsRow w.heap.size 3 1 v (othersOf n own).length (cellsOf (othersOf n own)) ∧ Kept (fun _ => False) w w' := by
  obtain ⟨i0, hi0, hz0, hz1, hz2⟩ := info_parts Tryz.infoInt
  have hmk : (Instr.makeSlice 45 (.int .i64 0) (.int .i64 n)).run Tryz.prog w = .ok (.slice (some ⟨w.heap.size, 0, none⟩) 0 n) (w.alloc (.cells (List.replicate n (.int .i64 0)).toArray 3)) := by
    have := run_make (P := Tryz.prog) w 45 3 i0 _ Tryz.underlying45 hi0 hz0 .i64 .i64 0 n (by omega) (by omega) (by rw [hz2]; omega) (by omega)
    rw [this, hz1, Int.toNat_natCast, made_ints]
    rfl
  have HS : Hid (∀ j, othersBelow own (j + 1) = othersBelow own j ++ (if j != own then [j] else [])) := othersBelow_succ own
  have HLE : Hid (∀ j, (othersBelow own j).length ≤ j) := othersBelow_le own
  have HE : Hid (othersBelow own n = othersOf n own) := rfl
  have H0 : Hid (othersBelow own 0 = []) := rfl
  generalize othersOf n own = RR at *
  generalize othersBelow own = L at *
  have ho0 := World.ownsRow_made (base := w.heap.size) (e := 3) (size := 1) w (List.replicate n (.int .i64 0)).toArray n (Nat.le_refl _) (by unfold maxLen; omega) (by simp)
  have k0 : Kept (fun _ => False) w (w.alloc (.cells (List.replicate n (.int .i64 0)).toArray 3)) := kept_alloc _ _
  generalize (List.replicate n (Value.int .i64 0)).toArray = CC at *
  go_enter Tryz.func281, Tryz.ntmps281
  go_wp2_with fail
  generalize w.alloc (.cells CC 3) = w1 at *
  clear hmk
  generalize hm : w.heap.size = m at *
  have HM : Hid (w.heap.size = m) := hm
  clear hm
  go_loopw [5, 10] (fun v i wr => ∃ j : Nat, i = .int .i64 j ∧ j ≤ n ∧ wr.ownsRow m 3 1 v (L j).length (cellsOf (L j)) ∧ Kept (fun _ => False) w wr) (fun _ i _ => n - (intOf i).toNat)
  case atStart => exact ⟨0, rfl, Nat.zero_le _, by rw [H0.out]; exact ho0, k0⟩
  case round =>
    clear ho0 k0
    obtain ⟨j, rfl, hj, ho, hK⟩ := hrel
    by_cases hlt : j < n
    · have h1 : (j : Int) < (n : Int) := by omega
      have h0 : (0 : Int) ≤ (j : Int) := by omega
      have hS := HS.out j
      by_cases hf : j = own
      · subst hf
        have HS2 : Hid (L (j + 1) = L j) := by show _ = _; simpa using hS
        have hx : ((j : Int) != (j : Int)) = false := by simp
        clear hS
        go_wp2_with fail
        go_roundw
        case rel => exact ⟨j + 1, by go_num, hlt, by rw [HS2.out]; exact ho, hK⟩
        case measure => simp [intOf]; omega
      · have HS2 : Hid (L (j + 1) = L j ++ [j]) := by show _ = _; rw [hS]; simp [hf]
        have hN : (L j).length ≤ 8 := by have := HLE.out j; omega
        have hx : ((j : Int) != (own : Int)) = true := by simp; omega
        clear hS hf
        have hmw : Hid (m ≤ wr.heap.size) := by
          have := hK.size
          rw [HM.out] at this
          exact this
        generalize hNN : (L j).length = NN at *
        have HNN : Hid ((L j).length = NN) := hNN
        generalize hLL : L j = LL at *
        clear hNN hLL
        go_wp2_with (at_builtin; refine wpList_append_lies _ rfl (.tmp 16) (.tmp 18) 45 rfl m 3 i0 _ 1 8 Tryz.underlying45 hi0 hz0 hz1 hz2 rfl (by omega) _ NN (cellsOf LL) rfl (ho.alloc _) ⟨wr.heap.size, 0, none⟩ 1 1 [.int .i64 (j : Int)] rfl (by simp) (World.news_of_block (cs := #[.int .i64 (j : Int)]) (t := 3) (fr := (0, 0)) (heap_alloc_new wr _)) (by simp [Value.oneCell']) (by omega) (by unfold maxLen; omega) (by omega) (by simp; have := hmw.out; omega) (wr.heap.size + 1) (by simp) ?_; intro g cap w5 hown5 hgrow hat hlt5)
        go_roundw
        case rel =>
          refine ⟨j + 1, by go_num, hlt, ?_, (hK.alloc _).grown hgrow (fun k e => .inr ?_)⟩
          · rw [HS2.out, cellsOf_append, List.length_append, HNN.out]
            exact hown5
          · have := (ho.lt k e).1
            rw [HM.out]
            exact this
        case measure => simp [intOf]; omega
    · have hj8 : j = n := by omega
      subst hj8
      go_wp2
      go_ret
      exact ⟨_, rfl, by rw [HM.out, ← HE.out]; exact ho, hK⟩

/-- A copy of victims that lie somewhere. -/
theorem own_vin0 {w : World} {base : Nat} {v : Value} {ys : List Vt} (h : w.ownsRow base 374 4 v ys.length (vtCells ys)) : ∃ la lc, v = .slice la ys.length lc ∧ VIn w la ys.length ys ∧ (la = none → ys.length = 0 ∧ lc = 0) := by
  rcases h.2 with ⟨rfl, hn⟩ | ⟨g, cap, cur, rfl, _⟩
  · exact ⟨none, 0, by rw [hn], ⟨rfl, fun h0 => by omega⟩, fun _ => ⟨hn, rfl⟩⟩
  · refine ⟨_, _, rfl, ⟨rfl, fun _ => ⟨g, 0, rfl, fun j u hu => ?_⟩⟩, fun e => by cases e⟩
    have hl := h.1
    have hj := (List.getElem?_eq_some_iff.1 hu).1
    rw [Nat.zero_add, h.cellAt j (by omega)]
    exact hu
set_option maxRecDepth 100000 in
set_option maxHeartbeats 1000000 in
theorem cloneVt (la : Option Addr) (n lc : Nat) (zs : List Vt) (w : World) (hL : VIn w la n zs) (hN : la = none → n = 0 ∧ lc = 0) (hb : n * 32 ≤ 140737488355328) :
    Calls Tryz.prog 402 #[.slice la n lc] w fun e w' => ∃ v', e = .returned v' ∧ w'.ownsRow w.heap.size 374 4 v' zs.length (vtCells zs) ∧ Kept (fun _ => False) w w' := by
  obtain ⟨i0, hi0, hz0, hz1, hz2⟩ := info_parts Tryz.infoVt
  have hE : ∀ a n c w, (binOp .eql 367 (.slice a n c) (.slice none 0 0)).run Tryz.prog w = .ok (.bool a.isNone) w := fun a n c w => Lib.run_eql_slice_nil w 367 374 a n c 0 0 Tryz.underlying367
  cases la with
  | none =>
    obtain ⟨rfl, rfl⟩ := hN rfl
    have hl : zs = [] := List.length_eq_zero_iff.1 hL.1.symm
    subst hl
    clear hL hN
    go_enter Tryz.func402, Tryz.ntmps402
    go_wp2
    go_ret
    exact ⟨_, rfl, World.ownsRow_nil _ _ _ _, Kept.refl _ _⟩
  | some ad =>
    have hcells : ∀ j u, (vtCells zs)[j]? = some u → (w.alloc (.cells #[] 374)).cell? (ad.add j) = some u := by
      intro j u hu
      have hj := (List.getElem?_eq_some_iff.1 hu).1
      rw [vtCells_length] at hj
      obtain ⟨g, off, e, hc⟩ := (hL.kept (kept_alloc w (.cells #[] 374))).2 (by have := hL.1; omega)
      simp only [Option.some.injEq] at e
      subst e
      rw [Addr.add_lit]
      exact hc j u hu
    have hlen : (vtCells zs).length = n * 4 := by rw [vtCells_length, ← hL.1]
    have hml : n ≤ maxLen := by unfold maxLen; omega
    have HL : Hid (n = zs.length) := hL.1
    clear hL hN
    go_enter Tryz.func402, Tryz.ntmps402
    go_wp2_with (at_builtin; refine wpList_append_own_at _ rfl (.tmp 5) (.tmp 6) 367 rfl w.heap.size 374 i0 _ 4 32 Tryz.underlying367 hi0 hz0 hz1 hz2 rfl (by omega) (.slice (some ⟨w.heap.size, 0, none⟩) 0 0) 0 [] rfl (World.ownsRow_made w #[] 0 (Nat.le_refl _) (Nat.zero_le _) rfl) ad n lc (vtCells zs) rfl hlen hcells (vtCells_one zs) (by omega) (by omega) (by simp) ?_; intro v' w1 hown' hgrow hnil hat)
    go_ret
    refine ⟨_, rfl, by rw [← HL.out]; simpa using hown', ((Kept.refl _ w).alloc _).grown hgrow (fun k e => ?_)⟩
    right
    simp [Value.ownBlock] at e
    omega

theorem lkAt0 : (lkL K t k vl vd vv ++ R)[0]? = some (boxI K (k.cells t vl vd vv) 387) := rfl
theorem lkAt1 : (lkL K t k vl vd vv ++ R)[1]? = some (tailI 3 1 vl k.left.length (cellsOf k.left)) := rfl
theorem lkAt2 : (lkL K t k vl vd vv ++ R)[2]? = some (ownI 128 1 vd k.ld.length (wCells k.ld)) := rfl
theorem lkAt3 : (lkL K t k vl vd vv ++ R)[3]? = some (ownI 374 4 vv k.vs.length (vtCells k.vs)) := rfl
theorem lkCell (h : St o (lkL K t k vl vd vv ++ R) w) (n : Nat) : w.cell? ⟨K, n, none⟩ = (k.cells t vl vd vv)[n]? := h.cell 0 lkAt0 n
theorem lkFrozen (h : St o (lkL K t k vl vd vv ++ R) w) (n : Nat) : w.frozen? ⟨K, n, none⟩ = false := h.frozen 0 lkAt0 n
theorem tail_len {e : TypeId} {sz : Nat} {n : Nat} {xs : List Value} (h : (tailI e sz v n xs).P w) : ∃ a cp, v = .slice a n cp := by
  rcases h.2 with ⟨rfl, a, cp, rfl⟩ | ⟨_, g, off, cap, cur, rfl, _⟩
  · exact ⟨_, _, rfl⟩
  · exact ⟨_, _, rfl⟩

theorem lkDone0 (h : St o (lkL K t k vl vd vv ++ R) w) :
    Calls Tryz.prog 395 #[.pointer (some ⟨K, 0, none⟩)] w fun e w' => e = .returned (.bool (decide (k.left = []))) ∧ w' = w := by
  have c3 : w.cell? ⟨K, 3, none⟩ = some vl := lkCell h 3
  obtain ⟨a, cp, rfl⟩ := tail_len (h.get 1 lkAt1)
  clear h
  have he : decide (k.left = []) = ((k.left.length : Int) == 0) := by
    cases k.left <;> simp
    omega
  rw [he]
  generalize k.left.length = n at *
  go_enter Tryz.func395, Tryz.ntmps395
  go_wp2
  go_ret
  exact ⟨rfl, rfl⟩
theorem lkVictims0 (h : St o (lkL K t k vl vd vv ++ R) w) (hk : k.vs.length ≤ 8) :
    Calls Tryz.prog 400 #[.pointer (some ⟨K, 0, none⟩)] w fun e w' => ∃ v', e = .returned v' ∧ w'.ownsRow w.heap.size 374 4 v' k.vs.length (vtCells k.vs) ∧ Kept (fun _ => False) w w' := by
  have c10 : w.cell? ⟨K, 10, none⟩ = some vv := lkCell h 10
  obtain ⟨la, lc, e, hV, hN⟩ := own_vin0 (show w.ownsRow 0 374 4 vv k.vs.length (vtCells k.vs) from h.get 3 lkAt3)
  have hc := cloneVt la k.vs.length lc k.vs w hV hN (by omega)
  rw [← e] at hc
  clear h hV hN e
  generalize vtCells k.vs = L at *
  go_enter Tryz.func400, Tryz.ntmps400
  go_wp2_with (go_at_call 402; refine hc.mono ?_; rintro e w' ⟨v', rfl, ho', hk⟩)
  go_ret
  exact ⟨_, rfl, ho', hk⟩

set_option maxRecDepth 100000 in
set_option maxHeartbeats 1000000 in
theorem lkPass0 (h : St o (lkL K t k vl vd vv ++ R) w) (h0 : k.left ≠ []) :
    Calls Tryz.prog 416 #[.pointer (some ⟨K, 0, none⟩)] w fun e w' => e = .returned (.tuple #[]) ∧ ∃ vl', St o (lkL K t k.pass vl' (.slice none 0 0) vv ++ R) w' := by
  obtain ⟨wr, left, iw, ⟨m0, m1, m2, m3⟩, ld, vs⟩ := k
  cases left with
  | nil => exact absurd rfl h0
  | cons s l =>
  obtain ⟨g, off, cap, rfl, hcap, _, _⟩ := h.tailForm 1 lkAt1 (by simp)
  simp only [List.length_cons] at hcap
  have HC : Hid (∀ v', ((∃ cap', l.length ≤ cap' ∧ v' = .slice (some ⟨g, off + 1, none⟩) l.length cap') ∨ (l.length = 0 ∧ ∃ a c, v' = .slice a l.length c)) → St o (lkL K t (Lk.pass ⟨wr, s :: l, iw, ⟨m0, m1, m2, m3⟩, ld, vs⟩) v' (.slice none 0 0) vv ++ R) (((((((w.setCell ⟨K, 3, none⟩ v').setCell ⟨K, 4, none⟩ (.bool false)).setCell ⟨K, 5, none⟩ (.int .i64 0)).setCell ⟨K, 6, none⟩ (.int .i64 0)).setCell ⟨K, 7, none⟩ (.int .i64 0)).setCell ⟨K, 8, none⟩ (.int .i64 0)).setCell ⟨K, 9, none⟩ (.slice none 0 0))) := by
    intro v' hc'
    have a1 := h.tailCut 1 lkAt1 hc'
    have a2 := a1.set 2 (A' := ownI 128 1 (.slice none 0 0) 0 []) rfl (Kept.refl _ _) (World.ownsRow_nil _ _ _ _) (own_nodup (.slice none 0 0)) (fun b hb => by simp [ownI, Value.ownBlock] at hb)
    have a3 := a2.write 0 rfl 3 v'
    have a4 := a3.write 0 rfl 4 (.bool false)
    have a5 := a4.write 0 rfl 5 (.int .i64 0)
    have a6 := a5.write 0 rfl 6 (.int .i64 0)
    have a7 := a6.write 0 rfl 7 (.int .i64 0)
    have a8 := a7.write 0 rfl 8 (.int .i64 0)
    exact a8.write 0 rfl 9 (.slice none 0 0)
  have c3 : w.cell? ⟨K, 3, none⟩ = some (.slice (some ⟨g, off, none⟩) (l.length + 1) cap) := lkCell h 3
  have c4 : w.cell? ⟨K, 4, none⟩ = some (.bool iw) := lkCell h 4
  have c5 : w.cell? ⟨K, 5, none⟩ = some (.int .i64 m0) := lkCell h 5
  have c6 : w.cell? ⟨K, 6, none⟩ = some (.int .i64 m1) := lkCell h 6
  have c7 : w.cell? ⟨K, 7, none⟩ = some (.int .i64 m2) := lkCell h 7
  have c8 : w.cell? ⟨K, 8, none⟩ = some (.int .i64 m3) := lkCell h 8
  have c9 : w.cell? ⟨K, 9, none⟩ = some vd := lkCell h 9
  have f3 := lkFrozen h 3
  have f4 := lkFrozen h 4
  have f5 := lkFrozen h 5
  have f6 := lkFrozen h 6
  have f7 := lkFrozen h 7
  have f8 := lkFrozen h 8
  have f9 := lkFrozen h 9
  clear h h0
  generalize l.length = n at *
  have hc1 : (1 : Int) ≤ (n : Int) + 1 := by omega
  have hc2 : (n : Int) + 1 ≤ (cap : Int) := by omega
  go_enter Tryz.func416, Tryz.ntmps416
  go_wp2
  all_goals go_end0
  all_goals (refine ⟨rfl, _, HC.out _ ?_⟩)
  all_goals (first | exact .inl ⟨_, by omega, rfl⟩ | exact .inr ⟨by omega, _, _, rfl⟩)
end
end Go.Proofs.YthbcbjkgjgmegaaGreat

namespace Go.Proofs.YthbcbjkgjgmegaaGreat
open Go.RowKit
set_option linter.unusedVariables false
set_option linter.unusedSimpArgs false
attribute [local go_sem ↓] Go.wp_at_zero Go.wp_at_succ

section
variable {o w : World} {its R : List It} {A : Ad} {c : Cfg} {z : SSt} {v u : Value} {K t : Nat} {k : Lk} {vl vd vv : Value}
theorem lkSet (i : Nat) (X : It) : (lkL K t k vl vd vv ++ R).set (4 + i) X = lkL K t k vl vd vv ++ R.set i X := by
  rw [List.set_append_right _ _ (by simp [lkL])]
  congr 1
  simp [lkL]
theorem lkGet {i : Nat} {X : It} (h : R[i]? = some X) : (lkL K t k vl vd vv ++ R)[4 + i]? = some X := by
  rw [List.getElem?_append_right (by simp [lkL])]
  simpa [lkL] using h

set_option maxRecDepth 100000 in
set_option maxHeartbeats 1000000 in
theorem lkHead0 (h : St o (lkL K A.t k vl vd vv ++ R) w) (i : Nat) (hi : R[i]? = some (spI A c z v u)) {n : Nat} (ok : z.ok c n) (hn : n ≤ 4611686018427) (hk : k.fit) {s : Nat} {l : List Nat} (hl : k.left = s :: l) :
    Calls Tryz.prog 381 #[.pointer (some ⟨K, 0, none⟩)] w fun e w' => e = .returned (.tuple #[]) ∧ ∃ v' vl' vd', St o (lkL K A.t (k.head s (nowAt z.hs s)) vl' vd' vv ++ R.set i (spI A c (z.look s) v' u)) w' := by
  have hq := spLook h (4 + i) (lkGet hi) ok hn s
  obtain ⟨g, off, cap, hvl, hcap, hlen, hcs⟩ := h.tailForm 1 lkAt1 (by rw [hl]; simp)
  have cg : w.cell? ⟨g, off, none⟩ = some (.int .i64 (s : Nat)) := by
    have := hcs 0 (.int .i64 (s : Nat)) (by rw [hl]; rfl)
    simpa using this
  have c0 : w.cell? ⟨K, 0, none⟩ = some (.pointer (some ⟨A.t, 0, none⟩)) := lkCell h 0
  have c3 : w.cell? ⟨K, 3, none⟩ = some vl := lkCell h 3
  have h1 : (0 : Int) < (k.left.length : Int) := by rw [hl]; simp
  rw [hvl] at c3
  clear hvl hcs hlen hcap
  generalize k.left.length = nl at *
  generalize hH : nowAt z.hs s = H at *
  have HP : Hid (∀ v' W, St o (lkL K A.t k vl vd vv ++ R.set i (spI A c (z.look s) v' u)) W → Calls Tryz.prog 416 #[.pointer (some ⟨K, 0, none⟩)] W fun e w' => e = .returned (.tuple #[]) ∧ ∃ vl', St o (lkL K A.t k.pass vl' (.slice none 0 0) vv ++ R.set i (spI A c (z.look s) v' u)) w') := fun v' W hW => lkPass0 hW (by rw [hl]; simp)
  have HS : Hid (∀ v', (lkL K A.t k vl vd vv ++ R).set (4 + i) (spI A c (z.look s) v' u) = lkL K A.t k vl vd vv ++ R.set i (spI A c (z.look s) v' u)) := fun v' => lkSet i _
  clear h hi ok hl
  generalize lookE z.hs s = LE at *
  obtain ⟨hg, hs, hp, ht, hd, hb⟩ := H
  have HW : Hid (Lk.head k s ⟨hg, hs, hp, ht, hd, hb⟩ = if (hs == 2) && !hd then { k with met := ⟨s, hg, hp, ht⟩, inW := true } else k.pass) := rfl
  unfold Hd.val at hq
  simp only at hq
  go_enter Tryz.func381, Tryz.ntmps381
  go_wp2_with fail
  refine hq.mono ?_
  rintro e w2 ⟨rfl, v', s2⟩
  clear hq c0 c3 cg
  rw [HS.out] at s2
  have s3 := s2.box #[.int .i64 hg, .int .i64 hs, .int .i64 hp, .int .i64 ht, .bool hd, .int .i64 hb] 181
  have s5 : St o (lkL K A.t k vl vd vv ++ R.set i (spI A c (z.look s) v' u)) (w2.alloc (.cells #[.int .i64 hg, .int .i64 hs, .int .i64 hp, .int .i64 ht, .bool hd, .int .i64 hb] 181)) := s2.alloc _
  go_upto_region 2 with fail
  generalize w2.alloc (.cells #[.int .i64 hg, .int .i64 hs, .int .i64 hp, .int .i64 ht, .bool hd, .int .i64 hb] 181) = w3 at *
  generalize w2.heap.size = M at *
  have b0 : w3.cell? ⟨M, 0, none⟩ = some (.int .i64 hg) := s3.cell 0 rfl 0
  have b1 : w3.cell? ⟨M, 1, none⟩ = some (.int .i64 hs) := s3.cell 0 rfl 1
  have b2 : w3.cell? ⟨M, 2, none⟩ = some (.int .i64 hp) := s3.cell 0 rfl 2
  have b3 : w3.cell? ⟨M, 3, none⟩ = some (.int .i64 ht) := s3.cell 0 rfl 3
  have b4 : w3.cell? ⟨M, 4, none⟩ = some (.bool hd) := s3.cell 0 rfl 4
  clear s2 s3
  cases h2 : hs == 2 with
  | false =>
    have hne : (hs != 2) = true := by simp [bne, h2]
    have hq := HP.out _ _ s5
    clear s5 HP HS
    go_wp2_with fail
    refine hq.mono ?_
    rintro e w4 ⟨rfl, vl', s4⟩
    have H4 : Hid _ := s4
    clear hq s4
    go_wp2
    ((try simp only [Exit.inBlock, Exit.then]); refine bodyPost_ret (results_none rfl _ _ _) rfl ?_)
    refine ⟨rfl, v', vl', .slice none 0 0, ?_⟩
    rw [HW.out, h2]
    exact H4.out
  | true =>
    have hne : (hs != 2) = false := by simp [bne, h2]
    cases hd with
    | true =>
      have hq := HP.out _ _ s5
      clear s5 HP HS
      go_wp2_with fail
      refine hq.mono ?_
      rintro e w4 ⟨rfl, vl', s4⟩
      have H4 : Hid _ := s4
      clear hq s4
      go_wp2
      ((try simp only [Exit.inBlock, Exit.then]); refine bodyPost_ret (results_none rfl _ _ _) rfl ?_)
      refine ⟨rfl, v', vl', .slice none 0 0, ?_⟩
      rw [HW.out, h2]
      exact H4.out
    | false =>
      clear HP HS
      obtain ⟨wr, left, iw, ⟨m0, m1, m2, m3⟩, ld, vs⟩ := k
      have c4 : w3.cell? ⟨K, 4, none⟩ = some (.bool iw) := lkCell s5 4
      have c5 : w3.cell? ⟨K, 5, none⟩ = some (.int .i64 m0) := lkCell s5 5
      have c6 : w3.cell? ⟨K, 6, none⟩ = some (.int .i64 m1) := lkCell s5 6
      have c7 : w3.cell? ⟨K, 7, none⟩ = some (.int .i64 m2) := lkCell s5 7
      have c8 : w3.cell? ⟨K, 8, none⟩ = some (.int .i64 m3) := lkCell s5 8
      have f4 := lkFrozen s5 4
      have f5 := lkFrozen s5 5
      have f6 := lkFrozen s5 6
      have f7 := lkFrozen s5 7
      have f8 := lkFrozen s5 8
      have HF : Hid (St o (lkL K A.t ⟨wr, left, true, ⟨s, hg, hp, ht⟩, ld, vs⟩ vl vd vv ++ R.set i (spI A c (z.look s) v' u)) (((((w3.setCell ⟨K, 5, none⟩ (.int .i64 (s : Nat))).setCell ⟨K, 6, none⟩ (.int .i64 hg)).setCell ⟨K, 7, none⟩ (.int .i64 hp)).setCell ⟨K, 8, none⟩ (.int .i64 ht)).setCell ⟨K, 4, none⟩ (.bool true))) := by
        have a1 := s5.write 0 lkAt0 5 (.int .i64 (s : Nat))
        have a2 := a1.write 0 rfl 6 (.int .i64 hg)
        have a3 := a2.write 0 rfl 7 (.int .i64 hp)
        have a4 := a3.write 0 rfl 8 (.int .i64 ht)
        exact a4.write 0 rfl 4 (.bool true)
      clear s5
      go_wp2
      go_end0
      refine ⟨rfl, v', vl, vd, ?_⟩
      rw [HW.out, h2]
      exact HF.out

set_option maxRecDepth 100000 in
set_option maxHeartbeats 1000000 in
theorem lkTogether (a b : Nat) (g cap : Nat) (w : World) (c0 : w.cell? ⟨g, 0, none⟩ = some (.int .u64 (a : Nat))) (c1 : w.cell? ⟨g, 1, none⟩ = some (.int .u64 (b : Nat))) :
    Calls Tryz.prog 419 #[.slice (some ⟨g, 0, none⟩) 2 cap] w fun e w' => e = .returned (Sg.val ⟨a, b⟩) ∧ Kept (fun _ => False) w w' := by
  have lg : g < w.heap.size := World.block_lt_of_cell? w _ c0
  unfold Sg.val
  simp only
  go_enter Tryz.func419, Tryz.ntmps419
  go_wp2_with fail
  generalize hW : (w.alloc (.cells #[.int .u64 0, .int .u64 0] 130)).alloc (.cells #[.int .u64 0, .int .u64 0] 130) = W
  obtain ⟨A, B, K⟩ := pair_new w hW
  have d0 : W.cell? ⟨g, 0, none⟩ = some (.int .u64 (a : Nat)) := by rw [← c0]; exact World.cell?_of_block (K.block g lg (fun f => f))
  have d1 : W.cell? ⟨g, 1, none⟩ = some (.int .u64 (b : Nat)) := by rw [← c1]; exact World.cell?_of_block (K.block g lg (fun f => f))
  clear hW c0 c1
  have HM : ∃ m, Hid (w.heap.size = m) := ⟨_, rfl⟩
  obtain ⟨m, HM⟩ := HM
  rw [HM.out] at A B lg ⊢
  go_loopw [5] (fun i wr => (i = .int .i64 0 ∧ wr = W) ∨ (i = .int .i64 1 ∧ wr = W.setCell ⟨m + 1, 0, none⟩ (.int .u64 a)) ∨ (i = .int .i64 2 ∧ wr = (W.setCell ⟨m + 1, 0, none⟩ (.int .u64 a)).setCell ⟨m + 1, 1, none⟩ (.int .u64 b))) (fun i _ => 2 - (intOf i).toNat)
  case atStart => exact .inl ⟨rfl, rfl⟩
  case round =>
    rcases hrel with ⟨rfl, rfl⟩ | ⟨rfl, rfl⟩ | ⟨rfl, rfl⟩
    · have x0 := B.c0; have x1 := B.f0
      simp only [Sg.zero] at x0
      clear A B K lg d1
      go_wp2_with fail
      go_roundw
      case rel => exact .inr (.inl ⟨rfl, trivial⟩)
      case measure => simp [intOf]
    · have A1 : (W.setCell ⟨m + 1, 0, none⟩ (.int .u64 a)).heap[m + 1]? = some (.cells #[.int .u64 a, .int .u64 0] 130 (0, 0)) := heap_setCell_at B _
      have x0 : (W.setCell ⟨m + 1, 0, none⟩ (.int .u64 a)).cell? ⟨m + 1, 1, none⟩ = some (.int .u64 0) := cell_of_heap A1
      have x1 : (W.setCell ⟨m + 1, 0, none⟩ (.int .u64 a)).frozen? ⟨m + 1, 1, none⟩ = false := frozen_of_heap A1
      have x2 : (W.setCell ⟨m + 1, 0, none⟩ (.int .u64 a)).cell? ⟨g, 1, none⟩ = some (.int .u64 b) := by rw [World.cell?_of_block (heap_setCell_far (show g ≠ m + 1 by omega))]; exact d1
      generalize W.setCell ⟨m + 1, 0, none⟩ (.int .u64 a) = W1 at *
      clear A B K lg d0 d1 A1
      go_wp2_with fail
      go_roundw
      case rel => exact .inr (.inr ⟨rfl, trivial⟩)
      case measure => simp [intOf]
    · have B2 := B.set ⟨a, b⟩
      have hm := HM.out
      have K2 := (K.setCell (p := ⟨m + 1, 0, none⟩) (.int .u64 a) (.inr (by rw [hm]; simp))).setCell (p := ⟨m + 1, 1, none⟩) (.int .u64 b) (.inr (by rw [hm]; simp))
      have C2 : Box ((W.setCell ⟨m + 1, 0, none⟩ (.int .u64 a)).setCell ⟨m + 1, 1, none⟩ (.int .u64 b)) m Sg.zero := (A.far (by simp)).far (by simp)
      simp only at B2
      generalize (W.setCell ⟨m + 1, 0, none⟩ (.int .u64 a)).setCell ⟨m + 1, 1, none⟩ (.int .u64 b) = W2 at *
      have x0 := B2.c0; have x1 := B2.c1; have x2 := C2.c0; have x3 := C2.c1; have x4 := C2.f0; have x5 := C2.f1
      simp only [Sg.zero] at x0 x1 x2 x3
      clear hm A B K lg d0 d1
      go_wp2_with fail
      have hB := C2.set ⟨a, b⟩
      have K3 := (K2.setCell (p := ⟨m, 0, none⟩) (.int .u64 a) (.inr (by rw [HM.out]; simp))).setCell (p := ⟨m, 1, none⟩) (.int .u64 b) (.inr (by rw [HM.out]; simp))
      have y0 := hB.c0; have y1 := hB.c1
      simp only at y0 y1 hB
      exact bodyPost_ret (v := .agg #[.int .u64 a, .int .u64 b]) (by simp [results, Tryz.results419, go_sem, y0, y1]) rfl ⟨rfl, K3⟩
end
end Go.Proofs.YthbcbjkgjgmegaaGreat
