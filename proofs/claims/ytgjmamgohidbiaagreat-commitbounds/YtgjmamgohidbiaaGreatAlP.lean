/- A look and a dooming with nobody else at work, as plain data; slots compared; lists of victims compared. -/
import Derived.Test.YtgjmamgohidbiaaGreatDmdA
import Derived.Test.YtgjmamgohidbiaaGreatSeats
import Derived.BigQuiet
namespace Go.Proofs.YtgjmamgohidbiaaGreat
open Go.RowKit
set_option linter.unusedVariables false
set_option linter.unusedSimpArgs false

theorem set_get {α : Type} {L : List α} {j : Nat} {x : α} (h : L[j]? = some x) : L.set j x = L := by
  obtain ⟨h1, rfl⟩ := List.getElem?_eq_some_iff.1 h
  exact List.set_getElem_self h1
theorem getHead {hs : List Hd} {k : Nat} (hk : k < hs.length) : headAt hs (k : Int) = some (hs.getD k Hd.zero) := by
  rw [headAt_in hk, List.getD_eq_getElem?_getD, List.getElem?_eq_getElem hk]; rfl
/-- Is it the attempt that a victim was? -/
def Hd.isV (h : Hd) (t : Vt) : Bool := (h.sa == 2) && (h.gn == t.ge)
def Hd.doomed (h : Hd) (wy : Int) : Hd := ⟨h.gn, h.sa, h.sp, h.th, true, wy⟩
theorem doom_step {z : SSt} {d : Dm} {x : Vt} {l : List Vt} (hl : d.left = x :: l) (hw : isTh d.wy = true) {k : Nat} (hk : k < z.hs.length) (hx : x.so = (k : Int)) :
    (z.dooms d).hs = (if (z.hs.getD k Hd.zero).isV x then (if (z.hs.getD k Hd.zero).dm then z.hs else z.hs.set k ((z.hs.getD k Hd.zero).doomed d.wy)) else z.hs) ∧ d.next z.hs = ⟨d.wy, l, if (z.hs.getD k Hd.zero).isV x then d.dn ++ [x] else d.dn⟩ ∧ (z.dooms d).s.l.length = z.s.l.length + 1 := by
  have hh := getHead hk
  unfold SSt.dooms Dm.next
  rw [hl]
  simp only [SSt.op, HOp.H, HOp.E, HOp.S, doomOp, hw, if_true, hx, hh, Int.toNat_natCast]
  generalize hg : z.hs.getD k Hd.zero = H
  have hi : z.hs[k]? = some H := by
    rw [← hg, List.getD_eq_getElem?_getD, List.getElem?_eq_getElem hk]; rfl
  refine ⟨?_, ?_, by simp [Mt.note]⟩
  · unfold Hd.isV
    split
    · split
      · exact set_get hi
      · rfl
    · rfl
  · unfold Hd.isV
    split <;> simp_all
def dzS (z : SSt) (d : Dm) : Nat → SSt × Dm
  | 0 => (z, d)
  | j + 1 => ((dzS z d j).1.dooms (dzS z d j).2, (dzS z d j).2.next (dzS z d j).1.hs)
section
variable {z : SSt} {d : Dm} {c : Cfg} {n : Nat}
theorem dzS_ok (h : z.ok c n) (j : Nat) : (dzS z d j).1.ok c (n + j) := by
  induction j with
  | zero => exact h
  | succ j ih => exact ih.dooms _
theorem dzS_ws (j : Nat) : (dzS z d j).1.ws = z.ws := by
  induction j with
  | zero => rfl
  | succ j ih => exact (SSt.dooms_ws _ _).trans ih
theorem Dm.next_left (d : Dm) (hs : List Hd) : (d.next hs).left = d.left.tail ∧ (d.next hs).wy = d.wy ∧ (d.next hs).dn.length ≤ d.dn.length + 1 := by
  unfold Dm.next
  split
  · rename_i h; simp [h]
  · rename_i t l h
    refine ⟨by simp [h], rfl, ?_⟩
    simp only
    split <;> simp
theorem dzS_left (j : Nat) : (dzS z d j).2.left = d.left.drop j ∧ (dzS z d j).2.wy = d.wy ∧ (dzS z d j).2.dn.length ≤ d.dn.length + j := by
  induction j with
  | zero => exact ⟨rfl, rfl, Nat.le_refl _⟩
  | succ j ih =>
    obtain ⟨a, b, e⟩ := ih
    obtain ⟨a', b', e'⟩ := Dm.next_left (dzS z d j).2 (dzS z d j).1.hs
    refine ⟨?_, ?_, ?_⟩
    · show ((dzS z d j).2.next _).left = _
      rw [a', a, List.tail_drop]
    · show ((dzS z d j).2.next _).wy = _
      rw [b', b]
    · show ((dzS z d j).2.next _).dn.length ≤ _
      omega
theorem dzS_log (hw : isTh d.wy = true) (h : z.ok c n) (ha : allIn z.hs.length d.left) (j : Nat) (hj : j ≤ d.left.length) : j ≤ (dzS z d j).1.s.l.length := by
  induction j with
  | zero => exact Nat.zero_le _
  | succ j ih =>
    obtain ⟨a, b, _⟩ := dzS_left (z := z) (d := d) j
    have hj' : j < d.left.length := by omega
    have hlen : (dzS z d j).1.hs.length = z.hs.length := by
      have h1 := (dzS_ok (d := d) h j).hl
      have h2 := h.hl
      omega
    have hin := ha j hj'
    simp only [inT, Bool.and_eq_true, decide_eq_true_eq] at hin
    obtain ⟨k, hk⟩ := Int.eq_ofNat_of_zero_le hin.1
    have := (doom_step (z := (dzS z d j).1) (d := (dzS z d j).2) (x := d.left[j]) (l := d.left.drop (j + 1)) (by rw [a]; exact List.drop_eq_getElem_cons hj') (by rw [b]; exact hw) (k := k) (by rw [hlen]; omega) hk).2.2
    show j + 1 ≤ ((dzS z d j).1.dooms (dzS z d j).2).s.l.length
    have := ih (by omega)
    omega
end
theorem guardSl (x y : Operand) (xs ys : Array Value) (w : World) : (eqGuard .neq 101 x y (.agg xs) (.agg ys)).run Tryz.prog w = .ok () w := by kernel_rfl
def neSlOp (x y : Operand) (a b : Value) : Sem Next := do pure (.value (← (do eqGuard .neq 101 x y a b; binOp .neq 101 a b)))
theorem exec_neSl (ρ : Operand → Value) (dst : Option Tmp) (x y : Operand) (ty : TypeId) (pos : String) (after : Array Edge) (guard : Option (Nat × Bool)) :
    execOp ρ { dst, op := .binOp .neq 101 x y 101, type := ty, pos, after, guard } = neSlOp x y (ρ x) (ρ y) := rfl
set_option maxRecDepth 100000 in
theorem run_neSl (x y : Operand) (a b c e : Int) (f : Bool) (g u v : Int) (w : World) : (neSlOp x y (.agg #[.int .i64 a, .int .i64 b, .int .i64 c, .int .i64 e, .bool f, .int .i64 g, .int .u64 u, .int .u64 v]) (.agg #[.int .i64 a, .int .i64 b, .int .i64 c, .int .i64 e, .bool f, .int .i64 g, .int .u64 u, .int .u64 v])).run Tryz.prog w = .ok (.value (.bool false)) w := by
  simp only [neSlOp, Sem.run_bind, Sem.run_pure, guardSl, eqSlot, Result.andThen_ok]
/-- A head is written over in such a list. -/
theorem slot_head {hs : List Hd} {ws : List Int} (e : ws.length = hs.length * 2) {k : Nat} (hk : k < hs.length) (h : Hd) :
    ((((((slCells (slots hs ws)).set (k * 8) (.int .i64 h.gn)).set (k * 8 + 1) (.int .i64 h.sa)).set (k * 8 + 2) (.int .i64 h.sp)).set (k * 8 + 3) (.int .i64 h.th)).set (k * 8 + 4) (.bool h.dm)).set (k * 8 + 5) (.int .i64 h.wy) = slCells (slots (hs.set k h) ws) := by
  have hl := slots_length hs ws e
  have hs' := slots_at hs ws e k hk
  have hkk : k < (slots hs ws).length := by omega
  have hel : (slots hs ws)[k] = mkSl hs[k] (ws.getD (k * 2) 0) (ws.getD (k * 2 + 1) 0) := by
    rw [List.getElem?_eq_getElem hkk] at hs'
    exact Option.some.inj hs'
  obtain ⟨_, _, _, _, _, _, a6, a7⟩ := slCells_at (slots hs ws) k hkk
  rw [hel] at a6 a7
  rw [slots_head hs ws e k hk h, ← slCells_set (slots hs ws) (mkSl h (ws.getD (k * 2) 0) (ws.getD (k * 2 + 1) 0)) k hkk]
  generalize slCells (slots hs ws) = L at *
  show _ = ((((((((L.set (k * 8) (.int .i64 h.gn)).set (k * 8 + 1) (.int .i64 h.sa)).set (k * 8 + 2) (.int .i64 h.sp)).set (k * 8 + 3) (.int .i64 h.th)).set (k * 8 + 4) (.bool h.dm)).set (k * 8 + 5) (.int .i64 h.wy)).set (k * 8 + 6) (.int .u64 (ws.getD (k * 2) 0))).set (k * 8 + 7) (.int .u64 (ws.getD (k * 2 + 1) 0)))
  have b6 : (((((((L.set (k * 8) (.int .i64 h.gn)).set (k * 8 + 1) (.int .i64 h.sa)).set (k * 8 + 2) (.int .i64 h.sp)).set (k * 8 + 3) (.int .i64 h.th)).set (k * 8 + 4) (.bool h.dm)).set (k * 8 + 5) (.int .i64 h.wy)))[k * 8 + 6]? = some (.int .u64 (ws.getD (k * 2) 0)) := by
    rw [List.getElem?_set_ne (by omega), List.getElem?_set_ne (by omega), List.getElem?_set_ne (by omega), List.getElem?_set_ne (by omega), List.getElem?_set_ne (by omega), List.getElem?_set_ne (by omega)]
    exact a6
  have b7 : (((((((L.set (k * 8) (.int .i64 h.gn)).set (k * 8 + 1) (.int .i64 h.sa)).set (k * 8 + 2) (.int .i64 h.sp)).set (k * 8 + 3) (.int .i64 h.th)).set (k * 8 + 4) (.bool h.dm)).set (k * 8 + 5) (.int .i64 h.wy)))[k * 8 + 7]? = some (.int .u64 (ws.getD (k * 2 + 1) 0)) := by
    rw [List.getElem?_set_ne (by omega), List.getElem?_set_ne (by omega), List.getElem?_set_ne (by omega), List.getElem?_set_ne (by omega), List.getElem?_set_ne (by omega), List.getElem?_set_ne (by omega)]
    exact a7
  rw [set_get b6, set_get b7]
/-- The same in memory. -/
theorem St.slotHead {o w : World} {its : List It} (h : St o its w) (i : Nat) {g cap : Nat} {hs : List Hd} {ws : List Int} (hi : its[i]? = some (ownI 101 8 (.slice (some ⟨g, 0, none⟩) hs.length cap) hs.length (slCells (slots hs ws)))) (e : ws.length = hs.length * 2) {k : Nat} (hk : k < hs.length) (x : Hd) :
    St o (its.set i (ownI 101 8 (.slice (some ⟨g, 0, none⟩) hs.length cap) hs.length (slCells (slots (hs.set k x) ws)))) ((((((w.setCell ⟨g, k * 8, none⟩ (.int .i64 x.gn)).setCell ⟨g, k * 8 + 1, none⟩ (.int .i64 x.sa)).setCell ⟨g, k * 8 + 2, none⟩ (.int .i64 x.sp)).setCell ⟨g, k * 8 + 3, none⟩ (.int .i64 x.th)).setCell ⟨g, k * 8 + 4, none⟩ (.bool x.dm)).setCell ⟨g, k * 8 + 5, none⟩ (.int .i64 x.wy)) := by
  have a1 := h.ownSet i hi (k * 8) (by omega) (.int .i64 x.gn)
  have a2 := a1.ownSet i (set_self hi) (k * 8 + 1) (by omega) (.int .i64 x.sa)
  rw [set_same] at a2
  have a3 := a2.ownSet i (set_self hi) (k * 8 + 2) (by omega) (.int .i64 x.sp)
  rw [set_same] at a3
  have a4 := a3.ownSet i (set_self hi) (k * 8 + 3) (by omega) (.int .i64 x.th)
  rw [set_same] at a4
  have a5 := a4.ownSet i (set_self hi) (k * 8 + 4) (by omega) (.bool x.dm)
  rw [set_same] at a5
  have a6 := a5.ownSet i (set_self hi) (k * 8 + 5) (by omega) (.int .i64 x.wy)
  rw [set_same, slot_head e hk x] at a6
  exact a6
set_option maxRecDepth 100000 in
theorem neVt (a : Int) (b : Int) (c : Int) (d : Int) (w : World) : (binOp .neq 104 (.agg #[.int .i64 a, .int .i64 b, .int .i64 c, .int .i64 d]) (.agg #[.int .i64 a, .int .i64 b, .int .i64 c, .int .i64 d])).run Tryz.prog w = .ok (.bool false) w := by
  rw [run_neq_struct, run_equalIn_struct w 9999 104 _ _ (by kernel_rfl) (by kernel_rfl)]
  have hi0 : ∀ (x : Int) (w : World), (Op.equalIn 9999 3 (.int .i64 x) (.int .i64 x)).run Tryz.prog w = .ok (x == x) w := fun x w => run_equalIn_int w 9998 3 .i64 .i64 x x Tryz.underlying3
  have p0 : ∀ w, (part 3 #[.int .i64 a, .int .i64 b, .int .i64 c, .int .i64 d] 0).run Tryz.prog w = .ok (.int .i64 a) w := fun w => run_part_plain (P := Tryz.prog) w (by kernel_rfl) rfl
  have p1 : ∀ w, (part 3 #[.int .i64 a, .int .i64 b, .int .i64 c, .int .i64 d] 1).run Tryz.prog w = .ok (.int .i64 b) w := fun w => run_part_plain (P := Tryz.prog) w (by kernel_rfl) rfl
  have p2 : ∀ w, (part 3 #[.int .i64 a, .int .i64 b, .int .i64 c, .int .i64 d] 2).run Tryz.prog w = .ok (.int .i64 c) w := fun w => run_part_plain (P := Tryz.prog) w (by kernel_rfl) rfl
  have p3 : ∀ w, (part 3 #[.int .i64 a, .int .i64 b, .int .i64 c, .int .i64 d] 3).run Tryz.prog w = .ok (.int .i64 d) w := fun w => run_part_plain (P := Tryz.prog) w (by kernel_rfl) rfl
  simp [Program.fieldsOf, Tryz.underlying104, Op.eqFields, Sem.run_bind, p0, p1, p2, p3, hi0]

def costOf (hs : List Hd) (s : Nat) : Nat := if (nowAt hs s).lives then 3 else 1
def stepsOf (hs : List Hd) : List Nat → Nat
  | [] => 0
  | s :: l => costOf hs s + stepsOf hs l
theorem stepsOf_append (hs : List Hd) (a b : List Nat) : stepsOf hs (a ++ b) = stepsOf hs a + stepsOf hs b := by
  induction a with
  | nil => simp [stepsOf]
  | cons s l ih => simp [stepsOf, ih]; omega
theorem stepsOf_le (hs : List Hd) (a : List Nat) : stepsOf hs a ≤ 3 * a.length := by
  induction a with
  | nil => simp [stepsOf]
  | cons s l ih =>
    have : costOf hs s ≤ 3 := by unfold costOf; split <;> omega
    simp [stepsOf]; omega
def sgAt (hs : List Hd) (ws : List Int) (s : Nat) : Sg := ⟨(wordR ws hs.length s 0).toNat, (wordR ws hs.length s 1).toNat⟩
def vicOf (hs : List Hd) (s : Nat) : Vt := ⟨s, (nowAt hs s).gn, (nowAt hs s).sp, (nowAt hs s).th⟩
def isVic (hs : List Hd) (ws : List Int) (wr : Sg) (s : Nat) : Bool := (nowAt hs s).lives && (sgAt hs ws s).meets wr
def wantOf (hs : List Hd) (ws : List Int) (wr : Sg) (l : List Nat) : List Vt := (l.filter (isVic hs ws wr)).map (vicOf hs)
theorem wantOf_append (hs : List Hd) (ws : List Int) (wr : Sg) (a b : List Nat) : wantOf hs ws wr (a ++ b) = wantOf hs ws wr a ++ wantOf hs ws wr b := by simp [wantOf]
def kS (z : SSt) (k : Lk) : Nat → SSt × Lk
  | 0 => (z, k)
  | j + 1 => ((kS z k j).1.looks (kS z k j).2, (kS z k j).2.next (kS z k j).1)
section
variable {z : SSt} {k : Lk} {c : Cfg} {n : Nat}
theorem kS_hs (j : Nat) : (kS z k j).1.hs = z.hs ∧ (kS z k j).1.ws = z.ws := by
  induction j with
  | zero => exact ⟨rfl, rfl⟩
  | succ j ih => exact ⟨(SSt.looks_hs _ _).trans ih.1, (SSt.looks_ws _ _).trans ih.2⟩
theorem kS_ok (h : z.ok c n) (j : Nat) : (kS z k j).1.ok c (n + j) := by
  induction j with
  | zero => exact h
  | succ j ih => exact ih.looks _
theorem kS_fit (h : k.fit) (hw : WsOk z.ws) (j : Nat) : (kS z k j).2.fit := by
  induction j with
  | zero => exact h
  | succ j ih => exact ih.next (by rw [(kS_hs j).2]; exact hw)
theorem kS_next (j : Nat) : (kS z k (j + 1)).2 = (kS z k j).2.next (kS z k j).1 := rfl
theorem next_of {q : Lk} {y : SSt} (h1 : y.hs = z.hs) (h2 : y.ws = z.ws) : q.next y = q.next z := by
  unfold Lk.next
  rw [h1, h2]
theorem kS_run (l : List Nat) : ∀ (j0 : Nat) (wr : Sg) (vs : List Vt), (kS z k j0).2 = ⟨wr, l, false, Vt.zero, [], vs⟩ →
    (∀ i, i < stepsOf z.hs l → (kS z k (j0 + i)).2.left ≠ []) ∧ (kS z k (j0 + stepsOf z.hs l)).2 = ⟨wr, [], false, Vt.zero, [], vs ++ wantOf z.hs z.ws wr l⟩ := by
  induction l with
  | nil =>
    intro j0 wr vs h
    refine ⟨fun i hi => by simp [stepsOf] at hi, ?_⟩
    simp [stepsOf, wantOf, h]
  | cons s l ih =>
    intro j0 wr vs h
    have hh := kS_hs (z := z) (k := k)
    have n1 : (kS z k (j0 + 1)).2 = (⟨wr, s :: l, false, Vt.zero, [], vs⟩ : Lk).next z := by
      rw [kS_next, h, next_of (hh j0).1 (hh j0).2]
    cases hl : (nowAt z.hs s).lives with
    | false =>
      have n1' : (kS z k (j0 + 1)).2 = ⟨wr, l, false, Vt.zero, [], vs⟩ := by
        rw [n1]; simp [Lk.next, Lk.head, hl, Lk.pass]
      obtain ⟨a, b⟩ := ih (j0 + 1) wr vs n1'
      have hc : costOf z.hs s = 1 := by simp [costOf, hl]
      refine ⟨fun i hi => ?_, ?_⟩
      · cases i with
        | zero => rw [Nat.add_zero, h]; simp
        | succ i =>
          have := a i (by simp only [stepsOf, hc] at hi; omega)
          rw [show j0 + (i + 1) = j0 + 1 + i by omega]
          exact this
      · rw [show j0 + stepsOf z.hs (s :: l) = j0 + 1 + stepsOf z.hs l by simp [stepsOf, hc]; omega, b]
        simp [wantOf, isVic, hl]
    | true =>
      have n1' : (kS z k (j0 + 1)).2 = ⟨wr, s :: l, true, vicOf z.hs s, [], vs⟩ := by
        rw [n1]; simp [Lk.next, Lk.head, hl, vicOf]
      have n2 : (kS z k (j0 + 1 + 1)).2 = ⟨wr, s :: l, true, vicOf z.hs s, [(sgAt z.hs z.ws s).lo], vs⟩ := by
        rw [kS_next, n1', next_of (hh _).1 (hh _).2]
        simp [Lk.next, Lk.word, sgAt, vicOf]
      have n3 : (kS z k (j0 + 1 + 1 + 1)).2 = ⟨wr, l, false, Vt.zero, [], if (sgAt z.hs z.ws s).meets wr then vs ++ [vicOf z.hs s] else vs⟩ := by
        rw [kS_next, n2, next_of (hh _).1 (hh _).2]
        simp [Lk.next, Lk.word, Lk.pass, sgAt, vicOf]
        rfl
      obtain ⟨a, b⟩ := ih (j0 + 1 + 1 + 1) wr _ n3
      have hc : costOf z.hs s = 3 := by simp [costOf, hl]
      refine ⟨fun i hi => ?_, ?_⟩
      · match i with
        | 0 => rw [Nat.add_zero, h]; simp
        | 1 => rw [n1']; simp
        | 2 => rw [show j0 + 2 = j0 + 1 + 1 by omega, n2]; simp
        | i + 3 =>
          have := a i (by simp only [stepsOf, hc] at hi; omega)
          rw [show j0 + (i + 3) = j0 + 1 + 1 + 1 + i by omega]
          exact this
      · rw [show j0 + stepsOf z.hs (s :: l) = j0 + 1 + 1 + 1 + stepsOf z.hs l by simp [stepsOf, hc]; omega, b]
        cases hm : (sgAt z.hs z.ws s).meets wr <;> simp [wantOf, isVic, hl, hm]
end
theorem nowAt_in {hs : List Hd} {s : Nat} (h : s < hs.length) : nowAt hs (s : Int) = hs.getD s Hd.zero := by
  unfold nowAt
  rw [getHead h]
  rfl
theorem othersOf_lt {n own s : Nat} (h : s ∈ othersOf n own) : s < n := by
  have := (List.mem_filter.1 h).1
  simpa using this
theorem othersOf_sorted (n own : Nat) : (othersOf n own).Pairwise (· < ·) := List.Pairwise.filter _ List.pairwise_lt_range
/-- The victims of a look, in their order. -/
theorem want_at {hs : List Hd} {ws : List Int} {wr : Sg} {n own : Nat} {j : Nat} (h : j < (wantOf hs ws wr (othersOf n own)).length) :
    ∃ s, s < n ∧ (wantOf hs ws wr (othersOf n own))[j] = vicOf hs s ∧ isVic hs ws wr s = true ∧ ∀ i (hi : i < j), ∀ s', (wantOf hs ws wr (othersOf n own))[i].so = (s' : Nat) → s' ≠ s := by
  unfold wantOf at *
  have hl : j < ((othersOf n own).filter (isVic hs ws wr)).length := by simpa using h
  have hm := List.getElem_mem hl
  refine ⟨((othersOf n own).filter (isVic hs ws wr))[j], othersOf_lt (List.mem_filter.1 hm).1, by simp, (List.mem_filter.1 hm).2, fun i hi s' e => ?_⟩
  have hp := ((othersOf_sorted n own).filter (isVic hs ws wr))
  have := (List.pairwise_iff_getElem.1 hp) i j (by omega) hl hi
  simp [vicOf] at e
  omega
/-- They are doomed one behind the other. -/
theorem doom_all {z : SSt} {c : Cfg} {n : Nat} (hok : z.ok c n) {wr : Sg} {own : Nat} {wy : Int} (hw : isTh wy = true) (j : Nat) (hj : j ≤ (wantOf z.hs z.ws wr (othersOf z.hs.length own)).length) :
    (dzS z ⟨wy, wantOf z.hs z.ws wr (othersOf z.hs.length own), []⟩ j).2.dn = (wantOf z.hs z.ws wr (othersOf z.hs.length own)).take j ∧
    (∀ s : Nat, (∀ i (hi : i < j), (wantOf z.hs z.ws wr (othersOf z.hs.length own))[i].so ≠ (s : Int)) → (dzS z ⟨wy, wantOf z.hs z.ws wr (othersOf z.hs.length own), []⟩ j).1.hs[s]? = z.hs[s]?) := by
  induction j with
  | zero => exact ⟨rfl, fun _ _ => rfl⟩
  | succ j ih =>
    obtain ⟨a, b⟩ := ih (by omega)
    have hj' : j < (wantOf z.hs z.ws wr (othersOf z.hs.length own)).length := by omega
    obtain ⟨s, s1, s2, s3, s4⟩ := want_at hj'
    obtain ⟨l1, l2, _⟩ := dzS_left (z := z) (d := ⟨wy, wantOf z.hs z.ws wr (othersOf z.hs.length own), []⟩) j
    have hlen : (dzS z ⟨wy, wantOf z.hs z.ws wr (othersOf z.hs.length own), []⟩ j).1.hs.length = z.hs.length := by
      have h1 := (dzS_ok (d := ⟨wy, wantOf z.hs z.ws wr (othersOf z.hs.length own), []⟩) hok j).hl
      have h2 := hok.hl
      omega
    have hsame := b s (fun i hi e => by
      exact s4 i hi s e rfl)
    have hcons : (dzS z ⟨wy, wantOf z.hs z.ws wr (othersOf z.hs.length own), []⟩ j).2.left = vicOf z.hs s :: (wantOf z.hs z.ws wr (othersOf z.hs.length own)).drop (j + 1) := by
      rw [l1]
      show List.drop j _ = _
      rw [List.drop_eq_getElem_cons hj', s2]
    have hst := doom_step (z := (dzS z ⟨wy, wantOf z.hs z.ws wr (othersOf z.hs.length own), []⟩ j).1) hcons (by rw [l2]; exact hw) (k := s) (by omega) rfl
    have hg : (dzS z ⟨wy, wantOf z.hs z.ws wr (othersOf z.hs.length own), []⟩ j).1.hs.getD s Hd.zero = nowAt z.hs s := by
      rw [nowAt_in s1, List.getD_eq_getElem?_getD, List.getD_eq_getElem?_getD, hsame]
    rw [hg] at hst
    have hv : (nowAt z.hs s).isV (vicOf z.hs s) = true := by
      have : (nowAt z.hs s).lives = true := by simp only [isVic, Bool.and_eq_true] at s3; exact s3.1
      simp only [Hd.lives, Bool.and_eq_true] at this
      simp [Hd.isV, vicOf, this.1]
    have hd : (nowAt z.hs s).dm = false := by
      have : (nowAt z.hs s).lives = true := by simp only [isVic, Bool.and_eq_true] at s3; exact s3.1
      simp only [Hd.lives, Bool.and_eq_true, Bool.not_eq_true'] at this
      exact this.2
    rw [hv, hd] at hst
    simp only [if_true, Bool.false_eq_true, if_false] at hst
    obtain ⟨t1, t2, _⟩ := hst
    refine ⟨?_, fun s' hs' => ?_⟩
    · show ((dzS z ⟨wy, wantOf z.hs z.ws wr (othersOf z.hs.length own), []⟩ j).2.next _).dn = _
      rw [t2]
      show (dzS z ⟨wy, wantOf z.hs z.ws wr (othersOf z.hs.length own), []⟩ j).2.dn ++ [vicOf z.hs s] = _
      rw [a, List.take_succ_eq_append_getElem hj', s2]
    · show (SSt.dooms _ _).hs[s']? = _
      rw [t1]
      have hne : s ≠ s' := by
        intro e
        have := hs' j (by omega)
        rw [s2] at this
        simp [vicOf, e] at this
      rw [List.getElem?_set_ne hne]
      exact b s' (fun i hi => hs' i (by omega))
theorem doom_round {z : SSt} {c : Cfg} {n : Nat} (hok : z.ok c n) {wr : Sg} {own : Nat} {wy : Int} (hw : isTh wy = true) {j : Nat} (hj : j < (wantOf z.hs z.ws wr (othersOf z.hs.length own)).length) :
    ∃ s : Nat, s < z.hs.length ∧ (wantOf z.hs z.ws wr (othersOf z.hs.length own))[j].so = (s : Int) ∧ (dzS z ⟨wy, wantOf z.hs z.ws wr (othersOf z.hs.length own), []⟩ j).2.left ≠ [] ∧ (dzS z ⟨wy, wantOf z.hs z.ws wr (othersOf z.hs.length own), []⟩ (j + 1)).1.hs = (dzS z ⟨wy, wantOf z.hs z.ws wr (othersOf z.hs.length own), []⟩ j).1.hs.set s (((dzS z ⟨wy, wantOf z.hs z.ws wr (othersOf z.hs.length own), []⟩ j).1.hs.getD s Hd.zero).doomed wy) := by
  obtain ⟨a, b⟩ := doom_all hok (wr := wr) (own := own) hw j (by omega)
  obtain ⟨s, s1, s2, s3, s4⟩ := want_at hj
  obtain ⟨l1, l2, _⟩ := dzS_left (z := z) (d := ⟨wy, wantOf z.hs z.ws wr (othersOf z.hs.length own), []⟩) j
  have hlen : (dzS z ⟨wy, wantOf z.hs z.ws wr (othersOf z.hs.length own), []⟩ j).1.hs.length = z.hs.length := by
    have h1 := (dzS_ok (d := ⟨wy, wantOf z.hs z.ws wr (othersOf z.hs.length own), []⟩) hok j).hl
    have h2 := hok.hl
    omega
  have hsame := b s (fun i hi e => s4 i hi s e rfl)
  have hcons : (dzS z ⟨wy, wantOf z.hs z.ws wr (othersOf z.hs.length own), []⟩ j).2.left = vicOf z.hs s :: (wantOf z.hs z.ws wr (othersOf z.hs.length own)).drop (j + 1) := by
    rw [l1]
    show List.drop j _ = _
    rw [List.drop_eq_getElem_cons hj, s2]
  have hst := doom_step (z := (dzS z ⟨wy, wantOf z.hs z.ws wr (othersOf z.hs.length own), []⟩ j).1) hcons (by rw [l2]; exact hw) (k := s) (by omega) rfl
  have hg : (dzS z ⟨wy, wantOf z.hs z.ws wr (othersOf z.hs.length own), []⟩ j).1.hs.getD s Hd.zero = nowAt z.hs s := by
    rw [nowAt_in s1, List.getD_eq_getElem?_getD, List.getD_eq_getElem?_getD, hsame]
  have hli : (nowAt z.hs s).lives = true := by simp only [isVic, Bool.and_eq_true] at s3; exact s3.1
  simp only [Hd.lives, Bool.and_eq_true, Bool.not_eq_true'] at hli
  have hv : (nowAt z.hs s).isV (vicOf z.hs s) = true := by simp [Hd.isV, vicOf, hli.1]
  refine ⟨s, s1, by rw [s2]; rfl, by rw [hcons]; exact List.cons_ne_nil _ _, ?_⟩
  have t1 := hst.1
  rw [hg] at t1 ⊢
  rw [hv, hli.2, l2] at t1
  simp only [if_true, Bool.false_eq_true, if_false] at t1
  exact t1
theorem doom_roundW {z : SSt} {c : Cfg} {n : Nat} (hok : z.ok c n) {wr : Sg} {own : Nat} {wy : Int} (hw : isTh wy = true) {WN : List Vt} (hWN : WN = wantOf z.hs z.ws wr (othersOf z.hs.length own)) {j : Nat} (hj : j < WN.length) :
    ∃ s : Nat, s < z.hs.length ∧ WN[j].so = (s : Int) ∧ (dzS z ⟨wy, WN, []⟩ j).2.left ≠ [] ∧ (dzS z ⟨wy, WN, []⟩ (j + 1)).1.hs = (dzS z ⟨wy, WN, []⟩ j).1.hs.set s (((dzS z ⟨wy, WN, []⟩ j).1.hs.getD s Hd.zero).doomed wy) := by
  subst hWN
  exact doom_round hok hw hj
theorem doom_allW {z : SSt} {c : Cfg} {n : Nat} (hok : z.ok c n) {wr : Sg} {own : Nat} {wy : Int} (hw : isTh wy = true) {WN : List Vt} (hWN : WN = wantOf z.hs z.ws wr (othersOf z.hs.length own)) : (dzS z ⟨wy, WN, []⟩ WN.length).2.dn = WN := by
  subst hWN
  rw [(doom_all hok hw _ (Nat.le_refl _)).1, List.take_length]
end Go.Proofs.YtgjmamgohidbiaaGreat

namespace Go.Proofs.YtgjmamgohidbiaaGreat
open Go.RowKit
set_option linter.unusedVariables false
set_option linter.unusedSimpArgs false
attribute [local go_sem ↓] Go.wp_at_zero Go.wp_at_succ

set_option maxRecDepth 100000 in
set_option maxHeartbeats 1000000 in
theorem sameVt (w : World) (la lb : Option Addr) (n lc ld : Nat) (zs : List Vt) (hA : VIn w la n zs) (hB : VIn w lb n zs) (hn : n ≤ 4398046511104) :
    Calls Tryz.prog 36 #[.slice la n lc, .slice lb n ld] w fun e w' => e = .returned (.bool true) ∧ ∃ q, w' = w.drewN q := by
  have HA : Hid (VIn w la n zs) := hA
  have HB : Hid (VIn w lb n zs) := hB
  have HN : Hid (n = zs.length) := hA.1
  have hl0 : (0 : Int) ≤ (n : Int) := Int.natCast_nonneg _
  have hnn : ((n : Int) != (n : Int)) = false := by simp
  clear hA hB
  go_enter Tryz.func36, Tryz.ntmps36
  go_wp2_with fail
  go_loopw [5] (fun i wr => ∃ j q : Nat, i = .int .i64 j ∧ j ≤ n ∧ wr = w.drewN q) (fun i _ => n - (intOf i).toNat)
  case atStart => exact ⟨0, 0, rfl, Nat.zero_le _, rfl⟩
  case round =>
    obtain ⟨j, q, rfl, hj, rfl⟩ := hrel
    by_cases hlt : j < n
    · have hz : j < zs.length := by have := HN.out; omega
      obtain ⟨g1, o1, rfl, _⟩ := HA.out.2 (by omega)
      obtain ⟨g2, o2, rfl, _⟩ := HB.out.2 (by omega)
      obtain ⟨a0, a1, a2, a3⟩ := HA.out.cells hz
      obtain ⟨b0, b1, b2, b3⟩ := HB.out.cells hz
      have hne : ∀ w, (binOp .neq 104 (.agg #[.int .i64 zs[j].so, .int .i64 zs[j].ge, .int .i64 zs[j].sp, .int .i64 zs[j].th]) (.agg #[.int .i64 zs[j].so, .int .i64 zs[j].ge, .int .i64 zs[j].sp, .int .i64 zs[j].th])).run Tryz.prog w = .ok (.bool false) w := neVt _ _ _ _
      generalize zs[j] = t at *
      have h0 : (0 : Int) ≤ (j : Int) := Int.natCast_nonneg _
      have h1 : (j : Int) < (n : Int) := by omega
      go_wp2_with fail
      go_quiet (fail)
      go_wp2
      go_roundw
      case rel => exact ⟨j + 1, _, by go_num, by omega, rfl⟩
      case measure => simp [intOf]; omega
    · obtain rfl : j = n := by omega
      have h1 : ¬ (j : Int) < (j : Int) := by omega
      go_wp2
      go_ret
      exact ⟨rfl, _, rfl⟩
/-- A slot is doomed in a list of slots. -/
theorem St.slotDoom {o w : World} {its : List It} (h : St o its w) (i : Nat) {g cap : Nat} {hs : List Hd} {ws : List Int} (hi : its[i]? = some (ownI 101 8 (.slice (some ⟨g, 0, none⟩) hs.length cap) hs.length (slCells (slots hs ws)))) (e : ws.length = hs.length * 2) {k : Nat} (hk : k < hs.length) (wy : Int) :
    St o (its.set i (ownI 101 8 (.slice (some ⟨g, 0, none⟩) hs.length cap) hs.length (slCells (slots (hs.set k ((hs.getD k Hd.zero).doomed wy)) ws)))) ((w.setCell ⟨g, k * 8 + 4, none⟩ (.bool true)).setCell ⟨g, k * 8 + 5, none⟩ (.int .i64 wy)) := by
  have a1 := h.ownSet i hi (k * 8 + 4) (by omega) (.bool true)
  have a2 := a1.ownSet i (set_self hi) (k * 8 + 5) (by omega) (.int .i64 wy)
  rw [set_same] at a2
  have hh := slot_head e hk ((hs.getD k Hd.zero).doomed wy)
  obtain ⟨b0, b1, b2, b3, _⟩ := slot_cells h i hi e hk
  have hc : ∀ q, q < hs.length * 8 → ∀ u, w.cell? ⟨g, q, none⟩ = some u → (slCells (slots hs ws))[q]? = some u := fun q hq u hu => by rw [← h.ownCell i hi q hq]; exact hu
  have c0 := hc _ (by omega) _ b0
  have c1 := hc _ (by omega) _ b1
  have c2 := hc _ (by omega) _ b2
  have c3 := hc _ (by omega) _ b3
  have e0 : (slCells (slots hs ws)).set (k * 8) (.int .i64 ((hs.getD k Hd.zero).doomed wy).gn) = slCells (slots hs ws) := set_get c0
  have e1 : (slCells (slots hs ws)).set (k * 8 + 1) (.int .i64 ((hs.getD k Hd.zero).doomed wy).sa) = slCells (slots hs ws) := set_get c1
  have e2 : (slCells (slots hs ws)).set (k * 8 + 2) (.int .i64 ((hs.getD k Hd.zero).doomed wy).sp) = slCells (slots hs ws) := set_get c2
  have e3 : (slCells (slots hs ws)).set (k * 8 + 3) (.int .i64 ((hs.getD k Hd.zero).doomed wy).th) = slCells (slots hs ws) := set_get c3
  rw [e0, e1, e2, e3] at hh
  rw [← hh]
  exact a2
theorem meets_eq (a b c d : Nat) : (⟨a, b⟩ : Sg).meets ⟨c, d⟩ = (decide ((a &&& c) ≠ 0) || decide ((b &&& d) ≠ 0)) := by
  unfold Sg.meets Sg.meet Sg.same Sg.zero
  by_cases h1 : a &&& c = 0 <;> by_cases h2 : b &&& d = 0 <;> simp [h1, h2]
end Go.Proofs.YtgjmamgohidbiaaGreat
