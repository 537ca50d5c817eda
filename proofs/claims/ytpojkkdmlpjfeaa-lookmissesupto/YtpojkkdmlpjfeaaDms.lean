/- A dooming of a list of victims, step by step, as plain data; slots compared. -/
import Derived.Test.YtpojkkdmlpjfeaaSeats
namespace Go.Proofs.Ytpojkkdmlpjfeaa
open Go.RowKit
set_option linter.unusedVariables false
set_option linter.unusedSimpArgs false

theorem Kept.drewN {F : Nat → Prop} {a w : World} (h : Kept F a w) (k : Nat) : Kept F a (w.drewN k) := ⟨h.os, h.tape, h.output, h.size, h.block⟩
theorem set_get {α : Type} {L : List α} {j : Nat} {x : α} (h : L[j]? = some x) : L.set j x = L := by
  obtain ⟨h1, rfl⟩ := List.getElem?_eq_some_iff.1 h
  exact List.set_getElem_self h1
theorem getHead {hs : List Hd} {k : Nat} (hk : k < hs.length) : headAt hs (k : Int) = some (hs.getD k Hd.zero) := by
  rw [headAt_in hk, List.getD_eq_getElem?_getD, List.getElem?_eq_getElem hk]; rfl
/-- Is it the attempt that a victim was? -/
def Hd.isV (h : Hd) (t : Vt) : Bool := (h.sa == 2) && (h.gn == t.ge)
def Hd.doomed (h : Hd) (wy : Int) : Hd := ⟨h.gn, h.sa, h.sp, h.th, true, wy⟩
theorem doom_step {z : SSt} {d : Dm} {x : Vt} {l : List Vt} (hl : d.left = x :: l) (hw : isTh d.wy = true) {k : Nat} (hk : k < z.hs.length) (hx : x.so = (k : Int)) :
    (z.dooms d).hs = (if (z.hs.getD k Hd.zero).isV x then (if (z.hs.getD k Hd.zero).dm then z.hs else z.hs.set k ((z.hs.getD k Hd.zero).doomed d.wy)) else z.hs) ∧ d.next z.hs = ⟨d.wy, l, if (z.hs.getD k Hd.zero).isV x then d.dn ++ [x] else d.dn⟩ ∧ (z.dooms d).s.l.length = z.s.l.length + 1 := by
  have hh := getHead hk
  unfold SSt.dooms Dm.next
  rw [hl]
  simp only [SSt.op, HOp.H, HOp.E, HOp.S, doomOp, hw, if_true, hx, hh, Int.toNat_natCast]
  generalize hg : z.hs.getD k Hd.zero = H
  have hi : z.hs[k]? = some H := by
    rw [← hg, List.getD_eq_getElem?_getD, List.getElem?_eq_getElem hk]; rfl
  refine ⟨?_, ?_, by simp [Mt.note]⟩
  · unfold Hd.isV
    split
    · split
      · exact set_get hi
      · rfl
    · rfl
  · unfold Hd.isV
    split <;> simp_all
def dzS (z : SSt) (d : Dm) : Nat → SSt × Dm
  | 0 => (z, d)
  | j + 1 => ((dzS z d j).1.dooms (dzS z d j).2, (dzS z d j).2.next (dzS z d j).1.hs)
section
variable {z : SSt} {d : Dm} {c : Cfg} {n : Nat}
theorem dzS_ok (h : z.ok c n) (j : Nat) : (dzS z d j).1.ok c (n + j) := by
  induction j with
  | zero => exact h
  | succ j ih => exact ih.dooms _
theorem dzS_ws (j : Nat) : (dzS z d j).1.ws = z.ws := by
  induction j with
  | zero => rfl
  | succ j ih => exact (SSt.dooms_ws _ _).trans ih
theorem Dm.next_left (d : Dm) (hs : List Hd) : (d.next hs).left = d.left.tail ∧ (d.next hs).wy = d.wy ∧ (d.next hs).dn.length ≤ d.dn.length + 1 := by
  unfold Dm.next
  split
  · rename_i h; simp [h]
  · rename_i t l h
    refine ⟨by simp [h], rfl, ?_⟩
    simp only
    split <;> simp
theorem dzS_left (j : Nat) : (dzS z d j).2.left = d.left.drop j ∧ (dzS z d j).2.wy = d.wy ∧ (dzS z d j).2.dn.length ≤ d.dn.length + j := by
  induction j with
  | zero => exact ⟨rfl, rfl, Nat.le_refl _⟩
  | succ j ih =>
    obtain ⟨a, b, e⟩ := ih
    obtain ⟨a', b', e'⟩ := Dm.next_left (dzS z d j).2 (dzS z d j).1.hs
    refine ⟨?_, ?_, ?_⟩
    · show ((dzS z d j).2.next _).left = _
      rw [a', a, List.tail_drop]
    · show ((dzS z d j).2.next _).wy = _
      rw [b', b]
    · show ((dzS z d j).2.next _).dn.length ≤ _
      omega
theorem dzS_log (hw : isTh d.wy = true) (h : z.ok c n) (ha : allIn z.hs.length d.left) (j : Nat) (hj : j ≤ d.left.length) : j ≤ (dzS z d j).1.s.l.length := by
  induction j with
  | zero => exact Nat.zero_le _
  | succ j ih =>
    obtain ⟨a, b, _⟩ := dzS_left (z := z) (d := d) j
    have hj' : j < d.left.length := by omega
    have hlen : (dzS z d j).1.hs.length = z.hs.length := by
      have h1 := (dzS_ok (d := d) h j).hl
      have h2 := h.hl
      omega
    have hin := ha j hj'
    simp only [inT, Bool.and_eq_true, decide_eq_true_eq] at hin
    obtain ⟨k, hk⟩ := Int.eq_ofNat_of_zero_le hin.1
    have := (doom_step (z := (dzS z d j).1) (d := (dzS z d j).2) (x := d.left[j]) (l := d.left.drop (j + 1)) (by rw [a]; exact List.drop_eq_getElem_cons hj') (by rw [b]; exact hw) (k := k) (by rw [hlen]; omega) hk).2.2
    show j + 1 ≤ ((dzS z d j).1.dooms (dzS z d j).2).s.l.length
    have := ih (by omega)
    omega
end
theorem guardSl (x y : Operand) (xs ys : Array Value) (w : World) : (eqGuard .neq 46 x y (.agg xs) (.agg ys)).run Try.prog w = .ok () w := by kernel_rfl
def neSlOp (x y : Operand) (a b : Value) : Sem Next := do pure (.value (← (do eqGuard .neq 46 x y a b; binOp .neq 46 a b)))
theorem exec_neSl (ρ : Operand → Value) (dst : Option Tmp) (x y : Operand) (ty : TypeId) (pos : String) (after : Array Edge) (guard : Option (Nat × Bool)) :
    execOp ρ { dst, op := .binOp .neq 46 x y 46, type := ty, pos, after, guard } = neSlOp x y (ρ x) (ρ y) := rfl
set_option maxRecDepth 100000 in
theorem run_neSl (x y : Operand) (a b c e : Int) (f : Bool) (g u v : Int) (w : World) : (neSlOp x y (.agg #[.int .i64 a, .int .i64 b, .int .i64 c, .int .i64 e, .bool f, .int .i64 g, .int .u64 u, .int .u64 v]) (.agg #[.int .i64 a, .int .i64 b, .int .i64 c, .int .i64 e, .bool f, .int .i64 g, .int .u64 u, .int .u64 v])).run Try.prog w = .ok (.value (.bool false)) w := by
  simp only [neSlOp, Sem.run_bind, Sem.run_pure, guardSl, eqSlot, Result.andThen_ok]
/-- What a slot's cells are, in a list of slots that lies in memory. -/
theorem slot_cells {o w : World} {its : List It} (h : St o its w) (i : Nat) {g cap : Nat} {hs : List Hd} {ws : List Int} (hi : its[i]? = some (ownI 46 8 (.slice (some ⟨g, 0, none⟩) hs.length cap) hs.length (slCells (slots hs ws)))) (e : ws.length = hs.length * 2) {k : Nat} (hk : k < hs.length) :
    w.cell? ⟨g, k * 8, none⟩ = some (.int .i64 (hs.getD k Hd.zero).gn) ∧ w.cell? ⟨g, k * 8 + 1, none⟩ = some (.int .i64 (hs.getD k Hd.zero).sa) ∧ w.cell? ⟨g, k * 8 + 2, none⟩ = some (.int .i64 (hs.getD k Hd.zero).sp) ∧ w.cell? ⟨g, k * 8 + 3, none⟩ = some (.int .i64 (hs.getD k Hd.zero).th) ∧ w.cell? ⟨g, k * 8 + 4, none⟩ = some (.bool (hs.getD k Hd.zero).dm) ∧ w.cell? ⟨g, k * 8 + 5, none⟩ = some (.int .i64 (hs.getD k Hd.zero).wy) ∧ w.cell? ⟨g, k * 8 + 6, none⟩ = some (.int .u64 (ws.getD (k * 2) 0)) ∧ w.cell? ⟨g, k * 8 + 7, none⟩ = some (.int .u64 (ws.getD (k * 2 + 1) 0)) := by
  have hl := slots_length hs ws e
  have hs' := slots_at hs ws e k hk
  have hkk : k < (slots hs ws).length := by omega
  have hel : (slots hs ws)[k] = mkSl hs[k] (ws.getD (k * 2) 0) (ws.getD (k * 2 + 1) 0) := by
    rw [List.getElem?_eq_getElem hkk] at hs'
    exact Option.some.inj hs'
  have hd : hs.getD k Hd.zero = hs[k] := by rw [List.getD_eq_getElem?_getD, List.getElem?_eq_getElem hk]; rfl
  obtain ⟨a0, a1, a2, a3, a4, a5, a6, a7⟩ := slCells_at (slots hs ws) k hkk
  rw [hel] at a0 a1 a2 a3 a4 a5 a6 a7
  rw [hd]
  exact ⟨(h.ownCell i hi _ (by omega)).trans a0, (h.ownCell i hi _ (by omega)).trans a1, (h.ownCell i hi _ (by omega)).trans a2, (h.ownCell i hi _ (by omega)).trans a3, (h.ownCell i hi _ (by omega)).trans a4, (h.ownCell i hi _ (by omega)).trans a5, (h.ownCell i hi _ (by omega)).trans a6, (h.ownCell i hi _ (by omega)).trans a7⟩
/-- A head is written over in such a list. -/
theorem slot_head {hs : List Hd} {ws : List Int} (e : ws.length = hs.length * 2) {k : Nat} (hk : k < hs.length) (h : Hd) :
    ((((((slCells (slots hs ws)).set (k * 8) (.int .i64 h.gn)).set (k * 8 + 1) (.int .i64 h.sa)).set (k * 8 + 2) (.int .i64 h.sp)).set (k * 8 + 3) (.int .i64 h.th)).set (k * 8 + 4) (.bool h.dm)).set (k * 8 + 5) (.int .i64 h.wy) = slCells (slots (hs.set k h) ws) := by
  have hl := slots_length hs ws e
  have hs' := slots_at hs ws e k hk
  have hkk : k < (slots hs ws).length := by omega
  have hel : (slots hs ws)[k] = mkSl hs[k] (ws.getD (k * 2) 0) (ws.getD (k * 2 + 1) 0) := by
    rw [List.getElem?_eq_getElem hkk] at hs'
    exact Option.some.inj hs'
  obtain ⟨_, _, _, _, _, _, a6, a7⟩ := slCells_at (slots hs ws) k hkk
  rw [hel] at a6 a7
  rw [slots_head hs ws e k hk h, ← slCells_set (slots hs ws) (mkSl h (ws.getD (k * 2) 0) (ws.getD (k * 2 + 1) 0)) k hkk]
  generalize slCells (slots hs ws) = L at *
  show _ = ((((((((L.set (k * 8) (.int .i64 h.gn)).set (k * 8 + 1) (.int .i64 h.sa)).set (k * 8 + 2) (.int .i64 h.sp)).set (k * 8 + 3) (.int .i64 h.th)).set (k * 8 + 4) (.bool h.dm)).set (k * 8 + 5) (.int .i64 h.wy)).set (k * 8 + 6) (.int .u64 (ws.getD (k * 2) 0))).set (k * 8 + 7) (.int .u64 (ws.getD (k * 2 + 1) 0)))
  have b6 : (((((((L.set (k * 8) (.int .i64 h.gn)).set (k * 8 + 1) (.int .i64 h.sa)).set (k * 8 + 2) (.int .i64 h.sp)).set (k * 8 + 3) (.int .i64 h.th)).set (k * 8 + 4) (.bool h.dm)).set (k * 8 + 5) (.int .i64 h.wy)))[k * 8 + 6]? = some (.int .u64 (ws.getD (k * 2) 0)) := by
    rw [List.getElem?_set_ne (by omega), List.getElem?_set_ne (by omega), List.getElem?_set_ne (by omega), List.getElem?_set_ne (by omega), List.getElem?_set_ne (by omega), List.getElem?_set_ne (by omega)]
    exact a6
  have b7 : (((((((L.set (k * 8) (.int .i64 h.gn)).set (k * 8 + 1) (.int .i64 h.sa)).set (k * 8 + 2) (.int .i64 h.sp)).set (k * 8 + 3) (.int .i64 h.th)).set (k * 8 + 4) (.bool h.dm)).set (k * 8 + 5) (.int .i64 h.wy)))[k * 8 + 7]? = some (.int .u64 (ws.getD (k * 2 + 1) 0)) := by
    rw [List.getElem?_set_ne (by omega), List.getElem?_set_ne (by omega), List.getElem?_set_ne (by omega), List.getElem?_set_ne (by omega), List.getElem?_set_ne (by omega), List.getElem?_set_ne (by omega)]
    exact a7
  rw [set_get b6, set_get b7]
/-- The same in memory. -/
theorem St.slotHead {o w : World} {its : List It} (h : St o its w) (i : Nat) {g cap : Nat} {hs : List Hd} {ws : List Int} (hi : its[i]? = some (ownI 46 8 (.slice (some ⟨g, 0, none⟩) hs.length cap) hs.length (slCells (slots hs ws)))) (e : ws.length = hs.length * 2) {k : Nat} (hk : k < hs.length) (x : Hd) :
    St o (its.set i (ownI 46 8 (.slice (some ⟨g, 0, none⟩) hs.length cap) hs.length (slCells (slots (hs.set k x) ws)))) ((((((w.setCell ⟨g, k * 8, none⟩ (.int .i64 x.gn)).setCell ⟨g, k * 8 + 1, none⟩ (.int .i64 x.sa)).setCell ⟨g, k * 8 + 2, none⟩ (.int .i64 x.sp)).setCell ⟨g, k * 8 + 3, none⟩ (.int .i64 x.th)).setCell ⟨g, k * 8 + 4, none⟩ (.bool x.dm)).setCell ⟨g, k * 8 + 5, none⟩ (.int .i64 x.wy)) := by
  have a1 := h.ownSet i hi (k * 8) (by omega) (.int .i64 x.gn)
  have a2 := a1.ownSet i (set_self hi) (k * 8 + 1) (by omega) (.int .i64 x.sa)
  rw [set_same] at a2
  have a3 := a2.ownSet i (set_self hi) (k * 8 + 2) (by omega) (.int .i64 x.sp)
  rw [set_same] at a3
  have a4 := a3.ownSet i (set_self hi) (k * 8 + 3) (by omega) (.int .i64 x.th)
  rw [set_same] at a4
  have a5 := a4.ownSet i (set_self hi) (k * 8 + 4) (by omega) (.bool x.dm)
  rw [set_same] at a5
  have a6 := a5.ownSet i (set_self hi) (k * 8 + 5) (by omega) (.int .i64 x.wy)
  rw [set_same, slot_head e hk x] at a6
  exact a6
end Go.Proofs.Ytpojkkdmlpjfeaa
