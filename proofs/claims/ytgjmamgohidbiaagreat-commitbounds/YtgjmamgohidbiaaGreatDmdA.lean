/- A commit that finds its attempt gone: four steps, as plain data. -/
import Derived.Test.YtgjmamgohidbiaaGreatCmW
namespace Go.Proofs.YtgjmamgohidbiaaGreat
open Go.RowKit
set_option linter.unusedVariables false
set_option linter.unusedSimpArgs false

def dS (c : Cfg) (z : SSt) (x : Cm) : Nat → SSt × Cm × Int
  | 0 => (z, x, 0)
  | j + 1 => ((dS c z x j).1.commits (dS c z x j).2.1, (dS c z x j).2.1.next c (dS c z x j).1 (dS c z x j).2.2, (dS c z x j).2.1.nextDf c (dS c z x j).1 (dS c z x j).2.2)
section
variable {c : Cfg} {z : SSt} {x : Cm}
theorem dS_ok {n : Nat} (h : z.ok c n) (j : Nat) : (dS c z x j).1.ok c (n + j) := by
  induction j with
  | zero => exact h
  | succ j ih => exact ih.commits _
theorem dS_ws (j : Nat) : (dS c z x j).1.ws = z.ws := by
  induction j with
  | zero => rfl
  | succ j ih => exact (SSt.commits_ws _ _).trans ih
theorem dS_fit {n : Nat} (h : x.fit n) (hw : WsOk z.ws) (j : Nat) : (dS c z x j).2.1.fit n := by
  induction j with
  | zero => exact h
  | succ j ih => exact ih.next c (by rw [dS_ws]; exact hw) _
theorem dS_df (j : Nat) : 0 ≤ (dS c z x j).2.2 := by
  induction j with
  | zero => exact Int.le_refl _
  | succ j ih => exact Cm.nextDf_nn _ _ _ ih
end
/-- The four steps. -/
theorem dS_four {c : Cfg} {z : SSt} {ps : List Pr} {wr : Sg} {n : Nat} (hx : z.x = ⟨0, 0⟩) (hm : (nowAt z.hs 0).mine 1 = false) :
    (∀ j, j < 4 → (dS c z (Cm.new 0 1 1 5 ps wr n) j).2.1.done = false ∧ (dS c z (Cm.new 0 1 1 5 ps wr n) j).2.1.ans (dS c z (Cm.new 0 1 1 5 ps wr n) j).1 = 1) ∧
    (dS c z (Cm.new 0 1 1 5 ps wr n) 4).2.1.done = true ∧ (dS c z (Cm.new 0 1 1 5 ps wr n) 4).2.1.end_ = 7 ∧ (dS c z (Cm.new 0 1 1 5 ps wr n) 4).2.1.won = false ∧ (dS c z (Cm.new 0 1 1 5 ps wr n) 4).2.1.num = 1 ∧
    (dS c z (Cm.new 0 1 1 5 ps wr n) 4).1.x = ⟨2, 0⟩ ∧ (dS c z (Cm.new 0 1 1 5 ps wr n) 4).1.xs = z.xs ∧ (dS c z (Cm.new 0 1 1 5 ps wr n) 4).1.hs = (freeOp 1).H z.hs 0 := by
  have q1 : dS c z (Cm.new 0 1 1 5 ps wr n) 1 = (z.take 1, ⟨0, 1, 1, 5, ps, Lk.new wr n 0, .own, 0, false, 1⟩, 0) := by
    simp only [dS, Cm.next, Cm.new, SSt.commits, Cm.nextDf, hx]
    rfl
  have q2 : dS c z (Cm.new 0 1 1 5 ps wr n) 2 = ((z.take 1).look 0, ⟨0, 1, 1, 5, ps, Lk.new wr n 0, .up, 7, false, 1⟩, 0) := by
    rw [show dS c z (Cm.new 0 1 1 5 ps wr n) 2 = ((dS c z (Cm.new 0 1 1 5 ps wr n) 1).1.commits (dS c z (Cm.new 0 1 1 5 ps wr n) 1).2.1, (dS c z (Cm.new 0 1 1 5 ps wr n) 1).2.1.next c (dS c z (Cm.new 0 1 1 5 ps wr n) 1).1 (dS c z (Cm.new 0 1 1 5 ps wr n) 1).2.2, (dS c z (Cm.new 0 1 1 5 ps wr n) 1).2.1.nextDf c (dS c z (Cm.new 0 1 1 5 ps wr n) 1).1 (dS c z (Cm.new 0 1 1 5 ps wr n) 1).2.2) from rfl, q1]
    simp only [Cm.next, SSt.commits, Cm.nextDf, SSt.take, hm]
    rfl
  have q3 : dS c z (Cm.new 0 1 1 5 ps wr n) 3 = (((z.take 1).look 0).give 1, ⟨0, 1, 1, 5, ps, Lk.new wr n 0, .free, 7, false, 1⟩, 0) := by
    rw [show dS c z (Cm.new 0 1 1 5 ps wr n) 3 = ((dS c z (Cm.new 0 1 1 5 ps wr n) 2).1.commits (dS c z (Cm.new 0 1 1 5 ps wr n) 2).2.1, (dS c z (Cm.new 0 1 1 5 ps wr n) 2).2.1.next c (dS c z (Cm.new 0 1 1 5 ps wr n) 2).1 (dS c z (Cm.new 0 1 1 5 ps wr n) 2).2.2, (dS c z (Cm.new 0 1 1 5 ps wr n) 2).2.1.nextDf c (dS c z (Cm.new 0 1 1 5 ps wr n) 2).1 (dS c z (Cm.new 0 1 1 5 ps wr n) 2).2.2) from rfl, q2]
    rfl
  have q4 : dS c z (Cm.new 0 1 1 5 ps wr n) 4 = ((((z.take 1).look 0).give 1).op (freeOp 1) 0, ⟨0, 1, 1, 5, ps, Lk.new wr n 0, .over, 7, false, 1⟩, 0) := by
    rw [show dS c z (Cm.new 0 1 1 5 ps wr n) 4 = ((dS c z (Cm.new 0 1 1 5 ps wr n) 3).1.commits (dS c z (Cm.new 0 1 1 5 ps wr n) 3).2.1, (dS c z (Cm.new 0 1 1 5 ps wr n) 3).2.1.next c (dS c z (Cm.new 0 1 1 5 ps wr n) 3).1 (dS c z (Cm.new 0 1 1 5 ps wr n) 3).2.2, (dS c z (Cm.new 0 1 1 5 ps wr n) 3).2.1.nextDf c (dS c z (Cm.new 0 1 1 5 ps wr n) 3).1 (dS c z (Cm.new 0 1 1 5 ps wr n) 3).2.2) from rfl, q3]
    rfl
  refine ⟨fun j hj => ?_, ?_⟩
  · have : j = 0 ∨ j = 1 ∨ j = 2 ∨ j = 3 := by omega
    rcases this with rfl | rfl | rfl | rfl
    · refine ⟨rfl, ?_⟩
      simp only [dS, Cm.ans, Cm.new, hx]
      rfl
    · rw [q1]; exact ⟨rfl, rfl⟩
    · rw [q2]; exact ⟨rfl, rfl⟩
    · rw [q3]; exact ⟨rfl, rfl⟩
  · rw [q4]
    refine ⟨rfl, rfl, rfl, rfl, ?_, rfl, rfl⟩
    simp only [SSt.op, SSt.give, SSt.look, SSt.take, hx]
    rfl
/-- One thing more. -/
theorem St.add {o w w' : World} {its : List It} {A : It} (h : St o its w) (h2 : St w [A] w') : St o (A :: its) w' :=
  h.push A h2.same (h2.get 0 rfl) (by have := h2.nodup; simpa using this) (fun b hb => h2.high A (by simp) b hb)
/-- What a slot's cells are, in a list of slots that lies in memory. -/
theorem slot_cells {o w : World} {its : List It} (h : St o its w) (i : Nat) {g cap : Nat} {hs : List Hd} {ws : List Int} (hi : its[i]? = some (ownI 101 8 (.slice (some ⟨g, 0, none⟩) hs.length cap) hs.length (slCells (slots hs ws)))) (e : ws.length = hs.length * 2) {k : Nat} (hk : k < hs.length) :
    w.cell? ⟨g, k * 8, none⟩ = some (.int .i64 (hs.getD k Hd.zero).gn) ∧ w.cell? ⟨g, k * 8 + 1, none⟩ = some (.int .i64 (hs.getD k Hd.zero).sa) ∧ w.cell? ⟨g, k * 8 + 2, none⟩ = some (.int .i64 (hs.getD k Hd.zero).sp) ∧ w.cell? ⟨g, k * 8 + 3, none⟩ = some (.int .i64 (hs.getD k Hd.zero).th) ∧ w.cell? ⟨g, k * 8 + 4, none⟩ = some (.bool (hs.getD k Hd.zero).dm) ∧ w.cell? ⟨g, k * 8 + 5, none⟩ = some (.int .i64 (hs.getD k Hd.zero).wy) ∧ w.cell? ⟨g, k * 8 + 6, none⟩ = some (.int .u64 (ws.getD (k * 2) 0)) ∧ w.cell? ⟨g, k * 8 + 7, none⟩ = some (.int .u64 (ws.getD (k * 2 + 1) 0)) := by
  have hl := slots_length hs ws e
  have hs' := slots_at hs ws e k hk
  have hkk : k < (slots hs ws).length := by omega
  have hel : (slots hs ws)[k] = mkSl hs[k] (ws.getD (k * 2) 0) (ws.getD (k * 2 + 1) 0) := by
    rw [List.getElem?_eq_getElem hkk] at hs'
    exact Option.some.inj hs'
  have hd : hs.getD k Hd.zero = hs[k] := by rw [List.getD_eq_getElem?_getD, List.getElem?_eq_getElem hk]; rfl
  obtain ⟨a0, a1, a2, a3, a4, a5, a6, a7⟩ := slCells_at (slots hs ws) k hkk
  rw [hel] at a0 a1 a2 a3 a4 a5 a6 a7
  rw [hd]
  exact ⟨(h.ownCell i hi _ (by omega)).trans a0, (h.ownCell i hi _ (by omega)).trans a1, (h.ownCell i hi _ (by omega)).trans a2, (h.ownCell i hi _ (by omega)).trans a3, (h.ownCell i hi _ (by omega)).trans a4, (h.ownCell i hi _ (by omega)).trans a5, (h.ownCell i hi _ (by omega)).trans a6, (h.ownCell i hi _ (by omega)).trans a7⟩
set_option maxRecDepth 100000 in
theorem eqSlotE (a b c e : Int) (f : Bool) (g x y : Int) (w : World) : (binOp .eql 101 (.agg #[.int .i64 a, .int .i64 b, .int .i64 c, .int .i64 e, .bool f, .int .i64 g, .int .u64 x, .int .u64 y]) (.agg #[.int .i64 a, .int .i64 b, .int .i64 c, .int .i64 e, .bool f, .int .i64 g, .int .u64 x, .int .u64 y])).run Tryz.prog w = .ok (.bool true) w := by
  rw [run_eql_struct, run_equalIn_struct w 9999 101 _ _ (by kernel_rfl) (by kernel_rfl)]
  have p0 : ∀ w, (part 99 #[.int .i64 a, .int .i64 b, .int .i64 c, .int .i64 e, .bool f, .int .i64 g, .int .u64 x, .int .u64 y] 0).run Tryz.prog w = .ok (.agg #[.int .i64 a, .int .i64 b, .int .i64 c, .int .i64 e, .bool f, .int .i64 g]) w := fun w => by kernel_rfl
  have p1 : ∀ w, (part 87 #[.int .i64 a, .int .i64 b, .int .i64 c, .int .i64 e, .bool f, .int .i64 g, .int .u64 x, .int .u64 y] 6).run Tryz.prog w = .ok (.agg #[.int .u64 x, .int .u64 y]) w := fun w => by kernel_rfl
  have h0 := eqHead 9997 a b c e f g
  have h1 := eqWords 9997 x y
  simp [Program.fieldsOf, Tryz.underlying101, Op.eqFields, Sem.run_bind, p0, p1, h0, h1]
theorem guardSlE (x y : Operand) (xs ys : Array Value) (w : World) : (eqGuard .eql 101 x y (.agg xs) (.agg ys)).run Tryz.prog w = .ok () w := by kernel_rfl
def eqSlOp (x y : Operand) (a b : Value) : Sem Next := do pure (.value (← (do eqGuard .eql 101 x y a b; binOp .eql 101 a b)))
theorem exec_eqSl (ρ : Operand → Value) (dst : Option Tmp) (x y : Operand) (ty : TypeId) (pos : String) (after : Array Edge) (guard : Option (Nat × Bool)) :
    execOp ρ { dst, op := .binOp .eql 101 x y 101, type := ty, pos, after, guard } = eqSlOp x y (ρ x) (ρ y) := rfl
set_option maxRecDepth 100000 in
theorem run_eqSl (x y : Operand) (a b c e : Int) (f : Bool) (g u v : Int) (w : World) : (eqSlOp x y (.agg #[.int .i64 a, .int .i64 b, .int .i64 c, .int .i64 e, .bool f, .int .i64 g, .int .u64 u, .int .u64 v]) (.agg #[.int .i64 a, .int .i64 b, .int .i64 c, .int .i64 e, .bool f, .int .i64 g, .int .u64 u, .int .u64 v])).run Tryz.prog w = .ok (.value (.bool true)) w := by
  simp only [eqSlOp, Sem.run_bind, Sem.run_pure, guardSlE, eqSlotE, Result.andThen_ok]
theorem guardGtE (x y : Operand) (xs ys : Array Value) (w : World) : (eqGuard .eql 92 x y (.agg xs) (.agg ys)).run Tryz.prog w = .ok () w := by kernel_rfl
def eqGtOp (x y : Operand) (a b : Value) : Sem Next := do pure (.value (← (do eqGuard .eql 92 x y a b; binOp .eql 92 a b)))
theorem exec_eqGt (ρ : Operand → Value) (dst : Option Tmp) (x y : Operand) (ty : TypeId) (pos : String) (after : Array Edge) (guard : Option (Nat × Bool)) :
    execOp ρ { dst, op := .binOp .eql 92 x y 92, type := ty, pos, after, guard } = eqGtOp x y (ρ x) (ρ y) := rfl
set_option maxRecDepth 100000 in
theorem run_eqGt (x y : Operand) (a b : Int) (w : World) : (eqGtOp x y (.agg #[.int .i64 a, .int .i64 b]) (.agg #[.int .i64 a, .int .i64 b])).run Tryz.prog w = .ok (.value (.bool true)) w := by
  simp only [eqGtOp, Sem.run_bind, Sem.run_pure, guardGtE, eqGt, Result.andThen_ok]
theorem ofGo_ok (n : Int) : ∀ (l : List Int) (s : Sg), s.ok → (ofGo n l s).1.ok
  | [], s, h => h
  | c :: l, s, h => by
    unfold ofGo
    split
    · rename_i he
      obtain ⟨x1, x2, _, _, l1, l2, t1, t2⟩ := hash_in he
      rw [t1, t2]
      exact ofGo_ok n l _ (Sg.ok_put (Sg.ok_put h l1) l2)
    · exact Sg.ok_zero
theorem ofR_ok (l : List Int) (n : Int) : (ofR l n).1.ok := by
  unfold ofR
  split
  · exact ofGo_ok n l _ Sg.ok_zero
  · exact Sg.ok_zero

/-- What a way leaves ahead of the commit. -/
structure DF (c : Cfg) (z : SSt) (hb ha : Hd) : Prop where
  live : LiveOk c
  ok : z.ok c 5
  ck : ∀ ps, WPart ps → ps ≠ [] → ckE c (0 : Nat) 1 5 ps = 0
  x : z.x = ⟨0, 0⟩
  mine : (nowAt z.hs 0).mine 1 = false
  ws : WsOk z.ws
  w0 : z.ws.getD 0 0 = 0
  w1 : z.ws.getD 1 0 = 0
  len : z.hs.length = 8
  sl : c.sl = 8
  bh : z.hs.getD 0 Hd.zero = hb
  ah : ((freeOp 1).H z.hs 0).getD 0 Hd.zero = ha
  xl : z.xs.length = 64
  xs : ∀ k, k < 64 → z.xs.getD k 0 = 0
def zD0 (c : Cfg) : SSt := (liveZ c).op (doomOp 1 4) 0
def zD1 (c : Cfg) : SSt := (liveZ c).op (freeOp 1) 0
def zD2 (c : Cfg) : SSt := (zD1 c).op (claimOp 6) 0
def zD3 (c : Cfg) : SSt := (zD2 c).op (readyOp 2 4) 0
theorem zD0_ok {c : Cfg} (h : LiveOk c) : (zD0 c).ok c 3 := h.ok.op _ _ (doom_keeps h.ok.hd _ _ _)
theorem zD1_ok {c : Cfg} (h : LiveOk c) : (zD1 c).ok c 3 := h.ok.op _ _ (free_keeps h.ok.hd _ _)
theorem zD2_ok {c : Cfg} (h : LiveOk c) : (zD2 c).ok c 4 := (zD1_ok h).op _ _ (claim_keeps (zD1_ok h).hd _ _)
theorem zD3_ok {c : Cfg} (h : LiveOk c) : (zD3 c).ok c 5 := (zD2_ok h).op _ _ (ready_keeps (zD2_ok h).hd _ _ _)
theorem zeros_at {n k : Nat} (h : k < n) : (List.replicate n (0 : Int)).getD k 0 = 0 := by
  rw [List.getD_eq_getElem?_getD, List.getElem?_replicate, if_pos h]
  rfl
theorem DF0 (tag : Int) : DF (cfgOf tag 127 0 0) (zD0 (cfgOf tag 127 0 0)) ⟨1, 2, 5, 1, true, 4⟩ ⟨1, 0, 0, 0, false, 0⟩ := ⟨cfgOf_live .., (zD0_ok (cfgOf_live ..)).more (by omega), fun ps h h0 => h.ck h0 _ _ _ _, rfl, rfl, WsOk.rep 16, rfl, rfl, rfl, rfl, rfl, rfl, rfl, fun k h => zeros_at (n := 64) h⟩
theorem DF1 (tag : Int) : DF (cfgOf tag 127 0 0) (zD1 (cfgOf tag 127 0 0)) ⟨1, 0, 0, 0, false, 0⟩ ⟨1, 0, 0, 0, false, 0⟩ := ⟨cfgOf_live .., (zD1_ok (cfgOf_live ..)).more (by omega), fun ps h h0 => h.ck h0 _ _ _ _, rfl, rfl, WsOk.rep 16, rfl, rfl, rfl, rfl, rfl, rfl, rfl, fun k h => zeros_at (n := 64) h⟩
theorem DF2 (tag : Int) : DF (cfgOf tag 127 0 0) (zD2 (cfgOf tag 127 0 0)) ⟨2, 1, 0, 6, false, 0⟩ ⟨2, 1, 0, 6, false, 0⟩ := ⟨cfgOf_live .., (zD2_ok (cfgOf_live ..)).more (by omega), fun ps h h0 => h.ck h0 _ _ _ _, rfl, rfl, WsOk.rep 16, rfl, rfl, rfl, rfl, rfl, rfl, rfl, fun k h => zeros_at (n := 64) h⟩
theorem DF3 (tag : Int) : DF (cfgOf tag 127 0 0) (zD3 (cfgOf tag 127 0 0)) ⟨2, 2, 4, 6, false, 0⟩ ⟨2, 2, 4, 6, false, 0⟩ := ⟨cfgOf_live .., zD3_ok (cfgOf_live ..), fun ps h h0 => h.ck h0 _ _ _ _, rfl, rfl, WsOk.rep 16, rfl, rfl, rfl, rfl, rfl, rfl, rfl, fun k h => zeros_at (n := 64) h⟩
end Go.Proofs.YtgjmamgohidbiaaGreat
