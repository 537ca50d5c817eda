/- A commit that finds its attempt gone: four steps, as plain data. Lists of structs as they lie in memory when they come in, and how they are read. Seats: what is laid into the other slots ahead of a commit. A look and a dooming with nobody else at work, as plain data; slots compared; lists of victims compared. -/
import Derived.Test.YtgjmamgohidbiabGreatCmW
import Derived.Test.YtgjmamgohidbiabGreatProg
import Derived.Test.YtgjmamgohidbiabGreatClX
import Derived.ProofKit
import Derived.Deep.Slices
import Derived.OpenShut
import Derived.SizedLaws
import Derived.WideKeyPair
import Derived.BigQuiet
namespace Go.Proofs.YtgjmamgohidbiabGreat
open Go.RowKit
set_option linter.unusedVariables false
set_option linter.unusedSimpArgs false

def dS (c : Cfg) (z : SSt) (x : Cm) : Nat → SSt × Cm × Int
  | 0 => (z, x, 0)
  | j + 1 => ((dS c z x j).1.commits (dS c z x j).2.1, (dS c z x j).2.1.next c (dS c z x j).1 (dS c z x j).2.2, (dS c z x j).2.1.nextDf c (dS c z x j).1 (dS c z x j).2.2)
section
variable {c : Cfg} {z : SSt} {x : Cm}
theorem dS_ok {n : Nat} (h : z.ok c n) (j : Nat) : (dS c z x j).1.ok c (n + j) := by
  induction j with
  | zero => exact h
  | succ j ih => exact ih.commits _
theorem dS_ws (j : Nat) : (dS c z x j).1.ws = z.ws := by
  induction j with
  | zero => rfl
  | succ j ih => exact (SSt.commits_ws _ _).trans ih
theorem dS_fit {n : Nat} (h : x.fit n) (hw : WsOk z.ws) (j : Nat) : (dS c z x j).2.1.fit n := by
  induction j with
  | zero => exact h
  | succ j ih => exact ih.next c (by rw [dS_ws]; exact hw) _
theorem dS_df (j : Nat) : 0 ≤ (dS c z x j).2.2 := by
  induction j with
  | zero => exact Int.le_refl _
  | succ j ih => exact Cm.nextDf_nn _ _ _ ih
end
/-- The four steps. -/
theorem dS_four {c : Cfg} {z : SSt} {ps : List Pr} {wr : Sg} {n : Nat} (hx : z.x = ⟨0, 0⟩) (hm : (nowAt z.hs 0).mine 1 = false) :
    (∀ j, j < 4 → (dS c z (Cm.new 0 1 1 5 ps wr n) j).2.1.done = false ∧ (dS c z (Cm.new 0 1 1 5 ps wr n) j).2.1.ans (dS c z (Cm.new 0 1 1 5 ps wr n) j).1 = 1) ∧
    (dS c z (Cm.new 0 1 1 5 ps wr n) 4).2.1.done = true ∧ (dS c z (Cm.new 0 1 1 5 ps wr n) 4).2.1.end_ = 7 ∧ (dS c z (Cm.new 0 1 1 5 ps wr n) 4).2.1.won = false ∧ (dS c z (Cm.new 0 1 1 5 ps wr n) 4).2.1.num = 1 ∧
    (dS c z (Cm.new 0 1 1 5 ps wr n) 4).1.x = ⟨2, 0⟩ ∧ (dS c z (Cm.new 0 1 1 5 ps wr n) 4).1.xs = z.xs ∧ (dS c z (Cm.new 0 1 1 5 ps wr n) 4).1.hs = (freeOp 1).H z.hs 0 := by
  have q1 : dS c z (Cm.new 0 1 1 5 ps wr n) 1 = (z.take 1, ⟨0, 1, 1, 5, ps, Lk.new wr n 0, .own, 0, false, 1⟩, 0) := by
    simp only [dS, Cm.next, Cm.new, SSt.commits, Cm.nextDf, hx]
    rfl
  have q2 : dS c z (Cm.new 0 1 1 5 ps wr n) 2 = ((z.take 1).look 0, ⟨0, 1, 1, 5, ps, Lk.new wr n 0, .up, 7, false, 1⟩, 0) := by
    rw [show dS c z (Cm.new 0 1 1 5 ps wr n) 2 = ((dS c z (Cm.new 0 1 1 5 ps wr n) 1).1.commits (dS c z (Cm.new 0 1 1 5 ps wr n) 1).2.1, (dS c z (Cm.new 0 1 1 5 ps wr n) 1).2.1.next c (dS c z (Cm.new 0 1 1 5 ps wr n) 1).1 (dS c z (Cm.new 0 1 1 5 ps wr n) 1).2.2, (dS c z (Cm.new 0 1 1 5 ps wr n) 1).2.1.nextDf c (dS c z (Cm.new 0 1 1 5 ps wr n) 1).1 (dS c z (Cm.new 0 1 1 5 ps wr n) 1).2.2) from rfl, q1]
    simp only [Cm.next, SSt.commits, Cm.nextDf, SSt.take, hm]
    rfl
  have q3 : dS c z (Cm.new 0 1 1 5 ps wr n) 3 = (((z.take 1).look 0).give 1, ⟨0, 1, 1, 5, ps, Lk.new wr n 0, .free, 7, false, 1⟩, 0) := by
    rw [show dS c z (Cm.new 0 1 1 5 ps wr n) 3 = ((dS c z (Cm.new 0 1 1 5 ps wr n) 2).1.commits (dS c z (Cm.new 0 1 1 5 ps wr n) 2).2.1, (dS c z (Cm.new 0 1 1 5 ps wr n) 2).2.1.next c (dS c z (Cm.new 0 1 1 5 ps wr n) 2).1 (dS c z (Cm.new 0 1 1 5 ps wr n) 2).2.2, (dS c z (Cm.new 0 1 1 5 ps wr n) 2).2.1.nextDf c (dS c z (Cm.new 0 1 1 5 ps wr n) 2).1 (dS c z (Cm.new 0 1 1 5 ps wr n) 2).2.2) from rfl, q2]
    rfl
  have q4 : dS c z (Cm.new 0 1 1 5 ps wr n) 4 = ((((z.take 1).look 0).give 1).op (freeOp 1) 0, ⟨0, 1, 1, 5, ps, Lk.new wr n 0, .over, 7, false, 1⟩, 0) := by
    rw [show dS c z (Cm.new 0 1 1 5 ps wr n) 4 = ((dS c z (Cm.new 0 1 1 5 ps wr n) 3).1.commits (dS c z (Cm.new 0 1 1 5 ps wr n) 3).2.1, (dS c z (Cm.new 0 1 1 5 ps wr n) 3).2.1.next c (dS c z (Cm.new 0 1 1 5 ps wr n) 3).1 (dS c z (Cm.new 0 1 1 5 ps wr n) 3).2.2, (dS c z (Cm.new 0 1 1 5 ps wr n) 3).2.1.nextDf c (dS c z (Cm.new 0 1 1 5 ps wr n) 3).1 (dS c z (Cm.new 0 1 1 5 ps wr n) 3).2.2) from rfl, q3]
    rfl
  refine ⟨fun j hj => ?_, ?_⟩
  · have : j = 0 ∨ j = 1 ∨ j = 2 ∨ j = 3 := by omega
    rcases this with rfl | rfl | rfl | rfl
    · refine ⟨rfl, ?_⟩
      simp only [dS, Cm.ans, Cm.new, hx]
      rfl
    · rw [q1]; exact ⟨rfl, rfl⟩
    · rw [q2]; exact ⟨rfl, rfl⟩
    · rw [q3]; exact ⟨rfl, rfl⟩
  · rw [q4]
    refine ⟨rfl, rfl, rfl, rfl, ?_, rfl, rfl⟩
    simp only [SSt.op, SSt.give, SSt.look, SSt.take, hx]
    rfl
/-- One thing more. -/
theorem St.add {o w w' : World} {its : List It} {A : It} (h : St o its w) (h2 : St w [A] w') : St o (A :: its) w' :=
  h.push A h2.same (h2.get 0 rfl) (by have := h2.nodup; simpa using this) (fun b hb => h2.high A (by simp) b hb)
/-- What a slot's cells are, in a list of slots that lies in memory. -/
theorem slot_cells {o w : World} {its : List It} (h : St o its w) (i : Nat) {g cap : Nat} {hs : List Hd} {ws : List Int} (hi : its[i]? = some (ownI 65 8 (.slice (some ⟨g, 0, none⟩) hs.length cap) hs.length (slCells (slots hs ws)))) (e : ws.length = hs.length * 2) {k : Nat} (hk : k < hs.length) :
    w.cell? ⟨g, k * 8, none⟩ = some (.int .i64 (hs.getD k Hd.zero).gn) ∧ w.cell? ⟨g, k * 8 + 1, none⟩ = some (.int .i64 (hs.getD k Hd.zero).sa) ∧ w.cell? ⟨g, k * 8 + 2, none⟩ = some (.int .i64 (hs.getD k Hd.zero).sp) ∧ w.cell? ⟨g, k * 8 + 3, none⟩ = some (.int .i64 (hs.getD k Hd.zero).th) ∧ w.cell? ⟨g, k * 8 + 4, none⟩ = some (.bool (hs.getD k Hd.zero).dm) ∧ w.cell? ⟨g, k * 8 + 5, none⟩ = some (.int .i64 (hs.getD k Hd.zero).wy) ∧ w.cell? ⟨g, k * 8 + 6, none⟩ = some (.int .u64 (ws.getD (k * 2) 0)) ∧ w.cell? ⟨g, k * 8 + 7, none⟩ = some (.int .u64 (ws.getD (k * 2 + 1) 0)) := by
  have hl := slots_length hs ws e
  have hs' := slots_at hs ws e k hk
  have hkk : k < (slots hs ws).length := by omega
  have hel : (slots hs ws)[k] = mkSl hs[k] (ws.getD (k * 2) 0) (ws.getD (k * 2 + 1) 0) := by
    rw [List.getElem?_eq_getElem hkk] at hs'
    exact Option.some.inj hs'
  have hd : hs.getD k Hd.zero = hs[k] := by rw [List.getD_eq_getElem?_getD, List.getElem?_eq_getElem hk]; rfl
  obtain ⟨a0, a1, a2, a3, a4, a5, a6, a7⟩ := slCells_at (slots hs ws) k hkk
  rw [hel] at a0 a1 a2 a3 a4 a5 a6 a7
  rw [hd]
  exact ⟨(h.ownCell i hi _ (by omega)).trans a0, (h.ownCell i hi _ (by omega)).trans a1, (h.ownCell i hi _ (by omega)).trans a2, (h.ownCell i hi _ (by omega)).trans a3, (h.ownCell i hi _ (by omega)).trans a4, (h.ownCell i hi _ (by omega)).trans a5, (h.ownCell i hi _ (by omega)).trans a6, (h.ownCell i hi _ (by omega)).trans a7⟩
set_option maxRecDepth 100000 in
theorem eqSlotE (a b c e : Int) (f : Bool) (g x y : Int) (w : World) : (binOp .eql 65 (.agg #[.int .i64 a, .int .i64 b, .int .i64 c, .int .i64 e, .bool f, .int .i64 g, .int .u64 x, .int .u64 y]) (.agg #[.int .i64 a, .int .i64 b, .int .i64 c, .int .i64 e, .bool f, .int .i64 g, .int .u64 x, .int .u64 y])).run Tryz.prog w = .ok (.bool true) w := by
  rw [run_eql_struct, run_equalIn_struct w 9999 65 _ _ (by kernel_rfl) (by kernel_rfl)]
  have p0 : ∀ w, (part 63 #[.int .i64 a, .int .i64 b, .int .i64 c, .int .i64 e, .bool f, .int .i64 g, .int .u64 x, .int .u64 y] 0).run Tryz.prog w = .ok (.agg #[.int .i64 a, .int .i64 b, .int .i64 c, .int .i64 e, .bool f, .int .i64 g]) w := fun w => by kernel_rfl
  have p1 : ∀ w, (part 33 #[.int .i64 a, .int .i64 b, .int .i64 c, .int .i64 e, .bool f, .int .i64 g, .int .u64 x, .int .u64 y] 6).run Tryz.prog w = .ok (.agg #[.int .u64 x, .int .u64 y]) w := fun w => by kernel_rfl
  have h0 := eqHead 9997 a b c e f g
  have h1 := eqWords 9997 x y
  simp [Program.fieldsOf, Tryz.underlying65, Op.eqFields, Sem.run_bind, p0, p1, h0, h1]
theorem guardSlE (x y : Operand) (xs ys : Array Value) (w : World) : (eqGuard .eql 65 x y (.agg xs) (.agg ys)).run Tryz.prog w = .ok () w := by kernel_rfl
def eqSlOp (x y : Operand) (a b : Value) : Sem Next := do pure (.value (← (do eqGuard .eql 65 x y a b; binOp .eql 65 a b)))
theorem exec_eqSl (ρ : Operand → Value) (dst : Option Tmp) (x y : Operand) (ty : TypeId) (pos : String) (after : Array Edge) (guard : Option (Nat × Bool)) :
    execOp ρ { dst, op := .binOp .eql 65 x y 65, type := ty, pos, after, guard } = eqSlOp x y (ρ x) (ρ y) := rfl
set_option maxRecDepth 100000 in
theorem run_eqSl (x y : Operand) (a b c e : Int) (f : Bool) (g u v : Int) (w : World) : (eqSlOp x y (.agg #[.int .i64 a, .int .i64 b, .int .i64 c, .int .i64 e, .bool f, .int .i64 g, .int .u64 u, .int .u64 v]) (.agg #[.int .i64 a, .int .i64 b, .int .i64 c, .int .i64 e, .bool f, .int .i64 g, .int .u64 u, .int .u64 v])).run Tryz.prog w = .ok (.value (.bool true)) w := by
  simp only [eqSlOp, Sem.run_bind, Sem.run_pure, guardSlE, eqSlotE, Result.andThen_ok]
theorem guardGtE (x y : Operand) (xs ys : Array Value) (w : World) : (eqGuard .eql 56 x y (.agg xs) (.agg ys)).run Tryz.prog w = .ok () w := by kernel_rfl
def eqGtOp (x y : Operand) (a b : Value) : Sem Next := do pure (.value (← (do eqGuard .eql 56 x y a b; binOp .eql 56 a b)))
theorem exec_eqGt (ρ : Operand → Value) (dst : Option Tmp) (x y : Operand) (ty : TypeId) (pos : String) (after : Array Edge) (guard : Option (Nat × Bool)) :
    execOp ρ { dst, op := .binOp .eql 56 x y 56, type := ty, pos, after, guard } = eqGtOp x y (ρ x) (ρ y) := rfl
set_option maxRecDepth 100000 in
theorem run_eqGt (x y : Operand) (a b : Int) (w : World) : (eqGtOp x y (.agg #[.int .i64 a, .int .i64 b]) (.agg #[.int .i64 a, .int .i64 b])).run Tryz.prog w = .ok (.value (.bool true)) w := by
  simp only [eqGtOp, Sem.run_bind, Sem.run_pure, guardGtE, eqGt, Result.andThen_ok]
theorem ofGo_ok (n : Int) : ∀ (l : List Int) (s : Sg), s.ok → (ofGo n l s).1.ok
  | [], s, h => h
  | c :: l, s, h => by
    unfold ofGo
    split
    · rename_i he
      obtain ⟨x1, x2, _, _, l1, l2, t1, t2⟩ := hash_in he
      rw [t1, t2]
      exact ofGo_ok n l _ (Sg.ok_put (Sg.ok_put h l1) l2)
    · exact Sg.ok_zero
theorem ofR_ok (l : List Int) (n : Int) : (ofR l n).1.ok := by
  unfold ofR
  split
  · exact ofGo_ok n l _ Sg.ok_zero
  · exact Sg.ok_zero

/-- What a way leaves ahead of the commit. -/
structure DF (c : Cfg) (z : SSt) (hb ha : Hd) : Prop where
  live : LiveOk c
  ok : z.ok c 5
  ck : ∀ ps, WPart ps → ps ≠ [] → ckE c (0 : Nat) 1 5 ps = 0
  x : z.x = ⟨0, 0⟩
  mine : (nowAt z.hs 0).mine 1 = false
  ws : WsOk z.ws
  w0 : z.ws.getD 0 0 = 0
  w1 : z.ws.getD 1 0 = 0
  len : z.hs.length = 8
  sl : c.sl = 8
  bh : z.hs.getD 0 Hd.zero = hb
  ah : ((freeOp 1).H z.hs 0).getD 0 Hd.zero = ha
  xl : z.xs.length = 64
  xs : ∀ k, k < 64 → z.xs.getD k 0 = 0
def zD0 (c : Cfg) : SSt := (liveZ c).op (doomOp 1 4) 0
def zD1 (c : Cfg) : SSt := (liveZ c).op (freeOp 1) 0
def zD2 (c : Cfg) : SSt := (zD1 c).op (claimOp 6) 0
def zD3 (c : Cfg) : SSt := (zD2 c).op (readyOp 2 4) 0
theorem zD0_ok {c : Cfg} (h : LiveOk c) : (zD0 c).ok c 3 := h.ok.op _ _ (doom_keeps h.ok.hd _ _ _)
theorem zD1_ok {c : Cfg} (h : LiveOk c) : (zD1 c).ok c 3 := h.ok.op _ _ (free_keeps h.ok.hd _ _)
theorem zD2_ok {c : Cfg} (h : LiveOk c) : (zD2 c).ok c 4 := (zD1_ok h).op _ _ (claim_keeps (zD1_ok h).hd _ _)
theorem zD3_ok {c : Cfg} (h : LiveOk c) : (zD3 c).ok c 5 := (zD2_ok h).op _ _ (ready_keeps (zD2_ok h).hd _ _ _)
theorem zeros_at {n k : Nat} (h : k < n) : (List.replicate n (0 : Int)).getD k 0 = 0 := by
  rw [List.getD_eq_getElem?_getD, List.getElem?_replicate, if_pos h]
  rfl
theorem DF0 (tag : Int) : DF (cfgOf tag 127 0 0) (zD0 (cfgOf tag 127 0 0)) ⟨1, 2, 5, 1, true, 4⟩ ⟨1, 0, 0, 0, false, 0⟩ := ⟨cfgOf_live .., (zD0_ok (cfgOf_live ..)).more (by omega), fun ps h h0 => h.ck h0 _ _ _ _, rfl, rfl, WsOk.rep 16, rfl, rfl, rfl, rfl, rfl, rfl, rfl, fun k h => zeros_at (n := 64) h⟩
theorem DF1 (tag : Int) : DF (cfgOf tag 127 0 0) (zD1 (cfgOf tag 127 0 0)) ⟨1, 0, 0, 0, false, 0⟩ ⟨1, 0, 0, 0, false, 0⟩ := ⟨cfgOf_live .., (zD1_ok (cfgOf_live ..)).more (by omega), fun ps h h0 => h.ck h0 _ _ _ _, rfl, rfl, WsOk.rep 16, rfl, rfl, rfl, rfl, rfl, rfl, rfl, fun k h => zeros_at (n := 64) h⟩
theorem DF2 (tag : Int) : DF (cfgOf tag 127 0 0) (zD2 (cfgOf tag 127 0 0)) ⟨2, 1, 0, 6, false, 0⟩ ⟨2, 1, 0, 6, false, 0⟩ := ⟨cfgOf_live .., (zD2_ok (cfgOf_live ..)).more (by omega), fun ps h h0 => h.ck h0 _ _ _ _, rfl, rfl, WsOk.rep 16, rfl, rfl, rfl, rfl, rfl, rfl, rfl, fun k h => zeros_at (n := 64) h⟩
theorem DF3 (tag : Int) : DF (cfgOf tag 127 0 0) (zD3 (cfgOf tag 127 0 0)) ⟨2, 2, 4, 6, false, 0⟩ ⟨2, 2, 4, 6, false, 0⟩ := ⟨cfgOf_live .., zD3_ok (cfgOf_live ..), fun ps h h0 => h.ck h0 _ _ _ _, rfl, rfl, WsOk.rep 16, rfl, rfl, rfl, rfl, rfl, rfl, rfl, fun k h => zeros_at (n := 64) h⟩
end Go.Proofs.YtgjmamgohidbiabGreat

namespace Go.Proofs.YtgjmamgohidbiabGreat
open Go.RowKit Go.ChangeShapes Go.WideShapes Go.Deep
set_option linter.unusedVariables false
set_option linter.unusedSimpArgs false

theorem wf_word {a : Int} (h : (Lit.int .u64 a).wf = true) : ∃ n : Nat, a = (n : Int) ∧ n < 18446744073709551616 := by
  have h2 : 0 ≤ a ∧ a < 18446744073709551616 := by
    simp only [Lit.wf, decide_eq_true_eq, Bool.and_eq_true] at h
    have m0 : IntKind.u64.min = 0 := by decide
    have m1 : IntKind.u64.max = 18446744073709551615 := by decide
    rw [m0, m1] at h
    omega
  exact ⟨a.toNat, by omega, by omega⟩
section
variable {H : Type} {enc : TypeId × Value → H} {w : World}
theorem mem_weightsAll {P : Program} {e : TypeId} {d : DataW H} {n : Nat} : ∀ {l : List (DataW H)}, d ∈ l → n ∈ d.weights P e → n ∈ DataW.weightsAll P e l := by
  intro l
  induction l with
  | nil => intro h; cases h
  | cons x r ih =>
    intro h hn
    simp only [DataW.weightsAll, List.mem_append]
    cases List.mem_cons.1 h with
    | inl e => subst e; exact .inl hn
    | inr e => exact .inr (ih e hn)
theorem Tryz.cells_int : Tryz.prog.cellsOf 3 = 1 := by kernel_rfl
theorem Tryz.cells_bool : Tryz.prog.cellsOf 4 = 1 := by kernel_rfl
theorem Tryz.cells_u64 : Tryz.prog.cellsOf 31 = 1 := by kernel_rfl
theorem Tryz.cells_sig : Tryz.prog.cellsOf 33 = 2 := by kernel_rfl
theorem open_sig {fuel : Nat} {v0 v1 : Value} {x : DataW H × List MemPlace} (h : DataW.trod enc Tryz.prog w 0 (fun _ => true) true fuel 33 [v0, v1] = some x) : ∃ (b0 b1 : Nat), v0 = .int .u64 b0 ∧ v1 = .int .u64 b1 ∧ b0 < 18446744073709551616 ∧ b1 < 18446744073709551616 := by
  obtain ⟨xs, m, _, _, _, hlen, hf⟩ := DataW.trod_array Tryz.underlying33 h
  match xs, hlen with
  | [y0, y1], _ =>
    have g0 := hf 0 (by omega)
    have g1 := hf 1 (by omega)
    simp [Tryz.cells_u64] at g0 g1
    obtain ⟨b0, e0, _, w0⟩ := DataW.trod_int Tryz.underlying31 g0
    obtain ⟨b1, e1, _, w1⟩ := DataW.trod_int Tryz.underlying31 g1
    simp only [List.cons.injEq, and_true] at e0 e1
    obtain ⟨n0, rfl, r0⟩ := wf_word w0
    obtain ⟨n1, rfl, r1⟩ := wf_word w1
    exact ⟨n0, n1, e0, e1, r0, r1⟩
end

/-- One of them. -/
structure SeD where
  lv : Bool
  dm : Bool
  sp : Int
  w_0 : Nat
  w_1 : Nat
structure SeAt (w : World) (b off : Nat) (o : SeD) : Prop where
  c0 : w.cell? ⟨b, off, none⟩ = some (.bool o.lv)
  c1 : w.cell? ⟨b, off + 1, none⟩ = some (.bool o.dm)
  c2 : w.cell? ⟨b, off + 2, none⟩ = some (.int .i64 o.sp)
  c3 : w.cell? ⟨b, off + 3, none⟩ = some (.int .u64 (o.w_0 : Nat))
  c4 : w.cell? ⟨b, off + 4, none⟩ = some (.int .u64 (o.w_1 : Nat))
  r_w_0 : o.w_0 < 18446744073709551616
  r_w_1 : o.w_1 < 18446744073709551616
/-- A list of them that came in. -/
def SesAt (w : World) (a : Option Addr) (len : Nat) (f : Nat → SeD) : Prop :=
  len = 0 ∨ ∃ b off, a = some ⟨b, off, none⟩ ∧ ∀ i, i < len → SeAt w b (off + i * 5) (f i)
theorem SeAt.kept {w w' : World} {b off : Nat} {o : SeD} (h : SeAt w b off o) (k : Kept (fun _ => False) w w') : SeAt w' b off o := by
  have hb : b < w.heap.size := World.block_lt_of_cell? w _ h.c0
  have e : ∀ j, w'.cell? ⟨b, j, none⟩ = w.cell? ⟨b, j, none⟩ := fun j => World.cell?_of_block (k.block b hb (fun f => f))
  exact ⟨(e _).trans h.c0, (e _).trans h.c1, (e _).trans h.c2, (e _).trans h.c3, (e _).trans h.c4, h.r_w_0, h.r_w_1⟩
def SeD.zero : SeD := ⟨false, false, 0, 0, 0⟩
section
variable {H : Type} {enc : TypeId × Value → H} {w : World}
theorem Tryz.cells_Se : Tryz.prog.cellsOf 35 = 5 := by kernel_rfl
theorem Tryz.bytes_Se : Tryz.prog.bytesOf 35 = 32 := by kernel_rfl
set_option maxRecDepth 100000 in
theorem open_Se {fuel : Nat} {cs : List Value} {x : DataW H × List MemPlace} (h : DataW.trod enc Tryz.prog w 0 (fun _ => true) true fuel 35 cs = some x) (hz : ∀ n ∈ x.1.weights Tryz.prog 35, n ≤ reachBytes) :
    ∃ o : SeD, cs = [.bool o.lv, .bool o.dm, .int .i64 o.sp, .int .u64 (o.w_0 : Nat), .int .u64 (o.w_1 : Nat)] ∧ o.w_0 < 18446744073709551616 ∧ o.w_1 < 18446744073709551616 := by
  obtain ⟨xs, n, _, rfl, hl, hlen, hf⟩ := DataW.trod_struct Tryz.underlying35 h
  rw [Tryz.cells_Se] at hl
  match cs, hl with
  | [v0, v1, v2, v3, v4], _ =>
    match xs, hlen with
    | [y0, y1, y2, y3], _ =>
      have g0 := hf 0 _ rfl
      have g1 := hf 1 _ rfl
      have g2 := hf 2 _ rfl
      have g3 := hf 3 _ rfl
      simp [Tryz.cells_int, Tryz.cells_bool, Tryz.cells_u64, Tryz.cells_sig] at g0 g1 g2 g3
      obtain ⟨b0, e0, _⟩ := DataW.trod_bool Tryz.underlying4 g0
      simp only [List.cons.injEq, and_true] at e0
      subst e0
      obtain ⟨b1, e1, _⟩ := DataW.trod_bool Tryz.underlying4 g1
      simp only [List.cons.injEq, and_true] at e1
      subst e1
      obtain ⟨b2, e2, _, _⟩ := DataW.trod_int Tryz.underlying3 g2
      simp only [List.cons.injEq, and_true] at e2
      subst e2
      obtain ⟨b3, d3, rfl, rfl, r3, q3⟩ := open_sig g3
      exact ⟨⟨b0, b1, b2, b3, d3⟩, rfl, r3, q3⟩
set_option maxRecDepth 100000 in
theorem open_Ses {a : Option Addr} {len cap : Nat} {d : DataW H} {pl : List MemPlace} (h : DataW.Trod enc Tryz.prog w 0 (fun _ => true) true 30 (.slice a len cap) d pl) (hz : ∀ n ∈ d.weights Tryz.prog 30, n ≤ reachBytes) :
    ∃ f : Nat → SeD, SesAt w a len f ∧ len * 32 ≤ 140737488351232 := by
  obtain ⟨fuel, hf⟩ := h
  by_cases h0 : len = 0
  · exact ⟨fun _ => .zero, .inl h0, by omega⟩
  rcases open_slice Tryz.underlying30 hf with ⟨hcs, _⟩ | ⟨a', len', cap', m, n, D, Pl, hcs, _, hl, hm, hmm, hx, hcell⟩
  · simp [Value.cells] at hcs
    omega
  · simp [Value.cells] at hcs
    obtain ⟨rfl, rfl, rfl⟩ := hcs
    simp only [if_true] at hmm
    subst hmm
    simp only [Prod.mk.injEq] at hx
    obtain ⟨hd, _⟩ := hx
    have hmem : ∀ i, i < len → ∀ k ∈ (D i).weights Tryz.prog 35, k ≤ reachBytes := by
      intro i hi k hk
      refine hz k ?_
      rw [hd]
      simp only [DataW.weights, Tryz.underlying30, List.mem_cons, List.mem_append]
      exact .inr (.inl (mem_weightsAll (List.mem_map.2 ⟨i, by simpa using hi, rfl⟩) hk))
    have hreach : len * 32 ≤ 140737488351232 := by
      have := hz ((len + (m - len)) * 32) (by
        rw [hd]
        simp [DataW.weights, Tryz.underlying30, Tryz.bytes_Se])
      simp only [reachBytes] at this
      omega
    obtain ⟨cs0, hc0, _⟩ := hcell 0 (by omega)
    rw [Tryz.cells_Se] at hc0
    have hs := (World.cells?_some hc0)
    obtain ⟨b, off, spot⟩ := a'
    have h00 := hs.2.2 0 (by omega)
    rw [List.getElem?_eq_getElem (by omega)] at h00
    have hspot : spot = none := by simpa [Addr.add] using World.cell?_spot h00
    subst hspot
    have hall : ∀ i, i < len → ∃ o : SeD, SeAt w b (off + i * 5) o := by
      intro i hi
      obtain ⟨cs, hc, ht⟩ := hcell i (by omega)
      rw [Tryz.cells_Se] at hc
      obtain ⟨o, rfl, r0, r1⟩ := open_Se ht (hmem i hi)
      have hcc := (World.cells?_some hc).2.2
      have eadd : ∀ j, ((⟨b, off, none⟩ : Addr).add (i * 5)).add j = ⟨b, off + i * 5 + j, none⟩ := by
        intro j
        unfold Addr.add
        split <;> split <;> simp_all
      have c0 := hcc 0 (by omega)
      have c1 := hcc 1 (by omega)
      have c2 := hcc 2 (by omega)
      have c3 := hcc 3 (by omega)
      have c4 := hcc 4 (by omega)
      rw [eadd] at c0 c1 c2 c3 c4
      exact ⟨o, c0, c1, c2, c3, c4, r0, r1⟩
    obtain ⟨f, hff⟩ := @choose_lt SeD ⟨.zero⟩ len (fun i o => SeAt w b (off + i * 5) o) hall
    exact ⟨f, .inr ⟨b, off, rfl, hff⟩, hreach⟩
set_option maxRecDepth 100000 in
theorem arg_Ses {b0 : Nat} {v : Value} {d : DataW H} {pl : List MemPlace} (h : DataW.Trod enc Tryz.prog w 0 (fun _ => true) true 30 v d pl) (hv : Value.okWide Tryz.prog w .any b0 30 v) (hz : ∀ n ∈ d.weights Tryz.prog 30, n ≤ reachBytes) :
    ∃ la ll lc f, v = .slice la ll lc ∧ SesAt w la ll f ∧ ll * 32 ≤ 140737488351232 := by
  obtain ⟨a, len, cap, rfl⟩ := okWide_slice Tryz.underlying30 hv
  obtain ⟨f, h1, h2⟩ := open_Ses h hz
  exact ⟨a, len, cap, f, rfl, h1, h2⟩
end
end Go.Proofs.YtgjmamgohidbiabGreat

namespace Go.Proofs.YtgjmamgohidbiabGreat
open Go.RowKit
set_option linter.unusedVariables false
set_option linter.unusedSimpArgs false
attribute [local go_sem ↓] Go.wp_at_zero Go.wp_at_succ

def SeD.pn (s : SeD) : Nat := (s.sp % 1024).toNat
def SeD.p (s : SeD) : Int := 1 + (s.pn : Int)
def seatC (z : SSt) (q : Nat) (s : SeD) : SSt := z.op (claimOp (1 + (q : Int))) q
def seatP (z : SSt) (q : Nat) (s : SeD) : SSt := (seatC z q s).put q 0 s.w_0
def seatW (z : SSt) (q : Nat) (s : SeD) : SSt := (seatP z q s).put q 1 s.w_1
def seatR (z : SSt) (q : Nat) (s : SeD) : SSt := (seatW z q s).op (readyOp 1 s.p) q
def seatX (z : SSt) (q : Nat) (s : SeD) : SSt := (seatR z q s).op (doomOp 1 8) q
def seatA (z : SSt) (q : Nat) (s : SeD) : SSt := if s.lv then (if s.dm then seatX z q s else seatR z q s) else seatW z q s
def seatsZ (z : SSt) (f : Nat → SeD) : Nat → SSt
  | 0 => z
  | j + 1 => seatA (seatsZ z f j) (j + 1) (f j)
section
variable {z : SSt} {c : Cfg} {n : Nat}
theorem seatC_ok (h : z.ok c n) (q : Nat) (s : SeD) : (seatC z q s).ok c (n + 1) := h.op _ _ (claim_keeps h.hd _ _)
theorem seatP_ok (h : z.ok c n) (q : Nat) (s : SeD) : (seatP z q s).ok c (n + 2) := (seatC_ok h q s).put _ _ _
theorem seatW_ok (h : z.ok c n) (q : Nat) (s : SeD) : (seatW z q s).ok c (n + 3) := (seatP_ok h q s).put _ _ _
theorem seatR_ok (h : z.ok c n) (q : Nat) (s : SeD) : (seatR z q s).ok c (n + 4) := let g := seatW_ok h q s; g.op _ _ (ready_keeps g.hd _ _ _)
theorem seatX_ok (h : z.ok c n) (q : Nat) (s : SeD) : (seatX z q s).ok c (n + 5) := let g := seatR_ok h q s; g.op _ _ (doom_keeps g.hd _ _ _)
theorem seatA_ok (h : z.ok c n) (q : Nat) (s : SeD) : (seatA z q s).ok c (n + 5) := by
  unfold seatA
  split
  · split
    · exact seatX_ok h q s
    · exact (seatR_ok h q s).more (by omega)
  · exact (seatW_ok h q s).more (by omega)
theorem seatsZ_ok (h : z.ok c n) (f : Nat → SeD) (j : Nat) : (seatsZ z f j).ok c (n + 5 * j) := by
  induction j with
  | zero => exact h
  | succ j ih => exact seatA_ok ih _ _
theorem seatA_ws (z : SSt) (q : Nat) (s : SeD) : (seatA z q s).ws = (seatW z q s).ws := by
  unfold seatA
  split
  · split <;> rfl
  · rfl
theorem seatsZ_wok (h : WsOk z.ws) (f : Nat → SeD) (j : Nat) (hf : ∀ i, i < j → (f i).w_0 < 18446744073709551616 ∧ (f i).w_1 < 18446744073709551616) : WsOk (seatsZ z f j).ws := by
  induction j with
  | zero => exact h
  | succ j ih =>
    show WsOk (seatA _ _ _).ws
    rw [seatA_ws]
    exact ((ih (fun i hi => hf i (by omega))).put _ _ _ (hf j (by omega)).1).put _ _ _ (hf j (by omega)).2
/-- The gate and the cells are as they were. -/
theorem seatA_rest (z : SSt) (q : Nat) (s : SeD) : (seatA z q s).x = z.x ∧ (seatA z q s).xs = z.xs := by
  unfold seatA
  split
  · split <;> exact ⟨rfl, rfl⟩
  · exact ⟨rfl, rfl⟩
theorem seatsZ_rest (z : SSt) (f : Nat → SeD) (j : Nat) : (seatsZ z f j).x = z.x ∧ (seatsZ z f j).xs = z.xs := by
  induction j with
  | zero => exact ⟨rfl, rfl⟩
  | succ j ih => exact ⟨(seatA_rest _ _ _).1.trans ih.1, (seatA_rest _ _ _).2.trans ih.2⟩
end
theorem now_op {p : HOp} {hs : List Hd} {s1 s2 : Int} (h : s1 ≠ s2) (h1 : 0 ≤ s1) (h2 : 0 ≤ s2) : nowAt (p.H hs s1) s2 = nowAt hs s2 := by
  unfold HOp.H
  split
  · split
    · rfl
    · split
      · unfold nowAt headAt
        rw [if_pos h2, if_pos h2, List.getElem?_set_ne (by omega)]
      · rfl
  · rfl
/-- Slot 0 is as it was. -/
theorem seatA_own (z : SSt) {q : Nat} (hq : 0 < q) (s : SeD) : nowAt (seatA z q s).hs 0 = nowAt z.hs 0 := by
  have e : ∀ (p : HOp) (hs : List Hd), nowAt (p.H hs (q : Int)) 0 = nowAt hs 0 := fun p hs => now_op (by omega) (by omega) (by omega)
  unfold seatA
  split
  · split
    · simp only [seatX, seatR, seatW, seatP, seatC, SSt.op, SSt.put, e]
    · simp only [seatR, seatW, seatP, seatC, SSt.op, SSt.put, e]
  · simp only [seatW, seatP, seatC, SSt.op, SSt.put, e]
theorem seatsZ_own (z : SSt) (f : Nat → SeD) (j : Nat) : nowAt (seatsZ z f j).hs 0 = nowAt z.hs 0 := by
  induction j with
  | zero => rfl
  | succ j ih => exact (seatA_own _ (by omega) _).trans ih
theorem SeD.p_eq (s : SeD) : bits .and .i64 s.sp 1023 = (s.pn : Int) ∧ s.pn < 1024 := by rw [and1023]; unfold SeD.pn; omega

set_option maxRecDepth 100000 in
set_option maxHeartbeats 4000000 in
theorem seats_st {o w : World} {its : List It} {A : Ad} {c : Cfg} {z : SSt} {v u : Value} (h : St o its w) (i : Nat) (hi : its[i]? = some (spI A c z v u)) {n : Nat} (ok : z.ok c n) (hn : n + 45 ≤ 4611686018427) (h8 : c.sl = 8) {a : Option Addr} {len cap : Nat} {f : Nat → SeD} (hf : ∀ z' v' W, St o (its.set i (spI A c z' v' u)) W → SesAt W a len f) :
    Calls Tryz.prog 7 #[spp A, .slice a len cap] w fun e w' => e = .returned (.tuple #[]) ∧ ∃ v', St o (its.set i (spI A c (seatsZ z f (min len 7)) v' u)) w' := by
  have ht := spSlots h i hi
  unfold spp at *
  have h0 : St o (its.set i (spI A c (seatsZ z f 0) v u)) w := by
    show St o (its.set i (spI A c z v u)) w
    rw [set_back hi]; exact h
  clear h
  have HI : Hid (∀ X : It, (its.set i X)[i]? = some X) := fun X => set_self hi
  have HSS : Hid (∀ X Y : It, (its.set i X).set i Y = its.set i Y) := fun X Y => set_same
  have HO : Hid (∀ j, (seatsZ z f j).ok c (n + 5 * j)) := seatsZ_ok ok f
  have HF : Hid (∀ z' v' W, St o (its.set i (spI A c z' v' u)) W → SesAt W a len f) := hf
  clear hf hi ok
  go_enter Tryz.func7, Tryz.ntmps7
  go_wp2_with (go_at_call 8; refine ht.mono ?_; rintro e wq ⟨rfl, rfl⟩)
  clear ht
  go_loopw [5] (fun x wr => ∃ j v, x = .int .i64 (j : Nat) ∧ j ≤ min len 7 ∧ St o (its.set i (spI A c (seatsZ z f j) v u)) wr) (fun x _ => 8 - (intOf x).toNat)
  case atStart => exact ⟨0, v, rfl, Nat.zero_le _, h0⟩
  case round =>
    clear h0
    obtain ⟨j, v, rfl, hj, hS⟩ := hrel
    have hok := HO.out j
    have hl := spLen hS i (HI.out _)
    have hl8 : ((seatsZ z f j).hs.length : Int) = 8 := by rw [hok.hl, h8]
    rw [hl8] at hl
    clear hl8
    have hj0 : (0 : Int) ≤ (j : Int) := by omega
    by_cases h1 : j < len
    · have h1' : (j : Int) < (len : Int) := by omega
      by_cases h2 : j < 7
      · have h2' : (j : Int) + 1 < 8 := by omega
        have hj7 : (j : Int) < 7 := by omega
        obtain ⟨b, off, rfl⟩ : ∃ b off, a = some ⟨b, off, none⟩ := by
          rcases HF.out _ _ _ hS with h | ⟨b, off, e, h⟩
          · omega
          · exact ⟨b, off, e⟩
        have HA : Hid (∀ z' v' W, St o (its.set i (spI A c z' v' u)) W → SeAt W b (off + j * 5) (f j)) := fun z' v' W hW => by
          rcases HF.out _ _ _ hW with h | ⟨b', off', e, h⟩
          · omega
          · simp only [Option.some.injEq, Addr.mk.injEq, and_true] at e
            obtain ⟨rfl, rfl⟩ := e
            exact h j h1
        have HP1 : Hid (bits .and .i64 (f j).sp 1023 = ((f j).pn : Int) ∧ (f j).pn < 1024) := (f j).p_eq
        have HZ : Hid (seatsZ z f (j + 1) = seatA (seatsZ z f j) (j + 1) (f j)) := rfl
        generalize seatsZ z f j = z1 at *
        generalize f j = sd at *
        obtain ⟨lv, dm, sp, w0, w1⟩ := sd
        have HZ0 : Hid (seatA z1 (j + 1) ⟨lv, dm, sp, w0, w1⟩ = if lv then (if dm then seatX z1 (j + 1) ⟨lv, dm, sp, w0, w1⟩ else seatR z1 (j + 1) ⟨lv, dm, sp, w0, w1⟩) else seatW z1 (j + 1) ⟨lv, dm, sp, w0, w1⟩) := rfl
        have okc : (seatC z1 (j + 1) ⟨lv, dm, sp, w0, w1⟩).ok c _ := seatC_ok hok (j + 1) ⟨lv, dm, sp, w0, w1⟩
        have okp : (seatP z1 (j + 1) ⟨lv, dm, sp, w0, w1⟩).ok c _ := seatP_ok hok (j + 1) ⟨lv, dm, sp, w0, w1⟩
        have okw : (seatW z1 (j + 1) ⟨lv, dm, sp, w0, w1⟩).ok c _ := seatW_ok hok (j + 1) ⟨lv, dm, sp, w0, w1⟩
        have okr : (seatR z1 (j + 1) ⟨lv, dm, sp, w0, w1⟩).ok c _ := seatR_ok hok (j + 1) ⟨lv, dm, sp, w0, w1⟩
        have ecast : ((j + 1 : Nat) : Int) = (j : Int) + 1 := by omega
        have hq := spClaim hS i (HI.out _) hok (by omega) ((j : Int) + 1) (1 + ((j : Int) + 1))
        clear hS
        go_wp2_with (go_at_call 26; refine hl.mono ?_; rintro e wq ⟨rfl, rfl⟩)
        refine hq.mono ?_
        rintro e x0 ⟨rfl, y0, s0⟩
        rw [HSS.out] at s0
        have s0' : St o (its.set i (spI A c (seatC z1 (j + 1) ⟨lv, dm, sp, w0, w1⟩) y0 u)) x0 := by unfold seatC; rw [ecast]; exact s0
        clear hq hl s0
        have c3 := (HA.out _ _ _ s0').c3
        try simp only at c3
        have hq := spPut s0' i (HI.out _) okc (by omega) ((j : Int) + 1) 0 w0
        clear s0'
        go_wp2_with fail
        refine hq.mono ?_
        rintro e x1 ⟨rfl, y1, s1⟩
        rw [HSS.out] at s1
        have s1' : St o (its.set i (spI A c (seatP z1 (j + 1) ⟨lv, dm, sp, w0, w1⟩) y1 u)) x1 := by unfold seatP; rw [ecast]; exact s1
        clear hq c3 s1
        have c4 := (HA.out _ _ _ s1').c4
        try simp only at c4
        have hq := spPut s1' i (HI.out _) okp (by omega) ((j : Int) + 1) 1 w1
        clear s1'
        go_wp2_with fail
        refine hq.mono ?_
        rintro e x2 ⟨rfl, y2, s2⟩
        rw [HSS.out] at s2
        have s2' : St o (its.set i (spI A c (seatW z1 (j + 1) ⟨lv, dm, sp, w0, w1⟩) y2 u)) x2 := by unfold seatW; rw [ecast]; exact s2
        clear hq c4 s2
        have hA := HA.out _ _ _ s2'
        have c0 := hA.c0
        have c1 := hA.c1
        have c2 := hA.c2
        try simp only at c0 c1 c2
        clear hA
        cases lv with
        | false =>
          as_aux_lemma =>
            rw [HZ0.out] at HZ
            simp only [Bool.false_eq_true, if_false] at HZ
            clear HZ0
            have HE : Hid _ := s2'
            clear s2' HA
            go_wp2_with fail
            go_roundw
            case rel => exact ⟨j + 1, _, by go_num, by omega, by rw [HZ.out]; exact HE.out⟩
            case measure => simp [intOf]; omega
        | true =>
          have hq : Calls _ _ #[_, _, _, .int .i64 (1 + ((SeD.pn ⟨true, dm, sp, w0, w1⟩ : Nat) : Int))] _ _ := spReady s2' i (HI.out _) okw (by omega) ((j : Int) + 1) 1 (SeD.p ⟨true, dm, sp, w0, w1⟩)
          obtain ⟨hp1, hp2⟩ := HP1.out
          replace hp1 : bits .and .i64 sp 1023 = ((SeD.pn ⟨true, dm, sp, w0, w1⟩ : Nat) : Int) := hp1
          have hp3 : (0 : Int) ≤ ((SeD.pn ⟨true, dm, sp, w0, w1⟩ : Nat) : Int) := Int.natCast_nonneg _
          have hp4 : ((SeD.pn ⟨true, dm, sp, w0, w1⟩ : Nat) : Int) < 1024 := by have : SeD.pn ⟨true, dm, sp, w0, w1⟩ < 1024 := hp2; omega
          clear hp2
          generalize SeD.pn ⟨true, dm, sp, w0, w1⟩ = qq at *
          clear s2'
          go_wp2_with (simp only [hp1])
          refine hq.mono ?_
          rintro e x3 ⟨rfl, y3, s3⟩
          rw [HSS.out] at s3
          have s3' : St o (its.set i (spI A c (seatR z1 (j + 1) ⟨true, dm, sp, w0, w1⟩) y3 u)) x3 := by unfold seatR; rw [ecast]; exact s3
          clear hq hp1 hp3 hp4 s3 c0 c1 c2
          have hA := HA.out _ _ _ s3'
          have c0 := hA.c0
          have c1 := hA.c1
          try simp only at c0 c1
          clear hA
          cases dm with
          | false =>
            as_aux_lemma =>
              rw [HZ0.out] at HZ
              simp only [Bool.false_eq_true, if_false, if_true] at HZ
              clear HZ0
              have HE : Hid _ := s3'
              clear s3' HA
              go_wp2_with fail
              go_roundw
              case rel => exact ⟨j + 1, _, by go_num, by omega, by rw [HZ.out]; exact HE.out⟩
              case measure => simp [intOf]; omega
          | true =>
            as_aux_lemma =>
              rw [HZ0.out] at HZ
              simp only [if_true] at HZ
              clear HZ0
              have hq := spDoom s3' i (HI.out _) okr (by omega) ((j : Int) + 1) 1 8
              clear s3' HA
              go_wp2_with fail
              refine hq.mono ?_
              rintro e x5 ⟨rfl, y5, s5⟩
              rw [HSS.out] at s5
              have HE : Hid (St o (its.set i (spI A c (seatX z1 (j + 1) ⟨true, true, sp, w0, w1⟩) y5 u)) x5) := by show St _ _ _; unfold seatX; rw [ecast]; exact s5
              clear hq s5
              go_wp2
              go_roundw
              case rel => exact ⟨j + 1, _, by go_num, by omega, by rw [HZ.out]; exact HE.out⟩
              case measure => simp [intOf]; omega
      · have h2' : ¬ (j : Int) + 1 < 8 := by omega
        obtain rfl : j = 7 := by omega
        have HE : Hid (St o (its.set i (spI A c (seatsZ z f (min len 7)) v u)) wr) := by
          show St _ _ _
          rw [show min len 7 = 7 by omega]
          exact hS
        clear hS
        go_wp2_with (go_at_call 26; refine hl.mono ?_; rintro e wq ⟨rfl, rfl⟩)
        go_end0
        exact ⟨rfl, _, HE.out⟩
    · have h1' : ¬ (j : Int) < (len : Int) := by omega
      obtain rfl : j = len := by omega
      have HE : Hid (St o (its.set i (spI A c (seatsZ z f (min j 7)) v u)) wr) := by
        show St _ _ _
        rw [show min j 7 = j by omega]
        exact hS
      clear hS hl
      go_wp2
      go_end0
      exact ⟨rfl, _, HE.out⟩
end Go.Proofs.YtgjmamgohidbiabGreat

namespace Go.Proofs.YtgjmamgohidbiabGreat
open Go.RowKit
set_option linter.unusedVariables false
set_option linter.unusedSimpArgs false

theorem set_get {α : Type} {L : List α} {j : Nat} {x : α} (h : L[j]? = some x) : L.set j x = L := by
  obtain ⟨h1, rfl⟩ := List.getElem?_eq_some_iff.1 h
  exact List.set_getElem_self h1
theorem getHead {hs : List Hd} {k : Nat} (hk : k < hs.length) : headAt hs (k : Int) = some (hs.getD k Hd.zero) := by
  rw [headAt_in hk, List.getD_eq_getElem?_getD, List.getElem?_eq_getElem hk]; rfl
/-- Is it the attempt that a victim was? -/
def Hd.isV (h : Hd) (t : Vt) : Bool := (h.sa == 2) && (h.gn == t.ge)
def Hd.doomed (h : Hd) (wy : Int) : Hd := ⟨h.gn, h.sa, h.sp, h.th, true, wy⟩
theorem doom_step {z : SSt} {d : Dm} {x : Vt} {l : List Vt} (hl : d.left = x :: l) (hw : isTh d.wy = true) {k : Nat} (hk : k < z.hs.length) (hx : x.so = (k : Int)) :
    (z.dooms d).hs = (if (z.hs.getD k Hd.zero).isV x then (if (z.hs.getD k Hd.zero).dm then z.hs else z.hs.set k ((z.hs.getD k Hd.zero).doomed d.wy)) else z.hs) ∧ d.next z.hs = ⟨d.wy, l, if (z.hs.getD k Hd.zero).isV x then d.dn ++ [x] else d.dn⟩ ∧ (z.dooms d).s.l.length = z.s.l.length + 1 := by
  have hh := getHead hk
  unfold SSt.dooms Dm.next
  rw [hl]
  simp only [SSt.op, HOp.H, HOp.E, HOp.S, doomOp, hw, if_true, hx, hh, Int.toNat_natCast]
  generalize hg : z.hs.getD k Hd.zero = H
  have hi : z.hs[k]? = some H := by
    rw [← hg, List.getD_eq_getElem?_getD, List.getElem?_eq_getElem hk]; rfl
  refine ⟨?_, ?_, by simp [Mt.note]⟩
  · unfold Hd.isV
    split
    · split
      · exact set_get hi
      · rfl
    · rfl
  · unfold Hd.isV
    split <;> simp_all
def dzS (z : SSt) (d : Dm) : Nat → SSt × Dm
  | 0 => (z, d)
  | j + 1 => ((dzS z d j).1.dooms (dzS z d j).2, (dzS z d j).2.next (dzS z d j).1.hs)
section
variable {z : SSt} {d : Dm} {c : Cfg} {n : Nat}
theorem dzS_ok (h : z.ok c n) (j : Nat) : (dzS z d j).1.ok c (n + j) := by
  induction j with
  | zero => exact h
  | succ j ih => exact ih.dooms _
theorem dzS_ws (j : Nat) : (dzS z d j).1.ws = z.ws := by
  induction j with
  | zero => rfl
  | succ j ih => exact (SSt.dooms_ws _ _).trans ih
theorem Dm.next_left (d : Dm) (hs : List Hd) : (d.next hs).left = d.left.tail ∧ (d.next hs).wy = d.wy ∧ (d.next hs).dn.length ≤ d.dn.length + 1 := by
  unfold Dm.next
  split
  · rename_i h; simp [h]
  · rename_i t l h
    refine ⟨by simp [h], rfl, ?_⟩
    simp only
    split <;> simp
theorem dzS_left (j : Nat) : (dzS z d j).2.left = d.left.drop j ∧ (dzS z d j).2.wy = d.wy ∧ (dzS z d j).2.dn.length ≤ d.dn.length + j := by
  induction j with
  | zero => exact ⟨rfl, rfl, Nat.le_refl _⟩
  | succ j ih =>
    obtain ⟨a, b, e⟩ := ih
    obtain ⟨a', b', e'⟩ := Dm.next_left (dzS z d j).2 (dzS z d j).1.hs
    refine ⟨?_, ?_, ?_⟩
    · show ((dzS z d j).2.next _).left = _
      rw [a', a, List.tail_drop]
    · show ((dzS z d j).2.next _).wy = _
      rw [b', b]
    · show ((dzS z d j).2.next _).dn.length ≤ _
      omega
theorem dzS_log (hw : isTh d.wy = true) (h : z.ok c n) (ha : allIn z.hs.length d.left) (j : Nat) (hj : j ≤ d.left.length) : j ≤ (dzS z d j).1.s.l.length := by
  induction j with
  | zero => exact Nat.zero_le _
  | succ j ih =>
    obtain ⟨a, b, _⟩ := dzS_left (z := z) (d := d) j
    have hj' : j < d.left.length := by omega
    have hlen : (dzS z d j).1.hs.length = z.hs.length := by
      have h1 := (dzS_ok (d := d) h j).hl
      have h2 := h.hl
      omega
    have hin := ha j hj'
    simp only [inT, Bool.and_eq_true, decide_eq_true_eq] at hin
    obtain ⟨k, hk⟩ := Int.eq_ofNat_of_zero_le hin.1
    have := (doom_step (z := (dzS z d j).1) (d := (dzS z d j).2) (x := d.left[j]) (l := d.left.drop (j + 1)) (by rw [a]; exact List.drop_eq_getElem_cons hj') (by rw [b]; exact hw) (k := k) (by rw [hlen]; omega) hk).2.2
    show j + 1 ≤ ((dzS z d j).1.dooms (dzS z d j).2).s.l.length
    have := ih (by omega)
    omega
end
theorem guardSl (x y : Operand) (xs ys : Array Value) (w : World) : (eqGuard .neq 65 x y (.agg xs) (.agg ys)).run Tryz.prog w = .ok () w := by kernel_rfl
def neSlOp (x y : Operand) (a b : Value) : Sem Next := do pure (.value (← (do eqGuard .neq 65 x y a b; binOp .neq 65 a b)))
theorem exec_neSl (ρ : Operand → Value) (dst : Option Tmp) (x y : Operand) (ty : TypeId) (pos : String) (after : Array Edge) (guard : Option (Nat × Bool)) :
    execOp ρ { dst, op := .binOp .neq 65 x y 65, type := ty, pos, after, guard } = neSlOp x y (ρ x) (ρ y) := rfl
set_option maxRecDepth 100000 in
theorem run_neSl (x y : Operand) (a b c e : Int) (f : Bool) (g u v : Int) (w : World) : (neSlOp x y (.agg #[.int .i64 a, .int .i64 b, .int .i64 c, .int .i64 e, .bool f, .int .i64 g, .int .u64 u, .int .u64 v]) (.agg #[.int .i64 a, .int .i64 b, .int .i64 c, .int .i64 e, .bool f, .int .i64 g, .int .u64 u, .int .u64 v])).run Tryz.prog w = .ok (.value (.bool false)) w := by
  simp only [neSlOp, Sem.run_bind, Sem.run_pure, guardSl, eqSlot, Result.andThen_ok]
/-- A head is written over in such a list. -/
theorem slot_head {hs : List Hd} {ws : List Int} (e : ws.length = hs.length * 2) {k : Nat} (hk : k < hs.length) (h : Hd) :
    ((((((slCells (slots hs ws)).set (k * 8) (.int .i64 h.gn)).set (k * 8 + 1) (.int .i64 h.sa)).set (k * 8 + 2) (.int .i64 h.sp)).set (k * 8 + 3) (.int .i64 h.th)).set (k * 8 + 4) (.bool h.dm)).set (k * 8 + 5) (.int .i64 h.wy) = slCells (slots (hs.set k h) ws) := by
  have hl := slots_length hs ws e
  have hs' := slots_at hs ws e k hk
  have hkk : k < (slots hs ws).length := by omega
  have hel : (slots hs ws)[k] = mkSl hs[k] (ws.getD (k * 2) 0) (ws.getD (k * 2 + 1) 0) := by
    rw [List.getElem?_eq_getElem hkk] at hs'
    exact Option.some.inj hs'
  obtain ⟨_, _, _, _, _, _, a6, a7⟩ := slCells_at (slots hs ws) k hkk
  rw [hel] at a6 a7
  rw [slots_head hs ws e k hk h, ← slCells_set (slots hs ws) (mkSl h (ws.getD (k * 2) 0) (ws.getD (k * 2 + 1) 0)) k hkk]
  generalize slCells (slots hs ws) = L at *
  show _ = ((((((((L.set (k * 8) (.int .i64 h.gn)).set (k * 8 + 1) (.int .i64 h.sa)).set (k * 8 + 2) (.int .i64 h.sp)).set (k * 8 + 3) (.int .i64 h.th)).set (k * 8 + 4) (.bool h.dm)).set (k * 8 + 5) (.int .i64 h.wy)).set (k * 8 + 6) (.int .u64 (ws.getD (k * 2) 0))).set (k * 8 + 7) (.int .u64 (ws.getD (k * 2 + 1) 0)))
  have b6 : (((((((L.set (k * 8) (.int .i64 h.gn)).set (k * 8 + 1) (.int .i64 h.sa)).set (k * 8 + 2) (.int .i64 h.sp)).set (k * 8 + 3) (.int .i64 h.th)).set (k * 8 + 4) (.bool h.dm)).set (k * 8 + 5) (.int .i64 h.wy)))[k * 8 + 6]? = some (.int .u64 (ws.getD (k * 2) 0)) := by
    rw [List.getElem?_set_ne (by omega), List.getElem?_set_ne (by omega), List.getElem?_set_ne (by omega), List.getElem?_set_ne (by omega), List.getElem?_set_ne (by omega), List.getElem?_set_ne (by omega)]
    exact a6
  have b7 : (((((((L.set (k * 8) (.int .i64 h.gn)).set (k * 8 + 1) (.int .i64 h.sa)).set (k * 8 + 2) (.int .i64 h.sp)).set (k * 8 + 3) (.int .i64 h.th)).set (k * 8 + 4) (.bool h.dm)).set (k * 8 + 5) (.int .i64 h.wy)))[k * 8 + 7]? = some (.int .u64 (ws.getD (k * 2 + 1) 0)) := by
    rw [List.getElem?_set_ne (by omega), List.getElem?_set_ne (by omega), List.getElem?_set_ne (by omega), List.getElem?_set_ne (by omega), List.getElem?_set_ne (by omega), List.getElem?_set_ne (by omega)]
    exact a7
  rw [set_get b6, set_get b7]
/-- The same in memory. -/
theorem St.slotHead {o w : World} {its : List It} (h : St o its w) (i : Nat) {g cap : Nat} {hs : List Hd} {ws : List Int} (hi : its[i]? = some (ownI 65 8 (.slice (some ⟨g, 0, none⟩) hs.length cap) hs.length (slCells (slots hs ws)))) (e : ws.length = hs.length * 2) {k : Nat} (hk : k < hs.length) (x : Hd) :
    St o (its.set i (ownI 65 8 (.slice (some ⟨g, 0, none⟩) hs.length cap) hs.length (slCells (slots (hs.set k x) ws)))) ((((((w.setCell ⟨g, k * 8, none⟩ (.int .i64 x.gn)).setCell ⟨g, k * 8 + 1, none⟩ (.int .i64 x.sa)).setCell ⟨g, k * 8 + 2, none⟩ (.int .i64 x.sp)).setCell ⟨g, k * 8 + 3, none⟩ (.int .i64 x.th)).setCell ⟨g, k * 8 + 4, none⟩ (.bool x.dm)).setCell ⟨g, k * 8 + 5, none⟩ (.int .i64 x.wy)) := by
  have a1 := h.ownSet i hi (k * 8) (by omega) (.int .i64 x.gn)
  have a2 := a1.ownSet i (set_self hi) (k * 8 + 1) (by omega) (.int .i64 x.sa)
  rw [set_same] at a2
  have a3 := a2.ownSet i (set_self hi) (k * 8 + 2) (by omega) (.int .i64 x.sp)
  rw [set_same] at a3
  have a4 := a3.ownSet i (set_self hi) (k * 8 + 3) (by omega) (.int .i64 x.th)
  rw [set_same] at a4
  have a5 := a4.ownSet i (set_self hi) (k * 8 + 4) (by omega) (.bool x.dm)
  rw [set_same] at a5
  have a6 := a5.ownSet i (set_self hi) (k * 8 + 5) (by omega) (.int .i64 x.wy)
  rw [set_same, slot_head e hk x] at a6
  exact a6
set_option maxRecDepth 100000 in
theorem neVt (a : Int) (b : Int) (c : Int) (d : Int) (w : World) : (binOp .neq 130 (.agg #[.int .i64 a, .int .i64 b, .int .i64 c, .int .i64 d]) (.agg #[.int .i64 a, .int .i64 b, .int .i64 c, .int .i64 d])).run Tryz.prog w = .ok (.bool false) w := by
  rw [run_neq_struct, run_equalIn_struct w 9999 130 _ _ (by kernel_rfl) (by kernel_rfl)]
  have hi0 : ∀ (x : Int) (w : World), (Op.equalIn 9999 3 (.int .i64 x) (.int .i64 x)).run Tryz.prog w = .ok (x == x) w := fun x w => run_equalIn_int w 9998 3 .i64 .i64 x x Tryz.underlying3
  have p0 : ∀ w, (part 3 #[.int .i64 a, .int .i64 b, .int .i64 c, .int .i64 d] 0).run Tryz.prog w = .ok (.int .i64 a) w := fun w => run_part_plain (P := Tryz.prog) w (by kernel_rfl) rfl
  have p1 : ∀ w, (part 3 #[.int .i64 a, .int .i64 b, .int .i64 c, .int .i64 d] 1).run Tryz.prog w = .ok (.int .i64 b) w := fun w => run_part_plain (P := Tryz.prog) w (by kernel_rfl) rfl
  have p2 : ∀ w, (part 3 #[.int .i64 a, .int .i64 b, .int .i64 c, .int .i64 d] 2).run Tryz.prog w = .ok (.int .i64 c) w := fun w => run_part_plain (P := Tryz.prog) w (by kernel_rfl) rfl
  have p3 : ∀ w, (part 3 #[.int .i64 a, .int .i64 b, .int .i64 c, .int .i64 d] 3).run Tryz.prog w = .ok (.int .i64 d) w := fun w => run_part_plain (P := Tryz.prog) w (by kernel_rfl) rfl
  simp [Program.fieldsOf, Tryz.underlying130, Op.eqFields, Sem.run_bind, p0, p1, p2, p3, hi0]

def costOf (hs : List Hd) (s : Nat) : Nat := if (nowAt hs s).lives then 3 else 1
def stepsOf (hs : List Hd) : List Nat → Nat
  | [] => 0
  | s :: l => costOf hs s + stepsOf hs l
theorem stepsOf_append (hs : List Hd) (a b : List Nat) : stepsOf hs (a ++ b) = stepsOf hs a + stepsOf hs b := by
  induction a with
  | nil => simp [stepsOf]
  | cons s l ih => simp [stepsOf, ih]; omega
theorem stepsOf_le (hs : List Hd) (a : List Nat) : stepsOf hs a ≤ 3 * a.length := by
  induction a with
  | nil => simp [stepsOf]
  | cons s l ih =>
    have : costOf hs s ≤ 3 := by unfold costOf; split <;> omega
    simp [stepsOf]; omega
def sgAt (hs : List Hd) (ws : List Int) (s : Nat) : Sg := ⟨(wordR ws hs.length s 0).toNat, (wordR ws hs.length s 1).toNat⟩
def vicOf (hs : List Hd) (s : Nat) : Vt := ⟨s, (nowAt hs s).gn, (nowAt hs s).sp, (nowAt hs s).th⟩
def isVic (hs : List Hd) (ws : List Int) (wr : Sg) (s : Nat) : Bool := (nowAt hs s).lives && (sgAt hs ws s).meets wr
def wantOf (hs : List Hd) (ws : List Int) (wr : Sg) (l : List Nat) : List Vt := (l.filter (isVic hs ws wr)).map (vicOf hs)
theorem wantOf_append (hs : List Hd) (ws : List Int) (wr : Sg) (a b : List Nat) : wantOf hs ws wr (a ++ b) = wantOf hs ws wr a ++ wantOf hs ws wr b := by simp [wantOf]
def kS (z : SSt) (k : Lk) : Nat → SSt × Lk
  | 0 => (z, k)
  | j + 1 => ((kS z k j).1.looks (kS z k j).2, (kS z k j).2.next (kS z k j).1)
section
variable {z : SSt} {k : Lk} {c : Cfg} {n : Nat}
theorem kS_hs (j : Nat) : (kS z k j).1.hs = z.hs ∧ (kS z k j).1.ws = z.ws := by
  induction j with
  | zero => exact ⟨rfl, rfl⟩
  | succ j ih => exact ⟨(SSt.looks_hs _ _).trans ih.1, (SSt.looks_ws _ _).trans ih.2⟩
theorem kS_ok (h : z.ok c n) (j : Nat) : (kS z k j).1.ok c (n + j) := by
  induction j with
  | zero => exact h
  | succ j ih => exact ih.looks _
theorem kS_fit (h : k.fit) (hw : WsOk z.ws) (j : Nat) : (kS z k j).2.fit := by
  induction j with
  | zero => exact h
  | succ j ih => exact ih.next (by rw [(kS_hs j).2]; exact hw)
theorem kS_next (j : Nat) : (kS z k (j + 1)).2 = (kS z k j).2.next (kS z k j).1 := rfl
theorem next_of {q : Lk} {y : SSt} (h1 : y.hs = z.hs) (h2 : y.ws = z.ws) : q.next y = q.next z := by
  unfold Lk.next
  rw [h1, h2]
theorem kS_run (l : List Nat) : ∀ (j0 : Nat) (wr : Sg) (vs : List Vt), (kS z k j0).2 = ⟨wr, l, false, Vt.zero, [], vs⟩ →
    (∀ i, i < stepsOf z.hs l → (kS z k (j0 + i)).2.left ≠ []) ∧ (kS z k (j0 + stepsOf z.hs l)).2 = ⟨wr, [], false, Vt.zero, [], vs ++ wantOf z.hs z.ws wr l⟩ := by
  induction l with
  | nil =>
    intro j0 wr vs h
    refine ⟨fun i hi => by simp [stepsOf] at hi, ?_⟩
    simp [stepsOf, wantOf, h]
  | cons s l ih =>
    intro j0 wr vs h
    have hh := kS_hs (z := z) (k := k)
    have n1 : (kS z k (j0 + 1)).2 = (⟨wr, s :: l, false, Vt.zero, [], vs⟩ : Lk).next z := by
      rw [kS_next, h, next_of (hh j0).1 (hh j0).2]
    cases hl : (nowAt z.hs s).lives with
    | false =>
      have n1' : (kS z k (j0 + 1)).2 = ⟨wr, l, false, Vt.zero, [], vs⟩ := by
        rw [n1]; simp [Lk.next, Lk.head, hl, Lk.pass]
      obtain ⟨a, b⟩ := ih (j0 + 1) wr vs n1'
      have hc : costOf z.hs s = 1 := by simp [costOf, hl]
      refine ⟨fun i hi => ?_, ?_⟩
      · cases i with
        | zero => rw [Nat.add_zero, h]; simp
        | succ i =>
          have := a i (by simp only [stepsOf, hc] at hi; omega)
          rw [show j0 + (i + 1) = j0 + 1 + i by omega]
          exact this
      · rw [show j0 + stepsOf z.hs (s :: l) = j0 + 1 + stepsOf z.hs l by simp [stepsOf, hc]; omega, b]
        simp [wantOf, isVic, hl]
    | true =>
      have n1' : (kS z k (j0 + 1)).2 = ⟨wr, s :: l, true, vicOf z.hs s, [], vs⟩ := by
        rw [n1]; simp [Lk.next, Lk.head, hl, vicOf]
      have n2 : (kS z k (j0 + 1 + 1)).2 = ⟨wr, s :: l, true, vicOf z.hs s, [(sgAt z.hs z.ws s).lo], vs⟩ := by
        rw [kS_next, n1', next_of (hh _).1 (hh _).2]
        simp [Lk.next, Lk.word, sgAt, vicOf]
      have n3 : (kS z k (j0 + 1 + 1 + 1)).2 = ⟨wr, l, false, Vt.zero, [], if (sgAt z.hs z.ws s).meets wr then vs ++ [vicOf z.hs s] else vs⟩ := by
        rw [kS_next, n2, next_of (hh _).1 (hh _).2]
        simp [Lk.next, Lk.word, Lk.pass, sgAt, vicOf]
        rfl
      obtain ⟨a, b⟩ := ih (j0 + 1 + 1 + 1) wr _ n3
      have hc : costOf z.hs s = 3 := by simp [costOf, hl]
      refine ⟨fun i hi => ?_, ?_⟩
      · match i with
        | 0 => rw [Nat.add_zero, h]; simp
        | 1 => rw [n1']; simp
        | 2 => rw [show j0 + 2 = j0 + 1 + 1 by omega, n2]; simp
        | i + 3 =>
          have := a i (by simp only [stepsOf, hc] at hi; omega)
          rw [show j0 + (i + 3) = j0 + 1 + 1 + 1 + i by omega]
          exact this
      · rw [show j0 + stepsOf z.hs (s :: l) = j0 + 1 + 1 + 1 + stepsOf z.hs l by simp [stepsOf, hc]; omega, b]
        cases hm : (sgAt z.hs z.ws s).meets wr <;> simp [wantOf, isVic, hl, hm]
end
theorem nowAt_in {hs : List Hd} {s : Nat} (h : s < hs.length) : nowAt hs (s : Int) = hs.getD s Hd.zero := by
  unfold nowAt
  rw [getHead h]
  rfl
theorem othersOf_lt {n own s : Nat} (h : s ∈ othersOf n own) : s < n := by
  have := (List.mem_filter.1 h).1
  simpa using this
theorem othersOf_sorted (n own : Nat) : (othersOf n own).Pairwise (· < ·) := List.Pairwise.filter _ List.pairwise_lt_range
/-- The victims of a look, in their order. -/
theorem want_at {hs : List Hd} {ws : List Int} {wr : Sg} {n own : Nat} {j : Nat} (h : j < (wantOf hs ws wr (othersOf n own)).length) :
    ∃ s, s < n ∧ (wantOf hs ws wr (othersOf n own))[j] = vicOf hs s ∧ isVic hs ws wr s = true ∧ ∀ i (hi : i < j), ∀ s', (wantOf hs ws wr (othersOf n own))[i].so = (s' : Nat) → s' ≠ s := by
  unfold wantOf at *
  have hl : j < ((othersOf n own).filter (isVic hs ws wr)).length := by simpa using h
  have hm := List.getElem_mem hl
  refine ⟨((othersOf n own).filter (isVic hs ws wr))[j], othersOf_lt (List.mem_filter.1 hm).1, by simp, (List.mem_filter.1 hm).2, fun i hi s' e => ?_⟩
  have hp := ((othersOf_sorted n own).filter (isVic hs ws wr))
  have := (List.pairwise_iff_getElem.1 hp) i j (by omega) hl hi
  simp [vicOf] at e
  omega
/-- They are doomed one behind the other. -/
theorem doom_all {z : SSt} {c : Cfg} {n : Nat} (hok : z.ok c n) {wr : Sg} {own : Nat} {wy : Int} (hw : isTh wy = true) (j : Nat) (hj : j ≤ (wantOf z.hs z.ws wr (othersOf z.hs.length own)).length) :
    (dzS z ⟨wy, wantOf z.hs z.ws wr (othersOf z.hs.length own), []⟩ j).2.dn = (wantOf z.hs z.ws wr (othersOf z.hs.length own)).take j ∧
    (∀ s : Nat, (∀ i (hi : i < j), (wantOf z.hs z.ws wr (othersOf z.hs.length own))[i].so ≠ (s : Int)) → (dzS z ⟨wy, wantOf z.hs z.ws wr (othersOf z.hs.length own), []⟩ j).1.hs[s]? = z.hs[s]?) := by
  induction j with
  | zero => exact ⟨rfl, fun _ _ => rfl⟩
  | succ j ih =>
    obtain ⟨a, b⟩ := ih (by omega)
    have hj' : j < (wantOf z.hs z.ws wr (othersOf z.hs.length own)).length := by omega
    obtain ⟨s, s1, s2, s3, s4⟩ := want_at hj'
    obtain ⟨l1, l2, _⟩ := dzS_left (z := z) (d := ⟨wy, wantOf z.hs z.ws wr (othersOf z.hs.length own), []⟩) j
    have hlen : (dzS z ⟨wy, wantOf z.hs z.ws wr (othersOf z.hs.length own), []⟩ j).1.hs.length = z.hs.length := by
      have h1 := (dzS_ok (d := ⟨wy, wantOf z.hs z.ws wr (othersOf z.hs.length own), []⟩) hok j).hl
      have h2 := hok.hl
      omega
    have hsame := b s (fun i hi e => by
      exact s4 i hi s e rfl)
    have hcons : (dzS z ⟨wy, wantOf z.hs z.ws wr (othersOf z.hs.length own), []⟩ j).2.left = vicOf z.hs s :: (wantOf z.hs z.ws wr (othersOf z.hs.length own)).drop (j + 1) := by
      rw [l1]
      show List.drop j _ = _
      rw [List.drop_eq_getElem_cons hj', s2]
    have hst := doom_step (z := (dzS z ⟨wy, wantOf z.hs z.ws wr (othersOf z.hs.length own), []⟩ j).1) hcons (by rw [l2]; exact hw) (k := s) (by omega) rfl
    have hg : (dzS z ⟨wy, wantOf z.hs z.ws wr (othersOf z.hs.length own), []⟩ j).1.hs.getD s Hd.zero = nowAt z.hs s := by
      rw [nowAt_in s1, List.getD_eq_getElem?_getD, List.getD_eq_getElem?_getD, hsame]
    rw [hg] at hst
    have hv : (nowAt z.hs s).isV (vicOf z.hs s) = true := by
      have : (nowAt z.hs s).lives = true := by simp only [isVic, Bool.and_eq_true] at s3; exact s3.1
      simp only [Hd.lives, Bool.and_eq_true] at this
      simp [Hd.isV, vicOf, this.1]
    have hd : (nowAt z.hs s).dm = false := by
      have : (nowAt z.hs s).lives = true := by simp only [isVic, Bool.and_eq_true] at s3; exact s3.1
      simp only [Hd.lives, Bool.and_eq_true, Bool.not_eq_true'] at this
      exact this.2
    rw [hv, hd] at hst
    simp only [if_true, Bool.false_eq_true, if_false] at hst
    obtain ⟨t1, t2, _⟩ := hst
    refine ⟨?_, fun s' hs' => ?_⟩
    · show ((dzS z ⟨wy, wantOf z.hs z.ws wr (othersOf z.hs.length own), []⟩ j).2.next _).dn = _
      rw [t2]
      show (dzS z ⟨wy, wantOf z.hs z.ws wr (othersOf z.hs.length own), []⟩ j).2.dn ++ [vicOf z.hs s] = _
      rw [a, List.take_succ_eq_append_getElem hj', s2]
    · show (SSt.dooms _ _).hs[s']? = _
      rw [t1]
      have hne : s ≠ s' := by
        intro e
        have := hs' j (by omega)
        rw [s2] at this
        simp [vicOf, e] at this
      rw [List.getElem?_set_ne hne]
      exact b s' (fun i hi => hs' i (by omega))
theorem doom_round {z : SSt} {c : Cfg} {n : Nat} (hok : z.ok c n) {wr : Sg} {own : Nat} {wy : Int} (hw : isTh wy = true) {j : Nat} (hj : j < (wantOf z.hs z.ws wr (othersOf z.hs.length own)).length) :
    ∃ s : Nat, s < z.hs.length ∧ (wantOf z.hs z.ws wr (othersOf z.hs.length own))[j].so = (s : Int) ∧ (dzS z ⟨wy, wantOf z.hs z.ws wr (othersOf z.hs.length own), []⟩ j).2.left ≠ [] ∧ (dzS z ⟨wy, wantOf z.hs z.ws wr (othersOf z.hs.length own), []⟩ (j + 1)).1.hs = (dzS z ⟨wy, wantOf z.hs z.ws wr (othersOf z.hs.length own), []⟩ j).1.hs.set s (((dzS z ⟨wy, wantOf z.hs z.ws wr (othersOf z.hs.length own), []⟩ j).1.hs.getD s Hd.zero).doomed wy) := by
  obtain ⟨a, b⟩ := doom_all hok (wr := wr) (own := own) hw j (by omega)
  obtain ⟨s, s1, s2, s3, s4⟩ := want_at hj
  obtain ⟨l1, l2, _⟩ := dzS_left (z := z) (d := ⟨wy, wantOf z.hs z.ws wr (othersOf z.hs.length own), []⟩) j
  have hlen : (dzS z ⟨wy, wantOf z.hs z.ws wr (othersOf z.hs.length own), []⟩ j).1.hs.length = z.hs.length := by
    have h1 := (dzS_ok (d := ⟨wy, wantOf z.hs z.ws wr (othersOf z.hs.length own), []⟩) hok j).hl
    have h2 := hok.hl
    omega
  have hsame := b s (fun i hi e => s4 i hi s e rfl)
  have hcons : (dzS z ⟨wy, wantOf z.hs z.ws wr (othersOf z.hs.length own), []⟩ j).2.left = vicOf z.hs s :: (wantOf z.hs z.ws wr (othersOf z.hs.length own)).drop (j + 1) := by
    rw [l1]
    show List.drop j _ = _
    rw [List.drop_eq_getElem_cons hj, s2]
  have hst := doom_step (z := (dzS z ⟨wy, wantOf z.hs z.ws wr (othersOf z.hs.length own), []⟩ j).1) hcons (by rw [l2]; exact hw) (k := s) (by omega) rfl
  have hg : (dzS z ⟨wy, wantOf z.hs z.ws wr (othersOf z.hs.length own), []⟩ j).1.hs.getD s Hd.zero = nowAt z.hs s := by
    rw [nowAt_in s1, List.getD_eq_getElem?_getD, List.getD_eq_getElem?_getD, hsame]
  have hli : (nowAt z.hs s).lives = true := by simp only [isVic, Bool.and_eq_true] at s3; exact s3.1
  simp only [Hd.lives, Bool.and_eq_true, Bool.not_eq_true'] at hli
  have hv : (nowAt z.hs s).isV (vicOf z.hs s) = true := by simp [Hd.isV, vicOf, hli.1]
  refine ⟨s, s1, by rw [s2]; rfl, by rw [hcons]; exact List.cons_ne_nil _ _, ?_⟩
  have t1 := hst.1
  rw [hg] at t1 ⊢
  rw [hv, hli.2, l2] at t1
  simp only [if_true, Bool.false_eq_true, if_false] at t1
  exact t1
theorem doom_roundW {z : SSt} {c : Cfg} {n : Nat} (hok : z.ok c n) {wr : Sg} {own : Nat} {wy : Int} (hw : isTh wy = true) {WN : List Vt} (hWN : WN = wantOf z.hs z.ws wr (othersOf z.hs.length own)) {j : Nat} (hj : j < WN.length) :
    ∃ s : Nat, s < z.hs.length ∧ WN[j].so = (s : Int) ∧ (dzS z ⟨wy, WN, []⟩ j).2.left ≠ [] ∧ (dzS z ⟨wy, WN, []⟩ (j + 1)).1.hs = (dzS z ⟨wy, WN, []⟩ j).1.hs.set s (((dzS z ⟨wy, WN, []⟩ j).1.hs.getD s Hd.zero).doomed wy) := by
  subst hWN
  exact doom_round hok hw hj
theorem doom_allW {z : SSt} {c : Cfg} {n : Nat} (hok : z.ok c n) {wr : Sg} {own : Nat} {wy : Int} (hw : isTh wy = true) {WN : List Vt} (hWN : WN = wantOf z.hs z.ws wr (othersOf z.hs.length own)) : (dzS z ⟨wy, WN, []⟩ WN.length).2.dn = WN := by
  subst hWN
  rw [(doom_all hok hw _ (Nat.le_refl _)).1, List.take_length]
end Go.Proofs.YtgjmamgohidbiabGreat

namespace Go.Proofs.YtgjmamgohidbiabGreat
open Go.RowKit
set_option linter.unusedVariables false
set_option linter.unusedSimpArgs false
attribute [local go_sem ↓] Go.wp_at_zero Go.wp_at_succ

/-- A slot is doomed in a list of slots. -/
theorem St.slotDoom {o w : World} {its : List It} (h : St o its w) (i : Nat) {g cap : Nat} {hs : List Hd} {ws : List Int} (hi : its[i]? = some (ownI 65 8 (.slice (some ⟨g, 0, none⟩) hs.length cap) hs.length (slCells (slots hs ws)))) (e : ws.length = hs.length * 2) {k : Nat} (hk : k < hs.length) (wy : Int) :
    St o (its.set i (ownI 65 8 (.slice (some ⟨g, 0, none⟩) hs.length cap) hs.length (slCells (slots (hs.set k ((hs.getD k Hd.zero).doomed wy)) ws)))) ((w.setCell ⟨g, k * 8 + 4, none⟩ (.bool true)).setCell ⟨g, k * 8 + 5, none⟩ (.int .i64 wy)) := by
  have a1 := h.ownSet i hi (k * 8 + 4) (by omega) (.bool true)
  have a2 := a1.ownSet i (set_self hi) (k * 8 + 5) (by omega) (.int .i64 wy)
  rw [set_same] at a2
  have hh := slot_head e hk ((hs.getD k Hd.zero).doomed wy)
  obtain ⟨b0, b1, b2, b3, _⟩ := slot_cells h i hi e hk
  have hc : ∀ q, q < hs.length * 8 → ∀ u, w.cell? ⟨g, q, none⟩ = some u → (slCells (slots hs ws))[q]? = some u := fun q hq u hu => by rw [← h.ownCell i hi q hq]; exact hu
  have c0 := hc _ (by omega) _ b0
  have c1 := hc _ (by omega) _ b1
  have c2 := hc _ (by omega) _ b2
  have c3 := hc _ (by omega) _ b3
  have e0 : (slCells (slots hs ws)).set (k * 8) (.int .i64 ((hs.getD k Hd.zero).doomed wy).gn) = slCells (slots hs ws) := set_get c0
  have e1 : (slCells (slots hs ws)).set (k * 8 + 1) (.int .i64 ((hs.getD k Hd.zero).doomed wy).sa) = slCells (slots hs ws) := set_get c1
  have e2 : (slCells (slots hs ws)).set (k * 8 + 2) (.int .i64 ((hs.getD k Hd.zero).doomed wy).sp) = slCells (slots hs ws) := set_get c2
  have e3 : (slCells (slots hs ws)).set (k * 8 + 3) (.int .i64 ((hs.getD k Hd.zero).doomed wy).th) = slCells (slots hs ws) := set_get c3
  rw [e0, e1, e2, e3] at hh
  rw [← hh]
  exact a2
theorem meets_eq (a b c d : Nat) : (⟨a, b⟩ : Sg).meets ⟨c, d⟩ = (decide ((a &&& c) ≠ 0) || decide ((b &&& d) ≠ 0)) := by
  unfold Sg.meets Sg.meet Sg.same Sg.zero
  by_cases h1 : a &&& c = 0 <;> by_cases h2 : b &&& d = 0 <;> simp [h1, h2]
end Go.Proofs.YtgjmamgohidbiabGreat
