/- Programs of transactions as plain data: what a step makes of one. No program is named here. What a program may be; that it stays so. No program is named here. What a step leaves of a program that may be. No program is named here. Numbers of a program are int64's. No program is named here. -/
import Derived.Test.YthbcbjkgjgmegaaGreatTxG
import Derived.Test.YthbcbjkgjgmegaaGreatCdM
import Derived.Test.YthbcbjkgjgmegaaGreatSk
import Derived.Test.YthbcbjkgjgmegaaGreatVfM
namespace Go.Proofs.YthbcbjkgjgmegaaGreat
open Go.RowKit
set_option linter.unusedVariables false
set_option linter.unusedSimpArgs false

/-- What an attempt that fails leaves as it was: place, stack, locals. -/
structure Fm where
  pl : Int
  st : List Int
  lo : List Int
def Fm.zero : Fm := ⟨0, [], List.replicate 8 0⟩
structure Pg where
  fm : Fm
  sm : Int
  tr : Int
  sv : Fm
  hd : List Int
  tx : Tt
  li : List Ins
  td : List Int
  dn : Bool
  er : Int
def Pg.new (th : Int) (l : List Ins) : Pg := ⟨Fm.zero, 0, 0, Fm.zero, [], Tt.new th, l, [], false, 0⟩
def Pg.ph (x : Pg) : Int := x.tx.dg.phase
def Pg.inside (x : Pg) : Bool := x.ph != 0 && x.ph != 1
def Pg.under (x : Pg) : Bool := x.ph != 0 && x.ph != 2
/-- The instruction at its place. -/
def Pg.ins (x : Pg) : Ins := if x.fm.pl < x.li.length then x.li.getD x.fm.pl.toNat Ins.zero else ⟨22, 0⟩
/-- There is no transaction any more. -/
def Pg.gone (x : Pg) : Pg := { x with sm := 0, tr := 0, sv := Fm.zero, hd := [] }
def Pg.ends (x : Pg) (e : Int) : Pg := { x.gone with dn := true, er := e }
def Pg.leave (x : Pg) (a : Int) : Pg := { x.gone with fm := { x.sv with pl := a } }
def Pg.again (x : Pg) : Pg := { x with fm := x.sv, hd := [], tr := x.tr + 1 }
def Pg.next (x : Pg) : Pg := { x with fm := { x.fm with pl := x.fm.pl + 1 } }
def Pg.stack (x : Pg) (l : List Int) : Pg := { x with fm := { x.fm with st := l } }
def Pg.went (x : Pg) : Pg :=
  if x.tx.lo = 2 then (x.stack (dropN x.fm.st 1 ++ [x.tx.lx])).next
  else if x.tx.lo = 3 then (x.stack (dropN x.fm.st 2)).next
  else if x.tx.lo = 4 then { x.gone with td := x.td ++ x.hd }.next
  else x.next
/-- What follows from the operation that has ended. -/
def Pg.follow (x : Pg) : Pg :=
  if x.tx.lo = 5 ∧ x.tx.le = 165 then x.leave (x.li.getD x.fm.pl.toNat Ins.zero).a
  else if x.tx.lo = 5 then x.ends x.tx.le
  else if x.tx.le ≠ 0 then x.again
  else x.went
/-- One step of the operation under way. -/
def Pg.stepped (x : Pg) (c : Cfg) (z : SSt) : Pg := { x with tx := x.tx.next c z }
def Pg.goOn (x : Pg) (c : Cfg) (z : SSt) : Pg := if (x.stepped c z).under then x.stepped c z else (x.stepped c z).follow
/-- An operation was begun, x behind that. -/
def Pg.begun (x : Pg) (c : Cfg) (z : SSt) : Pg := if x.under then x.goOn c z else x.follow
def Pg.begunZ (x : Pg) (c : Cfg) (z : SSt) : SSt := if x.under then z.steps c x.tx else z
def Pg.begunA (x : Pg) (z : SSt) : Int := if x.under then x.tx.ans z else 1
/-- What a step has come to. -/
structure Out where
  x : Pg
  z : SSt
  a : Int
def Pg.began (x : Pg) (c : Cfg) (z : SSt) : Out := ⟨x.begun c z, x.begunZ c z, x.begunA z⟩
/-- It fails by an instruction that was refused. -/
def Pg.fail (x : Pg) (c : Cfg) (z : SSt) (e : Int) : Out :=
  if x.inside then (let y : Pg := { x with tx := x.tx.abort e }; ⟨y.goOn c z, z.steps c y.tx, y.tx.ans z⟩) else ⟨x.ends e, z, 1⟩

/-- The value below k others. -/
def Pg.top (x : Pg) (k : Nat) : Int := topN x.fm.st k
def sumM (op a b : Int) : Int :=
  if op = 7 then wrp (a + b) else if op = 8 then wrp (a - b) else if op = 9 then wrp (a * b) else if op = 10 then modM a b else if op = 11 then ifM (decide (a < b)) else ifM (a == b)
def Pg.drop (x : Pg) (k : Nat) : List Int := dropN x.fm.st k
/-- An instruction that asks the transaction for nothing. -/
def Pg.plain (x : Pg) (i : Ins) : Pg :=
  if i.op = 1 then (x.stack (x.fm.st ++ [i.a])).next
  else if i.op = 2 then (x.stack (x.drop 1)).next
  else if i.op = 3 then (x.stack (x.fm.st ++ [x.top 0])).next
  else if i.op = 4 then (x.stack (x.drop 2 ++ [x.top 0, x.top 1])).next
  else if i.op = 5 then (x.stack (x.fm.st ++ [x.fm.lo.getD i.a.toNat 0])).next
  else if i.op = 6 then ({ x with fm := ⟨x.fm.pl, x.drop 1, x.fm.lo.set i.a.toNat (x.top 0)⟩ } : Pg).next
  else if i.op < 13 then (x.stack (x.drop 2 ++ [sumM i.op (x.top 1) (x.top 0)])).next
  else if i.op = 13 then (x.stack (x.drop 1 ++ [ifM (x.top 0 == 0)])).next
  else if i.op = 14 then { x with fm := { x.fm with pl := i.a } }
  else if i.op = 15 then (if x.top 0 = 0 then { x with fm := ⟨i.a, x.drop 1, x.fm.lo⟩ } else (x.stack (x.drop 1)).next)
  else if x.inside then ({ x.stack (x.drop 1) with hd := x.hd ++ [x.top 0] } : Pg).next
  else ({ x.stack (x.drop 1) with td := x.td ++ [x.top 0] } : Pg).next
/-- What is wrong with an instruction, ahead of all that is asked of cells (0: nothing). -/
def wrongM (op d : Int) (inn : Bool) : Int :=
  if d < (rowOf op).pops ∨ 32 < d - (rowOf op).pops + (rowOf op).pushes then 160
  else if op = 16 ∧ inn = true then 161
  else if (op = 17 ∨ op = 18 ∨ op = 19 ∨ op = 20) ∧ inn = false then 162
  else if op = 22 ∧ inn = true then 164 else 0
/-- A transaction is begun, if there is none. -/
def Pg.starts (x : Pg) (n : Int) : Pg := if x.sm = 0 then { x with sm := n, tr := 0, sv := x.fm, hd := [] } else x
def Pg.cell (x : Pg) (k : Nat) : Int := x.top k
def Pg.refuses (x : Pg) (c : Cfg) (i : Ins) : Int :=
  if wrongM i.op x.fm.st.length x.inside ≠ 0 then wrongM i.op x.fm.st.length x.inside
  else if i.op = 17 ∧ x.tx.readE c (x.cell 0) ≠ 0 then (if x.tx.readE c (x.cell 0) = 2 then 163 else x.tx.readE c (x.cell 0))
  else if i.op = 18 ∧ x.tx.writeE c (x.cell 1) ≠ 0 then (if x.tx.writeE c (x.cell 1) = 2 then 163 else x.tx.writeE c (x.cell 1))
  else 0
def Pg.does (x : Pg) (c : Cfg) (z : SSt) (i : Ins) : Out :=
  if i.op = 16 then (let y := x.starts z.s.st; Pg.began { y with tx := y.tx.begin_ y.sm } c z)
  else if i.op = 17 then Pg.began { x with tx := x.tx.read c (x.cell 0) } c (x.tx.readZ (x.cell 0) z)
  else if i.op = 18 then Pg.began { x with tx := x.tx.write c (x.cell 1) (x.top 0) } c (x.tx.writeZ c (x.cell 1) (x.top 0) z)
  else if i.op = 19 then Pg.began { x with tx := x.tx.commit c z.hs.length } c z
  else if i.op = 20 then Pg.began { x with tx := x.tx.abort 165 } c z
  else if i.op = 22 then ⟨x.ends 0, z, 1⟩
  else ⟨x.plain i, z, 1⟩
def Pg.instruct (x : Pg) (c : Cfg) (z : SSt) : Out :=
  if x.refuses c x.ins ≠ 0 then x.fail c z (x.refuses c x.ins) else x.does c z x.ins
def Pg.step (x : Pg) (c : Cfg) (z : SSt) : Out :=
  if x.dn then ⟨x, z, 4⟩ else if x.under then ⟨x.goOn c z, z.steps c x.tx, x.tx.ans z⟩ else x.instruct c z
end Go.Proofs.YthbcbjkgjgmegaaGreat

namespace Go.Proofs.YthbcbjkgjgmegaaGreat
open Go.RowKit
set_option linter.unusedVariables false
set_option linter.unusedSimpArgs false

/-- What there is beside the transaction. -/
structure Pg.core (x : Pg) (k : Nat) : Prop where
  ck : (checkM x.li).1 = 0
  p0 : 0 ≤ x.fm.pl
  p1 : x.fm.pl ≤ x.li.length
  q0 : 0 ≤ x.sv.pl
  q1 : x.sv.pl ≤ x.li.length
  sl : x.fm.st.length ≤ 32
  ll : x.fm.lo.length = 8
  sl2 : x.sv.st.length ≤ 32
  ll2 : x.sv.lo.length = 8
  m0 : 0 ≤ x.sm
  t0 : 0 ≤ x.tr
  t1 : x.tr ≤ k
  hl : x.hd.length + x.td.length ≤ k
/-- What is under way fits to its place. -/
def Pg.busy (x : Pg) : Prop :=
  match x.tx.dg with
  | .rest => True
  | .act => True
  | .beg _ => x.fm.pl < x.li.length
  | .rd _ => x.fm.pl < x.li.length ∧ 1 ≤ x.fm.st.length
  | .leav => x.fm.pl < x.li.length
  | .com _ => x.fm.pl < x.li.length
  | .abo op e _ => (op = 2 ∧ e ≠ 0) ∨ (op = 5 ∧ e ≠ 0 ∧ (e = 165 → x.fm.pl < x.li.length ∧ (x.li.getD x.fm.pl.toNat Ins.zero).op = 20))
structure Pg.fit (x : Pg) (c : Cfg) (n k : Nat) : Prop where
  tx : x.tx.fit c n k
  co : x.core k
  go : x.ph ≠ 0 → 1 ≤ x.sm
  dn : x.dn = true → x.ph = 0
  bu : x.busy
/-- An operation has ended: what follows from it can be done. -/
structure Fol (x : Pg) : Prop where
  nu : x.under = false
  lv : x.tx.lo = 5 ∨ x.tx.lo = 4 → x.ph = 0
  ab : x.tx.lo = 5 → x.tx.le = 165 → 1 ≤ x.sm ∧ x.fm.pl < x.li.length ∧ (x.li.getD x.fm.pl.toNat Ins.zero).op = 20
  ag : x.tx.lo ≠ 5 → x.tx.le ≠ 0 → 1 ≤ x.sm
  rd : x.tx.lo = 2 → x.tx.le = 0 → 1 ≤ x.fm.st.length
  wt : x.tx.lo = 3 → x.tx.le = 0 → 2 ≤ x.fm.st.length
  pl : x.tx.lo ≠ 5 → x.tx.le = 0 → x.fm.pl < x.li.length
  sm : x.ph ≠ 0 → 1 ≤ x.sm
  dn : x.dn = false
theorem Pg.core.more {x : Pg} {k k' : Nat} (h : x.core k) (hk : k ≤ k') : x.core k' :=
  ⟨h.ck, h.p0, h.p1, h.q0, h.q1, h.sl, h.ll, h.sl2, h.ll2, h.m0, h.t0, by have := h.t1; omega, Nat.le_trans h.hl hk⟩
theorem Pg.fit.more {x : Pg} {c : Cfg} {n k k' : Nat} (h : x.fit c n k) (hk : k ≤ k') : x.fit c n k' := ⟨h.tx.more hk, h.co.more hk, h.go, h.dn, h.bu⟩
theorem wrongAt_of {l : List Ins} (h : (checkM l).1 = 0) {j : Nat} (hj : j < l.length) : wrongAt (l.getD j Ins.zero) l.length = 0 := by
  obtain ⟨_, _, h3⟩ := checkM_all h
  refine h3 _ ?_
  rw [List.getD_eq_getElem?_getD, List.getElem?_eq_getElem hj]
  exact List.getElem_mem hj
theorem may_local {a e : Int} (h : mayB 2 a e = true) : 0 ≤ a ∧ a < 8 := by
  simp [mayB] at h
  omega
/-- What an instruction of a list that may be is. -/
theorem Pg.core.ins {x : Pg} {k : Nat} (h : x.core k) : knownB x.ins.op = true ∧ mayB (rowOf x.ins.op).takes x.ins.a x.li.length = true := by
  unfold Pg.ins
  split
  · rename_i hlt
    have h0 := h.p0
    exact wrongAt_zero (wrongAt_of h.ck (by omega))
  · exact ⟨by decide, by simp [mayB, rowOf, rowsL]⟩
section
variable {x : Pg} {c : Cfg} {n k : Nat}
theorem Pg.core.ends (h : x.core k) (e : Int) : (x.ends e).core k :=
  ⟨h.ck, h.p0, h.p1, Int.le_refl _, Int.natCast_nonneg _, h.sl, h.ll, Nat.zero_le _, rfl, Int.le_refl _, Int.le_refl _, Int.natCast_nonneg _, by have := h.hl; simp only [Pg.ends, Pg.gone, List.length_nil]; omega⟩
theorem Pg.core.leave (h : x.core k) {a : Int} (h0 : 0 ≤ a) (h1 : a ≤ x.li.length) : (x.leave a).core k :=
  ⟨h.ck, h0, h1, Int.le_refl _, Int.natCast_nonneg _, h.sl2, h.ll2, Nat.zero_le _, rfl, Int.le_refl _, Int.le_refl _, Int.natCast_nonneg _, by have := h.hl; simp only [Pg.leave, Pg.gone, List.length_nil]; omega⟩
theorem Pg.core.again (h : x.core k) : x.again.core (k + 1) :=
  ⟨h.ck, h.q0, h.q1, h.q0, h.q1, h.sl2, h.ll2, h.sl2, h.ll2, h.m0, by have := h.t0; simp only [Pg.again]; omega, by have := h.t1; simp only [Pg.again]; push_cast; omega, by have := h.hl; simp only [Pg.again, List.length_nil]; omega⟩
theorem Pg.core.next (h : x.core k) (hp : x.fm.pl < x.li.length) : x.next.core k :=
  ⟨h.ck, by have := h.p0; simp only [Pg.next]; omega, by simp only [Pg.next]; omega, h.q0, h.q1, h.sl, h.ll, h.sl2, h.ll2, h.m0, h.t0, h.t1, h.hl⟩
theorem Pg.core.stack (h : x.core k) {l : List Int} (hl : l.length ≤ 32) : (x.stack l).core k :=
  ⟨h.ck, h.p0, h.p1, h.q0, h.q1, hl, h.ll, h.sl2, h.ll2, h.m0, h.t0, h.t1, h.hl⟩
theorem dropN_len (l : List Int) (k : Nat) : (dropN l k).length = l.length - k := by
  unfold dropN
  rw [List.length_take]
  omega
theorem Pg.core.went (h : x.core k) (f : Fol x) (h5 : x.tx.lo ≠ 5) (h0 : x.tx.le = 0) : x.went.core k := by
  have hp := f.pl h5 h0
  unfold Pg.went
  split
  · rename_i e
    have h1 := f.rd e h0
    have h2 := h.sl
    refine Pg.core.next (h.stack ?_) hp
    rw [List.length_append, dropN_len]
    simp only [List.length_singleton]
    omega
  · split
    · have h2 := h.sl
      refine Pg.core.next (h.stack ?_) hp
      rw [dropN_len]
      omega
    · split
      · refine Pg.core.next ⟨h.ck, h.p0, h.p1, Int.le_refl _, Int.natCast_nonneg _, h.sl, h.ll, Nat.zero_le _, rfl, Int.le_refl _, Int.le_refl _, Int.natCast_nonneg _, ?_⟩ hp
        have := h.hl
        simp only [Pg.gone, List.length_nil, List.length_append]
        omega
      · exact h.next hp
/-- What an abort's operand is. -/
theorem Pg.core.place (h : x.core k) (hp : x.fm.pl < x.li.length) (ho : (x.li.getD x.fm.pl.toNat Ins.zero).op = 20) : 0 ≤ (x.li.getD x.fm.pl.toNat Ins.zero).a ∧ (x.li.getD x.fm.pl.toNat Ins.zero).a ≤ x.li.length := by
  have h0 := h.p0
  have h1 := (wrongAt_zero (wrongAt_of h.ck (j := x.fm.pl.toNat) (by omega))).2
  rw [ho] at h1
  exact may_place h1
theorem follow_tx (x : Pg) : x.follow.tx = x.tx := by
  unfold Pg.follow
  split
  · rfl
  · split
    · rfl
    · split
      · rfl
      · unfold Pg.went
        split
        · rfl
        · split
          · rfl
          · split <;> rfl
theorem follow_li (x : Pg) : x.follow.li = x.li := by
  unfold Pg.follow
  split
  · rfl
  · split
    · rfl
    · split
      · rfl
      · unfold Pg.went
        split
        · rfl
        · split
          · rfl
          · split <;> rfl
theorem idle_of {x : Pg} (h : x.under = false) : x.ph = 0 ∨ x.ph = 2 := by
  simp only [Pg.under, Bool.and_eq_false_iff, bne_eq_false_iff_eq] at h
  exact h
theorem idle_busy {x : Pg} (h : x.under = false) : x.busy := by
  have h := idle_of h
  unfold Pg.busy
  unfold Pg.ph at h
  cases e : x.tx.dg <;> simp only [e, Dg.phase] at h ⊢ <;> omega
theorem follow_fit (h : x.core k) (f : Fol x) (ht : x.tx.fit c n (k + 1)) : x.follow.fit c n (k + 1) := by
  have hu : x.follow.under = false := by
    have : x.follow.under = x.under := by unfold Pg.under Pg.ph; rw [follow_tx]
    rw [this]; exact f.nu
  have hph : x.follow.ph = x.ph := by unfold Pg.ph; rw [follow_tx]
  refine ⟨by rw [follow_tx]; exact ht, ?_, ?_, ?_, idle_busy hu⟩
  · unfold Pg.follow
    split
    · rename_i e
      obtain ⟨a1, a2, a3⟩ := f.ab e.1 e.2
      obtain ⟨b1, b2⟩ := h.place a2 a3
      exact (h.leave b1 b2).more (by omega)
    · split
      · exact (h.ends _).more (by omega)
      · split
        · exact h.again
        · rename_i e1 e2 e3
          exact (h.went f e2 (by omega)).more (by omega)
  · rw [hph]
    intro hp
    unfold Pg.follow
    split
    · rename_i e
      exact absurd (f.lv (.inl e.1)) hp
    · split
      · rename_i e
        exact absurd (f.lv (.inl e)) hp
      · split
        · exact f.sm hp
        · unfold Pg.went
          split
          · exact f.sm hp
          · split
            · exact f.sm hp
            · split
              · rename_i e
                exact absurd (f.lv (.inr e)) hp
              · exact f.sm hp
  · rw [hph]
    intro hd
    unfold Pg.follow at hd
    split at hd
    · rename_i e
      exact f.lv (.inl e.1)
    · split at hd
      · rename_i e
        exact f.lv (.inl e)
      · split at hd
        · exact absurd hd (by simp [Pg.again, f.dn])
        · unfold Pg.went at hd
          have := f.dn
          split at hd
          · exact absurd hd (by simp [Pg.stack, Pg.next, this])
          · split at hd
            · exact absurd hd (by simp [Pg.stack, Pg.next, this])
            · split at hd
              · exact absurd hd (by simp [Pg.gone, Pg.next, this])
              · exact absurd hd (by simp [Pg.next, this])
/-- One step of the operation under way: it goes on, or what follows can be done. -/
theorem Pg.fit.stepped (h : x.fit c n k) (hu : x.under = true) {z : SSt} (hz : z.hs.length = n) (hw : WsOk z.ws) :
    ((x.stepped c z).under = true → (x.stepped c z).fit c n (k + 1)) ∧ ((x.stepped c z).under = false → Fol (x.stepped c z)) := by
  have ht := h.tx.next hz hw (c := c)
  have hp : x.ph ≠ 0 := by
    intro e
    simp [Pg.under, e] at hu
  have hm := h.go hp
  have hd : x.dn = false := by
    cases e : x.dn
    · rfl
    · exact absurd (h.dn e) hp
  have hb := h.bu
  unfold Pg.busy at hb
  have hco : (x.stepped c z).core (k + 1) := ⟨h.co.ck, h.co.p0, h.co.p1, h.co.q0, h.co.q1, h.co.sl, h.co.ll, h.co.sl2, h.co.ll2, h.co.m0, h.co.t0, by have := h.co.t1; show x.tr ≤ _; push_cast; omega, by have := h.co.hl; show x.hd.length + x.td.length ≤ _; omega⟩
  have key : ∀ t' : Tt, x.tx.next c z = t' → t'.fit c n (k + 1) := fun t' e => e ▸ ht
  have mk : ∀ t' : Tt, x.tx.next c z = t' → (t'.dg.phase ≠ 0 → (({ x with tx := t' } : Pg).busy)) → ((x.stepped c z).under = true → (x.stepped c z).fit c n (k + 1)) := by
    intro t' e hb' hu'
    have e2 : x.stepped c z = { x with tx := t' } := by unfold Pg.stepped; rw [e]
    have hp' : (x.stepped c z).ph ≠ 0 := by intro e; simp [Pg.under, e] at hu'
    refine ⟨?_, hco, fun _ => hm, fun e => ?_, ?_⟩
    · rw [e2]; exact key _ e
    · exact absurd (show x.dn = true from e) (by rw [hd]; decide)
    · rw [e2]
      refine hb' ?_
      rw [e2] at hp'
      exact hp'
  cases e : x.tx.dg with
  | rest => simp [Pg.under, Pg.ph, e, Dg.phase] at hu
  | act => simp [Pg.under, Pg.ph, e, Dg.phase] at hu
  | beg b =>
    rw [e] at hb
    have en : x.tx.next c z = x.tx.begun (b.next z) := by unfold Tt.next; rw [e]
    refine ⟨mk _ en (fun _ => ?_), fun hu' => ?_⟩
    · unfold Tt.begun
      split
      · exact hb
      · split <;> exact trivial
    · have es : x.stepped c z = { x with tx := x.tx.begun (b.next z) } := by unfold Pg.stepped; rw [en]
      have h1 : (x.tx.begun (b.next z)).lo = 1 := by
        rw [es] at hu'
        unfold Tt.begun at hu' ⊢
        split
        · rename_i h3
          rw [if_pos h3] at hu'
          simp [Pg.under, Pg.ph, Dg.phase] at hu'
        · split <;> rfl
      rw [es]
      refine ⟨by rw [← es]; exact hu', fun q => ?_, fun q => ?_, fun _ _ => hm, fun q => ?_, fun q => ?_, fun _ _ => hb, fun _ => hm, hd⟩
      · simp only at q; omega
      · simp only at q; omega
      · simp only at q; omega
      · simp only at q; omega
  | rd r =>
    rw [e] at hb
    have en : x.tx.next c z = x.tx.readOn (r.next z) := by unfold Tt.next; rw [e]
    refine ⟨mk _ en (fun _ => ?_), fun hu' => ?_⟩
    · unfold Tt.readOn
      split
      · exact hb
      · split
        · exact trivial
        · rename_i h3
          exact .inl ⟨rfl, h3⟩
    · have es : x.stepped c z = { x with tx := x.tx.readOn (r.next z) } := by unfold Pg.stepped; rw [en]
      have h1 : (x.tx.readOn (r.next z)).lo = 2 ∧ (x.tx.readOn (r.next z)).le = 0 := by
        rw [es] at hu'
        unfold Tt.readOn at hu' ⊢
        split
        · rename_i h3
          rw [if_pos h3] at hu'
          simp [Pg.under, Pg.ph, Dg.phase] at hu'
        · split
          · exact ⟨rfl, rfl⟩
          · rename_i h3 h4
            rw [if_neg h3, if_neg h4] at hu'
            simp [Pg.under, Pg.ph, Dg.phase] at hu'
      rw [es]
      refine ⟨by rw [← es]; exact hu', fun q => ?_, fun q => ?_, fun _ _ => hm, fun _ _ => hb.2, fun q => ?_, fun _ _ => hb.1, fun _ => hm, hd⟩
      · simp only at q; omega
      · simp only at q; omega
      · simp only at q; omega
  | leav =>
    rw [e] at hb
    have en : x.tx.next c z = { x.tx with dg := .rest, lo := 4, le := 0, lx := 0 } := by unfold Tt.next; rw [e]
    refine ⟨mk _ en (fun q => absurd rfl q), fun hu' => ?_⟩
    have es : x.stepped c z = { x with tx := { x.tx with dg := .rest, lo := 4, le := 0, lx := 0 } } := by unfold Pg.stepped; rw [en]
    rw [es]
    exact ⟨rfl, fun _ => rfl, fun q => by simp at q, fun _ q => absurd rfl q, fun q => by simp at q, fun q => by simp at q, fun _ _ => hb, fun q => absurd rfl q, hd⟩
  | com y =>
    rw [e] at hb
    have en : ((x.tx.next c z).dg.phase = 0 ∧ (x.tx.next c z).lo = 4) ∨ ∃ y', (x.tx.next c z).dg = .com y' := by
      unfold Tt.next
      rw [e]
      simp only
      unfold Tt.comOn
      split
      · exact .inl ⟨rfl, rfl⟩
      · exact .inr ⟨_, rfl⟩
    refine ⟨mk _ rfl (fun q => ?_), fun hu' => ?_⟩
    · rcases en with ⟨q', _⟩ | ⟨y', q'⟩
      · exact absurd q' q
      · unfold Pg.busy
        simp only [q']
        exact hb
    · rcases en with ⟨q1, q2⟩ | ⟨y', q'⟩
      · refine ⟨hu', fun _ => q1, fun q => ?_, fun _ _ => hm, fun q => ?_, fun q => ?_, fun _ _ => hb, fun q => absurd q1 q, hd⟩
        · have q : (x.tx.next c z).lo = 5 := q
          omega
        · have q : (x.tx.next c z).lo = 2 := q
          omega
        · have q : (x.tx.next c z).lo = 3 := q
          omega
      · have : (x.stepped c z).ph = 4 := by
          show (x.tx.next c z).dg.phase = 4
          rw [q']
          rfl
        simp [Pg.under, this] at hu'
  | abo op er xv =>
    rw [e] at hb
    have en : x.tx.next c z = { x.tx with dg := .rest, lo := op, le := er, lx := xv } := by unfold Tt.next; rw [e]
    refine ⟨mk _ en (fun q => absurd rfl q), fun hu' => ?_⟩
    have es : x.stepped c z = { x with tx := { x.tx with dg := .rest, lo := op, le := er, lx := xv } } := by unfold Pg.stepped; rw [en]
    rw [es]
    simp only at hb
    refine ⟨rfl, fun _ => rfl, fun q r => ⟨hm, ?_⟩, fun _ _ => hm, fun q r => ?_, fun q r => ?_, fun q r => ?_, fun q => absurd rfl q, hd⟩
    · simp only at q r
      rcases hb with hb | hb
      · omega
      · exact hb.2.2 r
    · simp only at q r
      rcases hb with hb | hb
      · exact absurd r hb.2
      · exact absurd r hb.2.1
    · simp only at q r
      rcases hb with hb | hb
      · exact absurd r hb.2
      · exact absurd r hb.2.1
    · simp only at q r
      rcases hb with hb | hb
      · exact absurd r hb.2
      · exact absurd r hb.2.1
end
end Go.Proofs.YthbcbjkgjgmegaaGreat

namespace Go.Proofs.YthbcbjkgjgmegaaGreat
open Go.RowKit
set_option linter.unusedVariables false
set_option linter.unusedSimpArgs false
section
variable {x : Pg} {c : Cfg} {z : SSt} {n k : Nat} {i : Ins}
theorem Pg.core.withTx (h : x.core k) (t : Tt) : ({ x with tx := t } : Pg).core k := ⟨h.ck, h.p0, h.p1, h.q0, h.q1, h.sl, h.ll, h.sl2, h.ll2, h.m0, h.t0, h.t1, h.hl⟩
theorem Pg.fit.goOn (h : x.fit c n k) (hu : x.under = true) (hz : z.hs.length = n) (hw : WsOk z.ws) : (x.goOn c z).fit c n (k + 1) := by
  obtain ⟨h1, h2⟩ := h.stepped hu hz hw (c := c)
  unfold Pg.goOn
  cases e : (x.stepped c z).under
  · rw [if_neg (by simp)]
    exact follow_fit (h.co.withTx _) (h2 e) (h.tx.next hz hw)
  · rw [if_pos rfl]
    exact h1 e
/-- What an operation that was begun asks for. -/
structure Beg (y : Pg) (c : Cfg) (n k : Nat) : Prop where
  co : y.core k
  tx : y.tx.fit c n k
  yes : y.under = true → y.fit c n k
  no : y.under = false → Fol y
theorem Beg.began {y : Pg} (h : Beg y c n k) (hz : z.hs.length = n) (hw : WsOk z.ws) : (y.began c z).x.fit c n (k + 1) := by
  unfold Pg.began Pg.begun
  simp only
  cases e : y.under
  · rw [if_neg (by simp)]
    exact follow_fit h.co (h.no e) (h.tx.more (by omega))
  · rw [if_pos rfl]
    exact (h.yes e).goOn e hz hw
theorem ins_lt (h : x.ins.op ≠ 22) : x.fm.pl < x.li.length := by
  unfold Pg.ins at h
  split at h
  · assumption
  · exact absurd rfl h
theorem ins_at (h : x.ins.op ≠ 22) : x.ins = x.li.getD x.fm.pl.toNat Ins.zero := by
  have := ins_lt h
  unfold Pg.ins
  rw [if_pos this]
theorem wrong_depth {op d : Int} {inn : Bool} (h : wrongM op d inn = 0) : (rowOf op).pops ≤ d ∧ d - (rowOf op).pops + (rowOf op).pushes ≤ 32 := by
  unfold wrongM at h
  split at h
  · simp at h
  · omega
theorem known_cases {op : Int} (h : knownB op = true) : 1 ≤ op ∧ op ≤ 22 := by
  simp [knownB] at h
  omega
theorem Pg.core.hold (h : x.core k) {a b : List Int} (hl : a.length + b.length ≤ k + 1) : ({ x with hd := a, td := b } : Pg).core (k + 1) := ⟨h.ck, h.p0, h.p1, h.q0, h.q1, h.sl, h.ll, h.sl2, h.ll2, h.m0, h.t0, by have := h.t1; show x.tr ≤ _; push_cast; omega, hl⟩
theorem plain_core (h : x.core k) (hw : wrongM x.ins.op x.fm.st.length x.inside = 0) (h16 : x.ins.op < 16 ∨ x.ins.op = 21) : (x.plain x.ins).core (k + 1) := by
  obtain ⟨hkn, hmay⟩ := h.ins
  obtain ⟨o1, o2⟩ := known_cases hkn
  have hp := ins_lt (x := x) (by omega)
  obtain ⟨d1, d2⟩ := wrong_depth hw
  have hs := h.sl
  have h' := h.more (Nat.le_succ k)
  generalize hi : x.ins = i at *
  obtain ⟨op, a⟩ := i
  simp only at *
  have hc : op = 1 ∨ op = 2 ∨ op = 3 ∨ op = 4 ∨ op = 5 ∨ op = 6 ∨ op = 7 ∨ op = 8 ∨ op = 9 ∨ op = 10 ∨ op = 11 ∨ op = 12 ∨ op = 13 ∨ op = 14 ∨ op = 15 ∨ op = 21 := by omega
  clear hw hkn o1 o2 h16
  rcases hc with rfl | rfl | rfl | rfl | rfl | rfl | rfl | rfl | rfl | rfl | rfl | rfl | rfl | rfl | rfl | rfl
  · exact Pg.core.next (h'.stack (by simp [rowOf, rowsL] at d2; rw [List.length_append]; simp only [List.length_singleton]; omega)) hp
  · exact Pg.core.next (h'.stack (by rw [Pg.drop, dropN_len]; omega)) hp
  · exact Pg.core.next (h'.stack (by simp [rowOf, rowsL] at d2; rw [List.length_append]; simp only [List.length_singleton]; omega)) hp
  · exact Pg.core.next (h'.stack (by simp [rowOf, rowsL] at d1; rw [List.length_append, Pg.drop, dropN_len]; simp only [List.length_cons, List.length_nil]; omega)) hp
  · exact Pg.core.next (h'.stack (by simp [rowOf, rowsL] at d2; rw [List.length_append]; simp only [List.length_singleton]; omega)) hp
  · refine Pg.core.next (x := { x with fm := ⟨x.fm.pl, x.drop 1, x.fm.lo.set a.toNat (x.top 0)⟩ }) ⟨h'.ck, h'.p0, h'.p1, h'.q0, h'.q1, ?_, ?_, h'.sl2, h'.ll2, h'.m0, h'.t0, h'.t1, h'.hl⟩ hp
    · show (x.drop 1).length ≤ 32
      rw [Pg.drop, dropN_len]; omega
    · show (x.fm.lo.set _ _).length = 8
      rw [List.length_set]; exact h.ll
  · exact Pg.core.next (h'.stack (by simp [rowOf, rowsL] at d1; rw [List.length_append, Pg.drop, dropN_len]; simp only [List.length_singleton]; omega)) hp
  · exact Pg.core.next (h'.stack (by simp [rowOf, rowsL] at d1; rw [List.length_append, Pg.drop, dropN_len]; simp only [List.length_singleton]; omega)) hp
  · exact Pg.core.next (h'.stack (by simp [rowOf, rowsL] at d1; rw [List.length_append, Pg.drop, dropN_len]; simp only [List.length_singleton]; omega)) hp
  · exact Pg.core.next (h'.stack (by simp [rowOf, rowsL] at d1; rw [List.length_append, Pg.drop, dropN_len]; simp only [List.length_singleton]; omega)) hp
  · exact Pg.core.next (h'.stack (by simp [rowOf, rowsL] at d1; rw [List.length_append, Pg.drop, dropN_len]; simp only [List.length_singleton]; omega)) hp
  · exact Pg.core.next (h'.stack (by simp [rowOf, rowsL] at d1; rw [List.length_append, Pg.drop, dropN_len]; simp only [List.length_singleton]; omega)) hp
  · exact Pg.core.next (h'.stack (by simp [rowOf, rowsL] at d1; rw [List.length_append, Pg.drop, dropN_len]; simp only [List.length_singleton]; omega)) hp
  · obtain ⟨a1, a2⟩ := may_place hmay
    exact ⟨h'.ck, a1, a2, h'.q0, h'.q1, h'.sl, h'.ll, h'.sl2, h'.ll2, h'.m0, h'.t0, h'.t1, h'.hl⟩
  · obtain ⟨a1, a2⟩ := may_place hmay
    show (if x.top 0 = 0 then ({ x with fm := ⟨a, x.drop 1, x.fm.lo⟩ } : Pg) else (x.stack (x.drop 1)).next).core (k + 1)
    split
    · refine ⟨h'.ck, a1, a2, h'.q0, h'.q1, ?_, h'.ll, h'.sl2, h'.ll2, h'.m0, h'.t0, h'.t1, h'.hl⟩
      show (x.drop 1).length ≤ 32
      rw [Pg.drop, dropN_len]; omega
    · exact Pg.core.next (h'.stack (by rw [Pg.drop, dropN_len]; omega)) hp
  · show (if x.inside then ({ x.stack (x.drop 1) with hd := x.hd ++ [x.top 0] } : Pg).next else ({ x.stack (x.drop 1) with td := x.td ++ [x.top 0] } : Pg).next).core (k + 1)
    have hh := h.hl
    have hst := h.stack (l := x.drop 1) (by rw [Pg.drop, dropN_len]; omega)
    split
    · exact Pg.core.next (hst.hold (a := x.hd ++ [x.top 0]) (b := x.td) (by simp; omega)) hp
    · exact Pg.core.next (hst.hold (a := x.hd) (b := x.td ++ [x.top 0]) (by simp; omega)) hp
theorem plain_tx (x : Pg) (i : Ins) : (x.plain i).tx = x.tx ∧ (x.plain i).sm = x.sm ∧ (x.plain i).dn = x.dn ∧ (x.plain i).li = x.li := by
  unfold Pg.plain
  by_cases h1 : i.op = 1
  · rw [if_pos h1]; exact ⟨rfl, rfl, rfl, rfl⟩
  rw [if_neg h1]
  by_cases h2 : i.op = 2
  · rw [if_pos h2]; exact ⟨rfl, rfl, rfl, rfl⟩
  rw [if_neg h2]
  by_cases h3 : i.op = 3
  · rw [if_pos h3]; exact ⟨rfl, rfl, rfl, rfl⟩
  rw [if_neg h3]
  by_cases h4 : i.op = 4
  · rw [if_pos h4]; exact ⟨rfl, rfl, rfl, rfl⟩
  rw [if_neg h4]
  by_cases h5 : i.op = 5
  · rw [if_pos h5]; exact ⟨rfl, rfl, rfl, rfl⟩
  rw [if_neg h5]
  by_cases h6 : i.op = 6
  · rw [if_pos h6]; exact ⟨rfl, rfl, rfl, rfl⟩
  rw [if_neg h6]
  by_cases h7 : i.op < 13
  · rw [if_pos h7]; exact ⟨rfl, rfl, rfl, rfl⟩
  rw [if_neg h7]
  by_cases h8 : i.op = 13
  · rw [if_pos h8]; exact ⟨rfl, rfl, rfl, rfl⟩
  rw [if_neg h8]
  by_cases h9 : i.op = 14
  · rw [if_pos h9]; exact ⟨rfl, rfl, rfl, rfl⟩
  rw [if_neg h9]
  by_cases h10 : i.op = 15
  · rw [if_pos h10]
    by_cases h11 : x.top 0 = 0
    · rw [if_pos h11]; exact ⟨rfl, rfl, rfl, rfl⟩
    · rw [if_neg h11]; exact ⟨rfl, rfl, rfl, rfl⟩
  rw [if_neg h10]
  cases x.inside <;> exact ⟨rfl, rfl, rfl, rfl⟩
theorem Pg.fit.plain (h : x.fit c n k) (hu : x.under = false) (hw : wrongM x.ins.op x.fm.st.length x.inside = 0) (h16 : x.ins.op < 16 ∨ x.ins.op = 21) : (x.plain x.ins).fit c n (k + 1) := by
  obtain ⟨e1, e2, e3, e4⟩ := plain_tx x x.ins
  have hph : (x.plain x.ins).ph = x.ph := by unfold Pg.ph; rw [e1]
  refine ⟨by rw [e1]; exact h.tx.more (by omega), plain_core h.co hw h16, by rw [hph, e2]; exact h.go, by rw [hph, e3]; exact h.dn, idle_busy ?_⟩
  unfold Pg.under
  rw [hph]
  exact hu
theorem Pg.fit.ends (h : x.fit c n k) (hp : x.ph = 0) (e : Int) : (x.ends e).fit c n (k + 1) :=
  ⟨h.tx.more (by omega), (h.co.ends e).more (by omega), fun q => absurd hp q, fun _ => hp, idle_busy (by show (x.ph != 0 && x.ph != 2) = false; rw [hp]; rfl)⟩
theorem out_idle (hu : x.under = false) (hi : x.inside = false) : x.ph = 0 := by
  rcases idle_of hu with h | h
  · exact h
  · simp [Pg.inside, h] at hi
theorem in_two (hu : x.under = false) (hi : x.inside = true) : x.ph = 2 := by
  rcases idle_of hu with h | h
  · simp [Pg.inside, h] at hi
  · exact h
theorem Pg.fit.live (h : x.fit c n k) (hp : x.ph = 2) : x.dn = false := by
  cases e : x.dn
  · rfl
  · have := h.dn e; omega
theorem abort_beg (h : x.fit c n k) (hp : x.ph = 2) {e : Int} (he : e ≠ 0) (h2 : e = 165 → x.fm.pl < x.li.length ∧ (x.li.getD x.fm.pl.toNat Ins.zero).op = 20) : Beg { x with tx := x.tx.abort e } c n k := by
  have ha : x.tx.abort e = { x.tx with dg := .abo 5 e 0 } := by
    unfold Tt.abort Tt.abortE
    rw [if_neg (show ¬ x.tx.dg.phase ≠ 2 from fun q => q hp), if_neg he, if_pos rfl]
  have hm : 1 ≤ x.sm := h.go (by omega)
  have hd := h.live hp
  have hf : (x.tx.abort e).fit c n k := h.tx.abort e
  refine ⟨h.co.withTx _, hf, fun _ => ⟨hf, h.co.withTx _, fun _ => hm, fun q => absurd (show x.dn = true from q) (by rw [hd]; decide), ?_⟩, fun q => ?_⟩
  · rw [ha]
    exact .inr ⟨rfl, he, h2⟩
  · rw [ha] at q
    simp [Pg.under, Pg.ph, Dg.phase] at q
theorem Pg.fit.fail (h : x.fit c n k) (hu : x.under = false) {e : Int} (he : e ≠ 0) (h5 : e ≠ 165) (hz : z.hs.length = n) (hw : WsOk z.ws) : (x.fail c z e).x.fit c n (k + 1) := by
  unfold Pg.fail
  cases hi : x.inside
  · rw [if_neg (by simp)]
    exact h.ends (out_idle hu hi) e
  · rw [if_pos rfl]
    have hp := in_two hu hi
    have hb := abort_beg h hp he (fun q => absurd q h5)
    have hun : ({ x with tx := x.tx.abort e } : Pg).under = true := by
      have ha : x.tx.abort e = { x.tx with dg := .abo 5 e 0 } := by
        unfold Tt.abort Tt.abortE
        rw [if_neg (show ¬ x.tx.dg.phase ≠ 2 from fun q => q hp), if_neg he, if_pos rfl]
      rw [ha]
      rfl
    exact (hb.yes hun).goOn hun hz hw
theorem starts_sm (x : Pg) {s : Int} (hs : 1 ≤ s) (h0 : 0 ≤ x.sm) : 1 ≤ (x.starts s).sm := by
  unfold Pg.starts
  split
  · exact hs
  · omega
theorem starts_core (h : x.core k) {s : Int} (hs : 1 ≤ s) : (x.starts s).core k := by
  unfold Pg.starts
  split
  · exact ⟨h.ck, h.p0, h.p1, h.p0, h.p1, h.sl, h.ll, h.sl, h.ll, (show (0 : Int) ≤ s by omega), Int.le_refl _, Int.natCast_nonneg _, by have := h.hl; simp only [List.length_nil]; omega⟩
  · exact h
theorem starts_same (x : Pg) (s : Int) : (x.starts s).tx = x.tx ∧ (x.starts s).fm = x.fm ∧ (x.starts s).li = x.li ∧ (x.starts s).dn = x.dn := by
  unfold Pg.starts
  split <;> exact ⟨rfl, rfl, rfl, rfl⟩
theorem begin_beg (h : x.fit c n k) (hp : x.ph = 0) (hd : x.dn = false) (ho : x.ins.op = 16) {s : Int} (hs : 1 ≤ s) (hn : 1 ≤ n) : Beg { x.starts s with tx := (x.starts s).tx.begin_ (x.starts s).sm } c n k := by
  obtain ⟨e1, e2, e3, e4⟩ := starts_same x s
  have hm := starts_sm x hs h.co.m0
  have hco := starts_core h.co hs
  have hb : x.tx.begin_ (x.starts s).sm = { x.tx with dg := .beg (Bg.new x.tx.th (x.starts s).sm), sp := (x.starts s).sm, rds := [], wr := [], df := if (x.starts s).sm = x.tx.sp then x.tx.df else 0 } := by
    unfold Tt.begin_ Tt.beginE
    rw [if_neg (show ¬ x.tx.dg.phase ≠ 0 from fun q => q hp), if_neg (show ¬ (x.starts s).sm < 1 by omega), if_pos rfl]
  have hf : (x.tx.begin_ (x.starts s).sm).fit c n k := h.tx.begin_ hn _
  have hlt := ins_lt (x := x) (by omega)
  rw [e1]
  refine ⟨hco.withTx _, hf, fun _ => ⟨hf, hco.withTx _, fun _ => hm, fun q => absurd (show (x.starts s).dn = true from q) (by rw [e4, hd]; decide), ?_⟩, fun q => ?_⟩
  · rw [hb]
    show (x.starts s).fm.pl < (x.starts s).li.length
    rw [e2, e3]
    exact hlt
  · rw [hb] at q
    simp [Pg.under, Pg.ph, Dg.phase] at q
theorem read_beg (h : x.fit c n k) (hp : x.ph = 2) (ho : x.ins.op = 17) (hl : 1 ≤ x.fm.st.length) {ce : Int} (he : x.tx.readE c ce = 0) : Beg { x with tx := x.tx.read c ce } c n k := by
  have hm : 1 ≤ x.sm := h.go (by omega)
  have hd := h.live hp
  have hf : (x.tx.read c ce).fit c n k := h.tx.read ce
  have hlt := ins_lt (x := x) (by omega)
  unfold Tt.readE at he
  rw [if_neg (show ¬ x.tx.dg.phase ≠ 2 from fun q => q hp)] at he
  cases hg : wrGet x.tx.wr ce with
  | none =>
    rw [hg] at he
    have hin : inN c.ce ce = true := by
      by_cases hc : inN c.ce ce
      · exact hc
      · simp [hc] at he
    have hr : x.tx.read c ce = { x.tx with dg := .rd (Rd.new x.tx.fr.sl x.tx.fr.gn x.tx.fr.sn x.tx.fr.sg ce (bitsOf c.bi ce)) } := by
      unfold Tt.read
      rw [if_neg (show ¬ x.tx.dg.phase ≠ 2 from fun q => q hp), hg]
      simp only [hin, if_true]
    refine ⟨h.co.withTx _, hf, fun _ => ⟨hf, h.co.withTx _, fun _ => hm, fun q => absurd (show x.dn = true from q) (by rw [hd]; decide), ?_⟩, fun q => ?_⟩
    · rw [hr]
      exact ⟨hlt, hl⟩
    · rw [hr] at q
      simp [Pg.under, Pg.ph, Dg.phase] at q
  | some v =>
    have hr : x.tx.read c ce = { x.tx with lo := 2, le := 0, lx := v } := by
      unfold Tt.read
      rw [if_neg (show ¬ x.tx.dg.phase ≠ 2 from fun q => q hp), hg]
    have hun : ({ x with tx := x.tx.read c ce } : Pg).under = false := by
      rw [hr]
      show (x.ph != 0 && x.ph != 2) = false
      rw [hp]; rfl
    refine ⟨h.co.withTx _, hf, fun q => (by rw [hun] at q; cases q), fun _ => ⟨hun, fun q => ?_, fun q => ?_, fun _ _ => hm, fun _ _ => hl, fun q => ?_, fun _ _ => hlt, fun _ => hm, hd⟩⟩
    all_goals
      rw [hr] at q
      simp at q
theorem write_beg (h : x.fit c n k) (hp : x.ph = 2) (ho : x.ins.op = 18) (hl : 2 ≤ x.fm.st.length) {ce v : Int} (he : x.tx.writeE c ce = 0) : Beg { x with tx := x.tx.write c ce v } c n k := by
  have hm : 1 ≤ x.sm := h.go (by omega)
  have hd := h.live hp
  have hf : (x.tx.write c ce v).fit c n k := h.tx.write ce v
  have hlt := ins_lt (x := x) (by omega)
  have hr : x.tx.write c ce v = { x.tx with lo := 3, le := 0, lx := v, wr := wrPut x.tx.wr ce v } := by
    unfold Tt.write
    rw [if_pos he]
  have hun : ({ x with tx := x.tx.write c ce v } : Pg).under = false := by
    rw [hr]
    show (x.ph != 0 && x.ph != 2) = false
    rw [hp]; rfl
  refine ⟨h.co.withTx _, hf, fun q => (by rw [hun] at q; cases q), fun _ => ⟨hun, fun q => ?_, fun q => ?_, fun _ _ => hm, fun q => ?_, fun _ _ => hl, fun _ _ => hlt, fun _ => hm, hd⟩⟩
  all_goals
    rw [hr] at q
    simp at q
theorem commit_beg (h : x.fit c n k) (hp : x.ph = 2) (ho : x.ins.op = 19) (hl : (n : Int) = c.sl) (h8 : n ≤ 8) : Beg { x with tx := x.tx.commit c n } c n k := by
  have hm : 1 ≤ x.sm := h.go (by omega)
  have hd := h.live hp
  have hf : (x.tx.commit c n).fit c n k := h.tx.commit hl h8
  have hlt := ins_lt (x := x) (by omega)
  have hr : (x.tx.commit c n).dg = .leav ∨ ∃ y, (x.tx.commit c n).dg = .com y := by
    unfold Tt.commit
    rw [if_neg (show ¬ x.tx.dg.phase ≠ 2 from fun q => q hp)]
    split
    · exact .inl rfl
    · exact .inr ⟨_, rfl⟩
  refine ⟨h.co.withTx _, hf, fun _ => ⟨hf, h.co.withTx _, fun _ => hm, fun q => absurd (show x.dn = true from q) (by rw [hd]; decide), ?_⟩, fun q => ?_⟩
  · unfold Pg.busy
    simp only
    rcases hr with e | ⟨y, e⟩
    · rw [e]; exact hlt
    · rw [e]; exact hlt
  · rcases hr with e | ⟨y, e⟩ <;> simp [Pg.under, Pg.ph, e, Dg.phase] at q
theorem wrong_in {op d : Int} {inn : Bool} (h : wrongM op d inn = 0) (ho : op = 17 ∨ op = 18 ∨ op = 19 ∨ op = 20) : inn = true := by
  cases inn
  · unfold wrongM at h
    split at h
    · simp at h
    · split at h
      · simp at h
      · rw [if_pos ⟨ho, rfl⟩] at h
        simp at h
  · rfl
theorem wrong_out {op d : Int} {inn : Bool} (h : wrongM op d inn = 0) (ho : op = 16 ∨ op = 22) : inn = false := by
  cases inn
  · rfl
  · unfold wrongM at h
    split at h
    · simp at h
    · rcases ho with rfl | rfl
      · simp at h
      · simp at h
/-- What is refused is refused with these numbers alone. -/
theorem refuses_is (x : Pg) (c : Cfg) (i : Ins) (h : x.refuses c i ≠ 0) : x.refuses c i ≠ 165 := by
  unfold Pg.refuses at h ⊢
  split
  · unfold wrongM
    repeat' split
    all_goals simp
  · split
    · unfold Tt.readE
      repeat' split
      all_goals simp
    · split
      · unfold Tt.writeE
        repeat' split
        all_goals simp
      · simp
theorem refuses_zero (x : Pg) (c : Cfg) (i : Ins) (h : x.refuses c i = 0) : wrongM i.op x.fm.st.length x.inside = 0 ∧ (i.op = 17 → x.tx.readE c (x.cell 0) = 0) ∧ (i.op = 18 → x.tx.writeE c (x.cell 1) = 0) := by
  unfold Pg.refuses at h
  split at h
  · contradiction
  · rename_i h1
    have h1 : wrongM i.op x.fm.st.length x.inside = 0 := by omega
    refine ⟨h1, fun e => ?_, fun e => ?_⟩
    · by_cases hr : x.tx.readE c (x.cell 0) = 0
      · exact hr
      · rw [if_pos ⟨e, hr⟩] at h
        split at h
        · simp at h
        · exact h
    · by_cases hr : x.tx.writeE c (x.cell 1) = 0
      · exact hr
      · rw [if_neg (fun q => by omega), if_pos ⟨e, hr⟩] at h
        split at h
        · simp at h
        · exact h
theorem Pg.fit.step (h : x.fit c n k) (hz : z.hs.length = n) (hl : (n : Int) = c.sl) (h1 : 1 ≤ n) (h8 : n ≤ 8) (hw : WsOk z.ws) (hs : 1 ≤ z.s.st) : (x.step c z).x.fit c n (k + 1) := by
  unfold Pg.step
  cases hd : x.dn
  · rw [if_neg (by simp)]
    cases hu : x.under
    · rw [if_neg (by simp)]
      unfold Pg.instruct
      by_cases hr : x.refuses c x.ins = 0
      · rw [if_neg (fun q => q hr)]
        obtain ⟨r1, r2, r3⟩ := refuses_zero x c _ hr
        obtain ⟨d1, d2⟩ := wrong_depth r1
        obtain ⟨o1, o2⟩ := known_cases h.co.ins.1
        have hzz : ∀ ce, (x.tx.readZ ce z).hs.length = n ∧ WsOk (x.tx.readZ ce z).ws := fun ce => by
          unfold Tt.readZ
          split
          · exact ⟨hz, hw⟩
          · split <;> exact ⟨hz, hw⟩
        have hzw : ∀ ce v, (x.tx.writeZ c ce v z).hs.length = n ∧ WsOk (x.tx.writeZ c ce v z).ws := fun ce v => by
          unfold Tt.writeZ
          split <;> exact ⟨hz, hw⟩
        unfold Pg.does
        split
        · rename_i e
          exact (begin_beg h (out_idle hu (wrong_out r1 (.inl e))) hd e hs h1).began hz hw
        · split
          · rename_i e
            have hp := in_two hu (wrong_in r1 (.inl e))
            rw [e] at d1
            simp [rowOf, rowsL] at d1
            exact (read_beg h hp e (by omega) (r2 e)).began (hzz _).1 (hzz _).2
          · split
            · rename_i e
              have hp := in_two hu (wrong_in r1 (.inr (.inl e)))
              rw [e] at d1
              simp [rowOf, rowsL] at d1
              exact (write_beg h hp e (by omega) (r3 e)).began (hzw _ _).1 (hzw _ _).2
            · split
              · rename_i e
                rw [hz]
                exact (commit_beg h (in_two hu (wrong_in r1 (.inr (.inr (.inl e))))) e hl h8).began hz hw
              · split
                · rename_i e
                  refine (abort_beg h (in_two hu (wrong_in r1 (.inr (.inr (.inr e))))) (by decide) (fun _ => ⟨ins_lt (by omega), ?_⟩)).began hz hw
                  rw [← ins_at (by omega)]
                  exact e
                · split
                  · rename_i e
                    exact h.ends (out_idle hu (wrong_out r1 (.inr e))) 0
                  · exact h.plain hu r1 (by omega)
      · rw [if_pos hr]
        exact h.fail hu hr (refuses_is x c _ hr) hz hw
    · rw [if_pos rfl]
      exact h.goOn hu hz hw
  · rw [if_pos rfl]
    exact h.more (by omega)
/-- The space behind a step. -/
theorem SSt.ok.stepP (ok : z.ok c k) (x : Pg) : (x.step c z).z.ok c (k + 4) := by
  have hst : ∀ (z' : SSt) (k' : Nat) (t : Tt), z'.ok c k' → k' + 3 ≤ k + 4 → (z'.steps c t).ok c (k + 4) := fun z' k' t hz' hk => (hz'.steps t).more hk
  have hbg : ∀ (y : Pg) (z' : SSt) (k' : Nat), z'.ok c k' → k' + 3 ≤ k + 4 → (y.begunZ c z').ok c (k + 4) := fun y z' k' hz' hk => by
    unfold Pg.begunZ
    split
    · exact hst _ _ _ hz' hk
    · exact hz'.more (by omega)
  have hrz : ∀ ce, (x.tx.readZ ce z).ok c (k + 1) := fun ce => by
    unfold Tt.readZ
    split
    · exact ok.more (by omega)
    · split
      · exact ok.noted _
      · exact ok.more (by omega)
  have hwz : ∀ ce v, (x.tx.writeZ c ce v z).ok c (k + 1) := fun ce v => by
    unfold Tt.writeZ
    split
    · exact ok.noted _
    · exact ok.more (by omega)
  unfold Pg.step
  split
  · exact ok.more (by omega)
  · split
    · exact hst _ _ _ ok (by omega)
    · unfold Pg.instruct
      split
      · unfold Pg.fail
        split
        · exact hst _ _ _ ok (by omega)
        · exact ok.more (by omega)
      · unfold Pg.does
        split
        · exact hbg _ _ _ ok (by omega)
        · split
          · exact hbg _ _ _ (hrz _) (by omega)
          · split
            · exact hbg _ _ _ (hwz _ _) (by omega)
            · split
              · exact hbg _ _ _ ok (by omega)
              · split
                · exact hbg _ _ _ ok (by omega)
                · split <;> exact ok.more (by omega)
theorem Beg.wsZ {y : Pg} (h : Beg y c n k) {k' : Nat} (ok : z.ok c k') (hz : z.hs.length = n) (hw : WsOk z.ws) : WsOk (y.began c z).z.ws ∧ (y.began c z).z.hs.length = n := by
  unfold Pg.began Pg.begunZ
  simp only
  split
  · exact ⟨hw.steps c y.tx (fun r e => (h.tx.rd r e).1), by rw [SSt.steps_len ok, hz]⟩
  · exact ⟨hw, hz⟩
theorem Pg.fit.stepZ (h : x.fit c n k) (ok : z.ok c k) (hz : z.hs.length = n) (hl : (n : Int) = c.sl) (h1 : 1 ≤ n) (h8 : n ≤ 8) (hw : WsOk z.ws) (hs : 1 ≤ z.s.st) : WsOk (x.step c z).z.ws ∧ (x.step c z).z.hs.length = n := by
  unfold Pg.step
  cases hd : x.dn
  · rw [if_neg (by simp)]
    cases hu : x.under
    · rw [if_neg (by simp)]
      unfold Pg.instruct
      by_cases hr : x.refuses c x.ins = 0
      · rw [if_neg (fun q => q hr)]
        obtain ⟨r1, r2, r3⟩ := refuses_zero x c _ hr
        obtain ⟨d1, d2⟩ := wrong_depth r1
        obtain ⟨o1, o2⟩ := known_cases h.co.ins.1
        have hzz : ∀ ce, (x.tx.readZ ce z).hs.length = n ∧ WsOk (x.tx.readZ ce z).ws ∧ (x.tx.readZ ce z).ok c (k + 1) := fun ce => by
          unfold Tt.readZ
          split
          · exact ⟨hz, hw, ok.more (by omega)⟩
          · split
            · exact ⟨hz, hw, ok.noted _⟩
            · exact ⟨hz, hw, ok.more (by omega)⟩
        have hzw : ∀ ce v, (x.tx.writeZ c ce v z).hs.length = n ∧ WsOk (x.tx.writeZ c ce v z).ws ∧ (x.tx.writeZ c ce v z).ok c (k + 1) := fun ce v => by
          unfold Tt.writeZ
          split
          · exact ⟨hz, hw, ok.noted _⟩
          · exact ⟨hz, hw, ok.more (by omega)⟩
        unfold Pg.does
        split
        · rename_i e
          exact (begin_beg h (out_idle hu (wrong_out r1 (.inl e))) hd e hs h1).wsZ ok hz hw
        · split
          · rename_i e
            have hp := in_two hu (wrong_in r1 (.inl e))
            rw [e] at d1
            simp [rowOf, rowsL] at d1
            exact (read_beg h hp e (by omega) (r2 e)).wsZ (hzz _).2.2 (hzz _).1 (hzz _).2.1
          · split
            · rename_i e
              have hp := in_two hu (wrong_in r1 (.inr (.inl e)))
              rw [e] at d1
              simp [rowOf, rowsL] at d1
              exact (write_beg h hp e (by omega) (r3 e)).wsZ (hzw _ _).2.2 (hzw _ _).1 (hzw _ _).2.1
            · split
              · rename_i e
                rw [hz]
                exact (commit_beg h (in_two hu (wrong_in r1 (.inr (.inr (.inl e))))) e hl h8).wsZ ok hz hw
              · split
                · rename_i e
                  refine (abort_beg h (in_two hu (wrong_in r1 (.inr (.inr (.inr e))))) (by decide) (fun _ => ⟨ins_lt (by omega), ?_⟩)).wsZ ok hz hw
                  rw [← ins_at (by omega)]
                  exact e
                · split <;> exact ⟨hw, hz⟩
      · rw [if_pos hr]
        unfold Pg.fail
        split
        · exact ⟨hw.steps c _ (fun r e => ((h.tx.abort _).rd r e).1), by rw [SSt.steps_len ok, hz]⟩
        · exact ⟨hw, hz⟩
    · rw [if_pos rfl]
      exact ⟨hw.steps c _ (fun r e => (h.tx.rd r e).1), by rw [SSt.steps_len ok, hz]⟩
  · rw [if_pos rfl]
    exact ⟨hw, hz⟩
end
end Go.Proofs.YthbcbjkgjgmegaaGreat

namespace Go.Proofs.YthbcbjkgjgmegaaGreat
open Go.RowKit
set_option linter.unusedVariables false
set_option linter.unusedSimpArgs false
/-- It is a number of int64. -/
def I64 (a : Int) : Prop := -9223372036854775808 ≤ a ∧ a ≤ 9223372036854775807
theorem I64.wf {a : Int} (h : I64 a) : (Lit.int .i64 a).wf = true := by
  have e1 : IntKind.i64.min = -9223372036854775808 := by decide
  have e2 : IntKind.i64.max = 9223372036854775807 := by decide
  simp only [Lit.wf, e1, e2, Bool.and_eq_true, decide_eq_true_eq]
  exact h
theorem I64.of_wf {a : Int} (h : (Lit.int .i64 a).wf = true) : I64 a := by
  have e1 : IntKind.i64.min = -9223372036854775808 := by decide
  have e2 : IntKind.i64.max = 9223372036854775807 := by decide
  simp only [Lit.wf, e1, e2, Bool.and_eq_true, decide_eq_true_eq] at h
  exact h
def All64 (l : List Int) : Prop := ∀ a ∈ l, I64 a
theorem I64.zero : I64 0 := ⟨by decide, by decide⟩
theorem I64.wrp (a : Int) : I64 (wrp a) := by
  unfold Go.Proofs.YthbcbjkgjgmegaaGreat.wrp wrap64 I64
  omega
theorem I64.ifM (b : Bool) : I64 (ifM b) := by cases b <;> exact ⟨by decide, by decide⟩
theorem I64.modM {a b : Int} (ha : I64 a) (hb : I64 b) : I64 (modM a b) := by
  unfold Go.Proofs.YthbcbjkgjgmegaaGreat.modM
  split
  · exact I64.zero
  · split
    · exact I64.wrp _
    · rename_i h1 h2
      have h3 : a.tmod b < b := Int.tmod_lt_of_pos a (by omega)
      have := hb.2
      exact ⟨by omega, by omega⟩
theorem I64.sumM {op a b : Int} (ha : I64 a) (hb : I64 b) : I64 (sumM op a b) := by
  unfold Go.Proofs.YthbcbjkgjgmegaaGreat.sumM
  split
  · exact I64.wrp _
  · split
    · exact I64.wrp _
    · split
      · exact I64.wrp _
      · split
        · exact I64.modM ha hb
        · split <;> exact I64.ifM _
theorem All64.getD {l : List Int} (h : All64 l) (k : Nat) : I64 (l.getD k 0) := by
  rw [List.getD_eq_getElem?_getD]
  rcases Nat.lt_or_ge k l.length with hk | hk
  · rw [List.getElem?_eq_getElem hk]
    exact h _ (List.getElem_mem hk)
  · rw [List.getElem?_eq_none hk]
    exact I64.zero
theorem All64.top {l : List Int} (h : All64 l) (k : Nat) : I64 (topN l k) := h.getD _
theorem All64.drop {l : List Int} (h : All64 l) (k : Nat) : All64 (dropN l k) := fun a ha => h a (List.mem_of_mem_take ha)
theorem All64.snoc {l : List Int} (h : All64 l) {a : Int} (ha : I64 a) : All64 (l ++ [a]) := by
  intro b hb
  rcases List.mem_append.1 hb with hb | hb
  · exact h b hb
  · rw [List.mem_singleton.1 hb]; exact ha
theorem All64.set {l : List Int} (h : All64 l) (k : Nat) {a : Int} (ha : I64 a) : All64 (l.set k a) := by
  intro b hb
  rcases List.mem_or_eq_of_mem_set hb with hb | rfl
  · exact h b hb
  · exact ha
theorem All64.rep (n : Nat) : All64 (List.replicate n 0) := fun a ha => by rw [List.eq_of_mem_replicate ha]; exact I64.zero
theorem All64.nil : All64 [] := fun a ha => by simp at ha
/-- What a thread holds, and what the cells hold. -/
structure Tt.rng (t : Tt) : Prop where
  wr : ∀ p ∈ t.wr, I64 p.x
  lx : I64 t.lx
  rd : ∀ r, t.dg = .rd r → I64 r.va
  cm : ∀ y, t.dg = .com y → ∀ p ∈ y.wr, I64 p.x
  ab : ∀ op e v, t.dg = .abo op e v → I64 v
structure Pg.rng (x : Pg) : Prop where
  st : All64 x.fm.st
  lo : All64 x.fm.lo
  ss : All64 x.sv.st
  sl : All64 x.sv.lo
  li : ∀ i ∈ x.li, I64 i.a
  tx : x.tx.rng
section
variable {x : Pg} {t : Tt} {c : Cfg} {z : SSt}
theorem Tt.rng_new (th : Int) : (Tt.new th).rng := ⟨fun p hp => by simp [Tt.new] at hp, I64.zero, fun r e => by simp [Tt.new] at e, fun r e => by simp [Tt.new] at e, fun o r v e => by simp [Tt.new] at e⟩
theorem Pg.rng_new (th : Int) {l : List Ins} (h : ∀ i ∈ l, I64 i.a) : (Pg.new th l).rng := ⟨All64.nil, All64.rep 8, All64.nil, All64.rep 8, h, Tt.rng_new th⟩
theorem loadR_rng (hz : All64 z.xs) (ce : Int) : I64 (loadR z.xs ce) := by
  unfold loadR
  split
  · exact hz.getD _
  · exact I64.zero
theorem Rd.next_va (r : Rd) (hz : All64 z.xs) (h : I64 r.va) : I64 (r.next z).va := by
  unfold Rd.next
  split
  · exact h
  · split
    · exact loadR_rng hz _
    · split
      · split
        · split <;> exact h
        · exact h
      · split <;> exact h
theorem Cm.next_wr (y : Cm) (c : Cfg) (z : SSt) (df : Int) : (y.next c z df).wr = y.wr := by
  unfold Cm.next
  split
  · split <;> rfl
  · split
    · unfold Cm.lookOn
      split
      · unfold Cm.judged
        split
        · rfl
        · split
          · rfl
          · unfold Cm.doomOn; rfl
      · rfl
    · rfl
  · unfold Cm.lookOn
    split
    · unfold Cm.judged
      split
      · rfl
      · split
        · rfl
        · unfold Cm.doomOn; rfl
    · rfl
  · rfl
  · rfl
  · rfl
  · rfl
  · rfl
  · rfl
theorem Tt.rng.next (h : t.rng) (hz : All64 z.xs) (c : Cfg) : (t.next c z).rng := by
  obtain ⟨h1, h2, h3, h4, h5⟩ := h
  unfold Tt.next
  cases e : t.dg with
  | rest => simp only; exact ⟨h1, h2, h3, h4, h5⟩
  | act => simp only; exact ⟨h1, h2, h3, h4, h5⟩
  | beg b =>
    simp only
    unfold Tt.begun
    split
    · exact ⟨h1, h2, fun r e => by simp at e, fun r e => by simp at e, fun o r v e => by simp at e⟩
    · split
      · exact ⟨h1, I64.zero, fun r e => by simp at e, fun r e => by simp at e, fun o r v e => by simp at e⟩
      · exact ⟨h1, I64.zero, fun r e => by simp at e, fun r e => by simp at e, fun o r v e => by simp at e⟩
  | rd r =>
    have hv := Rd.next_va r hz (h3 r e)
    simp only
    unfold Tt.readOn
    split
    · exact ⟨h1, h2, fun r' e => by simp only [Dg.rd.injEq] at e; rw [← e]; exact hv, fun r e => by simp at e, fun o r v e => by simp at e⟩
    · split
      · exact ⟨h1, hv, fun r e => by simp at e, fun r e => by simp at e, fun o r v e => by simp at e⟩
      · exact ⟨h1, h2, fun r e => by simp at e, fun r e => by simp at e, fun o r v e => by simp only [Dg.abo.injEq] at e; rw [← e.2.2]; exact I64.zero⟩
  | leav => simp only; exact ⟨h1, I64.zero, fun r e => by simp at e, fun r e => by simp at e, fun o r v e => by simp at e⟩
  | com y =>
    have hy := h4 y e
    simp only
    unfold Tt.comOn
    split
    · exact ⟨h1, I64.zero, fun r e => by simp at e, fun r e => by simp at e, fun o r v e => by simp at e⟩
    · exact ⟨h1, h2, fun r e => by simp at e, fun y' e => by simp only [Dg.com.injEq] at e; rw [← e, Cm.next_wr]; exact hy, fun o r v e => by simp at e⟩
  | abo op er v => simp only; exact ⟨h1, h5 op er v e, fun r e => by simp at e, fun r e => by simp at e, fun o r v e => by simp at e⟩
theorem storeX_rng {xs : List Int} (h : All64 xs) (k : Int) {a : Int} (ha : I64 a) : All64 (storeX xs k a) := by
  unfold storeX
  split
  · exact h.set _ ha
  · exact h
theorem SSt.commits_xs (y : Cm) (hy : ∀ p ∈ y.wr, I64 p.x) (hz : All64 z.xs) : All64 (z.commits y).xs := by
  unfold SSt.commits
  cases e : y.st with
  | write k =>
    simp only
    refine storeX_rng hz _ ?_
    rw [List.getD_eq_getElem?_getD]
    rcases Nat.lt_or_ge k y.wr.length with hk | hk
    · rw [List.getElem?_eq_getElem hk]
      exact hy _ (List.getElem_mem hk)
    · rw [List.getElem?_eq_none hk]
      exact I64.zero
  | look =>
    simp only
    unfold SSt.looks
    repeat' split
    all_goals exact hz
  | doom d =>
    simp only
    unfold SSt.dooms
    repeat' split
    all_goals exact hz
  | _ => simp only; exact hz
theorem SSt.steps_xs (ht : t.rng) (hz : All64 z.xs) (c : Cfg) : All64 (z.steps c t).xs := by
  unfold SSt.steps
  cases e : t.dg with
  | rest => exact hz
  | act => exact hz
  | beg b =>
    simp only
    have h1 : (z.goes b).xs = z.xs := by
      unfold SSt.goes
      split
      · rfl
      · split
        · rfl
        · split <;> rfl
    unfold Tt.begunZ
    repeat' split
    all_goals (show All64 (z.goes b).xs; rw [h1]; exact hz)
  | rd r =>
    simp only
    have h1 : (z.reads r).xs = z.xs := by
      unfold SSt.reads
      split
      · rfl
      · split
        · rfl
        · split
          · rfl
          · split <;> rfl
    unfold Tt.readOnZ
    split
    all_goals (show All64 (z.reads r).xs; rw [h1]; exact hz)
  | leav => exact hz
  | com y =>
    simp only
    have h1 := SSt.commits_xs y (ht.cm y e) hz
    unfold Tt.comZ Tt.wonZ
    repeat' split
    all_goals exact h1
  | abo op er v => exact hz
theorem wrPut_rng {l : List Pr} (h : ∀ p ∈ l, I64 p.x) (ce : Int) {v : Int} (hv : I64 v) : ∀ p ∈ wrPut l ce v, I64 p.x := by
  intro p hp
  unfold wrPut at hp
  split at hp
  · obtain ⟨q, hq, rfl⟩ := List.mem_map.1 hp
    split
    · exact hv
    · exact h q hq
  · rcases List.mem_append.1 hp with hp | hp
    · exact h p hp
    · rw [List.mem_singleton.1 hp]; exact hv
theorem Tt.rng.begin_ (h : t.rng) (s : Int) : (t.begin_ s).rng := by
  unfold Tt.begin_
  split
  · exact ⟨fun p hp => by simp at hp, h.lx, fun r e => by simp at e, fun r e => by simp at e, fun o r v e => by simp at e⟩
  · exact h
theorem Tt.rng.read (h : t.rng) (c : Cfg) (ce : Int) : (t.read c ce).rng := by
  unfold Tt.read
  split
  · exact h
  · split
    · rename_i v hg
      obtain ⟨p, hp, _, rfl⟩ := wrGet_some hg
      exact ⟨h.wr, h.wr p hp, h.rd, h.cm, h.ab⟩
    · split
      · refine ⟨h.wr, h.lx, fun r e => ?_, fun r e => by simp at e, fun o r v e => by simp at e⟩
        simp only [Dg.rd.injEq] at e
        rw [← e]
        exact I64.zero
      · exact h
theorem Tt.rng.write (h : t.rng) (c : Cfg) (ce : Int) {v : Int} (hv : I64 v) : (t.write c ce v).rng := by
  unfold Tt.write
  split
  · exact ⟨wrPut_rng h.wr ce hv, hv, h.rd, h.cm, h.ab⟩
  · exact h
theorem Tt.rng.commit (h : t.rng) (c : Cfg) (n : Nat) : (t.commit c n).rng := by
  unfold Tt.commit
  split
  · exact h
  · split
    · exact ⟨h.wr, h.lx, fun r e => by simp at e, fun r e => by simp at e, fun o r v e => by simp at e⟩
    · refine ⟨h.wr, h.lx, fun r e => by simp at e, fun y e => ?_, fun o r v e => by simp at e⟩
      simp only [Dg.com.injEq] at e
      rw [← e]
      exact h.wr
theorem Tt.rng.abort (h : t.rng) (e : Int) : (t.abort e).rng := by
  unfold Tt.abort
  split
  · refine ⟨h.wr, h.lx, fun r e => by simp at e, fun y e => by simp at e, fun o r v e => ?_⟩
    simp only [Dg.abo.injEq] at e
    rw [← e.2.2]
    exact I64.zero
  · exact h
theorem Pg.rng.withTx (h : x.rng) {t : Tt} (ht : t.rng) : ({ x with tx := t } : Pg).rng := ⟨h.st, h.lo, h.ss, h.sl, h.li, ht⟩
theorem Pg.rng.ends (h : x.rng) (e : Int) : (x.ends e).rng := ⟨h.st, h.lo, All64.nil, All64.rep 8, h.li, h.tx⟩
theorem Pg.rng.next (h : x.rng) : x.next.rng := ⟨h.st, h.lo, h.ss, h.sl, h.li, h.tx⟩
theorem Pg.rng.stack (h : x.rng) {l : List Int} (hl : All64 l) : (x.stack l).rng := ⟨hl, h.lo, h.ss, h.sl, h.li, h.tx⟩
theorem Pg.rng.follow (h : x.rng) : x.follow.rng := by
  unfold Pg.follow
  split
  · exact ⟨h.ss, h.sl, All64.nil, All64.rep 8, h.li, h.tx⟩
  · split
    · exact h.ends _
    · split
      · exact ⟨h.ss, h.sl, h.ss, h.sl, h.li, h.tx⟩
      · unfold Pg.went
        split
        · exact (h.stack ((h.st.drop 1).snoc h.tx.lx)).next
        · split
          · exact (h.stack (h.st.drop 2)).next
          · split
            · exact Pg.rng.next ⟨h.st, h.lo, All64.nil, All64.rep 8, h.li, h.tx⟩
            · exact h.next
theorem Pg.rng.goOn (h : x.rng) (hz : All64 z.xs) (c : Cfg) : (x.goOn c z).rng := by
  have h1 : (x.stepped c z).rng := h.withTx (h.tx.next hz c)
  unfold Pg.goOn
  split
  · exact h1
  · exact h1.follow
theorem Pg.rng.began (h : x.rng) (hz : All64 z.xs) (c : Cfg) : (x.began c z).x.rng ∧ All64 (x.began c z).z.xs := by
  unfold Pg.began Pg.begun Pg.begunZ
  simp only
  split
  · exact ⟨h.goOn hz c, SSt.steps_xs h.tx hz c⟩
  · exact ⟨h.follow, hz⟩
theorem Pg.rng.plain (h : x.rng) {i : Ins} (hi : I64 i.a) : (x.plain i).rng := by
  have t0 := h.st.top 0
  have t1 := h.st.top 1
  unfold Pg.plain
  by_cases h1 : i.op = 1
  · rw [if_pos h1]; exact (h.stack (h.st.snoc hi)).next
  rw [if_neg h1]
  by_cases h2 : i.op = 2
  · rw [if_pos h2]; exact (h.stack (h.st.drop 1)).next
  rw [if_neg h2]
  by_cases h3 : i.op = 3
  · rw [if_pos h3]; exact (h.stack (h.st.snoc t0)).next
  rw [if_neg h3]
  by_cases h4 : i.op = 4
  · rw [if_pos h4]
    refine Pg.rng.next (h.stack ?_)
    have := ((h.st.drop 2).snoc t0).snoc t1
    rw [List.append_assoc] at this
    exact this
  rw [if_neg h4]
  by_cases h5 : i.op = 5
  · rw [if_pos h5]; exact (h.stack (h.st.snoc (h.lo.getD _))).next
  rw [if_neg h5]
  by_cases h6 : i.op = 6
  · rw [if_pos h6]; exact Pg.rng.next ⟨h.st.drop 1, h.lo.set _ t0, h.ss, h.sl, h.li, h.tx⟩
  rw [if_neg h6]
  by_cases h7 : i.op < 13
  · rw [if_pos h7]; exact (h.stack ((h.st.drop 2).snoc (I64.sumM t1 t0))).next
  rw [if_neg h7]
  by_cases h8 : i.op = 13
  · rw [if_pos h8]; exact (h.stack ((h.st.drop 1).snoc (I64.ifM _))).next
  rw [if_neg h8]
  by_cases h9 : i.op = 14
  · rw [if_pos h9]; exact ⟨h.st, h.lo, h.ss, h.sl, h.li, h.tx⟩
  rw [if_neg h9]
  by_cases h10 : i.op = 15
  · rw [if_pos h10]
    by_cases h11 : x.top 0 = 0
    · rw [if_pos h11]; exact ⟨h.st.drop 1, h.lo, h.ss, h.sl, h.li, h.tx⟩
    · rw [if_neg h11]; exact (h.stack (h.st.drop 1)).next
  rw [if_neg h10]
  cases x.inside
  · exact Pg.rng.next ⟨h.st.drop 1, h.lo, h.ss, h.sl, h.li, h.tx⟩
  · exact Pg.rng.next ⟨h.st.drop 1, h.lo, h.ss, h.sl, h.li, h.tx⟩
theorem Pg.rng.ins (h : x.rng) : I64 x.ins.a := by
  unfold Pg.ins
  split
  · rw [List.getD_eq_getElem?_getD]
    rcases Nat.lt_or_ge x.fm.pl.toNat x.li.length with hk | hk
    · rw [List.getElem?_eq_getElem hk]
      exact h.li _ (List.getElem_mem hk)
    · rw [List.getElem?_eq_none hk]
      exact I64.zero
  · exact I64.zero
theorem Pg.rng.step (h : x.rng) (hz : All64 z.xs) (c : Cfg) : (x.step c z).x.rng ∧ All64 (x.step c z).z.xs := by
  unfold Pg.step
  split
  · exact ⟨h, hz⟩
  · split
    · exact ⟨h.goOn hz c, SSt.steps_xs h.tx hz c⟩
    · unfold Pg.instruct
      split
      · unfold Pg.fail
        split
        · exact ⟨(h.withTx (h.tx.abort _)).goOn hz c, SSt.steps_xs (h.tx.abort _) hz c⟩
        · exact ⟨h.ends _, hz⟩
      · unfold Pg.does
        split
        · have h1 : (x.starts z.s.st).rng := by
            unfold Pg.starts
            split
            · exact ⟨h.st, h.lo, h.st, h.lo, h.li, h.tx⟩
            · exact h
          exact (h1.withTx (h1.tx.begin_ _)).began hz c
        · split
          · refine (h.withTx (h.tx.read c _)).began ?_ c
            unfold Tt.readZ
            split
            · exact hz
            · split <;> exact hz
          · split
            · refine (h.withTx (h.tx.write c _ (h.st.top 0))).began ?_ c
              unfold Tt.writeZ
              split <;> exact hz
            · split
              · exact (h.withTx (h.tx.commit c _)).began hz c
              · split
                · exact (h.withTx (h.tx.abort _)).began hz c
                · split
                  · exact ⟨h.ends _, hz⟩
                  · exact ⟨h.plain h.ins, hz⟩
end
end Go.Proofs.YthbcbjkgjgmegaaGreat
