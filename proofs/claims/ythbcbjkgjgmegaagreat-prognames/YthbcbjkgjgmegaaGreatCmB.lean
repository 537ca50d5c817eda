/- Commits as plain data: what a step makes of one, of the space and of the judge; how they lie in memory. What can be asked of a commit; its stages' steps. A commit's stages, each step. -/
import Derived.Test.YthbcbjkgjgmegaaGreatLkD
import Derived.Test.YthbcbjkgjgmegaaGreatDmA
import Derived.Test.YthbcbjkgjgmegaaGreatJd
import Derived.BigQuiet
namespace Go.Proofs.YthbcbjkgjgmegaaGreat
open Go.RowKit
set_option linter.unusedVariables false
set_option linter.unusedSimpArgs false

/-- A cell and what it holds. -/
structure Pr where
  ce : Int
  x : Int
def prCells : List Pr → List Value
  | [] => []
  | p :: l => .int .i64 p.ce :: .int .i64 p.x :: prCells l
theorem prCells_length (l : List Pr) : (prCells l).length = l.length * 2 := by
  induction l with
  | nil => rfl
  | cons t l ih => simp [prCells, ih]; omega
theorem prCells_append (l k : List Pr) : prCells (l ++ k) = prCells l ++ prCells k := by
  induction l with
  | nil => rfl
  | cons t l ih => simp [prCells, ih]
def Pr.zero : Pr := ⟨0, 0⟩
theorem prCells_at (l : List Pr) : ∀ k (hk : k < l.length), (prCells l)[k * 2]? = some (.int .i64 (l.getD k Pr.zero).ce) ∧ (prCells l)[k * 2 + 1]? = some (.int .i64 (l.getD k Pr.zero).x) := by
  induction l with
  | nil => intro k hk; simp at hk
  | cons t l ih =>
    intro k hk
    cases k with
    | zero => simp [prCells]
    | succ k =>
      have := ih k (by simpa using hk)
      rw [show (k + 1) * 2 = k * 2 + 1 + 1 by omega, show k * 2 + 1 + 1 + 1 = (k * 2 + 1) + 2 by omega]
      simpa [prCells] using this

/-- Where a commit is. -/
inductive Stg where
  | take
  | own
  | look
  | doom (d : Dm)
  | write (k : Nat)
  | give
  | up
  | free
  | over
structure Cm where
  so : Int
  ge : Int
  th : Int
  sp : Int
  wr : List Pr
  lk : Lk
  st : Stg
  e : Int
  won : Bool
  num : Int
def Cm.giveUp (x : Cm) (e : Int) : Cm := { x with e := e, st := .up }
def Cm.doomOn (x : Cm) (d : Dm) : Cm := { x with st := if d.left = [] then .write 0 else .doom d }
def Cm.judged (x : Cm) (v : Int) : Cm := if v = 2 then x.giveUp 9 else if v = 3 then x.giveUp 8 else x.doomOn ⟨x.th, x.lk.vs, []⟩
def Cm.lookOn (x : Cm) (c : Cfg) (df : Int) : Cm := if x.lk.left = [] then x.judged (vdV c x.sp df x.lk.vs) else { x with st := .look }
def Cm.lookDf (x : Cm) (c : Cfg) (df : Int) : Int := if x.lk.left = [] then nxt c x.sp df x.lk.vs else df
def Hd.mine (h : Hd) (g : Int) : Bool := (h.sa == 2) && (h.gn == g) && !h.dm
def Cm.looked (x : Cm) (z : SSt) : Cm := { x with lk := x.lk.next z }
def Cm.next (x : Cm) (c : Cfg) (z : SSt) (df : Int) : Cm :=
  match x.st with
  | .take => if takeE z.x x.th = 0 then { x with num := takeR z.x x.th, st := .own } else x
  | .own => if (nowAt z.hs x.so).mine x.ge then x.lookOn c df else x.giveUp 7
  | .look => (x.looked z).lookOn c df
  | .doom d => x.doomOn (d.next z.hs)
  | .write k => { x with st := if k + 1 = x.wr.length then .give else .write (k + 1) }
  | .give => { x with won := true, st := .free }
  | .up => { x with st := .free }
  | .free => { x with st := .over }
  | .over => x
def Cm.nextDf (x : Cm) (c : Cfg) (z : SSt) (df : Int) : Int :=
  match x.st with
  | .own => if (nowAt z.hs x.so).mine x.ge then x.lookDf c df else df
  | .look => (x.looked z).lookDf c df
  | _ => df
def SSt.commits (z : SSt) (x : Cm) : SSt :=
  match x.st with
  | .take => z.take x.th
  | .own => z.look x.so
  | .look => z.looks x.lk
  | .doom d => z.dooms d
  | .write k => z.store (x.wr.getD k Pr.zero).ce (x.wr.getD k Pr.zero).x
  | .give => z.give x.th
  | .up => z.give x.th
  | .free => z.op (freeOp x.ge) x.so
  | .over => z
def Cm.ans (x : Cm) (z : SSt) : Int :=
  match x.st with
  | .take => if takeE z.x x.th = 0 then 1 else 2
  | .up => if x.e = 9 then 2 else 1
  | .over => 3
  | _ => 1
def Stg.isOver : Stg → Bool
  | .over => true
  | _ => false
def Cm.done (x : Cm) : Bool := x.st.isOver
def Cm.end_ (x : Cm) : Int := if x.done then x.e else 4

/-- The slots of a look are slots of the table. -/
structure Lk.inn (k : Lk) (n : Nat) : Prop where
  lf : ∀ s, s ∈ k.left → s < n
  me : k.inW = true → 0 ≤ k.met.so ∧ k.met.so < n
  vs : ∀ t, t ∈ k.vs → 0 ≤ t.so ∧ t.so < n
theorem Lk.inn.pass {k : Lk} {n : Nat} (h : k.inn n) : k.pass.inn n := by
  refine ⟨fun s hs => h.lf s (List.mem_of_mem_tail hs), fun e => by simp [Lk.pass] at e, h.vs⟩
theorem Lk.inn.next {k : Lk} {n : Nat} (h : k.inn n) (hk : k.fit) (z : SSt) : (k.next z).inn n := by
  unfold Lk.next
  split
  · exact h
  · rename_i s r hl
    split
    · rename_i hi
      unfold Lk.word
      split
      · exact ⟨h.lf, h.me, h.vs⟩
      · refine Lk.inn.pass ⟨h.lf, h.me, fun t ht => ?_⟩
        simp only at ht
        split at ht
        · rcases List.mem_append.1 ht with ht | ht
          · exact h.vs t ht
          · simp at ht
            subst ht
            exact h.me hi
        · exact h.vs t ht
    · unfold Lk.head
      split
      · have := h.lf s (by rw [hl]; simp)
        exact ⟨h.lf, fun _ => ⟨by simp, by simp; omega⟩, h.vs⟩
      · exact h.pass
theorem Lk.inn_new (wr : Sg) (n own : Nat) : (Lk.new wr n own).inn n := by
  refine ⟨fun s hs => ?_, fun e => by simp [Lk.new] at e, fun t ht => by simp [Lk.new] at ht⟩
  have := (List.mem_filter.1 (show s ∈ othersOf n own from hs)).1
  simpa using this

/-- What a commit may be. -/
structure Cm.fit (x : Cm) (n : Nat) : Prop where
  th1 : 1 ≤ x.th
  th8 : x.th ≤ 8
  s0 : 0 ≤ x.so
  sn : x.so < n
  w1 : 1 ≤ x.wr.length
  w16 : x.wr.length ≤ 16
  lk : x.lk.fit
  inn : x.lk.inn n
  dm : ∀ d, x.st = .doom d → d.left ≠ [] ∧ d.left.length + d.dn.length ≤ 8
  wk : ∀ k, x.st = .write k → k < x.wr.length
theorem Cm.fit.giveUp {x : Cm} {n : Nat} (h : x.fit n) (e : Int) : (x.giveUp e).fit n :=
  ⟨h.th1, h.th8, h.s0, h.sn, h.w1, h.w16, h.lk, h.inn, fun d e => by simp [Cm.giveUp] at e, fun k e => by simp [Cm.giveUp] at e⟩
theorem Cm.fit.doomOn {x : Cm} {n : Nat} (h : x.fit n) (d : Dm) (hd : d.left.length + d.dn.length ≤ 8) : (x.doomOn d).fit n := by
  have := h.w1
  refine ⟨h.th1, h.th8, h.s0, h.sn, h.w1, h.w16, h.lk, h.inn, fun d' e => ?_, fun k e => ?_⟩
  · simp only [Cm.doomOn] at e
    split at e
    · cases e
    · rename_i h0
      cases e
      exact ⟨h0, hd⟩
  · simp only [Cm.doomOn] at e ⊢
    split at e
    · cases e; omega
    · cases e
theorem Cm.lookOn_wr (x : Cm) (c : Cfg) (df : Int) : (x.lookOn c df).wr = x.wr := by
  unfold Cm.lookOn
  split
  · unfold Cm.judged
    split
    · rfl
    · split <;> rfl
  · rfl
theorem Cm.fit.lookOn {x : Cm} {n : Nat} (h : x.fit n) (c : Cfg) (df : Int) : (x.lookOn c df).fit n := by
  unfold Cm.lookOn
  split
  · unfold Cm.judged
    split
    · exact h.giveUp _
    · split
      · exact h.giveUp _
      · have := h.lk.vn
        exact h.doomOn _ (by simp; omega)
  · exact ⟨h.th1, h.th8, h.s0, h.sn, h.w1, h.w16, h.lk, h.inn, fun d e => by simp at e, fun k e => by simp at e⟩
theorem Dm.next_len (d : Dm) (hs : List Hd) : (d.next hs).left.length + (d.next hs).dn.length ≤ d.left.length + d.dn.length := by
  unfold Dm.next
  split
  · exact Nat.le_refl _
  · rename_i t l h
    rw [h]
    simp only [List.length_cons]
    split <;> simp <;> omega
theorem Cm.fit.next {x : Cm} {n : Nat} (h : x.fit n) (c : Cfg) {z : SSt} (hw : WsOk z.ws) (df : Int) : (x.next c z df).fit n := by
  have plain : ∀ y : Cm, y.so = x.so → y.th = x.th → y.wr = x.wr → y.lk = x.lk → (∀ d, y.st ≠ .doom d) → (∀ k, y.st = .write k → k < x.wr.length) → y.fit n := by
    intro y e1 e2 e3 e4 e5 e6
    exact ⟨by rw [e2]; exact h.th1, by rw [e2]; exact h.th8, by rw [e1]; exact h.s0, by rw [e1]; exact h.sn, by rw [e3]; exact h.w1, by rw [e3]; exact h.w16, by rw [e4]; exact h.lk, by rw [e4]; exact h.inn, fun d e => absurd e (e5 d), fun k e => by rw [e3]; exact e6 k e⟩
  unfold Cm.next
  split
  · split
    · exact plain _ rfl rfl rfl rfl (by intro d e; cases e) (by intro k e; cases e)
    · exact h
  · split
    · exact h.lookOn c df
    · exact h.giveUp _
  · refine Cm.fit.lookOn (x := x.looked z) ⟨h.th1, h.th8, h.s0, h.sn, h.w1, h.w16, h.lk.next hw, h.inn.next h.lk z, ?_, ?_⟩ c df
    · intro d e; exact h.dm d e
    · intro k e; exact h.wk k e
  · rename_i d hd
    have := Dm.next_len d z.hs
    have := (h.dm d hd).2
    exact h.doomOn _ (by omega)
  · rename_i k hk
    have := h.wk k hk
    refine plain _ rfl rfl rfl rfl ?_ ?_
    · intro d e; simp only at e; split at e <;> cases e
    · intro j e
      simp only at e
      split at e
      · cases e
      · cases e; omega
  · exact plain _ rfl rfl rfl rfl (by intro d e; cases e) (by intro k e; cases e)
  · exact plain _ rfl rfl rfl rfl (by intro d e; cases e) (by intro k e; cases e)
  · exact plain _ rfl rfl rfl rfl (by intro d e; cases e) (by intro k e; cases e)
  · exact h
theorem SSt.ok.commits {z : SSt} {c : Cfg} {k : Nat} (h : z.ok c k) (x : Cm) : (z.commits x).ok c (k + 1) := by
  unfold SSt.commits
  split
  · exact h.take _
  · exact h.look _
  · exact h.looks _
  · exact h.dooms _
  · exact h.store _ _
  · exact h.give _
  · exact h.give _
  · exact h.op _ _ (free_keeps h.hd _ _)
  · exact h.more (Nat.le_succ _)
theorem SSt.commits_ws (z : SSt) (x : Cm) : (z.commits x).ws = z.ws := by
  unfold SSt.commits
  split
  any_goals rfl
  · exact SSt.looks_ws _ _
  · exact SSt.dooms_ws _ _
theorem Cm.nextDf_nn (x : Cm) (c : Cfg) (z : SSt) {df : Int} (h : 0 ≤ df) : 0 ≤ x.nextDf c z df := by
  have q : ∀ y : Cm, 0 ≤ y.lookDf c df := fun y => by
    unfold Cm.lookDf
    split
    · exact nxt_nn _ _ _ h
    · exact h
  unfold Cm.nextDf
  split
  · split
    · exact q _
    · exact h
  · exact q _
  · exact h

/-- In memory. -/
def Stg.val (st : Stg) (D gw n cw : Nat) : Value :=
  match st with
  | .take => .iface 355 (.agg #[])
  | .own => .iface 431 (.agg #[])
  | .look => .iface 439 (.agg #[])
  | .doom _ => .iface 449 (.agg #[.pointer (some ⟨D, 0, none⟩)])
  | .write k => .iface 450 (.slice (some ⟨gw, k * 2, none⟩) (n - k) (cw - k))
  | .give => .iface 461 (.agg #[])
  | .up => .iface 438 (.agg #[])
  | .free => .iface 459 (.agg #[])
  | .over => .nilIface
/-- Where its parts lie: the commit, the judge, the writes (block, room), the look. -/
structure CA where
  X : Nat
  J : Nat
  gw : Nat
  cw : Nat
  K : Nat
def Cm.cells (x : Cm) (A : Ad) (B : CA) (vs : Value) : Array Value :=
  #[spp A, .pointer (some ⟨B.J, 0, none⟩), .int .i64 x.so, .int .i64 x.ge, .int .i64 x.th, .int .i64 x.sp, .slice (some ⟨B.gw, 0, none⟩) x.wr.length B.cw, .pointer (some ⟨B.K, 0, none⟩), vs, .int .i64 x.e, .bool x.won, .int .i64 x.num]
def Stg.it (st : Stg) (D t : Nat) (dl dv : Value) : It :=
  match st with
  | .doom d => dmI D t d dl dv
  | _ => joinI []
/-- A commit, whatever its stage's cell holds; behind it another thing. -/
def cmG (A : Ad) (B : CA) (x : Cm) (vs : Value) (X : It) (vl vd vv : Value) : List It :=
  [boxI B.X (x.cells A B vs) 359, ownI 220 2 (.slice (some ⟨B.gw, 0, none⟩) x.wr.length B.cw) x.wr.length (prCells x.wr), lkI B.K A.t x.lk vl vd vv, X]
def cmL (A : Ad) (B : CA) (D : Nat) (x : Cm) (vl vd vv dl dv : Value) : List It := cmG A B x (x.st.val D B.gw x.wr.length B.cw) (x.st.it D A.t dl dv) vl vd vv
def cmI (A : Ad) (B : CA) (D : Nat) (x : Cm) (vl vd vv dl dv : Value) : It := joinI (cmL A B D x vl vd vv dl dv)
end Go.Proofs.YthbcbjkgjgmegaaGreat

namespace Go.Proofs.YthbcbjkgjgmegaaGreat
open Go.RowKit
set_option linter.unusedVariables false
set_option linter.unusedSimpArgs false
attribute [local go_sem ↓] Go.wp_at_zero Go.wp_at_succ

section
variable {o w : World} {R : List It} {A : Ad} {B : CA} {D : Nat} {x : Cm} {c : Cfg} {z : SSt} {v u vs vl vd vv dl dv : Value} {X : It}
theorem cmAt0 : (cmG A B x vs X vl vd vv ++ R)[0]? = some (boxI B.X (x.cells A B vs) 359) := rfl
theorem cmAt1 : (cmG A B x vs X vl vd vv ++ R)[1]? = some (ownI 220 2 (.slice (some ⟨B.gw, 0, none⟩) x.wr.length B.cw) x.wr.length (prCells x.wr)) := rfl
theorem cmAt2 : (cmG A B x vs X vl vd vv ++ R)[2]? = some (lkI B.K A.t x.lk vl vd vv) := rfl
theorem cmAt3 : (cmG A B x vs X vl vd vv ++ R)[3]? = some X := rfl
theorem cmCell (h : St o (cmG A B x vs X vl vd vv ++ R) w) (n : Nat) : w.cell? ⟨B.X, n, none⟩ = (x.cells A B vs)[n]? := h.cell 0 cmAt0 n
theorem cmFrozen (h : St o (cmG A B x vs X vl vd vv ++ R) w) (n : Nat) : w.frozen? ⟨B.X, n, none⟩ = false := h.frozen 0 cmAt0 n
theorem cmSet (i : Nat) (Y : It) : (cmG A B x vs X vl vd vv ++ R).set (4 + i) Y = cmG A B x vs X vl vd vv ++ R.set i Y := by
  rw [List.set_append_right _ _ (by simp [cmG])]
  congr 1
  simp [cmG]
theorem cmGet {i : Nat} {Y : It} (h : R[i]? = some Y) : (cmG A B x vs X vl vd vv ++ R)[4 + i]? = some Y := by
  rw [List.getElem?_append_right (by simp [cmG])]
  simpa [cmG] using h
theorem ifNil (t : TypeId) (y : Value) (w : World) : (binOp .eql 357 (.iface t y) .nilIface).run Tryz.prog w = .ok (.bool false) w := by kernel_rfl
theorem nilNil (w : World) : (binOp .eql 357 .nilIface .nilIface).run Tryz.prog w = .ok (.bool true) w := by kernel_rfl

/-- What the stage's cell says: is it over? -/
def isNilV : Value → Bool
  | .nilIface => true
  | _ => false
theorem cmDone0 (h : St o (cmG A B x vs X vl vd vv ++ R) w) (hv : vs = .nilIface ∨ ∃ t y, vs = .iface t y) :
    Calls Tryz.prog 374 #[.pointer (some ⟨B.X, 0, none⟩)] w fun e w' => e = .returned (.bool (isNilV vs)) ∧ w' = w := by
  have c8 : w.cell? ⟨B.X, 8, none⟩ = some vs := cmCell h 8
  clear h
  have q1 := ifNil
  have q2 := nilNil
  rcases hv with rfl | ⟨t, y, rfl⟩
  · go_enter Tryz.func374, Tryz.ntmps374
    go_wp2_with (simp only [q2])
    go_ret
    exact ⟨rfl, rfl⟩
  · go_enter Tryz.func374, Tryz.ntmps374
    go_wp2_with (simp only [q1])
    go_ret
    exact ⟨rfl, rfl⟩
theorem Stg.val_form (st : Stg) (D gw n cw : Nat) : st.val D gw n cw = .nilIface ∨ ∃ t y, st.val D gw n cw = .iface t y := by
  cases st
  all_goals first | exact .inl rfl | exact .inr ⟨_, _, rfl⟩
theorem Stg.val_nil (st : Stg) (D gw n cw : Nat) : isNilV (st.val D gw n cw) = st.isOver := by
  cases st <;> rfl
theorem cmDoneL (h : St o (cmL A B D x vl vd vv dl dv ++ R) w) :
    Calls Tryz.prog 374 #[.pointer (some ⟨B.X, 0, none⟩)] w fun e w' => e = .returned (.bool x.done) ∧ w' = w := by
  have := cmDone0 (vs := x.st.val D B.gw x.wr.length B.cw) h (Stg.val_form ..)
  rw [Stg.val_nil] at this
  exact this
theorem cmWonL (h : St o (cmL A B D x vl vd vv dl dv ++ R) w) :
    Calls Tryz.prog 377 #[.pointer (some ⟨B.X, 0, none⟩)] w fun e w' => e = .returned (.bool x.won) ∧ w' = w := by
  have c8 : w.cell? ⟨B.X, 10, none⟩ = some (.bool x.won) := cmCell h 10
  clear h
  go_enter Tryz.func377, Tryz.ntmps377
  go_wp2
  go_ret
  exact ⟨rfl, rfl⟩
theorem cmNumberL (h : St o (cmL A B D x vl vd vv dl dv ++ R) w) :
    Calls Tryz.prog 379 #[.pointer (some ⟨B.X, 0, none⟩)] w fun e w' => e = .returned (.int .i64 x.num) ∧ w' = w := by
  have c8 : w.cell? ⟨B.X, 11, none⟩ = some (.int .i64 x.num) := cmCell h 11
  clear h
  go_enter Tryz.func379, Tryz.ntmps379
  go_wp2
  go_ret
  exact ⟨rfl, rfl⟩
theorem cmEndL (h : St o (cmL A B D x vl vd vv dl dv ++ R) w) :
    Calls Tryz.prog 380 #[.pointer (some ⟨B.X, 0, none⟩)] w fun e w' => e = .returned (.int .i64 x.end_) ∧ w' = w := by
  have c8 : w.cell? ⟨B.X, 9, none⟩ = some (.int .i64 x.e) := cmCell h 9
  have hd := cmDoneL h
  clear h
  unfold Cm.end_
  cases hx : x.done
  all_goals
    rw [hx] at hd
    go_enter Tryz.func380, Tryz.ntmps380
    go_wp2_with fail
    refine hd.mono ?_
    rintro e wq ⟨rfl, rfl⟩
    go_wp2
    go_ret
    exact ⟨rfl, rfl⟩
theorem cmVictims0 (h : St o (cmG A B x vs X vl vd vv ++ R) w) (hk : x.lk.fit) :
    Calls Tryz.prog 396 #[.pointer (some ⟨B.X, 0, none⟩)] w fun e w' => ∃ v', e = .returned v' ∧ St o (ownI 374 4 v' x.lk.vs.length (vtCells x.lk.vs) :: (cmG A B x vs X vl vd vv ++ R)) w' := by
  have c8 : w.cell? ⟨B.X, 7, none⟩ = some (.pointer (some ⟨B.K, 0, none⟩)) := cmCell h 7
  have hq := lkVictims h 2 cmAt2 (by have := hk.vn; omega)
  clear h
  go_enter Tryz.func396, Tryz.ntmps396
  go_wp2_with fail
  refine hq.mono ?_
  rintro e wq ⟨v', rfl, s⟩
  have HS : Hid _ := s
  clear s hq c8
  go_wp2
  go_ret
  exact ⟨v', rfl, HS.out⟩
theorem cmGiveUp (h : St o (cmG A B x vs X vl vd vv ++ R) w) (e : Int) :
    Calls Tryz.prog 393 #[.pointer (some ⟨B.X, 0, none⟩), .int .i64 e] w fun r w' => r = .returned (.iface 438 (.agg #[])) ∧ St o (cmG A B (x.giveUp e) vs X vl vd vv ++ R) w' := by
  have c9 : w.cell? ⟨B.X, 9, none⟩ = some (.int .i64 x.e) := cmCell h 9
  have f9 := cmFrozen h 9
  have h1 : St o (cmG A B (x.giveUp e) vs X vl vd vv ++ R) (w.setCell ⟨B.X, 9, none⟩ (.int .i64 e)) := h.write 0 cmAt0 9 (.int .i64 e)
  have HS : Hid _ := h1
  clear h h1
  go_enter Tryz.func393, Tryz.ntmps393
  go_wp2
  go_ret
  exact ⟨rfl, HS.out⟩


theorem cmPut {Y : It} (h : St o (Y :: (cmG A B x vs X vl vd vv ++ R)) w) : St o (cmG A B x vs Y vl vd vv ++ R) w := by
  have q : (Y :: (cmG A B x vs X vl vd vv ++ R)).Perm (X :: (cmG A B x vs Y vl vd vv ++ R)) := by
    have e1 : cmG A B x vs X vl vd vv ++ R = (cmG A B x vs X vl vd vv).take 3 ++ X :: R := rfl
    have e2 : cmG A B x vs Y vl vd vv ++ R = (cmG A B x vs X vl vd vv).take 3 ++ Y :: R := rfl
    rw [e1, e2]
    exact ((List.perm_middle).cons Y).trans ((List.Perm.swap X Y _).trans ((List.perm_middle).symm.cons X))
  exact (h.perm q).pop
/-- Calls that a stage makes, with the commit's cells still there. -/
theorem stGate (h : St o (cmG A B x vs X vl vd vv ++ R) w) (i : Nat) (hi : R[i]? = some (spI A c z v u)) : Calls Tryz.prog 300 #[spp A] w fun e w' => e = .returned (.pointer (some ⟨A.g, 0, none⟩)) ∧ w' = w := spGate h (4 + i) (cmGet hi)
theorem stSlots (h : St o (cmG A B x vs X vl vd vv ++ R) w) (i : Nat) (hi : R[i]? = some (spI A c z v u)) : Calls Tryz.prog 243 #[spp A] w fun e w' => e = .returned (.pointer (some ⟨A.t, 0, none⟩)) ∧ w' = w := spSlots h (4 + i) (cmGet hi)


set_option maxRecDepth 100000 in
set_option maxHeartbeats 1000000 in
theorem stTakeY (h : St o (cmG A B x vs X vl vd vv ++ R) w) (i : Nat) (hi : R[i]? = some (spI A c z v u)) {n : Nat} (ok : z.ok c n) (hn : n ≤ 4611686018427) (hE : takeE z.x x.th = 0) :
    Calls Tryz.prog 382 #[.agg #[], .pointer (some ⟨B.X, 0, none⟩)] w fun e w' => e = .returned (.tuple #[.int .i64 1, .iface 431 (.agg #[])]) ∧ ∃ v', St o (cmG A B { x with num := takeR z.x x.th, st := .own } vs X vl vd vv ++ R.set i (spI A c (z.take x.th) v' u)) w' := by
  have h0 := (h.alloc (.cells #[] 355))
  have c11 : ∀ W v', St o (cmG A B x vs X vl vd vv ++ R.set i (spI A c (z.take x.th) v' u)) W → W.cell? ⟨B.X, 11, none⟩ = some (.int .i64 x.num) ∧ W.frozen? ⟨B.X, 11, none⟩ = false ∧ St o (cmG A B { x with num := takeR z.x x.th, st := .own } vs X vl vd vv ++ R.set i (spI A c (z.take x.th) v' u)) (W.setCell ⟨B.X, 11, none⟩ (.int .i64 (takeR z.x x.th))) := fun W v' s => ⟨cmCell s 11, cmFrozen s 11, s.write 0 cmAt0 11 (.int .i64 (takeR z.x x.th))⟩
  have HP : Hid (∀ W v', St o (cmG A B x vs X vl vd vv ++ R.set i (spI A c (z.take x.th) v' u)) W → ∀ n, St o (cmG A B x vs X vl vd vv ++ R.set i (spI A c (z.take x.th) v' u)) (W.drewN n)) := fun W v' s n => s.calm ((Kept.refl _ W).drewN n)
  have hG : Calls Tryz.prog 300 #[spp A] (w.alloc (.cells #[] 355)).drew _ := stGate h0.drew i hi
  have hq : Calls Tryz.prog 383 #[.pointer (some ⟨A.g, 0, none⟩), .int .i64 x.th] (w.alloc (.cells #[] 355)).drew fun e w' => e = .returned (.tuple #[.int .i64 (takeR z.x x.th), .int .i64 (takeE z.x x.th)]) ∧ (w'.cell? ⟨B.X, 0, none⟩ = some (spp A) ∧ w'.cell? ⟨B.X, 4, none⟩ = some (.int .i64 x.th)) ∧ ∃ v', Hid (St o (cmG A B x vs X vl vd vv ++ R.set i (spI A c (z.take x.th) v' u)) w') := by
    refine (spTake h0.drew (4 + i) (cmGet hi) ok hn x.th).mono ?_
    rintro e w' ⟨he, v', s⟩
    rw [cmSet] at s
    exact ⟨he, ⟨cmCell s 0, cmCell s 4⟩, v', s⟩
  have c0 : (w.alloc (.cells #[] 355)).cell? ⟨B.X, 0, none⟩ = some (spp A) := cmCell h0 0
  have c4 : (w.alloc (.cells #[] 355)).cell? ⟨B.X, 4, none⟩ = some (.int .i64 x.th) := cmCell h0 4
  have HC : Hid _ := c11
  clear h h0 hi ok c11
  generalize takeE z.x x.th = E at *
  generalize takeR z.x x.th = N at *
  generalize z.take x.th = z' at *
  unfold spp at *
  obtain ⟨so, ge, th, sp, wr, lk, st, er, won, num⟩ := x
  simp only at *
  subst hE
  go_enter Tryz.func382, Tryz.ntmps382
  go_upto_region 1 with fail
  generalize w.alloc (.cells #[] 355) = W0 at *
  go_region_held3 (fun W => W.cell? ⟨B.X, 0, none⟩ = some (.pointer (some ⟨A.sp, 0, none⟩)) ∧ W.cell? ⟨B.X, 4, none⟩ = some (.int .i64 th)) (first | go_keep | exact rS)
    (first | (go_at_call 300; refine hG.mono ?_; rintro e wq ⟨rfl, rfl⟩) | (go_at_call 383; refine hq.mono ?_; rintro e w2 ⟨rfl, rS, v', HS⟩))
  clear hq hG c0 c4 rS
  obtain ⟨d11, f11, h3⟩ := HC.out _ _ HS.out
  have HT : Hid _ := h3
  clear h3 HS HC HP
  go_wp2
  go_ret2
  exact ⟨rfl, v', HT.out⟩


set_option maxRecDepth 100000 in
set_option maxHeartbeats 1000000 in
theorem stTakeN (h : St o (cmG A B x vs X vl vd vv ++ R) w) (i : Nat) (hi : R[i]? = some (spI A c z v u)) {n : Nat} (ok : z.ok c n) (hn : n ≤ 4611686018427) (hE : takeE z.x x.th ≠ 0) :
    Calls Tryz.prog 382 #[.agg #[], .pointer (some ⟨B.X, 0, none⟩)] w fun e w' => e = .returned (.tuple #[.int .i64 2, .iface 355 (.agg #[])]) ∧ ∃ v', St o (cmG A B x vs X vl vd vv ++ R.set i (spI A c (z.take x.th) v' u)) w' := by
  have h0 := (h.alloc (.cells #[] 355))
  have c11 : ∀ W v', St o (cmG A B x vs X vl vd vv ++ R.set i (spI A c (z.take x.th) v' u)) W → W.cell? ⟨B.X, 11, none⟩ = some (.int .i64 x.num) ∧ W.frozen? ⟨B.X, 11, none⟩ = false ∧ St o (cmG A B { x with num := takeR z.x x.th, st := .own } vs X vl vd vv ++ R.set i (spI A c (z.take x.th) v' u)) (W.setCell ⟨B.X, 11, none⟩ (.int .i64 (takeR z.x x.th))) := fun W v' s => ⟨cmCell s 11, cmFrozen s 11, s.write 0 cmAt0 11 (.int .i64 (takeR z.x x.th))⟩
  have HP : Hid (∀ W v', St o (cmG A B x vs X vl vd vv ++ R.set i (spI A c (z.take x.th) v' u)) W → ∀ n, St o (cmG A B x vs X vl vd vv ++ R.set i (spI A c (z.take x.th) v' u)) (W.drewN n)) := fun W v' s n => s.calm ((Kept.refl _ W).drewN n)
  have hG : Calls Tryz.prog 300 #[spp A] (w.alloc (.cells #[] 355)).drew _ := stGate h0.drew i hi
  have hq : Calls Tryz.prog 383 #[.pointer (some ⟨A.g, 0, none⟩), .int .i64 x.th] (w.alloc (.cells #[] 355)).drew fun e w' => e = .returned (.tuple #[.int .i64 (takeR z.x x.th), .int .i64 (takeE z.x x.th)]) ∧ (w'.cell? ⟨B.X, 0, none⟩ = some (spp A) ∧ w'.cell? ⟨B.X, 4, none⟩ = some (.int .i64 x.th)) ∧ ∃ v', Hid (St o (cmG A B x vs X vl vd vv ++ R.set i (spI A c (z.take x.th) v' u)) w') := by
    refine (spTake h0.drew (4 + i) (cmGet hi) ok hn x.th).mono ?_
    rintro e w' ⟨he, v', s⟩
    rw [cmSet] at s
    exact ⟨he, ⟨cmCell s 0, cmCell s 4⟩, v', s⟩
  have c0 : (w.alloc (.cells #[] 355)).cell? ⟨B.X, 0, none⟩ = some (spp A) := cmCell h0 0
  have c4 : (w.alloc (.cells #[] 355)).cell? ⟨B.X, 4, none⟩ = some (.int .i64 x.th) := cmCell h0 4
  have HC : Hid _ := c11
  clear h h0 hi ok c11
  generalize takeE z.x x.th = E at *
  generalize takeR z.x x.th = N at *
  generalize z.take x.th = z' at *
  unfold spp at *
  obtain ⟨so, ge, th, sp, wr, lk, st, er, won, num⟩ := x
  simp only at *
  go_enter Tryz.func382, Tryz.ntmps382
  go_upto_region 1 with fail
  generalize w.alloc (.cells #[] 355) = W0 at *
  go_region_held3 (fun W => W.cell? ⟨B.X, 0, none⟩ = some (.pointer (some ⟨A.sp, 0, none⟩)) ∧ W.cell? ⟨B.X, 4, none⟩ = some (.int .i64 th)) (first | go_keep | exact rS)
    (first | (go_at_call 300; refine hG.mono ?_; rintro e wq ⟨rfl, rfl⟩) | (go_at_call 383; refine hq.mono ?_; rintro e w2 ⟨rfl, rS, v', HS⟩))
  clear hq hG c0 c4 rS
  have hE1 : (E != 0) = true := by simpa using hE
  have HT : Hid _ := HP.out _ _ HS.out
  clear HS HC HP hE
  go_wp2_with fail
  go_quiet (fail)
  go_wp2
  go_ret2
  exact ⟨rfl, v', HT.out _⟩


end
end Go.Proofs.YthbcbjkgjgmegaaGreat

namespace Go.Proofs.YthbcbjkgjgmegaaGreat
open Go.RowKit
set_option linter.unusedVariables false
set_option linter.unusedSimpArgs false
attribute [local go_sem ↓] Go.wp_at_zero Go.wp_at_succ

section
variable {o w : World} {R : List It} {A : Ad} {B : CA} {D : Nat} {x : Cm} {c : Cfg} {z : SSt} {v u vs vl vd vv dl dv : Value} {X : It}


set_option maxRecDepth 100000 in
set_option maxHeartbeats 1000000 in
theorem stGive (h : St o (cmG A B x vs X vl vd vv ++ R) w) (i : Nat) (hi : R[i]? = some (spI A c z v u)) {n : Nat} (ok : z.ok c n) (hn : n ≤ 4611686018427) :
    Calls Tryz.prog 427 #[.agg #[], .pointer (some ⟨B.X, 0, none⟩)] w fun e w' => e = .returned (.tuple #[.int .i64 1, .iface 459 (.agg #[])]) ∧ ∃ v', St o (cmG A B { x with won := true, st := .free } vs X vl vd vv ++ R.set i (spI A c (z.give x.th) v' u)) w' := by
  have h0 := (h.alloc (.cells #[] 461))
  have hG : Calls Tryz.prog 300 #[spp A] (w.alloc (.cells #[] 461)).drew _ := stGate h0.drew i hi
  have hq : Calls Tryz.prog 412 #[.pointer (some ⟨A.g, 0, none⟩), .int .i64 x.th] (w.alloc (.cells #[] 461)).drew fun e w' => e = .returned (.int .i64 (giveE z.x x.th)) ∧ (w'.cell? ⟨B.X, 0, none⟩ = some (spp A) ∧ w'.cell? ⟨B.X, 4, none⟩ = some (.int .i64 x.th)) ∧ ∃ v', w'.cell? ⟨B.X, 9, none⟩ = some (.int .i64 x.e) ∧ w'.cell? ⟨B.X, 10, none⟩ = some (.bool x.won) ∧ w'.frozen? ⟨B.X, 10, none⟩ = false ∧ Hid (St o (cmG A B x vs X vl vd vv ++ R.set i (spI A c (z.give x.th) v' u)) w') ∧ Hid (St o (cmG A B { x with won := true, st := .free } vs X vl vd vv ++ R.set i (spI A c (z.give x.th) v' u)) (w'.setCell ⟨B.X, 10, none⟩ (.bool true))) := by
    refine (spGive h0.drew (4 + i) (cmGet hi) ok hn x.th).mono ?_
    rintro e w' ⟨he, v', s⟩
    rw [cmSet] at s
    exact ⟨he, ⟨cmCell s 0, cmCell s 4⟩, v', cmCell s 9, cmCell s 10, cmFrozen s 10, s, s.write 0 cmAt0 10 (.bool true)⟩
  have c0 : (w.alloc (.cells #[] 461)).cell? ⟨B.X, 0, none⟩ = some (spp A) := cmCell h0 0
  have c4 : (w.alloc (.cells #[] 461)).cell? ⟨B.X, 4, none⟩ = some (.int .i64 x.th) := cmCell h0 4
  clear h h0 hi ok
  generalize giveE z.x x.th = E at *
  generalize z.give x.th = z' at *
  unfold spp at *
  obtain ⟨so, ge, th, sp, wr, lk, st, er, won, num⟩ := x
  simp only at *
  go_enter Tryz.func427, Tryz.ntmps427
  go_upto_region 1 with fail
  generalize w.alloc (.cells #[] 461) = W0 at *
  go_region_held3 (fun W => W.cell? ⟨B.X, 0, none⟩ = some (.pointer (some ⟨A.sp, 0, none⟩)) ∧ W.cell? ⟨B.X, 4, none⟩ = some (.int .i64 th)) (first | go_keep | exact rS)
    (first | (go_at_call 300; refine hG.mono ?_; rintro e wq ⟨rfl, rfl⟩) | (go_at_call 412; refine hq.mono ?_; rintro e w2 ⟨rfl, rS, v', d9, d10, f10, HS, HT⟩))
  clear hq hG c0 c4 rS
  clear HS
  go_wp2
  go_ret2
  exact ⟨rfl, v', HT.out⟩


set_option maxRecDepth 100000 in
set_option maxHeartbeats 1000000 in
theorem stUp (h : St o (cmG A B x vs X vl vd vv ++ R) w) (i : Nat) (hi : R[i]? = some (spI A c z v u)) {n : Nat} (ok : z.ok c n) (hn : n ≤ 4611686018427) :
    Calls Tryz.prog 411 #[.agg #[], .pointer (some ⟨B.X, 0, none⟩)] w fun e w' => e = .returned (.tuple #[.int .i64 (if x.e = 9 then 2 else 1), .iface 459 (.agg #[])]) ∧ ∃ v', St o (cmG A B { x with st := .free } vs X vl vd vv ++ R.set i (spI A c (z.give x.th) v' u)) w' := by
  have h0 := (h.alloc (.cells #[] 438))
  have hG : Calls Tryz.prog 300 #[spp A] (w.alloc (.cells #[] 438)).drew _ := stGate h0.drew i hi
  have hq : Calls Tryz.prog 412 #[.pointer (some ⟨A.g, 0, none⟩), .int .i64 x.th] (w.alloc (.cells #[] 438)).drew fun e w' => e = .returned (.int .i64 (giveE z.x x.th)) ∧ (w'.cell? ⟨B.X, 0, none⟩ = some (spp A) ∧ w'.cell? ⟨B.X, 4, none⟩ = some (.int .i64 x.th)) ∧ ∃ v', w'.cell? ⟨B.X, 9, none⟩ = some (.int .i64 x.e) ∧ w'.cell? ⟨B.X, 10, none⟩ = some (.bool x.won) ∧ w'.frozen? ⟨B.X, 10, none⟩ = false ∧ Hid (St o (cmG A B x vs X vl vd vv ++ R.set i (spI A c (z.give x.th) v' u)) w') ∧ Hid (St o (cmG A B { x with won := true, st := .free } vs X vl vd vv ++ R.set i (spI A c (z.give x.th) v' u)) (w'.setCell ⟨B.X, 10, none⟩ (.bool true))) := by
    refine (spGive h0.drew (4 + i) (cmGet hi) ok hn x.th).mono ?_
    rintro e w' ⟨he, v', s⟩
    rw [cmSet] at s
    exact ⟨he, ⟨cmCell s 0, cmCell s 4⟩, v', cmCell s 9, cmCell s 10, cmFrozen s 10, s, s.write 0 cmAt0 10 (.bool true)⟩
  have c0 : (w.alloc (.cells #[] 438)).cell? ⟨B.X, 0, none⟩ = some (spp A) := cmCell h0 0
  have c4 : (w.alloc (.cells #[] 438)).cell? ⟨B.X, 4, none⟩ = some (.int .i64 x.th) := cmCell h0 4
  clear h h0 hi ok
  generalize giveE z.x x.th = E at *
  generalize z.give x.th = z' at *
  unfold spp at *
  obtain ⟨so, ge, th, sp, wr, lk, st, er, won, num⟩ := x
  simp only at *
  obtain ⟨EV, HEV⟩ : ∃ EV : Int, Hid ((if er = 9 then (2 : Int) else 1) = EV) := ⟨_, rfl⟩
  rw [HEV.out]
  go_enter Tryz.func411, Tryz.ntmps411
  go_upto_region 1 with fail
  generalize w.alloc (.cells #[] 438) = W0 at *
  go_region_held3 (fun W => W.cell? ⟨B.X, 0, none⟩ = some (.pointer (some ⟨A.sp, 0, none⟩)) ∧ W.cell? ⟨B.X, 4, none⟩ = some (.int .i64 th)) (first | go_keep | exact rS)
    (first | (go_at_call 300; refine hG.mono ?_; rintro e wq ⟨rfl, rfl⟩) | (go_at_call 412; refine hq.mono ?_; rintro e w2 ⟨rfl, rS, v', d9, d10, f10, HS, HT⟩))
  clear hq hG c0 c4 rS
  clear HT
  by_cases h9 : er = 9
  · subst h9
    obtain rfl : EV = 2 := by rw [← HEV.out]; rfl
    go_wp2
    go_ret2
    exact ⟨rfl, v', HS.out⟩
  · have h9' : (er == 9) = false := by simpa using h9
    obtain rfl : EV = 1 := by rw [← HEV.out, if_neg h9]
    clear h9 HEV
    go_wp2
    go_ret2
    exact ⟨rfl, v', HS.out⟩


set_option maxRecDepth 100000 in
set_option maxHeartbeats 1000000 in
theorem stFree (h : St o (cmG A B x vs X vl vd vv ++ R) w) (i : Nat) (hi : R[i]? = some (spI A c z v u)) {n : Nat} (ok : z.ok c n) (hn : n ≤ 4611686018427) :
    Calls Tryz.prog 426 #[.agg #[], .pointer (some ⟨B.X, 0, none⟩)] w fun e w' => e = .returned (.tuple #[.int .i64 1, .nilIface]) ∧ ∃ v', St o (cmG A B { x with st := .over } vs X vl vd vv ++ R.set i (spI A c (z.op (freeOp x.ge) x.so) v' u)) w' := by
  have h0 := (h.alloc (.cells #[] 459))
  have hG : Calls Tryz.prog 243 #[spp A] (w.alloc (.cells #[] 459)).drew _ := stSlots h0.drew i hi
  have hq : Calls Tryz.prog 348 #[.pointer (some ⟨A.t, 0, none⟩), .int .i64 x.so, .int .i64 x.ge] (w.alloc (.cells #[] 459)).drew fun e w' => e = .returned (.int .i64 ((freeOp x.ge).E z.hs x.so)) ∧ (w'.cell? ⟨B.X, 0, none⟩ = some (spp A) ∧ w'.cell? ⟨B.X, 2, none⟩ = some (.int .i64 x.so) ∧ w'.cell? ⟨B.X, 3, none⟩ = some (.int .i64 x.ge)) ∧ ∃ v', Hid (St o (cmG A B x vs X vl vd vv ++ R.set i (spI A c (z.op (freeOp x.ge) x.so) v' u)) w') := by
    refine (spFree h0.drew (4 + i) (cmGet hi) ok hn x.so x.ge).mono ?_
    rintro e w' ⟨he, v', s⟩
    rw [cmSet] at s
    exact ⟨he, ⟨cmCell s 0, cmCell s 2, cmCell s 3⟩, v', s⟩
  have c0 : (w.alloc (.cells #[] 459)).cell? ⟨B.X, 0, none⟩ = some (spp A) := cmCell h0 0
  have c2 : (w.alloc (.cells #[] 459)).cell? ⟨B.X, 2, none⟩ = some (.int .i64 x.so) := cmCell h0 2
  have c3 : (w.alloc (.cells #[] 459)).cell? ⟨B.X, 3, none⟩ = some (.int .i64 x.ge) := cmCell h0 3
  clear h h0 hi ok
  generalize (freeOp x.ge).E z.hs x.so = E at *
  generalize z.op (freeOp x.ge) x.so = z' at *
  unfold spp at *
  obtain ⟨so, ge, th, sp, wr, lk, st, er, won, num⟩ := x
  simp only at *
  go_enter Tryz.func426, Tryz.ntmps426
  go_upto_region 1 with fail
  generalize w.alloc (.cells #[] 459) = W0 at *
  go_region_held3 (fun W => W.cell? ⟨B.X, 0, none⟩ = some (.pointer (some ⟨A.sp, 0, none⟩)) ∧ W.cell? ⟨B.X, 2, none⟩ = some (.int .i64 so) ∧ W.cell? ⟨B.X, 3, none⟩ = some (.int .i64 ge)) (first | go_keep | exact rS)
    (first | (go_at_call 243; refine hG.mono ?_; rintro e wq ⟨rfl, rfl⟩) | (go_at_call 348; refine hq.mono ?_; rintro e w2 ⟨rfl, rS, v', HS⟩))
  clear hq hG c0 c2 c3 rS
  go_wp2
  go_ret2
  exact ⟨rfl, v', HS.out⟩

/-- A dooming that is under way, or the writes. -/
theorem cmDoomOn (d : Dm) {w : World} (hd : Calls Tryz.prog 403 #[.pointer (some ⟨D, 0, none⟩)] w fun e w' => e = .returned (.bool (decide (d.left = []))) ∧ w' = w) (c6 : w.cell? ⟨B.X, 6, none⟩ = some (.slice (some ⟨B.gw, 0, none⟩) x.wr.length B.cw)) :
    Calls Tryz.prog 399 #[.pointer (some ⟨B.X, 0, none⟩), .pointer (some ⟨D, 0, none⟩)] w fun e w' => e = .returned ((x.doomOn d).st.val D B.gw x.wr.length B.cw) ∧ w' = w := by
  unfold Cm.doomOn
  simp only
  cases hl : decide (d.left = []) with
  | true =>
    rw [hl] at hd
    rw [if_pos (of_decide_eq_true hl)]
    clear hl
    go_enter Tryz.func399, Tryz.ntmps399
    go_wp2_with fail
    refine hd.mono ?_
    rintro e wq ⟨rfl, rfl⟩
    go_wp2
    go_ret
    exact ⟨rfl, rfl⟩
  | false =>
    rw [hl] at hd
    rw [if_neg (of_decide_eq_false hl)]
    clear hl
    go_enter Tryz.func399, Tryz.ntmps399
    go_wp2_with fail
    refine hd.mono ?_
    rintro e wq ⟨rfl, rfl⟩
    go_wp2
    go_ret
    exact ⟨rfl, rfl⟩


theorem Lk.inn.allIn {k : Lk} {n : Nat} (h : k.inn n) : allIn n k.vs := by
  intro j hj
  have := h.vs _ (List.getElem_mem hj)
  obtain ⟨a, b⟩ := this
  unfold inT
  simp only [Bool.and_eq_true, decide_eq_true_eq]
  exact ⟨a, b⟩

set_option maxRecDepth 100000 in
set_option maxHeartbeats 1000000 in
theorem cmLookOn (h : St o (cmG A B x vs (joinI []) vl vd vv ++ R) w) (i j : Nat) (hij : i ≠ j) (hi : R[i]? = some (spI A c z v u)) {df : Int} (hj : R[j]? = some (boxI B.J (jd c df) 257)) (hf : c.fits = true) (hd : 0 ≤ df) (hx : x.fit z.hs.length) :
    Calls Tryz.prog 394 #[.pointer (some ⟨B.X, 0, none⟩)] w fun e w' => ∃ D dl dv, e = .returned ((x.lookOn c df).st.val D B.gw x.wr.length B.cw) ∧ St o (cmG A B (x.lookOn c df) vs ((x.lookOn c df).st.it D A.t dl dv) vl vd vv ++ R.set j (boxI B.J (jd c (x.lookDf c df)) 257)) w' := by
  have c7 : w.cell? ⟨B.X, 7, none⟩ = some (.pointer (some ⟨B.K, 0, none⟩)) := cmCell h 7
  have hD := lkDone h 2 cmAt2
  cases hl : decide (x.lk.left = []) with
  | false =>
    rw [hl] at hD
    have hl' := of_decide_eq_false hl
    have HS : Hid (St o (cmG A B (x.lookOn c df) vs ((x.lookOn c df).st.it 0 A.t vl vl) vl vd vv ++ R.set j (boxI B.J (jd c (x.lookDf c df)) 257)) w) := by
      unfold Cm.lookOn Cm.lookDf
      rw [if_neg hl', if_neg hl', set_back hj]
      exact h
    have HV : Hid ((x.lookOn c df).st.val 0 B.gw x.wr.length B.cw = .iface 439 (.agg #[])) := by
      unfold Cm.lookOn
      rw [if_neg hl']
      rfl
    clear h hi hj hl hl' hx
    go_enter Tryz.func394, Tryz.ntmps394
    go_wp2_with fail
    refine hD.mono ?_
    rintro e wq ⟨rfl, rfl⟩
    go_wp2
    go_ret
    refine ⟨0, vl, vl, ?_, HS.out⟩
    rw [HV.out]
    rfl
  | true =>
    rw [hl] at hD
    have hl' := of_decide_eq_true hl
    have hlo : x.lookOn c df = x.judged (vdV c x.sp df x.lk.vs) := by unfold Cm.lookOn; rw [if_pos hl']
    have hdf : x.lookDf c df = nxt c x.sp df x.lk.vs := by unfold Cm.lookDf; rw [if_pos hl']
    rw [hlo, hdf]
    have hV := cmVictims0 h hx.lk
    have HXF : Hid (x.fit z.hs.length) := hx
    have h9 : x.lk.vs.length ≤ 8 := by have := hx.lk.vn; omega
    -- behind the victims
    have HQ : Hid (∀ v' W, St o (ownI 374 4 v' x.lk.vs.length (vtCells x.lk.vs) :: (cmG A B x vs (joinI []) vl vd vv ++ R)) W → ∃ la lc, v' = .slice la x.lk.vs.length lc ∧ W.cell? ⟨B.X, 1, none⟩ = some (.pointer (some ⟨B.J, 0, none⟩)) ∧ W.cell? ⟨B.X, 5, none⟩ = some (.int .i64 x.sp) ∧ Calls Tryz.prog 397 #[.pointer (some ⟨B.J, 0, none⟩), .int .i64 x.sp, .slice la x.lk.vs.length lc] W.drew fun e w' => e = .returned (.int .i64 (vdV c x.sp df x.lk.vs)) ∧ (w'.cell? ⟨B.X, 1, none⟩ = some (.pointer (some ⟨B.J, 0, none⟩)) ∧ w'.cell? ⟨B.X, 5, none⟩ = some (.int .i64 x.sp)) ∧ Hid (St o (ownI 374 4 (.slice la x.lk.vs.length lc) x.lk.vs.length (vtCells x.lk.vs) :: (cmG A B x vs (joinI []) vl vd vv ++ R.set j (boxI B.J (jd c (nxt c x.sp df x.lk.vs)) 257))) w')) := by
      intro v' W hW
      obtain ⟨la, lc, e, hVI, hN⟩ := own_vin0 (show W.ownsRow 0 374 4 v' x.lk.vs.length (vtCells x.lk.vs) from hW.get 0 rfl)
      subst e
      refine ⟨la, lc, rfl, cmCell hW.pop 1, cmCell hW.pop 5, ?_⟩
      have hj5 : (ownI 374 4 (.slice la x.lk.vs.length lc) x.lk.vs.length (vtCells x.lk.vs) :: (cmG A B x vs (joinI []) vl vd vv ++ R))[(4 + j) + 1]? = some (boxI B.J (jd c df) 257) := cmGet hj
      refine (decide_st (zs := x.lk.vs) hW.drew ((4 + j) + 1) hj5 hf hd x.sp (fun W' hW' => ?_) (by omega)).mono ?_
      · obtain ⟨la', lc', e', hVI', _⟩ := own_vin0 (show W'.ownsRow 0 374 4 (.slice la x.lk.vs.length lc) x.lk.vs.length (vtCells x.lk.vs) from hW'.get 0 rfl)
        simp only [Value.slice.injEq, true_and] at e'
        obtain ⟨rfl, rfl⟩ := e'
        exact hVI'
      · rintro e w' ⟨he, s⟩
        rw [List.set_cons_succ, cmSet] at s
        exact ⟨he, ⟨cmCell s.pop 1, cmCell s.pop 5⟩, s⟩
    have HI : Hid (∀ Y, (R.set j Y)[i]? = some (spI A c z v u)) := fun Y => set_other hi (Ne.symm hij)
    have HX : Hid (1 ≤ x.th ∧ x.th ≤ 8 ∧ allIn z.hs.length x.lk.vs) := ⟨hx.th1, hx.th8, hx.inn.allIn⟩
    have HND : Hid (∀ la lc W R', R'[i]? = some (spI A c z v u) → St o (ownI 374 4 (.slice la x.lk.vs.length lc) x.lk.vs.length (vtCells x.lk.vs) :: (cmG A B x vs (joinI []) vl vd vv ++ R')) W → W.cell? ⟨B.X, 0, none⟩ = some (spp A) ∧ W.cell? ⟨B.X, 4, none⟩ = some (.int .i64 x.th) ∧ Calls Tryz.prog 398 #[spp A, .int .i64 x.th, .slice la x.lk.vs.length lc] W.drew fun e w' => ∃ K vl', e = .returned (.tuple #[.pointer (some ⟨K, 0, none⟩), .int .i64 0]) ∧ (w'.cell? ⟨B.X, 0, none⟩ = some (spp A) ∧ w'.cell? ⟨B.X, 4, none⟩ = some (.int .i64 x.th)) ∧ Hid (St o (dmI K A.t ⟨x.th, x.lk.vs, []⟩ vl' (.slice none 0 0) :: ownI 374 4 (.slice la x.lk.vs.length lc) x.lk.vs.length (vtCells x.lk.vs) :: (cmG A B x vs (joinI []) vl vd vv ++ R')) w')) := by
      intro la lc W R' hi' hW
      refine ⟨cmCell hW.pop 0, cmCell hW.pop 4, ?_⟩
      obtain ⟨la', lc', e', hVI, hN⟩ := own_vin0 (show W.drew.ownsRow 0 374 4 (.slice la x.lk.vs.length lc) x.lk.vs.length (vtCells x.lk.vs) from hW.drew.get 0 rfl)
      simp only [Value.slice.injEq, true_and] at e'
      obtain ⟨rfl, rfl⟩ := e'
      refine (dmNew_st hW.drew ((4 + i) + 1) (show (_ :: (cmG A B x vs (joinI []) vl vd vv ++ R'))[(4 + i) + 1]? = some (spI A c z v u) from cmGet hi') x.th HX.out.1 HX.out.2.1 hVI hN (by omega) HX.out.2.2).mono ?_
      rintro e w' ⟨K, vl', he, s⟩
      exact ⟨K, vl', he, ⟨cmCell s.pop.pop 0, cmCell s.pop.pop 4⟩, s⟩
    have HG : Hid (∀ (la : Option Addr) (lc : Nat) (W : World) (R' : List It), St o (ownI 374 4 (.slice la x.lk.vs.length lc) x.lk.vs.length (vtCells x.lk.vs) :: (cmG A B x vs (joinI []) vl vd vv ++ R')) W → ∀ e : Int, Calls Tryz.prog 393 #[.pointer (some ⟨B.X, 0, none⟩), .int .i64 e] W fun r w' => r = .returned (.iface 438 (.agg #[])) ∧ Hid (St o (cmG A B (x.giveUp e) vs (joinI []) vl vd vv ++ R') w')) := fun la lc W R' hW e => cmGiveUp hW.pop e
    have HDO : Hid (∀ K (vl' : Value) (la : Option Addr) (lc : Nat) (W : World) R', St o (dmI K A.t ⟨x.th, x.lk.vs, []⟩ vl' (.slice none 0 0) :: ownI 374 4 (.slice la x.lk.vs.length lc) x.lk.vs.length (vtCells x.lk.vs) :: (cmG A B x vs (joinI []) vl vd vv ++ R')) W → Calls Tryz.prog 399 #[.pointer (some ⟨B.X, 0, none⟩), .pointer (some ⟨K, 0, none⟩)] W fun e w' => e = .returned ((x.doomOn ⟨x.th, x.lk.vs, []⟩).st.val K B.gw x.wr.length B.cw) ∧ Hid (St o (cmG A B (x.doomOn ⟨x.th, x.lk.vs, []⟩) vs ((x.doomOn ⟨x.th, x.lk.vs, []⟩).st.it K A.t vl' (.slice none 0 0)) vl vd vv ++ R') w')) := by
      intro K vl' la lc W R' hW
      refine (cmDoomOn ⟨x.th, x.lk.vs, []⟩ (dmDone hW 0 rfl) (cmCell hW.pop.pop 6)).mono ?_
      rintro e w' ⟨he, rfl⟩
      refine ⟨he, ?_⟩
      have hp := cmPut hW.swap.pop
      unfold Cm.doomOn
      simp only
      by_cases hv : x.lk.vs = []
      · rw [if_pos hv]
        exact hW.pop.pop
      · rw [if_neg hv]
        exact hp
    clear h hj hl hl' hlo hdf hx
    generalize hVV : vdV c x.sp df x.lk.vs = V at *
    generalize nxt c x.sp df x.lk.vs = DF at *
    have HSP : Hid (1 = 1) := rfl
    unfold spp at *
    go_enter Tryz.func394, Tryz.ntmps394
    go_wp2_with fail
    refine hD.mono ?_
    rintro e wq ⟨rfl, rfl⟩
    clear hD
    go_wp2_with fail
    refine hV.mono ?_
    rintro e w1 ⟨v', rfl, s1⟩
    obtain ⟨la, lc, rfl, c1, c5, hq⟩ := HQ.out _ _ s1
    clear hV HQ s1 c7 hVV
    go_upto_region 4 with fail
    go_region_held3 (fun W => W.cell? ⟨B.X, 1, none⟩ = some (.pointer (some ⟨B.J, 0, none⟩)) ∧ W.cell? ⟨B.X, 5, none⟩ = some (.int .i64 x.sp)) (first | go_keep | exact rS)
      (first | (go_at_call 397; refine hq.mono ?_; rintro e w2 ⟨rfl, rS, HS⟩))
    clear hq c1 c5 rS
    by_cases h2 : V = 2
    · subst h2
      have hg := HG.out _ _ _ _ HS.out 9
      clear HS HG HDO HND
      go_wp2_with fail
      refine hg.mono ?_
      rintro e w3 ⟨rfl, H3⟩
      clear hg
      go_wp2
      go_ret
      exact ⟨0, vl, vl, rfl, H3.out⟩
    · have t2 : (V == 2) = false := by simpa using h2
      by_cases h3 : V = 3
      · subst h3
        have hg := HG.out _ _ _ _ HS.out 8
        clear HS HG HDO HND h2
        go_wp2_with fail
        refine hg.mono ?_
        rintro e w3 ⟨rfl, H3⟩
        clear hg
        go_wp2
        go_ret
        exact ⟨0, vl, vl, rfl, H3.out⟩
      · have t3 : (V == 3) = false := by simpa using h3
        have HJ : Hid (x.judged V = x.doomOn ⟨x.th, x.lk.vs, []⟩) := by show x.judged V = _; unfold Cm.judged; rw [if_neg h2, if_neg h3]
        obtain ⟨c0, c4, hn⟩ := HND.out _ _ _ _ (HI.out _) HS.out
        clear HS HG HND h2 h3
        go_upto_region 9 with fail
        go_region_held3 (fun W => W.cell? ⟨B.X, 0, none⟩ = some (.pointer (some ⟨A.sp, 0, none⟩)) ∧ W.cell? ⟨B.X, 4, none⟩ = some (.int .i64 x.th)) (first | go_keep | exact rS)
          (first | (go_at_call 398; refine hn.mono ?_; rintro e w3 ⟨K, vl', rfl, rS, H3⟩))
        have hdo := HDO.out _ _ _ _ _ _ H3.out
        clear hn c0 c4 rS H3 HDO
        rw [← HJ.out] at hdo
        go_wp2_with fail
        refine hdo.mono ?_
        rintro e w4 ⟨rfl, H4⟩
        clear hdo
        go_wp2
        go_ret
        exact ⟨K, vl', .slice none 0 0, rfl, H4.out⟩


end
end Go.Proofs.YthbcbjkgjgmegaaGreat
