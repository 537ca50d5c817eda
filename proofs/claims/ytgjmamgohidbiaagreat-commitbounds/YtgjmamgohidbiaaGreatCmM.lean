/- Commits as plain data: what a step makes of one, of the space and of the judge; how they lie in memory. -/
import Derived.Test.YtgjmamgohidbiaaGreatLkD
import Derived.Test.YtgjmamgohidbiaaGreatDmA
import Derived.Test.YtgjmamgohidbiaaGreatJd
namespace Go.Proofs.YtgjmamgohidbiaaGreat
open Go.RowKit
set_option linter.unusedVariables false
set_option linter.unusedSimpArgs false

/-- A cell and what it holds. -/
structure Pr where
  ce : Int
  x : Int
def prCells : List Pr → List Value
  | [] => []
  | p :: l => .int .i64 p.ce :: .int .i64 p.x :: prCells l
theorem prCells_length (l : List Pr) : (prCells l).length = l.length * 2 := by
  induction l with
  | nil => rfl
  | cons t l ih => simp [prCells, ih]; omega
theorem prCells_append (l k : List Pr) : prCells (l ++ k) = prCells l ++ prCells k := by
  induction l with
  | nil => rfl
  | cons t l ih => simp [prCells, ih]
def Pr.zero : Pr := ⟨0, 0⟩
theorem prCells_at (l : List Pr) : ∀ k (hk : k < l.length), (prCells l)[k * 2]? = some (.int .i64 (l.getD k Pr.zero).ce) ∧ (prCells l)[k * 2 + 1]? = some (.int .i64 (l.getD k Pr.zero).x) := by
  induction l with
  | nil => intro k hk; simp at hk
  | cons t l ih =>
    intro k hk
    cases k with
    | zero => simp [prCells]
    | succ k =>
      have := ih k (by simpa using hk)
      rw [show (k + 1) * 2 = k * 2 + 1 + 1 by omega, show k * 2 + 1 + 1 + 1 = (k * 2 + 1) + 2 by omega]
      simpa [prCells] using this

/-- Where a commit is. -/
inductive Stg where
  | take
  | own
  | look
  | doom (d : Dm)
  | write (k : Nat)
  | give
  | up
  | free
  | over
structure Cm where
  so : Int
  ge : Int
  th : Int
  sp : Int
  wr : List Pr
  lk : Lk
  st : Stg
  e : Int
  won : Bool
  num : Int
def Cm.giveUp (x : Cm) (e : Int) : Cm := { x with e := e, st := .up }
def Cm.doomOn (x : Cm) (d : Dm) : Cm := { x with st := if d.left = [] then .write 0 else .doom d }
def Cm.judged (x : Cm) (v : Int) : Cm := if v = 2 then x.giveUp 9 else if v = 3 then x.giveUp 8 else x.doomOn ⟨x.th, x.lk.vs, []⟩
def Cm.lookOn (x : Cm) (c : Cfg) (df : Int) : Cm := if x.lk.left = [] then x.judged (vdV c x.sp df x.lk.vs) else { x with st := .look }
def Cm.lookDf (x : Cm) (c : Cfg) (df : Int) : Int := if x.lk.left = [] then nxt c x.sp df x.lk.vs else df
def Hd.mine (h : Hd) (g : Int) : Bool := (h.sa == 2) && (h.gn == g) && !h.dm
def Cm.looked (x : Cm) (z : SSt) : Cm := { x with lk := x.lk.next z }
def Cm.next (x : Cm) (c : Cfg) (z : SSt) (df : Int) : Cm :=
  match x.st with
  | .take => if takeE z.x x.th = 0 then { x with num := takeR z.x x.th, st := .own } else x
  | .own => if (nowAt z.hs x.so).mine x.ge then x.lookOn c df else x.giveUp 7
  | .look => (x.looked z).lookOn c df
  | .doom d => x.doomOn (d.next z.hs)
  | .write k => { x with st := if k + 1 = x.wr.length then .give else .write (k + 1) }
  | .give => { x with won := true, st := .free }
  | .up => { x with st := .free }
  | .free => { x with st := .over }
  | .over => x
def Cm.nextDf (x : Cm) (c : Cfg) (z : SSt) (df : Int) : Int :=
  match x.st with
  | .own => if (nowAt z.hs x.so).mine x.ge then x.lookDf c df else df
  | .look => (x.looked z).lookDf c df
  | _ => df
def SSt.commits (z : SSt) (x : Cm) : SSt :=
  match x.st with
  | .take => z.take x.th
  | .own => z.look x.so
  | .look => z.looks x.lk
  | .doom d => z.dooms d
  | .write k => z.store (x.wr.getD k Pr.zero).ce (x.wr.getD k Pr.zero).x
  | .give => z.give x.th
  | .up => z.give x.th
  | .free => z.op (freeOp x.ge) x.so
  | .over => z
def Cm.ans (x : Cm) (z : SSt) : Int :=
  match x.st with
  | .take => if takeE z.x x.th = 0 then 1 else 2
  | .up => if x.e = 9 then 2 else 1
  | .over => 3
  | _ => 1
def Stg.isOver : Stg → Bool
  | .over => true
  | _ => false
def Cm.done (x : Cm) : Bool := x.st.isOver
def Cm.end_ (x : Cm) : Int := if x.done then x.e else 4

/-- The slots of a look are slots of the table. -/
structure Lk.inn (k : Lk) (n : Nat) : Prop where
  lf : ∀ s, s ∈ k.left → s < n
  me : k.inW = true → 0 ≤ k.met.so ∧ k.met.so < n
  vs : ∀ t, t ∈ k.vs → 0 ≤ t.so ∧ t.so < n
theorem Lk.inn.pass {k : Lk} {n : Nat} (h : k.inn n) : k.pass.inn n := by
  refine ⟨fun s hs => h.lf s (List.mem_of_mem_tail hs), fun e => by simp [Lk.pass] at e, h.vs⟩
theorem Lk.inn.next {k : Lk} {n : Nat} (h : k.inn n) (hk : k.fit) (z : SSt) : (k.next z).inn n := by
  unfold Lk.next
  split
  · exact h
  · rename_i s r hl
    split
    · rename_i hi
      unfold Lk.word
      split
      · exact ⟨h.lf, h.me, h.vs⟩
      · refine Lk.inn.pass ⟨h.lf, h.me, fun t ht => ?_⟩
        simp only at ht
        split at ht
        · rcases List.mem_append.1 ht with ht | ht
          · exact h.vs t ht
          · simp at ht
            subst ht
            exact h.me hi
        · exact h.vs t ht
    · unfold Lk.head
      split
      · have := h.lf s (by rw [hl]; simp)
        exact ⟨h.lf, fun _ => ⟨by simp, by simp; omega⟩, h.vs⟩
      · exact h.pass
theorem Lk.inn_new (wr : Sg) (n own : Nat) : (Lk.new wr n own).inn n := by
  refine ⟨fun s hs => ?_, fun e => by simp [Lk.new] at e, fun t ht => by simp [Lk.new] at ht⟩
  have := (List.mem_filter.1 (show s ∈ othersOf n own from hs)).1
  simpa using this

/-- What a commit may be. -/
structure Cm.fit (x : Cm) (n : Nat) : Prop where
  th1 : 1 ≤ x.th
  th8 : x.th ≤ 8
  s0 : 0 ≤ x.so
  sn : x.so < n
  w1 : 1 ≤ x.wr.length
  w16 : x.wr.length ≤ 16
  lk : x.lk.fit
  inn : x.lk.inn n
  dm : ∀ d, x.st = .doom d → d.left ≠ [] ∧ d.left.length + d.dn.length ≤ 8
  wk : ∀ k, x.st = .write k → k < x.wr.length
theorem Cm.fit.giveUp {x : Cm} {n : Nat} (h : x.fit n) (e : Int) : (x.giveUp e).fit n :=
  ⟨h.th1, h.th8, h.s0, h.sn, h.w1, h.w16, h.lk, h.inn, fun d e => by simp [Cm.giveUp] at e, fun k e => by simp [Cm.giveUp] at e⟩
theorem Cm.fit.doomOn {x : Cm} {n : Nat} (h : x.fit n) (d : Dm) (hd : d.left.length + d.dn.length ≤ 8) : (x.doomOn d).fit n := by
  have := h.w1
  refine ⟨h.th1, h.th8, h.s0, h.sn, h.w1, h.w16, h.lk, h.inn, fun d' e => ?_, fun k e => ?_⟩
  · simp only [Cm.doomOn] at e
    split at e
    · cases e
    · rename_i h0
      cases e
      exact ⟨h0, hd⟩
  · simp only [Cm.doomOn] at e ⊢
    split at e
    · cases e; omega
    · cases e
theorem Cm.lookOn_wr (x : Cm) (c : Cfg) (df : Int) : (x.lookOn c df).wr = x.wr := by
  unfold Cm.lookOn
  split
  · unfold Cm.judged
    split
    · rfl
    · split <;> rfl
  · rfl
theorem Cm.fit.lookOn {x : Cm} {n : Nat} (h : x.fit n) (c : Cfg) (df : Int) : (x.lookOn c df).fit n := by
  unfold Cm.lookOn
  split
  · unfold Cm.judged
    split
    · exact h.giveUp _
    · split
      · exact h.giveUp _
      · have := h.lk.vn
        exact h.doomOn _ (by simp; omega)
  · exact ⟨h.th1, h.th8, h.s0, h.sn, h.w1, h.w16, h.lk, h.inn, fun d e => by simp at e, fun k e => by simp at e⟩
theorem Dm.next_len (d : Dm) (hs : List Hd) : (d.next hs).left.length + (d.next hs).dn.length ≤ d.left.length + d.dn.length := by
  unfold Dm.next
  split
  · exact Nat.le_refl _
  · rename_i t l h
    rw [h]
    simp only [List.length_cons]
    split <;> simp <;> omega
theorem Cm.fit.next {x : Cm} {n : Nat} (h : x.fit n) (c : Cfg) {z : SSt} (hw : WsOk z.ws) (df : Int) : (x.next c z df).fit n := by
  have plain : ∀ y : Cm, y.so = x.so → y.th = x.th → y.wr = x.wr → y.lk = x.lk → (∀ d, y.st ≠ .doom d) → (∀ k, y.st = .write k → k < x.wr.length) → y.fit n := by
    intro y e1 e2 e3 e4 e5 e6
    exact ⟨by rw [e2]; exact h.th1, by rw [e2]; exact h.th8, by rw [e1]; exact h.s0, by rw [e1]; exact h.sn, by rw [e3]; exact h.w1, by rw [e3]; exact h.w16, by rw [e4]; exact h.lk, by rw [e4]; exact h.inn, fun d e => absurd e (e5 d), fun k e => by rw [e3]; exact e6 k e⟩
  unfold Cm.next
  split
  · split
    · exact plain _ rfl rfl rfl rfl (by intro d e; cases e) (by intro k e; cases e)
    · exact h
  · split
    · exact h.lookOn c df
    · exact h.giveUp _
  · refine Cm.fit.lookOn (x := x.looked z) ⟨h.th1, h.th8, h.s0, h.sn, h.w1, h.w16, h.lk.next hw, h.inn.next h.lk z, ?_, ?_⟩ c df
    · intro d e; exact h.dm d e
    · intro k e; exact h.wk k e
  · rename_i d hd
    have := Dm.next_len d z.hs
    have := (h.dm d hd).2
    exact h.doomOn _ (by omega)
  · rename_i k hk
    have := h.wk k hk
    refine plain _ rfl rfl rfl rfl ?_ ?_
    · intro d e; simp only at e; split at e <;> cases e
    · intro j e
      simp only at e
      split at e
      · cases e
      · cases e; omega
  · exact plain _ rfl rfl rfl rfl (by intro d e; cases e) (by intro k e; cases e)
  · exact plain _ rfl rfl rfl rfl (by intro d e; cases e) (by intro k e; cases e)
  · exact plain _ rfl rfl rfl rfl (by intro d e; cases e) (by intro k e; cases e)
  · exact h
theorem SSt.ok.commits {z : SSt} {c : Cfg} {k : Nat} (h : z.ok c k) (x : Cm) : (z.commits x).ok c (k + 1) := by
  unfold SSt.commits
  split
  · exact h.take _
  · exact h.look _
  · exact h.looks _
  · exact h.dooms _
  · exact h.store _ _
  · exact h.give _
  · exact h.give _
  · exact h.op _ _ (free_keeps h.hd _ _)
  · exact h.more (Nat.le_succ _)
theorem SSt.commits_ws (z : SSt) (x : Cm) : (z.commits x).ws = z.ws := by
  unfold SSt.commits
  split
  any_goals rfl
  · exact SSt.looks_ws _ _
  · exact SSt.dooms_ws _ _
theorem Cm.nextDf_nn (x : Cm) (c : Cfg) (z : SSt) {df : Int} (h : 0 ≤ df) : 0 ≤ x.nextDf c z df := by
  have q : ∀ y : Cm, 0 ≤ y.lookDf c df := fun y => by
    unfold Cm.lookDf
    split
    · exact nxt_nn _ _ _ h
    · exact h
  unfold Cm.nextDf
  split
  · split
    · exact q _
    · exact h
  · exact q _
  · exact h

/-- In memory. -/
def Stg.val (st : Stg) (D gw n cw : Nat) : Value :=
  match st with
  | .take => .iface 153 (.agg #[])
  | .own => .iface 284 (.agg #[])
  | .look => .iface 292 (.agg #[])
  | .doom _ => .iface 300 (.agg #[.pointer (some ⟨D, 0, none⟩)])
  | .write k => .iface 301 (.slice (some ⟨gw, k * 2, none⟩) (n - k) (cw - k))
  | .give => .iface 305 (.agg #[])
  | .up => .iface 291 (.agg #[])
  | .free => .iface 302 (.agg #[])
  | .over => .nilIface
/-- Where its parts lie: the commit, the judge, the writes (block, room), the look. -/
structure CA where
  X : Nat
  J : Nat
  gw : Nat
  cw : Nat
  K : Nat
def Cm.cells (x : Cm) (A : Ad) (B : CA) (vs : Value) : Array Value :=
  #[spp A, .pointer (some ⟨B.J, 0, none⟩), .int .i64 x.so, .int .i64 x.ge, .int .i64 x.th, .int .i64 x.sp, .slice (some ⟨B.gw, 0, none⟩) x.wr.length B.cw, .pointer (some ⟨B.K, 0, none⟩), vs, .int .i64 x.e, .bool x.won, .int .i64 x.num]
def Stg.it (st : Stg) (D t : Nat) (dl dv : Value) : It :=
  match st with
  | .doom d => dmI D t d dl dv
  | _ => joinI []
/-- A commit, whatever its stage's cell holds; behind it another thing. -/
def cmG (A : Ad) (B : CA) (x : Cm) (vs : Value) (X : It) (vl vd vv : Value) : List It :=
  [boxI B.X (x.cells A B vs) 157, ownI 59 2 (.slice (some ⟨B.gw, 0, none⟩) x.wr.length B.cw) x.wr.length (prCells x.wr), lkI B.K A.t x.lk vl vd vv, X]
def cmL (A : Ad) (B : CA) (D : Nat) (x : Cm) (vl vd vv dl dv : Value) : List It := cmG A B x (x.st.val D B.gw x.wr.length B.cw) (x.st.it D A.t dl dv) vl vd vv
def cmI (A : Ad) (B : CA) (D : Nat) (x : Cm) (vl vd vv dl dv : Value) : It := joinI (cmL A B D x vl vd vv dl dv)
end Go.Proofs.YtgjmamgohidbiaaGreat
