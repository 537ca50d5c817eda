/- A thread's transactions in memory; what they tell; the small calls. The phase: what is under way, asked through its interface. Steps: through the interface, kind by kind; where nothing is under way. -/
import Derived.Test.YthbcbjkgjgmegaaGreatTxG
import Derived.Test.YthbcbjkgjgmegaaGreatClr
import Derived.Laws.EntriesVeiled
namespace Go.Proofs.YthbcbjkgjgmegaaGreat
open Go.RowKit
set_option linter.unusedVariables false
set_option linter.unusedSimpArgs false
attribute [local go_sem ↓] Go.wp_at_zero Go.wp_at_succ

/-- What a slot's cells are, in a list of slots that lies in memory. -/
theorem slot_cells {o w : World} {its : List It} (h : St o its w) (i : Nat) {g cap : Nat} {hs : List Hd} {ws : List Int} (hi : its[i]? = some (ownI 249 8 (.slice (some ⟨g, 0, none⟩) hs.length cap) hs.length (slCells (slots hs ws)))) (e : ws.length = hs.length * 2) {k : Nat} (hk : k < hs.length) :
    w.cell? ⟨g, k * 8, none⟩ = some (.int .i64 (hs.getD k Hd.zero).gn) ∧ w.cell? ⟨g, k * 8 + 1, none⟩ = some (.int .i64 (hs.getD k Hd.zero).sa) ∧ w.cell? ⟨g, k * 8 + 2, none⟩ = some (.int .i64 (hs.getD k Hd.zero).sp) ∧ w.cell? ⟨g, k * 8 + 3, none⟩ = some (.int .i64 (hs.getD k Hd.zero).th) ∧ w.cell? ⟨g, k * 8 + 4, none⟩ = some (.bool (hs.getD k Hd.zero).dm) ∧ w.cell? ⟨g, k * 8 + 5, none⟩ = some (.int .i64 (hs.getD k Hd.zero).wy) ∧ w.cell? ⟨g, k * 8 + 6, none⟩ = some (.int .u64 (ws.getD (k * 2) 0)) ∧ w.cell? ⟨g, k * 8 + 7, none⟩ = some (.int .u64 (ws.getD (k * 2 + 1) 0)) := by
  have hl := slots_length hs ws e
  have hs' := slots_at hs ws e k hk
  have hkk : k < (slots hs ws).length := by omega
  have hel : (slots hs ws)[k] = mkSl hs[k] (ws.getD (k * 2) 0) (ws.getD (k * 2 + 1) 0) := by
    rw [List.getElem?_eq_getElem hkk] at hs'
    exact Option.some.inj hs'
  have hd : hs.getD k Hd.zero = hs[k] := by rw [List.getD_eq_getElem?_getD, List.getElem?_eq_getElem hk]; rfl
  obtain ⟨a0, a1, a2, a3, a4, a5, a6, a7⟩ := slCells_at (slots hs ws) k hkk
  rw [hel] at a0 a1 a2 a3 a4 a5 a6 a7
  rw [hd]
  exact ⟨(h.ownCell i hi _ (by omega)).trans a0, (h.ownCell i hi _ (by omega)).trans a1, (h.ownCell i hi _ (by omega)).trans a2, (h.ownCell i hi _ (by omega)).trans a3, (h.ownCell i hi _ (by omega)).trans a4, (h.ownCell i hi _ (by omega)).trans a5, (h.ownCell i hi _ (by omega)).trans a6, (h.ownCell i hi _ (by omega)).trans a7⟩
set_option maxRecDepth 100000 in
/-- Where its parts lie. -/
structure TA where
  T : Nat
  J : Nat
  L : Nat
  bm : Nat
  c1 : Nat
  c2 : Nat
  c3 : Nat
  K : Nat
  D : Nat
  lv : Value
  rv : Value
  vl : Value
  vd : Value
  vv : Value
  dl : Value
  dv : Value
  B : CA
def ptr (k : Nat) : Value := .pointer (some ⟨k, 0, none⟩)
def Dg.val (d : Dg) (K X : Nat) : Value :=
  match d with
  | .rest => .iface 200 (.agg #[])
  | .act => .iface 427 (.agg #[])
  | .beg _ => .iface 318 (.agg #[.pointer (some ⟨K, 0, none⟩)])
  | .rd r => .iface 323 (.agg #[.pointer (some ⟨K, 0, none⟩), .int .i64 r.ce])
  | .leav => .iface 324 (.agg #[])
  | .com _ => .iface 331 (.agg #[.pointer (some ⟨X, 0, none⟩)])
  | .abo op e x => .iface 271 (.agg #[.int .i64 op, .int .i64 e, .int .i64 x])
def Dg.it (d : Dg) (A : Ad) (P : TA) : It :=
  match d with
  | .beg b => bgI P.K A.t b
  | .rd r => rdI P.K A.sp r
  | .com x => cmI A P.B P.D x P.vl P.vd P.vv P.dl P.dv
  | _ => joinI []
def tlV (P : TA) (sp : Int) : Value := if sp = 0 then .nilFunc else .func (.func 244) #[] #[.pointer (some ⟨P.c1, 0, none⟩), .pointer (some ⟨P.c2, 0, none⟩), .pointer (some ⟨P.c3, 0, none⟩)]
theorem tlV_on {P : TA} {sp : Int} (h : sp ≠ 0) : some (tlV P sp) = some (.func (.func 244) #[] #[.pointer (some ⟨P.c1, 0, none⟩), .pointer (some ⟨P.c2, 0, none⟩), .pointer (some ⟨P.c3, 0, none⟩)]) := by rw [tlV, if_neg h]
def tlI (A : Ad) (P : TA) (th sp : Int) : It := if sp = 0 then joinI [] else joinI [boxI P.c1 #[.int .i64 th] 3, boxI P.c2 #[.int .i64 sp] 3, boxI P.c3 #[spp A] 26]
/-- Its own cells: dg what is under way, l1 to l3 the operation that ended last. -/
def tC (A : Ad) (P : TA) (th : Int) (dg : Value) (l1 l2 l3 sp : Int) (tv : Value) (f : Frm) (rv : Value) : Array Value :=
  #[spp A, .int .i64 th, .pointer (some ⟨P.J, 0, none⟩), dg, .int .i64 l1, .int .i64 l2, .int .i64 l3, .int .i64 sp, tv, .int .i64 f.sl, .int .i64 f.gn, .int .i64 f.sn, .int .u64 f.sg.lo, .int .u64 f.sg.hi, rv, .pointer (some ⟨P.L, 0, none⟩)]
def prPs (l : List Pr) : List (Value × Value) := l.map (fun p => (.int .i64 p.ce, .int .i64 p.x))
def lgI (P : TA) (wr : List Pr) : It := logI Tryz.prog 261 289 2 3 OKi P.L 16 P.lv P.bm (prPs wr)
def tG (c : Cfg) (P : TA) (cs : Array Value) (df : Int) (wr rds : List Pr) (tI dI : It) : List It :=
  [boxI P.T cs 207, boxI P.J (jd c df) 257, lgI P wr, ownI 220 2 P.rv rds.length (prCells rds), tI, dI]
def Tt.cells (x : Tt) (A : Ad) (P : TA) : Array Value := tC A P x.th (x.dg.val P.K P.B.X) x.lo x.le x.lx x.sp (tlV P x.sp) x.fr P.rv
def txL (c : Cfg) (A : Ad) (P : TA) (x : Tt) : List It := tG c P (x.cells A P) x.df x.wr x.rds (tlI A P x.th x.sp) (x.dg.it A P)
def txI (c : Cfg) (A : Ad) (P : TA) (x : Tt) : It := joinI (txL c A P x)

section
variable {o w : World} {its R : List It} {A : Ad} {c : Cfg} {z : SSt} {v u : Value} {P : TA} {x : Tt} {cs : Array Value} {df : Int} {wr rds : List Pr} {tI dI : It}

theorem tAt0 : (tG c P cs df wr rds tI dI ++ R)[0]? = some (boxI P.T cs 207) := rfl
theorem tAt1 : (tG c P cs df wr rds tI dI ++ R)[1]? = some (boxI P.J (jd c df) 257) := rfl
theorem tAt2 : (tG c P cs df wr rds tI dI ++ R)[2]? = some (lgI P wr) := rfl
theorem tAt3 : (tG c P cs df wr rds tI dI ++ R)[3]? = some (ownI 220 2 P.rv rds.length (prCells rds)) := rfl
theorem tAt4 : (tG c P cs df wr rds tI dI ++ R)[4]? = some tI := rfl
theorem tAt5 : (tG c P cs df wr rds tI dI ++ R)[5]? = some dI := rfl
theorem tAt6 {S : It} : (tG c P cs df wr rds tI dI ++ S :: R)[6]? = some S := rfl
theorem tCell (h : St o (tG c P cs df wr rds tI dI ++ R) w) (n : Nat) : w.cell? ⟨P.T, n, none⟩ = cs[n]? := h.cell 0 tAt0 n
theorem tFrozen (h : St o (tG c P cs df wr rds tI dI ++ R) w) (n : Nat) : w.frozen? ⟨P.T, n, none⟩ = false := h.frozen 0 tAt0 n

/-- An event as it is told: whose it is comes by itself. -/
def Ev.raw (e : Ev) : Value := .agg #[.int .i64 e.kd, .int .i64 0, .int .i64 0, .int .i64 0, .int .i64 e.ce, .int .i64 e.x, .bool e.ow, .int .i64 e.ga, .int .i64 e.er, .int .i64 e.by_]

theorem hid {p : Prop} (h : p) : Hid p := h

set_option maxRecDepth 100000 in
set_option maxHeartbeats 1000000 in
theorem tell_st {th sp : Int} (h : St o its w) (i j : Nat) (hij : i ≠ j) (hi : its[i]? = some (spI A c z v u)) (hj : its[j]? = some (tlI A P th sp)) (hs : sp ≠ 0) (hb : z.ev.length ≤ 2000000000) (kd ce xv : Int) (ow : Bool) (ga er by_ : Int) :
    Calls Tryz.prog 244 #[.agg #[.int .i64 kd, .int .i64 0, .int .i64 0, .int .i64 0, .int .i64 ce, .int .i64 xv, .bool ow, .int .i64 ga, .int .i64 er, .int .i64 by_], .pointer (some ⟨P.c1, 0, none⟩), .pointer (some ⟨P.c2, 0, none⟩), .pointer (some ⟨P.c3, 0, none⟩)] w fun e w' => e = .returned (.tuple #[]) ∧ ∃ u', St o (its.set i (spI A c (z.noted ⟨kd, 0, th, sp, ce, xv, ow, ga, er, by_⟩) v u')) w' := by
  have hj' : its[j]? = some (joinI [boxI P.c1 #[.int .i64 th] 3, boxI P.c2 #[.int .i64 sp] 3, boxI P.c3 #[spp A] 26]) := by rw [hj, tlI, if_neg hs]
  have h0 := h.box #[.int .i64 kd, .int .i64 0, .int .i64 0, .int .i64 0, .int .i64 ce, .int .i64 xv, .bool ow, .int .i64 ga, .int .i64 er, .int .i64 by_] 145
  have HX : Hid (∀ W (X : It), St o (X :: its) W → W.cell? ⟨P.c1, 0, none⟩ = some (.int .i64 th) ∧ W.cell? ⟨P.c2, 0, none⟩ = some (.int .i64 sp) ∧ W.cell? ⟨P.c3, 0, none⟩ = some (spp A)) := fun W X hW =>
    have ho := hW.open (j + 1) (show (_ :: its)[j + 1]? = _ from hj')
    ⟨ho.cell 0 rfl 0, ho.cell 1 rfl 0, ho.cell 2 rfl 0⟩
  have HI : Hid (its[i]? = some (spI A c z v u)) := hi
  clear hj hj' hi h
  go_enter Tryz.func244, Tryz.ntmps244
  go_upto_region 1 with fail
  generalize w.alloc (.cells #[.int .i64 kd, .int .i64 0, .int .i64 0, .int .i64 0, .int .i64 ce, .int .i64 xv, .bool ow, .int .i64 ga, .int .i64 er, .int .i64 by_] 145) = W0 at *
  generalize w.heap.size = B at *
  have q0 : W0.cell? ⟨P.c1, 0, none⟩ = some (.int .i64 th) := (HX.out W0 _ h0).1
  have q1 : W0.cell? ⟨P.c2, 0, none⟩ = some (.int .i64 sp) := (HX.out W0 _ h0).2.1
  have q2 : W0.cell? ⟨B, 2, none⟩ = some (.int .i64 0) := h0.cell 0 rfl 2
  have q3 : W0.cell? ⟨B, 3, none⟩ = some (.int .i64 0) := h0.cell 0 rfl 3
  have p2 : W0.frozen? ⟨B, 2, none⟩ = false := h0.frozen 0 rfl 2
  have p3 : W0.frozen? ⟨B, 3, none⟩ = false := h0.frozen 0 rfl 3
  have H1 : Hid (St o (boxI B #[.int .i64 kd, .int .i64 0, .int .i64 th, .int .i64 sp, .int .i64 ce, .int .i64 xv, .bool ow, .int .i64 ga, .int .i64 er, .int .i64 by_] 145 :: its) ((W0.setCell ⟨B, 2, none⟩ (.int .i64 th)).setCell ⟨B, 3, none⟩ (.int .i64 sp)).drew) := ((h0.write 0 rfl 2 (.int .i64 th)).write 0 rfl 3 (.int .i64 sp)).drew
  clear h0
  go_region_with (fail)
  all_goals
    clear q0 q1 q2 q3 p2 p3
    generalize ((W0.setCell ⟨B, 2, none⟩ (.int .i64 th)).setCell ⟨B, 3, none⟩ (.int .i64 sp)).drew = w2 at *
    have s2 := H1.out
    have q0 : w2.cell? ⟨B, 0, none⟩ = some (.int .i64 kd) := s2.cell 0 rfl 0
    have q1 : w2.cell? ⟨B, 1, none⟩ = some (.int .i64 0) := s2.cell 0 rfl 1
    have q2 : w2.cell? ⟨B, 2, none⟩ = some (.int .i64 th) := s2.cell 0 rfl 2
    have q3 : w2.cell? ⟨B, 3, none⟩ = some (.int .i64 sp) := s2.cell 0 rfl 3
    have q4 : w2.cell? ⟨B, 4, none⟩ = some (.int .i64 ce) := s2.cell 0 rfl 4
    have q5 : w2.cell? ⟨B, 5, none⟩ = some (.int .i64 xv) := s2.cell 0 rfl 5
    have q6 : w2.cell? ⟨B, 6, none⟩ = some (.bool ow) := s2.cell 0 rfl 6
    have q7 : w2.cell? ⟨B, 7, none⟩ = some (.int .i64 ga) := s2.cell 0 rfl 7
    have q8 : w2.cell? ⟨B, 8, none⟩ = some (.int .i64 er) := s2.cell 0 rfl 8
    have q9 : w2.cell? ⟨B, 9, none⟩ = some (.int .i64 by_) := s2.cell 0 rfl 9
    have p0 : w2.cell? ⟨P.c3, 0, none⟩ = some (spp A) := (HX.out w2 _ s2).2.2
    have hq := spNote s2 (i + 1) HI.out (by omega) ⟨kd, 0, th, sp, ce, xv, ow, ga, er, by_⟩
    unfold Ev.val at hq
    unfold spp at p0 hq
    clear s2 H1 HX HI
    go_wp2_with fail
    refine hq.mono ?_
    rintro e w3 ⟨rfl, u', s3⟩
    have H3 := hid (St.pop s3)
    clear s3 hq q0 q1 q2 q3 q4 q5 q6 q7 q8 q9 p0
    go_wp2
    go_end0
    exact ⟨rfl, u', H3.out⟩
theorem nowAt_getD {hs : List Hd} {i : Int} (h0 : 0 ≤ i) (h1 : i < hs.length) : nowAt hs i = hs.getD i.toNat Hd.zero := by
  obtain ⟨k, rfl⟩ := Int.eq_ofNat_of_zero_le h0
  have hk : k < hs.length := by omega
  rw [nowAt, headAt_in hk]
  simp [hk]

section
variable {dg tv rv : Value} {th l1 l2 l3 sp : Int} {f : Frm}
theorem tTell (h : St o (tG c P cs df wr rds (tlI A P th sp) dI ++ spI A c z v u :: R) w) (hs : sp ≠ 0) (hb : z.ev.length ≤ 2000000000) (kd ce xv : Int) (ow : Bool) (ga er by_ : Int) :
    Calls Tryz.prog 244 #[.agg #[.int .i64 kd, .int .i64 0, .int .i64 0, .int .i64 0, .int .i64 ce, .int .i64 xv, .bool ow, .int .i64 ga, .int .i64 er, .int .i64 by_], .pointer (some ⟨P.c1, 0, none⟩), .pointer (some ⟨P.c2, 0, none⟩), .pointer (some ⟨P.c3, 0, none⟩)] w fun e w' => e = .returned (.tuple #[]) ∧ ∃ u', St o (tG c P cs df wr rds (tlI A P th sp) dI ++ spI A c (z.noted ⟨kd, 0, th, sp, ce, xv, ow, ga, er, by_⟩) v u' :: R) w' :=
  tell_st h 6 4 (by decide) tAt6 tAt4 hs hb kd ce xv ow ga er by_

theorem fldGt (a b : Int) (W : World) : (Instr.field 70 (.agg #[.int .i64 a, .int .i64 b]) 0).run Tryz.prog W = .ok (.int .i64 a) W := by kernel_rfl
theorem fldCe (a b d e g i : Int) (W : World) : (Instr.field 24 (.agg #[.int .i64 a, .int .i64 b, .int .i64 d, .int .i64 e, .int .i64 g, .int .i64 i]) 0).run Tryz.prog W = .ok (.int .i64 a) W := by kernel_rfl
theorem fldLE (a b d : Int) (W : World) : (Instr.field 127 (.agg #[.int .i64 a, .int .i64 b, .int .i64 d]) 1).run Tryz.prog W = .ok (.int .i64 b) W := by kernel_rfl
set_option maxRecDepth 100000 in
theorem tGateNow (h : St o (tG c P (tC A P th dg l1 l2 l3 sp tv f rv) df wr rds tI dI ++ spI A c z v u :: R) w) :
    Calls Tryz.prog 360 #[.pointer (some ⟨P.T, 0, none⟩)] w fun e w' => e = .returned (.int .i64 z.x.n) ∧ St o (tG c P (tC A P th dg l1 l2 l3 sp tv f rv) df wr rds tI dI ++ spI A c z v u :: R) w' := by
  have c0 : w.cell? ⟨P.T, 0, none⟩ = some (spp A) := tCell h 0
  have hg := spGate h 6 tAt6
  have hn := spNow h 6 tAt6
  unfold Gt.val at hn
  clear h
  unfold spp at c0 hg
  go_enter Tryz.func360, Tryz.ntmps360
  go_wp2_with (go_at_call 300; refine hg.mono ?_; rintro e wq ⟨rfl, rfl⟩)
  refine hn.mono ?_
  rintro e w1 ⟨rfl, s1⟩
  have H1 := hid s1
  clear s1 hn hg c0
  go_wp2_with (simp only [fldGt])
  go_ret
  exact ⟨rfl, H1.out⟩

set_option maxRecDepth 100000 in
set_option maxHeartbeats 1000000 in
theorem tFree (h : St o (tG c P (tC A P th dg l1 l2 l3 sp tv f rv) df wr rds tI dI ++ spI A c z v u :: R) w) {n : Nat} (ok : z.ok c n) (hn : n ≤ 1000000000) :
    Calls Tryz.prog 331 #[.pointer (some ⟨P.T, 0, none⟩)] w fun e w' => e = .returned (.tuple #[]) ∧ ∃ v', St o (tG c P (tC A P th dg l1 l2 l3 sp tv f rv) df wr rds tI dI ++ spI A c (z.op (freeOp f.gn) f.sl) v' u :: R) w' := by
  have hG : Calls Tryz.prog 243 #[spp A] w.drew _ := spSlots h.drew 6 tAt6
  have hq : Calls Tryz.prog 348 #[.pointer (some ⟨A.t, 0, none⟩), .int .i64 f.sl, .int .i64 f.gn] w.drew fun e w' => e = .returned (.int .i64 ((freeOp f.gn).E z.hs f.sl)) ∧ (w'.cell? ⟨P.T, 0, none⟩ = some (spp A) ∧ w'.cell? ⟨P.T, 9, none⟩ = some (.int .i64 f.sl) ∧ w'.cell? ⟨P.T, 10, none⟩ = some (.int .i64 f.gn)) ∧ ∃ v', Hid (St o (tG c P (tC A P th dg l1 l2 l3 sp tv f rv) df wr rds tI dI ++ spI A c (z.op (freeOp f.gn) f.sl) v' u :: R) w') := by
    refine (spFree h.drew 6 tAt6 ok (by omega) f.sl f.gn).mono ?_
    rintro e w' ⟨he, v', s⟩
    have s : St o (tG c P (tC A P th dg l1 l2 l3 sp tv f rv) df wr rds tI dI ++ spI A c (z.op (freeOp f.gn) f.sl) v' u :: R) w' := s
    exact ⟨he, ⟨tCell s 0, tCell s 9, tCell s 10⟩, v', s⟩
  have c0 : w.cell? ⟨P.T, 0, none⟩ = some (spp A) := tCell h 0
  have c9 : w.cell? ⟨P.T, 9, none⟩ = some (.int .i64 f.sl) := tCell h 9
  have c10 : w.cell? ⟨P.T, 10, none⟩ = some (.int .i64 f.gn) := tCell h 10
  clear h ok
  generalize (freeOp f.gn).E z.hs f.sl = E at *
  generalize z.op (freeOp f.gn) f.sl = z' at *
  unfold spp at c0 hG hq
  go_enter Tryz.func331, Tryz.ntmps331
  go_upto_region 0 with fail
  go_region_held3 (fun W => W.cell? ⟨P.T, 0, none⟩ = some (.pointer (some ⟨A.sp, 0, none⟩)) ∧ W.cell? ⟨P.T, 9, none⟩ = some (.int .i64 f.sl) ∧ W.cell? ⟨P.T, 10, none⟩ = some (.int .i64 f.gn)) (first | go_keep | exact rS)
    (first | (go_at_call 243; refine hG.mono ?_; rintro e wq ⟨rfl, rfl⟩) | (go_at_call 348; refine hq.mono ?_; rintro e w2 ⟨rfl, rS, v', HS⟩))
  clear hq hG c0 c9 c10 rS
  go_wp2
  go_end0
  exact ⟨rfl, v', HS.out⟩

set_option maxRecDepth 100000 in
set_option maxHeartbeats 1000000 in
theorem tDoomer (h : St o (tG c P (tC A P th dg l1 l2 l3 sp tv f rv) df wr rds tI dI ++ spI A c z v u :: R) w) {n : Nat} (ok : z.ok c n) (h0 : 0 ≤ f.sl) (h1 : f.sl < z.hs.length) :
    Calls Tryz.prog 346 #[.pointer (some ⟨P.T, 0, none⟩)] w fun e w' => e = .returned (.int .i64 (nowAt z.hs f.sl).wy) ∧ St o (tG c P (tC A P th dg l1 l2 l3 sp tv f rv) df wr rds tI dI ++ spI A c z v u :: R) w' := by
  rw [nowAt_getD h0 h1]
  have hG : Calls Tryz.prog 243 #[spp A] w.drew _ := spSlots h.drew 6 tAt6
  have hq := spTabAll h.drew 6 tAt6 ok.wl ok.h1 ok.h8
  have c0 : w.cell? ⟨P.T, 0, none⟩ = some (spp A) := tCell h 0
  have c9 : w.cell? ⟨P.T, 9, none⟩ = some (.int .i64 f.sl) := tCell h 9
  have HC : Hid (∀ W g cap, St o (ownI 249 8 (.slice (some ⟨g, 0, none⟩) z.hs.length cap) z.hs.length (slCells (slots z.hs z.ws)) :: (tG c P (tC A P th dg l1 l2 l3 sp tv f rv) df wr rds tI dI ++ spI A c z v u :: R)) W → W.cell? ⟨g, f.sl.toNat * 8 + 5, none⟩ = some (.int .i64 (z.hs.getD f.sl.toNat Hd.zero).wy)) := fun W g cap hW => (slot_cells hW 0 rfl ok.wl (by omega)).2.2.2.2.2.1
  have hl1 := ok.h1
  clear h ok
  generalize (z.hs.getD f.sl.toNat Hd.zero).wy = WY at *
  unfold spp at c0 hG
  obtain ⟨k, hk⟩ := Int.eq_ofNat_of_zero_le h0
  rw [hk] at c9 h1 HC
  simp only [Int.toNat_natCast, Int.ofNat_eq_natCast] at *
  go_enter Tryz.func346, Tryz.ntmps346
  go_upto_region 1 with fail
  go_region_with (first | (go_at_call 243; refine hG.mono ?_; rintro e wq ⟨rfl, rfl⟩) | (go_at_call 79; refine hq.mono ?_; rintro e w2 ⟨v2, rfl, s2⟩; obtain ⟨g, cap, rfl⟩ := s2.form 0 rfl hl1; have c5 := HC.out w2 g cap s2; have H2 := hid s2.pop; have k9 : w2.cell? ⟨P.T, 9, none⟩ = some (.int .i64 (k : Int)) := (s2.cell 1 rfl 9).trans (by rw [← hk]; rfl); clear s2))
  all_goals
    clear hG hq c0 c9 c5 k9 HC
    go_wp2
    go_ret
    exact ⟨rfl, H2.out⟩

set_option maxRecDepth 100000 in
set_option maxHeartbeats 1000000 in
theorem tTellAbort (h : St o (tG c P (tC A P th dg l1 l2 l3 sp (tlV P sp) f rv) df wr rds (tlI A P th sp) dI ++ spI A c z v u :: R) w) (hs : sp ≠ 0) (hb : z.ev.length ≤ 2000000000) (er by_ : Int) :
    Calls Tryz.prog 347 #[.pointer (some ⟨P.T, 0, none⟩), .int .i64 er, .int .i64 by_] w fun e w' => e = .returned (.tuple #[]) ∧ ∃ u', St o (tG c P (tC A P th dg l1 l2 l3 sp (tlV P sp) f rv) df wr rds (tlI A P th sp) dI ++ spI A c (z.noted ⟨5, 0, th, sp, 0, 0, false, 0, er, if er = 7 then by_ else 0⟩) v u' :: R) w' := by
  have c8 : w.cell? ⟨P.T, 8, none⟩ = some (.func (.func 244) #[] #[.pointer (some ⟨P.c1, 0, none⟩), .pointer (some ⟨P.c2, 0, none⟩), .pointer (some ⟨P.c3, 0, none⟩)]) := (tCell h 8).trans (tlV_on hs)
  by_cases h7 : er = 7
  · rw [if_pos h7]
    have hq := tTell h hs hb 5 0 0 false 0 er by_
    have e7 : (er != 7) = false := by simp [h7]
    clear h hs h7
    go_enter Tryz.func347, Tryz.ntmps347
    go_wp2_with fail
    refine hq.mono ?_
    rintro e w1 ⟨rfl, u', s1⟩
    have H1 := hid s1
    clear s1 hq c8
    go_wp2
    go_end0
    exact ⟨rfl, u', H1.out⟩
  · rw [if_neg h7]
    have hq := tTell h hs hb 5 0 0 false 0 er 0
    have e7 : (er != 7) = true := by simp [h7]
    clear h hs h7
    go_enter Tryz.func347, Tryz.ntmps347
    go_wp2_with fail
    refine hq.mono ?_
    rintro e w1 ⟨rfl, u', s1⟩
    have H1 := hid s1
    clear s1 hq c8
    go_wp2
    go_end0
    exact ⟨rfl, u', H1.out⟩

set_option maxRecDepth 100000 in
theorem tSlot (h : St o (tG c P (tC A P th dg l1 l2 l3 sp tv f rv) df wr rds tI dI ++ R) w) :
    Calls Tryz.prog 97 #[.pointer (some ⟨P.T, 0, none⟩)] w fun e w' => e = .returned (.tuple #[.int .i64 f.sl, .int .i64 f.gn]) ∧ ∃ q, w' = w.drewN q := by
  have c9 : w.cell? ⟨P.T, 9, none⟩ = some (.int .i64 f.sl) := tCell h 9
  have c10 : w.cell? ⟨P.T, 10, none⟩ = some (.int .i64 f.gn) := tCell h 10
  clear h
  go_enter Tryz.func97, Tryz.ntmps97
  go_wp2_with fail
  go_quiet (fail)
  go_wp2
  exact bodyPost_ret (v := .tuple #[.int .i64 f.sl, .int .i64 f.gn]) (by simp [results, Tryz.results97, go_sem]) rfl ⟨rfl, _, rfl⟩

set_option maxRecDepth 100000 in
theorem tDefers (h : St o (tG c P (tC A P th dg l1 l2 l3 sp tv f rv) df wr rds tI dI ++ R) w) :
    Calls Tryz.prog 99 #[.pointer (some ⟨P.T, 0, none⟩)] w fun e w' => e = .returned (.int .i64 df) ∧ w' = w := by
  have c2 : w.cell? ⟨P.T, 2, none⟩ = some (.pointer (some ⟨P.J, 0, none⟩)) := tCell h 2
  have hq := defers_st h 1 tAt1
  clear h
  go_enter Tryz.func99, Tryz.ntmps99
  go_wp2_with (go_at_call 136; refine hq.mono ?_; rintro e wq ⟨rfl, rfl⟩)
  go_ret
  exact ⟨rfl, rfl⟩

set_option maxRecDepth 100000 in
theorem tLast (h : St o (tG c P (tC A P th dg l1 l2 l3 sp tv f rv) df wr rds tI dI ++ R) w) :
    Calls Tryz.prog 137 #[.pointer (some ⟨P.T, 0, none⟩)] w fun e w' => e = .returned (.agg #[.int .i64 l1, .int .i64 l2, .int .i64 l3]) ∧ Kept (fun _ => False) w w' := by
  have h0 := h.box #[.int .i64 0, .int .i64 0, .int .i64 0] 127
  have HK : Hid (∀ u0 u1 u2, Kept (fun _ => False) w ((((w.alloc (.cells #[.int .i64 0, .int .i64 0, .int .i64 0] 127)).setCell ⟨w.heap.size, 0, none⟩ u0).setCell ⟨w.heap.size, 1, none⟩ u1).setCell ⟨w.heap.size, 2, none⟩ u2)) := fun u0 u1 u2 => (((kept_alloc w _).setCell _ (.inr (Nat.le_refl _))).setCell _ (.inr (Nat.le_refl _))).setCell _ (.inr (Nat.le_refl _))
  clear h
  go_enter Tryz.func137, Tryz.ntmps137
  go_upto_region 1 with fail
  have HW : Hid (w.heap.size = w.heap.size) := hid rfl
  generalize w.alloc (.cells #[.int .i64 0, .int .i64 0, .int .i64 0] 127) = W0 at *
  generalize w.heap.size = B at *
  have s0 : St o (boxI B #[.int .i64 0, .int .i64 0, .int .i64 0] 127 :: (tG c P (tC A P th dg l1 l2 l3 sp tv f rv) df wr rds tI dI ++ R)) W0 := h0
  have c4 : W0.cell? ⟨P.T, 4, none⟩ = some (.int .i64 l1) := s0.cell 1 rfl 4
  have c5 : W0.cell? ⟨P.T, 5, none⟩ = some (.int .i64 l2) := s0.cell 1 rfl 5
  have c6 : W0.cell? ⟨P.T, 6, none⟩ = some (.int .i64 l3) := s0.cell 1 rfl 6
  have b0 : W0.cell? ⟨B, 0, none⟩ = some (.int .i64 0) := s0.cell 0 rfl 0
  have b1 : W0.cell? ⟨B, 1, none⟩ = some (.int .i64 0) := s0.cell 0 rfl 1
  have b2 : W0.cell? ⟨B, 2, none⟩ = some (.int .i64 0) := s0.cell 0 rfl 2
  have f0 : W0.frozen? ⟨B, 0, none⟩ = false := s0.frozen 0 rfl 0
  have f1 : W0.frozen? ⟨B, 1, none⟩ = false := s0.frozen 0 rfl 1
  have f2 : W0.frozen? ⟨B, 2, none⟩ = false := s0.frozen 0 rfl 2
  clear h0 s0 HW
  go_wp2
  exact bodyPost_ret (v := .agg #[.int .i64 l1, .int .i64 l2, .int .i64 l3]) (by simp [results, Tryz.results137, go_sem, b0, b1, b2]) rfl ⟨rfl, HK.out _ _ _⟩

set_option maxRecDepth 100000 in
theorem tReads {cs : Array Value} (h : St o (tG c P cs df wr rds tI dI ++ R) w) (h14 : cs[14]? = some P.rv) (hl : rds.length ≤ 1000000000) :
    Calls Tryz.prog 95 #[.pointer (some ⟨P.T, 0, none⟩)] w fun e w' => ∃ v', e = .returned v' ∧ St o (ownI 220 2 v' rds.length (prCells rds) :: (tG c P cs df wr rds tI dI ++ R)) w' := by
  have c14 : w.cell? ⟨P.T, 14, none⟩ = some P.rv := (tCell h 14).trans h14
  have ho : w.ownsRow 0 220 2 P.rv rds.length (prCells rds) := h.get 3 tAt3
  obtain ⟨la, lc, e1, hP, hN⟩ := own_pin ho
  have hq := clonePr la rds.length lc rds w hP hN (by omega)
  rw [e1] at c14
  have HS : Hid (∀ w' v', w'.ownsRow w.heap.size 220 2 v' rds.length (prCells rds) → Kept (fun _ => False) w w' → St o (ownI 220 2 v' rds.length (prCells rds) :: (tG c P cs df wr rds tI dI ++ R)) w') := fun w' v' p k => h.own k p
  clear h ho hP hN e1 h14
  go_enter Tryz.func95, Tryz.ntmps95
  go_wp2_with fail
  refine hq.mono ?_
  rintro e w1 ⟨v', rfl, o1, k1⟩
  have H1 := hid (HS.out w1 v' o1 k1)
  obtain ⟨pb, cb, rfl⟩ := own_form (show (ownI 220 2 v' rds.length (prCells rds)).P w1 from H1.out.get 0 rfl)
  clear hq o1 k1 c14 HS
  go_wp2
  go_ret
  exact ⟨_, rfl, H1.out⟩
end
end
end Go.Proofs.YthbcbjkgjgmegaaGreat

namespace Go.Proofs.YthbcbjkgjgmegaaGreat
open Go.RowKit
set_option linter.unusedVariables false
set_option linter.unusedSimpArgs false
attribute [local go_sem ↓] Go.wp_at_zero Go.wp_at_succ

theorem mPh_rest  (W : World) : (method 564 200 (.agg #[]) "quash/tx.phase").run Tryz.prog W = .ok (342, .agg #[]) W := by kernel_rfl
theorem mSt_rest  (W : World) : (method 564 200 (.agg #[]) "quash/tx.step").run Tryz.prog W = .ok (343, .agg #[]) W := by kernel_rfl
set_option maxRecDepth 100000 in
theorem ph_rest  (w : World) : Calls Tryz.prog 342 #[.agg #[]] w fun e w' => e = .returned (.int .i64 0) ∧ Kept (fun _ => False) w w' := by
  go_enter Tryz.func342, Tryz.ntmps342
  go_wp2
  go_ret
  first | exact ⟨rfl, Kept.refl _ _⟩ | exact ⟨rfl, kept_alloc _ _⟩
theorem mPh_act  (W : World) : (method 564 427 (.agg #[]) "quash/tx.phase").run Tryz.prog W = .ok (390, .agg #[]) W := by kernel_rfl
theorem mSt_act  (W : World) : (method 564 427 (.agg #[]) "quash/tx.step").run Tryz.prog W = .ok (391, .agg #[]) W := by kernel_rfl
set_option maxRecDepth 100000 in
theorem ph_act  (w : World) : Calls Tryz.prog 390 #[.agg #[]] w fun e w' => e = .returned (.int .i64 2) ∧ Kept (fun _ => False) w w' := by
  go_enter Tryz.func390, Tryz.ntmps390
  go_wp2
  go_ret
  first | exact ⟨rfl, Kept.refl _ _⟩ | exact ⟨rfl, kept_alloc _ _⟩
theorem mPh_beg (p : Option Addr) (W : World) : (method 564 318 (.agg #[.pointer p]) "quash/tx.phase").run Tryz.prog W = .ok (355, .agg #[.pointer p]) W := by kernel_rfl
theorem mSt_beg (p : Option Addr) (W : World) : (method 564 318 (.agg #[.pointer p]) "quash/tx.step").run Tryz.prog W = .ok (356, .agg #[.pointer p]) W := by kernel_rfl
set_option maxRecDepth 100000 in
theorem ph_beg (p : Option Addr) (w : World) : Calls Tryz.prog 355 #[.agg #[.pointer p]] w fun e w' => e = .returned (.int .i64 1) ∧ Kept (fun _ => False) w w' := by
  go_enter Tryz.func355, Tryz.ntmps355
  go_wp2
  go_ret
  first | exact ⟨rfl, Kept.refl _ _⟩ | exact ⟨rfl, kept_alloc _ _⟩
theorem mPh_rd (p : Option Addr) (a : Int) (W : World) : (method 564 323 (.agg #[.pointer p, .int .i64 a]) "quash/tx.phase").run Tryz.prog W = .ok (366, .agg #[.pointer p, .int .i64 a]) W := by kernel_rfl
theorem mSt_rd (p : Option Addr) (a : Int) (W : World) : (method 564 323 (.agg #[.pointer p, .int .i64 a]) "quash/tx.step").run Tryz.prog W = .ok (367, .agg #[.pointer p, .int .i64 a]) W := by kernel_rfl
set_option maxRecDepth 100000 in
theorem ph_rd (p : Option Addr) (a : Int) (w : World) : Calls Tryz.prog 366 #[.agg #[.pointer p, .int .i64 a]] w fun e w' => e = .returned (.int .i64 3) ∧ Kept (fun _ => False) w w' := by
  go_enter Tryz.func366, Tryz.ntmps366
  go_wp2
  go_ret
  first | exact ⟨rfl, Kept.refl _ _⟩ | exact ⟨rfl, kept_alloc _ _⟩
theorem mPh_leav  (W : World) : (method 564 324 (.agg #[]) "quash/tx.phase").run Tryz.prog W = .ok (372, .agg #[]) W := by kernel_rfl
theorem mSt_leav  (W : World) : (method 564 324 (.agg #[]) "quash/tx.step").run Tryz.prog W = .ok (373, .agg #[]) W := by kernel_rfl
set_option maxRecDepth 100000 in
theorem ph_leav  (w : World) : Calls Tryz.prog 372 #[.agg #[]] w fun e w' => e = .returned (.int .i64 4) ∧ Kept (fun _ => False) w w' := by
  go_enter Tryz.func372, Tryz.ntmps372
  go_wp2
  go_ret
  first | exact ⟨rfl, Kept.refl _ _⟩ | exact ⟨rfl, kept_alloc _ _⟩
theorem mPh_com (p : Option Addr) (W : World) : (method 564 331 (.agg #[.pointer p]) "quash/tx.phase").run Tryz.prog W = .ok (375, .agg #[.pointer p]) W := by kernel_rfl
theorem mSt_com (p : Option Addr) (W : World) : (method 564 331 (.agg #[.pointer p]) "quash/tx.step").run Tryz.prog W = .ok (376, .agg #[.pointer p]) W := by kernel_rfl
set_option maxRecDepth 100000 in
theorem ph_com (p : Option Addr) (w : World) : Calls Tryz.prog 375 #[.agg #[.pointer p]] w fun e w' => e = .returned (.int .i64 4) ∧ Kept (fun _ => False) w w' := by
  go_enter Tryz.func375, Tryz.ntmps375
  go_wp2
  go_ret
  first | exact ⟨rfl, Kept.refl _ _⟩ | exact ⟨rfl, kept_alloc _ _⟩
theorem mPh_abo (a b d : Int) (W : World) : (method 564 271 (.agg #[.int .i64 a, .int .i64 b, .int .i64 d]) "quash/tx.phase").run Tryz.prog W = .ok (344, .agg #[.int .i64 a, .int .i64 b, .int .i64 d]) W := by kernel_rfl
theorem mSt_abo (a b d : Int) (W : World) : (method 564 271 (.agg #[.int .i64 a, .int .i64 b, .int .i64 d]) "quash/tx.step").run Tryz.prog W = .ok (345, .agg #[.int .i64 a, .int .i64 b, .int .i64 d]) W := by kernel_rfl
set_option maxRecDepth 100000 in
theorem ph_abo (a b d : Int) (w : World) : Calls Tryz.prog 344 #[.agg #[.int .i64 a, .int .i64 b, .int .i64 d]] w fun e w' => e = .returned (.int .i64 5) ∧ Kept (fun _ => False) w w' := by
  go_enter Tryz.func344, Tryz.ntmps344
  go_wp2
  go_ret
  first | exact ⟨rfl, Kept.refl _ _⟩ | exact ⟨rfl, kept_alloc _ _⟩
section
variable {o w : World} {its R : List It} {A : Ad} {c : Cfg} {z : SSt} {v u : Value} {P : TA} {x : Tt} {cs : Array Value} {df : Int} {wr rds : List Pr} {tI dI : It}
set_option maxRecDepth 100000 in
set_option maxHeartbeats 1000000 in
theorem tPhase (h : St o (txL c A P x ++ R) w) : Calls Tryz.prog 70 #[.pointer (some ⟨P.T, 0, none⟩)] w fun e w' => e = .returned (.int .i64 x.dg.phase) ∧ St o (txL c A P x ++ R) w' := by
  have HS : Hid (∀ w', Kept (fun _ => False) w w' → St o (txL c A P x ++ R) w') := fun w' k => h.calm k
  have c3 : w.cell? ⟨P.T, 3, none⟩ = some (x.dg.val P.K P.B.X) := tCell h 3
  clear h
  generalize x.dg = dg at *
  cases dg with
  | rest =>
    simp only [Dg.val, Dg.phase] at *
    have hm := fun W => mPh_rest W
    have hp := ph_rest w
    go_enter Tryz.func70, Tryz.ntmps70
    go_wp2_with (simp only [hm])
    refine hp.mono ?_
    rintro e w1 ⟨rfl, k1⟩
    have H1 := hid (HS.out w1 k1)
    clear HS k1 hp hm c3
    go_wp2
    go_ret
    exact ⟨rfl, H1.out⟩
  | act =>
    simp only [Dg.val, Dg.phase] at *
    have hm := fun W => mPh_act W
    have hp := ph_act w
    go_enter Tryz.func70, Tryz.ntmps70
    go_wp2_with (simp only [hm])
    refine hp.mono ?_
    rintro e w1 ⟨rfl, k1⟩
    have H1 := hid (HS.out w1 k1)
    clear HS k1 hp hm c3
    go_wp2
    go_ret
    exact ⟨rfl, H1.out⟩
  | beg b =>
    simp only [Dg.val, Dg.phase] at *
    have hm := fun W => mPh_beg (some ⟨P.K, 0, none⟩) W
    have hp := ph_beg (some ⟨P.K, 0, none⟩) w
    go_enter Tryz.func70, Tryz.ntmps70
    go_wp2_with (simp only [hm])
    refine hp.mono ?_
    rintro e w1 ⟨rfl, k1⟩
    have H1 := hid (HS.out w1 k1)
    clear HS k1 hp hm c3
    go_wp2
    go_ret
    exact ⟨rfl, H1.out⟩
  | rd r =>
    simp only [Dg.val, Dg.phase] at *
    have hm := fun W => mPh_rd (some ⟨P.K, 0, none⟩) r.ce W
    have hp := ph_rd (some ⟨P.K, 0, none⟩) r.ce w
    go_enter Tryz.func70, Tryz.ntmps70
    go_wp2_with (simp only [hm])
    refine hp.mono ?_
    rintro e w1 ⟨rfl, k1⟩
    have H1 := hid (HS.out w1 k1)
    clear HS k1 hp hm c3
    go_wp2
    go_ret
    exact ⟨rfl, H1.out⟩
  | leav =>
    simp only [Dg.val, Dg.phase] at *
    have hm := fun W => mPh_leav W
    have hp := ph_leav w
    go_enter Tryz.func70, Tryz.ntmps70
    go_wp2_with (simp only [hm])
    refine hp.mono ?_
    rintro e w1 ⟨rfl, k1⟩
    have H1 := hid (HS.out w1 k1)
    clear HS k1 hp hm c3
    go_wp2
    go_ret
    exact ⟨rfl, H1.out⟩
  | com y =>
    simp only [Dg.val, Dg.phase] at *
    have hm := fun W => mPh_com (some ⟨P.B.X, 0, none⟩) W
    have hp := ph_com (some ⟨P.B.X, 0, none⟩) w
    go_enter Tryz.func70, Tryz.ntmps70
    go_wp2_with (simp only [hm])
    refine hp.mono ?_
    rintro e w1 ⟨rfl, k1⟩
    have H1 := hid (HS.out w1 k1)
    clear HS k1 hp hm c3
    go_wp2
    go_ret
    exact ⟨rfl, H1.out⟩
  | abo op e xv =>
    simp only [Dg.val, Dg.phase] at *
    have hm := fun W => mPh_abo op e xv W
    have hp := ph_abo op e xv w
    go_enter Tryz.func70, Tryz.ntmps70
    go_wp2_with (simp only [hm])
    refine hp.mono ?_
    rintro e w1 ⟨rfl, k1⟩
    have H1 := hid (HS.out w1 k1)
    clear HS k1 hp hm c3
    go_wp2
    go_ret
    exact ⟨rfl, H1.out⟩
end
end Go.Proofs.YthbcbjkgjgmegaaGreat

namespace Go.Proofs.YthbcbjkgjgmegaaGreat
open Go.RowKit
set_option linter.unusedVariables false
set_option linter.unusedSimpArgs false
attribute [local go_sem ↓] Go.wp_at_zero Go.wp_at_succ
section
variable {o w : World} {its R : List It} {A : Ad} {c : Cfg} {z : SSt} {v u : Value} {P : TA} {x : Tt} {cs : Array Value} {df : Int} {wr rds : List Pr} {tI dI : It} {dg tv rv : Value} {th l1 l2 l3 sp : Int} {f : Frm}
/-- What is under way is stored. -/
theorem tStore {T : Nat} {y nv : Value} (h : St o (tG c P (tC A P th (.iface T y) l1 l2 l3 sp tv f rv) df wr rds tI dI ++ R) w) : w.cell? ⟨P.T, 3, none⟩ = some (.iface T y) ∧ w.frozen? ⟨P.T, 3, none⟩ = false ∧ St o (tG c P (tC A P th nv l1 l2 l3 sp tv f rv) df wr rds tI dI ++ R) (w.setCell ⟨P.T, 3, none⟩ nv) :=
  ⟨tCell h 3, tFrozen h 3, h.write 0 tAt0 3 nv⟩
/-- The operation that ended last is stored. -/
theorem tLastSet (h : St o (tG c P (tC A P th dg l1 l2 l3 sp tv f rv) df wr rds tI dI ++ R) w) (a b d : Int) : St o (tG c P (tC A P th dg a b d sp tv f rv) df wr rds tI dI ++ R) (((w.setCell ⟨P.T, 4, none⟩ (.int .i64 a)).setCell ⟨P.T, 5, none⟩ (.int .i64 b)).setCell ⟨P.T, 6, none⟩ (.int .i64 d)) :=
  ((h.write 0 tAt0 4 (.int .i64 a)).write 0 rfl 5 (.int .i64 b)).write 0 rfl 6 (.int .i64 d)
/-- What was under way is done with. -/
theorem tDrop (h : St o (tG c P cs df wr rds tI dI ++ R) w) : St o (tG c P cs df wr rds tI (joinI []) ++ R) w :=
  h.set 5 tAt5 (Kept.refl _ w) (A' := joinI []) (fun B hB => by cases hB) List.nodup_nil (fun b hb => by cases hb)
/-- Something new is under way. -/
theorem tLay {Y : It} (h : St o (Y :: (tG c P cs df wr rds tI dI ++ R)) w) : St o (tG c P cs df wr rds tI Y ++ R) w := by
  have h2 := tDrop (R := R) (c := c) (P := P) (cs := cs) (df := df) (wr := wr) (rds := rds) (tI := tI) (dI := dI) (w := w) (o := o) h.pop
  have p : (Y :: (tG c P cs df wr rds tI dI ++ R)).Perm (dI :: (tG c P cs df wr rds tI Y ++ R)) := by
    refine ((List.perm_middle (l₁ := [boxI P.T cs 207, boxI P.J (jd c df) 257, lgI P wr, ownI 220 2 P.rv rds.length (prCells rds), tI]) (l₂ := R) (a := dI)).cons Y).trans ?_
    refine (List.Perm.swap _ _ _).trans (List.Perm.cons _ ?_)
    exact (List.perm_middle (l₁ := [boxI P.T cs 207, boxI P.J (jd c df) 257, lgI P wr, ownI 220 2 P.rv rds.length (prCells rds), tI]) (l₂ := R) (a := Y)).symm
  exact (h.perm p).pop

set_option maxRecDepth 100000 in
set_option maxHeartbeats 1000000 in
theorem by_rest  (h : St o (tG c P (tC A P th (.iface 200 (.agg #[])) l1 l2 l3 sp tv f rv) df wr rds tI dI ++ R) w) {a : Int} {Q : World → Prop}
    (hc : Calls Tryz.prog 343 #[.agg #[], .pointer (some ⟨P.T, 0, none⟩)] w fun e w' => ∃ t y, e = .returned (.tuple #[.int .i64 a, .iface t y]) ∧ w'.cell? ⟨P.T, 3, none⟩ = some (.iface 200 (.agg #[])) ∧ w'.frozen? ⟨P.T, 3, none⟩ = false ∧ Hid (Q (w'.setCell ⟨P.T, 3, none⟩ (.iface t y)))) :
    Calls Tryz.prog 108 #[.pointer (some ⟨P.T, 0, none⟩)] w fun e w' => e = .returned (.int .i64 a) ∧ Q w' := by
  have c3 : w.cell? ⟨P.T, 3, none⟩ = some (.iface 200 (.agg #[])) := tCell h 3
  clear h
  have hm := fun W => mSt_rest W
  go_enter Tryz.func108, Tryz.ntmps108
  go_wp2_with (simp only [hm])
  refine hc.mono ?_
  rintro e w1 ⟨t, y, rfl, d3, f3, H1⟩
  clear hc c3 hm
  go_wp2
  go_ret
  exact ⟨rfl, H1.out⟩
set_option maxRecDepth 100000 in
set_option maxHeartbeats 1000000 in
theorem by_act  (h : St o (tG c P (tC A P th (.iface 427 (.agg #[])) l1 l2 l3 sp tv f rv) df wr rds tI dI ++ R) w) {a : Int} {Q : World → Prop}
    (hc : Calls Tryz.prog 391 #[.agg #[], .pointer (some ⟨P.T, 0, none⟩)] w fun e w' => ∃ t y, e = .returned (.tuple #[.int .i64 a, .iface t y]) ∧ w'.cell? ⟨P.T, 3, none⟩ = some (.iface 427 (.agg #[])) ∧ w'.frozen? ⟨P.T, 3, none⟩ = false ∧ Hid (Q (w'.setCell ⟨P.T, 3, none⟩ (.iface t y)))) :
    Calls Tryz.prog 108 #[.pointer (some ⟨P.T, 0, none⟩)] w fun e w' => e = .returned (.int .i64 a) ∧ Q w' := by
  have c3 : w.cell? ⟨P.T, 3, none⟩ = some (.iface 427 (.agg #[])) := tCell h 3
  clear h
  have hm := fun W => mSt_act W
  go_enter Tryz.func108, Tryz.ntmps108
  go_wp2_with (simp only [hm])
  refine hc.mono ?_
  rintro e w1 ⟨t, y, rfl, d3, f3, H1⟩
  clear hc c3 hm
  go_wp2
  go_ret
  exact ⟨rfl, H1.out⟩
set_option maxRecDepth 100000 in
set_option maxHeartbeats 1000000 in
theorem by_beg {p : Option Addr} (h : St o (tG c P (tC A P th (.iface 318 (.agg #[.pointer p])) l1 l2 l3 sp tv f rv) df wr rds tI dI ++ R) w) {a : Int} {Q : World → Prop}
    (hc : Calls Tryz.prog 356 #[.agg #[.pointer p], .pointer (some ⟨P.T, 0, none⟩)] w fun e w' => ∃ t y, e = .returned (.tuple #[.int .i64 a, .iface t y]) ∧ w'.cell? ⟨P.T, 3, none⟩ = some (.iface 318 (.agg #[.pointer p])) ∧ w'.frozen? ⟨P.T, 3, none⟩ = false ∧ Hid (Q (w'.setCell ⟨P.T, 3, none⟩ (.iface t y)))) :
    Calls Tryz.prog 108 #[.pointer (some ⟨P.T, 0, none⟩)] w fun e w' => e = .returned (.int .i64 a) ∧ Q w' := by
  have c3 : w.cell? ⟨P.T, 3, none⟩ = some (.iface 318 (.agg #[.pointer p])) := tCell h 3
  clear h
  have hm := fun W => mSt_beg p W
  go_enter Tryz.func108, Tryz.ntmps108
  go_wp2_with (simp only [hm])
  refine hc.mono ?_
  rintro e w1 ⟨t, y, rfl, d3, f3, H1⟩
  clear hc c3 hm
  go_wp2
  go_ret
  exact ⟨rfl, H1.out⟩
set_option maxRecDepth 100000 in
set_option maxHeartbeats 1000000 in
theorem by_rd {p : Option Addr} {a0 : Int} (h : St o (tG c P (tC A P th (.iface 323 (.agg #[.pointer p, .int .i64 a0])) l1 l2 l3 sp tv f rv) df wr rds tI dI ++ R) w) {a : Int} {Q : World → Prop}
    (hc : Calls Tryz.prog 367 #[.agg #[.pointer p, .int .i64 a0], .pointer (some ⟨P.T, 0, none⟩)] w fun e w' => ∃ t y, e = .returned (.tuple #[.int .i64 a, .iface t y]) ∧ w'.cell? ⟨P.T, 3, none⟩ = some (.iface 323 (.agg #[.pointer p, .int .i64 a0])) ∧ w'.frozen? ⟨P.T, 3, none⟩ = false ∧ Hid (Q (w'.setCell ⟨P.T, 3, none⟩ (.iface t y)))) :
    Calls Tryz.prog 108 #[.pointer (some ⟨P.T, 0, none⟩)] w fun e w' => e = .returned (.int .i64 a) ∧ Q w' := by
  have c3 : w.cell? ⟨P.T, 3, none⟩ = some (.iface 323 (.agg #[.pointer p, .int .i64 a0])) := tCell h 3
  clear h
  have hm := fun W => mSt_rd p a0 W
  go_enter Tryz.func108, Tryz.ntmps108
  go_wp2_with (simp only [hm])
  refine hc.mono ?_
  rintro e w1 ⟨t, y, rfl, d3, f3, H1⟩
  clear hc c3 hm
  go_wp2
  go_ret
  exact ⟨rfl, H1.out⟩
set_option maxRecDepth 100000 in
set_option maxHeartbeats 1000000 in
theorem by_leav  (h : St o (tG c P (tC A P th (.iface 324 (.agg #[])) l1 l2 l3 sp tv f rv) df wr rds tI dI ++ R) w) {a : Int} {Q : World → Prop}
    (hc : Calls Tryz.prog 373 #[.agg #[], .pointer (some ⟨P.T, 0, none⟩)] w fun e w' => ∃ t y, e = .returned (.tuple #[.int .i64 a, .iface t y]) ∧ w'.cell? ⟨P.T, 3, none⟩ = some (.iface 324 (.agg #[])) ∧ w'.frozen? ⟨P.T, 3, none⟩ = false ∧ Hid (Q (w'.setCell ⟨P.T, 3, none⟩ (.iface t y)))) :
    Calls Tryz.prog 108 #[.pointer (some ⟨P.T, 0, none⟩)] w fun e w' => e = .returned (.int .i64 a) ∧ Q w' := by
  have c3 : w.cell? ⟨P.T, 3, none⟩ = some (.iface 324 (.agg #[])) := tCell h 3
  clear h
  have hm := fun W => mSt_leav W
  go_enter Tryz.func108, Tryz.ntmps108
  go_wp2_with (simp only [hm])
  refine hc.mono ?_
  rintro e w1 ⟨t, y, rfl, d3, f3, H1⟩
  clear hc c3 hm
  go_wp2
  go_ret
  exact ⟨rfl, H1.out⟩
set_option maxRecDepth 100000 in
set_option maxHeartbeats 1000000 in
theorem by_com {p : Option Addr} (h : St o (tG c P (tC A P th (.iface 331 (.agg #[.pointer p])) l1 l2 l3 sp tv f rv) df wr rds tI dI ++ R) w) {a : Int} {Q : World → Prop}
    (hc : Calls Tryz.prog 376 #[.agg #[.pointer p], .pointer (some ⟨P.T, 0, none⟩)] w fun e w' => ∃ t y, e = .returned (.tuple #[.int .i64 a, .iface t y]) ∧ w'.cell? ⟨P.T, 3, none⟩ = some (.iface 331 (.agg #[.pointer p])) ∧ w'.frozen? ⟨P.T, 3, none⟩ = false ∧ Hid (Q (w'.setCell ⟨P.T, 3, none⟩ (.iface t y)))) :
    Calls Tryz.prog 108 #[.pointer (some ⟨P.T, 0, none⟩)] w fun e w' => e = .returned (.int .i64 a) ∧ Q w' := by
  have c3 : w.cell? ⟨P.T, 3, none⟩ = some (.iface 331 (.agg #[.pointer p])) := tCell h 3
  clear h
  have hm := fun W => mSt_com p W
  go_enter Tryz.func108, Tryz.ntmps108
  go_wp2_with (simp only [hm])
  refine hc.mono ?_
  rintro e w1 ⟨t, y, rfl, d3, f3, H1⟩
  clear hc c3 hm
  go_wp2
  go_ret
  exact ⟨rfl, H1.out⟩
set_option maxRecDepth 100000 in
set_option maxHeartbeats 1000000 in
theorem by_abo {a0 b0 d0 : Int} (h : St o (tG c P (tC A P th (.iface 271 (.agg #[.int .i64 a0, .int .i64 b0, .int .i64 d0])) l1 l2 l3 sp tv f rv) df wr rds tI dI ++ R) w) {a : Int} {Q : World → Prop}
    (hc : Calls Tryz.prog 345 #[.agg #[.int .i64 a0, .int .i64 b0, .int .i64 d0], .pointer (some ⟨P.T, 0, none⟩)] w fun e w' => ∃ t y, e = .returned (.tuple #[.int .i64 a, .iface t y]) ∧ w'.cell? ⟨P.T, 3, none⟩ = some (.iface 271 (.agg #[.int .i64 a0, .int .i64 b0, .int .i64 d0])) ∧ w'.frozen? ⟨P.T, 3, none⟩ = false ∧ Hid (Q (w'.setCell ⟨P.T, 3, none⟩ (.iface t y)))) :
    Calls Tryz.prog 108 #[.pointer (some ⟨P.T, 0, none⟩)] w fun e w' => e = .returned (.int .i64 a) ∧ Q w' := by
  have c3 : w.cell? ⟨P.T, 3, none⟩ = some (.iface 271 (.agg #[.int .i64 a0, .int .i64 b0, .int .i64 d0])) := tCell h 3
  clear h
  have hm := fun W => mSt_abo a0 b0 d0 W
  go_enter Tryz.func108, Tryz.ntmps108
  go_wp2_with (simp only [hm])
  refine hc.mono ?_
  rintro e w1 ⟨t, y, rfl, d3, f3, H1⟩
  clear hc c3 hm
  go_wp2
  go_ret
  exact ⟨rfl, H1.out⟩
set_option maxRecDepth 100000 in
theorem st_rest (q : Value) (w : World) : Calls Tryz.prog 343 #[.agg #[], q] w fun e w' => e = .returned (.tuple #[.int .i64 3, .iface 200 (.agg #[])]) ∧ Kept (fun _ => False) w w' := by
  go_enter Tryz.func343, Tryz.ntmps343
  go_wp2_with fail
  go_quiet (fail)
  go_wp2
  go_ret2
  first | exact ⟨rfl, (kept_alloc _ _).drewN _⟩ | exact ⟨rfl, (Kept.refl _ _).drewN _⟩ | exact ⟨rfl, kept_alloc _ _⟩
set_option maxRecDepth 100000 in
theorem st_act (q : Value) (w : World) : Calls Tryz.prog 391 #[.agg #[], q] w fun e w' => e = .returned (.tuple #[.int .i64 3, .iface 427 (.agg #[])]) ∧ Kept (fun _ => False) w w' := by
  go_enter Tryz.func391, Tryz.ntmps391
  go_wp2_with fail
  go_quiet (fail)
  go_wp2
  go_ret2
  first | exact ⟨rfl, (kept_alloc _ _).drewN _⟩ | exact ⟨rfl, (Kept.refl _ _).drewN _⟩ | exact ⟨rfl, kept_alloc _ _⟩

set_option maxRecDepth 100000 in
set_option maxHeartbeats 1000000 in
theorem st_leav (h : St o (tG c P (tC A P th dg l1 l2 l3 sp (tlV P sp) f rv) df wr rds (tlI A P th sp) dI ++ spI A c z v u :: R) w) (hs : sp ≠ 0) {n : Nat} (ok : z.ok c n) (hn : n ≤ 1000000000) :
    Calls Tryz.prog 373 #[.agg #[], .pointer (some ⟨P.T, 0, none⟩)] w fun e w' => e = .returned (.tuple #[.int .i64 1, .iface 200 (.agg #[])]) ∧ ∃ v' u', St o (tG c P (tC A P th dg 4 0 0 sp (tlV P sp) f rv) df wr rds (tlI A P th sp) dI ++ spI A c ((z.op (freeOp f.gn) f.sl).noted ⟨4, 0, th, sp, 0, 0, false, f.sn, 0, 0⟩) v' u' :: R) w' := by
  have h0 := h.alloc (.cells #[] 324)
  have hq := tFree h0 ok hn
  have hev : (z.op (freeOp f.gn) f.sl).ev.length ≤ 2000000000 := Nat.le_trans ok.el (Nat.le_trans hn (by decide))
  clear h h0 ok
  generalize z.op (freeOp f.gn) f.sl = z' at *
  go_enter Tryz.func373, Tryz.ntmps373
  go_wp2_with fail
  refine hq.mono ?_
  rintro e w1 ⟨rfl, v', s1⟩
  clear hq
  have a4 : w1.cell? ⟨P.T, 4, none⟩ = some (.int .i64 l1) := tCell s1 4
  have a5 : w1.cell? ⟨P.T, 5, none⟩ = some (.int .i64 l2) := tCell s1 5
  have a6 : w1.cell? ⟨P.T, 6, none⟩ = some (.int .i64 l3) := tCell s1 6
  have b4 := tFrozen s1 4
  have b5 := tFrozen s1 5
  have b6 := tFrozen s1 6
  have s2 := tLastSet s1 4 0 0
  clear s1
  go_upto_region 3 with fail
  generalize (((w1.setCell ⟨P.T, 4, none⟩ (.int .i64 4)).setCell ⟨P.T, 5, none⟩ (.int .i64 0)).setCell ⟨P.T, 6, none⟩ (.int .i64 0)) = w2 at *
  clear a4 a5 a6 b4 b5 b6
  have c8 : w2.cell? ⟨P.T, 8, none⟩ = some (.func (.func 244) #[] #[.pointer (some ⟨P.c1, 0, none⟩), .pointer (some ⟨P.c2, 0, none⟩), .pointer (some ⟨P.c3, 0, none⟩)]) := (tCell s2 8).trans (tlV_on hs)
  have c11 : w2.cell? ⟨P.T, 11, none⟩ = some (.int .i64 f.sn) := tCell s2 11
  have ht : Calls Tryz.prog 244 #[.agg #[.int .i64 4, .int .i64 0, .int .i64 0, .int .i64 0, .int .i64 0, .int .i64 0, .bool false, .int .i64 f.sn, .int .i64 0, .int .i64 0], .pointer (some ⟨P.c1, 0, none⟩), .pointer (some ⟨P.c2, 0, none⟩), .pointer (some ⟨P.c3, 0, none⟩)] w2.drew fun e w' => e = .returned (.tuple #[]) ∧ (w'.cell? ⟨P.T, 8, none⟩ = some (.func (.func 244) #[] #[.pointer (some ⟨P.c1, 0, none⟩), .pointer (some ⟨P.c2, 0, none⟩), .pointer (some ⟨P.c3, 0, none⟩)]) ∧ w'.cell? ⟨P.T, 11, none⟩ = some (.int .i64 f.sn)) ∧ ∃ u', Hid (St o (tG c P (tC A P th dg 4 0 0 sp (tlV P sp) f rv) df wr rds (tlI A P th sp) dI ++ spI A c (z'.noted ⟨4, 0, th, sp, 0, 0, false, f.sn, 0, 0⟩) v' u' :: R) w') := by
    refine (tTell s2.drew hs hev 4 0 0 false f.sn 0 0).mono ?_
    rintro e w' ⟨he, u', s⟩
    exact ⟨he, ⟨(tCell s 8).trans (tlV_on hs), tCell s 11⟩, u', s⟩
  clear s2 hs hev
  go_region_held3 (fun W => W.cell? ⟨P.T, 8, none⟩ = some (.func (.func 244) #[] #[.pointer (some ⟨P.c1, 0, none⟩), .pointer (some ⟨P.c2, 0, none⟩), .pointer (some ⟨P.c3, 0, none⟩)]) ∧ W.cell? ⟨P.T, 11, none⟩ = some (.int .i64 f.sn)) (first | go_keep | exact rS)
    (first | (go_at_call 244; refine ht.mono ?_; rintro e w3 ⟨rfl, rS, u', HS⟩))
  clear ht c8 c11 rS
  go_wp2
  go_ret2
  exact ⟨rfl, v', u', HS.out⟩
end
end Go.Proofs.YthbcbjkgjgmegaaGreat
