/- CommitBounds: the walk. -/
import Derived.Test.YtgjmamgohidbiaaGreatBdM
import Derived.BigQuiet
import Derived.Deep.CutBlock
namespace Go.Proofs.YtgjmamgohidbiaaGreat
open Go.RowKit
set_option linter.unusedVariables false
set_option linter.unusedSimpArgs false
attribute [local go_sem ↓] Go.wp_at_zero Go.wp_at_succ

/-- What there is ahead of the commit. -/
structure AF (c : Cfg) (z : SSt) : Prop where
  live : LiveOk c
  sl : c.sl = 8
  ok : z.ok c 40
  hl : z.hs.length = 8
  xl : z.xs.length = 64
  x : z.x = ⟨0, 0⟩
  mine : (nowAt z.hs 0).mine 1 = true
  ws : WsOk z.ws
  ck : ∀ ps, WPart ps → ps ≠ [] → ckE c (0 : Nat) 1 5 ps = 0
theorem af_seats (tag bits bias most : Int) (f : Nat → SeD) {n : Nat} (hn : n ≤ 7) (hf : ∀ i, i < n → (f i).w_0 < 18446744073709551616 ∧ (f i).w_1 < 18446744073709551616) : AF (cfgOf tag bits bias most) (seatsZ (liveZ (cfgOf tag bits bias most)) f n) := by
  have hl : LiveOk (cfgOf tag bits bias most) := cfgOf_live ..
  have ok := seatsZ_ok hl.ok f n
  refine ⟨hl, rfl, ok.more (by omega), ?_, ?_, (seatsZ_rest _ _ _).1, ?_, seatsZ_wok (WsOk.rep 16) f n hf, fun ps h h0 => h.ck h0 _ _ _ _⟩
  · have := ok.hl
    have h2 : (cfgOf tag bits bias most).sl = 8 := rfl
    omega
  · have := ok.cl
    have h2 : (cfgOf tag bits bias most).ce = 64 := rfl
    omega
  · rw [seatsZ_own]; rfl


theorem fieldSlots (a b : Option Addr) (n m c d : Nat) (x y : Int) (W : World) : (Instr.field 95 (.agg #[.slice a n c, .int .i64 x, .int .i64 y, .slice b m d]) 2).run Tryz.prog W = .ok (.slice b m d) W := by kernel_rfl
theorem fieldGate (a b : Option Addr) (n m c d : Nat) (x y : Int) (W : World) : (Instr.field 95 (.agg #[.slice a n c, .int .i64 x, .int .i64 y, .slice b m d]) 1).run Tryz.prog W = .ok (.agg #[.int .i64 x, .int .i64 y]) W := by kernel_rfl
theorem fieldCells (a b : Option Addr) (n m c d : Nat) (x y : Int) (W : World) : (Instr.field 95 (.agg #[.slice a n c, .int .i64 x, .int .i64 y, .slice b m d]) 0).run Tryz.prog W = .ok (.slice a n c) W := by kernel_rfl
def Acc.none_ : Acc := ⟨0, 0, 0, 0, 0, false⟩
theorem logCells_kind (l : List Acc) : ∀ k (hk : k < l.length), (logCells l)[k * 6 + 2]? = some (.int .i64 (l.getD k Acc.none_).kind) := by
  induction l with
  | nil => intro k hk; simp at hk
  | cons t l ih =>
    intro k hk
    cases k with
    | zero => simp [logCells, Acc.cells]
    | succ k =>
      have := ih k (by simpa using hk)
      rw [show (k + 1) * 6 + 2 = (k * 6 + 2) + 6 by omega]
      simpa [logCells, Acc.cells] using this
theorem onCells_take (l : List Acc) {k : Nat} (hk : k < l.length) : onCells (l.take (k + 1)) = onCells (l.take k) + (if (l.getD k Acc.none_).kind == 1 then 1 else 0) := by
  have e : l.getD k Acc.none_ = l[k] := by rw [List.getD_eq_getElem?_getD, List.getElem?_eq_getElem hk]; rfl
  rw [List.take_succ_eq_append_getElem hk, onCells_append, e]
  congr 1
  simp only [onCells, List.filter]
  split <;> simp_all
def cntT (hs : List Hd) (k : Nat) : Nat := ((hs.take k).tail.filter Hd.by1).length
theorem cntT_succ (hs : List Hd) {k : Nat} (h1 : 1 ≤ k) (hk : k < hs.length) : cntT hs (k + 1) = cntT hs k + (if (hs.getD k Hd.zero).by1 then 1 else 0) := by
  have e : hs.getD k Hd.zero = hs[k] := by rw [List.getD_eq_getElem?_getD, List.getElem?_eq_getElem hk]; rfl
  unfold cntT
  rw [List.take_succ_eq_append_getElem hk, e]
  have : (hs.take k) ≠ [] := List.ne_nil_of_length_pos (by rw [List.length_take]; omega)
  rw [List.tail_append_of_ne_nil this, List.filter_append, List.length_append]
  congr 1
  simp only [List.filter]
  split <;> simp_all
theorem cntT_all {hs : List Hd} (h : hs.length = 8) : cntT hs 8 = cntD hs := by
  unfold cntT cntD
  rw [List.take_of_length_le (by omega)]
/-- What was written can be read. -/
theorem putL_keep : ∀ (l : List Pr) (xs : List Int) (c : Nat), (∀ p, p ∈ l → p.ce ≠ (c : Int)) → (putL xs l)[c]? = xs[c]?
  | [], xs, c, h => rfl
  | p :: l, xs, c, h => by
    show (putL (storeX xs p.ce p.x) l)[c]? = _
    rw [putL_keep l _ c (fun q hq => h q (by simp [hq]))]
    unfold storeX
    split
    · rename_i hc
      simp only [cin, Bool.and_eq_true, decide_eq_true_eq] at hc
      have := h p (by simp)
      rw [List.getElem?_set_ne (by omega)]
    · rfl
theorem putL_at {ps : List Pr} (h : WPart ps) {xs : List Int} (hx : xs.length = 64) : ∀ k (hk : k < ps.length), (putL xs ps)[(ps[k].ce).toNat]? = some ps[k].x := by
  have key : ∀ (l : List Pr) (xs : List Int), xs.length = 64 → (∀ p, p ∈ l → 0 ≤ p.ce ∧ p.ce < 64) → (cesOf l).Nodup → ∀ k (hk : k < l.length), (putL xs l)[(l[k].ce).toNat]? = some l[k].x := by
    intro l
    induction l with
    | nil => intro xs _ _ _ k hk; simp at hk
    | cons p l ih =>
      intro xs hx hr hu k hk
      have hlen : (storeX xs p.ce p.x).length = 64 := by rw [storeX_len]; exact hx
      have hu' : p.ce ∉ cesOf l ∧ (cesOf l).Nodup := by simpa [cesOf] using hu
      cases k with
      | zero =>
        have h0 := hr p (by simp)
        show (putL (storeX xs p.ce p.x) l)[(p.ce).toNat]? = some p.x
        rw [putL_keep l _ _ (fun q hq e => hu'.1 (by
          have : q.ce = p.ce := by omega
          rw [← this]
          exact List.mem_map.2 ⟨q, hq, rfl⟩))]
        unfold storeX
        rw [if_pos (by simp [cin, hx]; omega), List.getElem?_set_self (by omega)]
      | succ k =>
        exact ih _ hlen (fun q hq => hr q (by simp [hq])) hu'.2 k (by simpa using hk)
  exact key ps xs hx h.r h.u
/-- Thread 1 has doomed nobody as the seats are laid. -/
theorem seats_cntD {c : Cfg} (h : LiveOk c) (h0 : cntD (liveZ c).hs = 0) (f : Nat → SeD) (n : Nat) : cntD (seatsZ (liveZ c) f n).hs = 0 := by
  induction n with
  | zero => exact h0
  | succ n ih =>
    have ok := seatsZ_ok h.ok f n
    show cntD (seatA (seatsZ (liveZ c) f n) (n + 1) (f n)).hs = 0
    generalize seatsZ (liveZ c) f n = z at *
    have op : ∀ (p : HOp) (z : SSt) (q : Nat), cntD z.hs = 0 → (∀ g : Hd, g ∈ z.hs → p.ok g = true → (p.nw g).by1 = false ∨ g.by1 = true) → cntD (z.op p (q : Int)).hs = 0 := by
      intro p z q hz hp
      have : cntD (p.H z.hs (q : Int)) ≤ cntD z.hs := by
        unfold HOp.H
        split
        · split
          · exact Nat.le_refl _
          · rename_i g hg
            split
            · rename_i hok
              refine cntD_set ?_
              rcases hp g (headAt_mem hg) hok with e | e
              · exact .inl e
              · right
                unfold headAt at hg
                rw [if_pos (by omega)] at hg
                rw [List.getD_eq_getElem?_getD, hg]
                exact e
            · exact Nat.le_refl _
        · exact Nat.le_refl _
      show cntD (p.H z.hs (q : Int)) = 0
      omega
    have c1 : cntD (seatC z (n + 1) (f n)).hs = 0 := op _ z (n + 1) ih (fun g _ _ => .inl rfl)
    have c3 : cntD (seatW z (n + 1) (f n)).hs = 0 := c1
    have okw := seatW_ok ok (n + 1) (f n)
    have c4 : cntD (seatR z (n + 1) (f n)).hs = 0 := op _ _ (n + 1) c3 (fun g hg hk => by
      have hh := okw.hd g hg
      simp only [readyOp, Bool.and_eq_true, beq_iff_eq] at hk
      left
      show (g.dm && g.wy == 1) = false
      rcases hh.st with e | e | e
      · omega
      · rw [e.2.2.2.1]; rfl
      · omega)
    unfold seatA
    split
    · split
      · refine op _ _ (n + 1) c4 (fun g hg hk => ?_)
        simp only [doomOp]
        split
        · cases hb : g.by1
          · exact .inl rfl
          · exact .inr rfl
        · exact .inl rfl
      · exact c4
    · exact c3
/-- A log only grows. -/
theorem note_pre (s : Mt) (k i op : Int) (ok : Bool) : ∃ r, (s.note k i op ok).l = s.l ++ r := ⟨_, rfl⟩
theorem commits_pre (z : SSt) (x : Cm) : ∃ r, (z.commits x).s.l = z.s.l ++ r := by
  have n0 : ∃ r : List Acc, z.s.l = z.s.l ++ r := ⟨[], by simp⟩
  unfold SSt.commits
  split
  · show ∃ r, (takeS z.s z.x _).l = _; unfold takeS; split <;> first | exact n0 | exact note_pre _ _ _ _ _
  · show ∃ r, (lookS z.s z.hs _).l = _; unfold lookS; split <;> first | exact n0 | exact note_pre _ _ _ _ _
  · unfold SSt.looks
    split
    · exact n0
    · split
      · show ∃ r, (wordS z.s _ _ _).l = _; unfold wordS; split <;> first | exact n0 | exact note_pre _ _ _ _ _
      · show ∃ r, (lookS z.s z.hs _).l = _; unfold lookS; split <;> first | exact n0 | exact note_pre _ _ _ _ _
  · unfold SSt.dooms
    split
    · exact n0
    · show ∃ r, (HOp.S _ z.s z.hs _).l = _
      unfold HOp.S; split
      · split <;> first | exact n0 | exact note_pre _ _ _ _ _
      · exact n0
  · show ∃ r, (storeS z.s z.xs _).l = _; unfold storeS; split <;> first | exact n0 | exact note_pre _ _ _ _ _
  · show ∃ r, (giveS z.s z.x _).l = _; unfold giveS; split <;> first | exact n0 | exact note_pre _ _ _ _ _
  · show ∃ r, (giveS z.s z.x _).l = _; unfold giveS; split <;> first | exact n0 | exact note_pre _ _ _ _ _
  · show ∃ r, (HOp.S _ z.s z.hs _).l = _
    unfold HOp.S; split
    · split <;> first | exact n0 | exact note_pre _ _ _ _ _
    · exact n0
  · exact n0
theorem move_pre (z : SSt) (o : MvD) : ∃ r, (moveZ z o).s.l = z.s.l ++ r := by
  have n0 : ∃ r : List Acc, z.s.l = z.s.l ++ r := ⟨[], by simp⟩
  have op : ∀ p : HOp, ∃ r, (z.op p (mvAt o : Nat)).s.l = z.s.l ++ r := fun p => by
    show ∃ r, (HOp.S p z.s z.hs _).l = _
    unfold HOp.S; split
    · split <;> first | exact n0 | exact note_pre _ _ _ _ _
    · exact n0
  unfold moveZ
  split
  · exact op _
  · split
    · exact op _
    · split
      · exact op _
      · show ∃ r, (putS z.s _ _ _).l = _; unfold putS; split <;> first | exact n0 | exact note_pre _ _ _ _ _
theorem BI.turn {c : Cfg} {ps : List Pr} {b0 : Nat} {z : SSt} {x : Cm} {wt : Int} (h : BI c ps b0 z x wt) (t : Int) : BI c ps b0 (z.turn t) x wt :=
  ⟨h.so, h.ge, h.th, h.wr, h.fit, h.hl, h.xl, h.ws, h.own, h.nt, h.lf, h.dm, h.inn, h.out, h.pre, h.up, h.fin, h.cnt, h.xs, h.cd⟩
/-- Ahead of a round. -/
structure BR (c : Cfg) (ps : List Pr) (l0 : List Acc) (ml j : Nat) (st : Nat) (wt : Int) (z : SSt) (x : Cm) (df : Int) : Prop where
  bi : BI c ps (onCells l0) z x wt
  df : 0 ≤ df
  ok : z.ok c (60 + j + st)
  hst : st + x.remB ≤ 31 + ps.length
  hj : j ≤ ml + st
  pre : ∃ r, z.s.l = l0 ++ r
theorem BR.step {c : Cfg} {ps : List Pr} {l0 : List Acc} {ml j st : Nat} {wt df : Int} {z : SSt} {x : Cm} (h : BR c ps l0 ml j st wt z x df) (hP : WPart ps) (hd : x.done = false) :
    BR c ps l0 ml (j + 1) (st + 1) (wt + if x.ans (z.turn 1) = 2 then 1 else 0) ((z.turn 1).commits x) (x.next c (z.turn 1) df) (x.nextDf c (z.turn 1) df) ∧ ((z.turn 1).commits x).s.dn = 1 := by
  obtain ⟨b1, b2, b3⟩ := (h.bi.turn 1).step (df := df) hP hd
  obtain ⟨r, hr⟩ := h.pre
  obtain ⟨q, hq⟩ := commits_pre (z.turn 1) x
  have h1 := h.hst
  have h2 := h.hj
  refine ⟨⟨b1, Cm.nextDf_nn _ _ _ h.df, ((h.ok.turn 1).commits x).more (by omega), by omega, by omega, ⟨r ++ q, ?_⟩⟩, b3⟩
  rw [hq, ← List.append_assoc]
  show z.s.l ++ q = _
  rw [hr]
theorem BR.move {c : Cfg} {ps : List Pr} {l0 : List Acc} {ml j st : Nat} {wt df : Int} {z : SSt} {x : Cm} (h : BR c ps l0 ml j st wt z x df) (hj : j < ml) (o : MvD) (hx : o.x < 18446744073709551616) : BR c ps l0 ml (j + 1) st wt (moveZ z o) x df := by
  obtain ⟨r, hr⟩ := h.pre
  obtain ⟨q, hq⟩ := move_pre z o
  have h1 := h.hj
  exact ⟨h.bi.move h.ok o hx, h.df, (moveZ_ok h.ok o).more (by omega), h.hst, by omega, ⟨r ++ q, by rw [hq, hr, List.append_assoc]⟩⟩
theorem BR.begins {c : Cfg} {ps : List Pr} {z : SSt} {wr : Sg} (haf : AF c z) (hP : WPart ps) (hx : z.xs = List.replicate 64 0) (hc : cntD z.hs = 0) (hw : wr.ok) (hp : ps ≠ []) (ml : Nat) (hfit : (⟨0, 1, 1, 5, ps, Lk.new wr 8 0, .own, 0, false, 1⟩ : Cm).fit 8) : BR c ps (z.take 1).s.l ml 0 0 0 (z.take 1) ⟨0, 1, 1, 5, ps, Lk.new wr 8 0, .own, 0, false, 1⟩ 0 := by
  refine ⟨⟨rfl, rfl, rfl, rfl, hfit, haf.hl, haf.xl, haf.ws, fun _ => haf.mine, (fun e => by cases e), (fun e => by cases e), (fun d e => by cases e), fun _ => ⟨?_, rfl⟩, (fun e => by cases e), fun _ => ⟨rfl, rfl⟩, (fun e => by cases e), (fun e => by cases e), rfl, hx, ?_⟩, Int.le_refl 0, (haf.ok.take 1).more (by omega), ?_, by omega, ⟨[], by simp⟩⟩
  · show takeX z.x 1 = _
    rw [haf.x]; rfl
  · show cntD z.hs ≤ 0
    omega
  · show 0 + (3 + ps.length + 21 + 7) ≤ _
    omega

set_option maxRecDepth 100000 in
set_option maxHeartbeats 8000000 in
theorem bounds_walk (tag bw bias most : Int) (la : Option Addr) (n lc : Nat) (zs : List Pr) {sa : Option Addr} {sl sc : Nat} {f : Nat → SeD} {ma : Option Addr} {ml mc : Nat} {fm : Nat → MvD} (w : World) (hP : PIn w la n zs) (hn : n ≤ 8796093022208) (hf : SesAt w sa sl f) (hM : MvsAt w ma ml fm) (hml : ml * 32 ≤ 140737488351232) :
    Calls Tryz.prog 5 #[.int .i64 tag, .int .i64 bw, .int .i64 bias, .int .i64 most, .slice la n lc, .slice sa sl sc, .slice ma ml mc] w fun e w' => e = .returned (.bool true) ∧ Kept (fun _ => False) w w' := by
  have HP : Hid (PIn w la n zs) := hP
  have HSW : Hid (∀ i, i < min sl 7 → (f i).w_0 < 18446744073709551616 ∧ (f i).w_1 < 18446744073709551616) := fun i hi => by
    rcases hf with h | ⟨b, off, _, hat⟩
    · omega
    · exact ⟨(hat i (by omega)).r_w_0, (hat i (by omega)).r_w_1⟩
  have HSF : Hid (∀ W, Kept (fun _ => False) w W → SesAt W sa sl f) := fun W kk => by
    rcases hf with h | ⟨b, off, e, hat⟩
    · exact .inl h
    · exact .inr ⟨b, off, e, fun i hi => (hat i hi).kept kk⟩
  have HMV : Hid (∀ W, Kept (fun _ => False) w W → MvsAt W ma ml fm) := fun W kk => by
    rcases hM with h | ⟨b, off, e, hat⟩
    · exact .inl h
    · exact .inr ⟨b, off, e, fun i hi => (hat i hi).kept kk⟩
  clear hP hf hM
  have hq := up_any w
  go_enter Tryz.func5, Tryz.ntmps5
  go_wp2_with fail
  refine hq.mono ?_
  rintro e w1 ⟨rfl, k1⟩
  have s1 := (St.nil w).calm k1
  clear hq k1
  have hq := config_any tag bw bias most w1
  obtain ⟨c, hc⟩ : ∃ c, c = cfgOf tag bw bias most := ⟨_, rfl⟩
  have HAF : Hid (AF c (seatsZ (liveZ c) f (min sl 7))) := by rw [hc]; exact af_seats tag bw bias most f (by omega) HSW.out
  have HLX : Hid ((liveZ c).xs = List.replicate 64 0) := by rw [hc]; rfl
  have HLC : Hid (∀ n, cntD (seatsZ (liveZ c) f n).hs = 0) := by rw [hc]; exact fun n => seats_cntD (cfgOf_live ..) rfl f n
  rw [← hc] at hq
  clear hc HSW
  unfold Cfg.val at hq
  go_wp2_with fail
  refine hq.mono ?_
  rintro e w2 ⟨rfl, k2⟩
  have s2 := (s1.calm k2).box #[.int .i64 c.ce, .int .i64 c.sl, .int .i64 c.bi, .int .i64 c.ta, .int .i64 c.ba, .int .i64 c.de] 23
  clear hq k2 s1
  go_upto_region 3 with fail
  generalize w2.alloc (.cells #[.int .i64 c.ce, .int .i64 c.sl, .int .i64 c.bi, .int .i64 c.ta, .int .i64 c.ba, .int .i64 c.de] 23) = w3 at *
  generalize w2.heap.size = M at *
  have c0 : w3.cell? ⟨M, 0, none⟩ = some (.int .i64 c.ce) := s2.cell 0 rfl 0
  have c1 : w3.cell? ⟨M, 1, none⟩ = some (.int .i64 c.sl) := s2.cell 0 rfl 1
  have c2 : w3.cell? ⟨M, 2, none⟩ = some (.int .i64 c.bi) := s2.cell 0 rfl 2
  have c3 : w3.cell? ⟨M, 3, none⟩ = some (.int .i64 c.ta) := s2.cell 0 rfl 3
  have c4 : w3.cell? ⟨M, 4, none⟩ = some (.int .i64 c.ba) := s2.cell 0 rfl 4
  have c5 : w3.cell? ⟨M, 5, none⟩ = some (.int .i64 c.de) := s2.cell 0 rfl 5
  have hq := lives_st s2 HAF.out.live
  unfold Cfg.val at hq
  clear s2
  go_wp2_with fail
  refine hq.mono ?_
  rintro e w4 ⟨A, J, v4, rfl, s4⟩
  clear hq c0 c1 c2 c3 c4 c5
  unfold spp
  have hq := seats_st (cap := sc) s4 1 rfl HAF.out.live.ok (by omega) HAF.out.sl (a := sa) (len := sl) (f := f) (fun z' v' W hW => HSF.out W hW.same)
  unfold spp at hq
  clear s4 HSF
  go_wp2_with fail
  refine hq.mono ?_
  rintro e w6 ⟨rfl, v6, s6'⟩
  clear hq
  obtain ⟨z0, hz0'⟩ : ∃ z0, z0 = seatsZ (liveZ c) f (min sl 7) := ⟨_, rfl⟩
  have s6 : St w [boxI J (jd c 0) 146, spI A c z0 v6 (.slice none 0 0), boxI M #[.int .i64 c.ce, .int .i64 c.sl, .int .i64 c.bi, .int .i64 c.ta, .int .i64 c.ba, .int .i64 c.de] 23] w6 := by rw [hz0']; exact s6'
  rw [← hz0'] at HAF
  have HXZ : Hid (z0.xs = List.replicate 64 0) := by show _ = _; rw [hz0', (seatsZ_rest _ _ _).2]; exact HLX.out
  have HCD : Hid (cntD z0.hs = 0) := by show _ = _; rw [hz0']; exact HLC.out _
  clear s6' hz0'
  have hq := writes_any la n lc zs w6 (HP.out.kept s6.same) hn
  go_wp2_with fail
  refine hq.mono ?_
  rintro e w7 ⟨vp, ps, rfl, hW, hp0, t7⟩
  have s7 := s6.add t7
  clear hq s6 t7 HP
  have HW : Hid (WPart ps) := hW
  have HP0 : Hid (ps ≠ []) := hp0
  obtain ⟨gw, cw, rfl⟩ := s7.form 0 rfl (List.length_pos_iff.2 hp0)
  have hl16 : ps.length ≤ 16 := hW.n
  have hpos : 0 < ps.length := List.length_pos_iff.2 hp0
  have HPW : Hid (∀ (its : List It) (i : Nat) (W : World), its[i]? = some (ownI 59 2 (.slice (some ⟨gw, 0, none⟩) ps.length cw) ps.length (prCells ps)) → St w its W → PIn W (some ⟨gw, 0, none⟩) ps.length ps) := by
    intro its i W hi hW
    obtain ⟨la', lc', e', hP, _⟩ := own_pin (show W.ownsRow 0 59 2 (.slice (some ⟨gw, 0, none⟩) ps.length cw) ps.length (prCells ps) from hW.get i hi)
    simp only [Value.slice.injEq, true_and] at e'
    obtain ⟨rfl, -⟩ := e'
    exact hP
  clear hW hp0
  obtain ⟨WS, hWS⟩ : ∃ WS, WS = (ofR (cesOf ps) c.bi).1 := ⟨_, rfl⟩
  have HWO : Hid (WS.ok) := by rw [hWS]; exact ofR_ok _ _
  have hck := HAF.out.ck ps HW.out HP0.out
  have hl8 : (z0.hs.length : Int) = c.sl := by rw [HAF.out.hl, HAF.out.sl]; rfl
  have hq := cmNew_st s7 2 rfl HAF.out.live.f hl8 J 0 1 1 5 (some ⟨gw, 0, none⟩) ps.length cw ps (fun W hW => HPW.out _ 0 W rfl hW) (by omega) hck
  unfold spp at hq
  rw [HAF.out.hl, ← hWS] at hq
  have HFX : Hid ((Cm.new 0 1 1 5 ps WS 8).fit 8) := Cm.fit_new (ge := 1) hck HWO.out (n := 8) (Nat.le_refl _) (by rw [HAF.out.sl]; rfl)
  clear s7 hl8 hck hWS
  go_wp2_with fail
  refine hq.mono ?_
  rintro e w12 ⟨B, vl, dl, dv, rfl, hBJ, s12⟩
  subst hBJ
  clear hq
  have e0 : takeE z0.x 1 = 0 := by rw [HAF.out.x]; rfl
  have e1 : takeR z0.x 1 = 1 := by rw [HAF.out.x]; rfl
  have en : (Cm.new 0 1 1 5 ps WS 8).next c z0 0 = ⟨0, 1, 1, 5, ps, Lk.new WS 8 0, .own, 0, false, 1⟩ := by simp [Cm.new, Cm.next, e0, e1]
  have ea : (Cm.new 0 1 1 5 ps WS 8).ans z0 = 1 := by simp [Cm.new, Cm.ans, e0]
  have ed : (Cm.new 0 1 1 5 ps WS 8).nextDf c z0 0 = 0 := rfl
  have ez : z0.commits (Cm.new 0 1 1 5 ps WS 8) = z0.take 1 := rfl
  have HF2 : Hid ((⟨0, 1, 1, 5, ps, Lk.new WS 8 0, .own, 0, false, 1⟩ : Cm).fit 8) := by
    have := HFX.out.next c HAF.out.ws 0
    rw [en] at this
    exact this
  have hq := cmStep s12 3 2 0 (by decide) (by decide) (by decide) rfl rfl rfl HAF.out.live.f (Int.le_refl 0) (by rw [HAF.out.hl]; exact HFX.out) HAF.out.ok (by omega) HAF.out.ws
  rw [en, ea, ed, ez] at hq
  simp only [List.set] at hq
  have HBR : Hid (BR c ps (z0.take 1).s.l ml 0 0 0 (z0.take 1) ⟨0, 1, 1, 5, ps, Lk.new WS 8 0, .own, 0, false, 1⟩ 0) := BR.begins HAF.out HW.out HXZ.out HCD.out HWO.out HP0.out ml HF2.out
  clear s12 e0 e1 en ea ed ez HFX HF2
  go_wp2_with fail
  refine hq.mono ?_
  rintro e w13 ⟨rfl, D, v, vl2, vd2, vv2, dl2, dv2, s13⟩
  clear hq
  have hnu := cmNumber s13 0 rfl
  simp only at hnu
  have hMo := most_any c ps.length w13
  have hmv : mostV c (ps.length : Int) = 31 + (ps.length : Int) := by
    unfold mostV
    rw [if_pos ⟨HAF.out.live.f, by omega, by omega⟩, HAF.out.sl]
    omega
  rw [hmv] at hMo
  unfold Cfg.val at hMo
  clear hmv
  have m0 : w13.cell? ⟨M, 0, none⟩ = some (.int .i64 c.ce) := s13.cell 4 rfl 0
  have m1 : w13.cell? ⟨M, 1, none⟩ = some (.int .i64 c.sl) := s13.cell 4 rfl 1
  have m2 : w13.cell? ⟨M, 2, none⟩ = some (.int .i64 c.bi) := s13.cell 4 rfl 2
  have m3 : w13.cell? ⟨M, 3, none⟩ = some (.int .i64 c.ta) := s13.cell 4 rfl 3
  have m4 : w13.cell? ⟨M, 4, none⟩ = some (.int .i64 c.ba) := s13.cell 4 rfl 4
  have m5 : w13.cell? ⟨M, 5, none⟩ = some (.int .i64 c.de) := s13.cell 4 rfl 5
  have HS13 : Hid _ := s13
  clear s13
  go_wp2_with fail
  refine hnu.mono ?_
  rintro e wq ⟨rfl, rfl⟩
  clear hnu
  go_wp2_with fail
  refine hMo.mono ?_
  rintro e w14 ⟨rfl, k14⟩
  have s14 := HS13.out.calm k14
  clear hMo k14 HS13 m0 m1 m2 m3 m4 m5
  have hsc : w14.cell? ⟨A.sp, 0, none⟩ = some (.pointer (some ⟨A.m, 0, none⟩)) := spCell s14 3 rfl 0
  have hq := spLog s14 3 rfl HBR.out.ok (by omega)
  clear s14
  go_wp2_with fail
  refine hq.mono ?_
  rintro e w15 ⟨vlog, rfl, s15⟩
  clear hq hsc
  obtain ⟨al, acap, rfl⟩ := own_form (n := (z0.take 1).s.l.length) (s15.get 0 rfl)
  obtain ⟨l0, hl0⟩ : ∃ l0, l0 = (z0.take 1).s.l := ⟨_, rfl⟩
  rw [← hl0] at HBR s15 ⊢
  have hlen0 : l0.length ≤ 60 := by rw [hl0]; have := HBR.out.ok.met.len; omega
  clear hl0
  have HLI : Hid (∃ x z df D v vl vd vv dl dv, St w [cmI A B D x vl vd vv dl dv, ownI 59 2 (.slice (some ⟨gw, 0, none⟩) ps.length cw) ps.length (prCells ps), boxI B.J (jd c df) 146, spI A c z v (.slice none 0 0), boxI M #[.int .i64 c.ce, .int .i64 c.sl, .int .i64 c.bi, .int .i64 c.ta, .int .i64 c.ba, .int .i64 c.de] 23] w15 ∧ BR c ps l0 ml 0 0 0 z x df) := ⟨_, _, _, _, _, _, _, _, _, _, s15.pop, HBR.out⟩
  clear s15 HBR
  clear vl dl dv D v vl2 vd2 vv2 dl2 dv2
  have hml0 : (0 : Int) ≤ (ml : Int) := by omega
  have hml1 : (ml : Int) ≤ 4398046510976 := by omega
  have hla0 : (0 : Int) ≤ (l0.length : Int) := by omega
  have hla1 : (l0.length : Int) ≤ 60 := by omega
  have hp16 : (ps.length : Int) ≤ 16 := by omega
  go_wp2_with fail
  go_loopw [24, 25, 27] (fun sv wv iv wr => ∃ (j st : Nat) (wt : Int), iv = .int .i64 j ∧ sv = .int .i64 st ∧ wv = .int .i64 wt ∧ 0 ≤ wt ∧ wt ≤ st ∧ st ≤ 31 + ps.length ∧ j ≤ ml + st ∧ Hid (∃ x z df D v vl vd vv dl dv, St w [cmI A B D x vl vd vv dl dv, ownI 59 2 (.slice (some ⟨gw, 0, none⟩) ps.length cw) ps.length (prCells ps), boxI B.J (jd c df) 146, spI A c z v (.slice none 0 0), boxI M #[.int .i64 c.ce, .int .i64 c.sl, .int .i64 c.bi, .int .i64 c.ta, .int .i64 c.ba, .int .i64 c.de] 23] wr ∧ BR c ps l0 ml j st wt z x df)) (fun sv _ iv _ => (ml - (intOf iv).toNat) + (31 + ps.length - (intOf sv).toNat))
  case atStart => exact ⟨0, 0, 0, rfl, rfl, rfl, Int.le_refl 0, Int.le_refl 0, by omega, by omega, HLI⟩
  case round =>
    clear HLI
    obtain ⟨j, st, wt, rfl, rfl, rfl, hw0, hw1, hst, hj, HR⟩ := hrel
    obtain ⟨x, z, df, D, v, vl, vd, vv, dl, dv, sj, hbr⟩ := HR.out
    clear HR
    have HB : Hid (BR c ps l0 ml j st wt z x df) := hbr
    clear hbr
    have hd := cmDone sj 0 rfl
    have hj0 : (0 : Int) ≤ (j : Int) := by omega
    have hj1 : (j : Int) ≤ 4398046511100 := by omega
    have hst0 : (0 : Int) ≤ (st : Int) := by omega
    have hst1 : (st : Int) ≤ 47 := by omega
    rcases (show x.done = false ∨ x.done = true by cases x.done <;> simp) with hdn | hdn
    · rw [hdn] at hd
      have HDN : Hid (x.done = false) := hdn
      clear hdn
      have HSJ : Hid (St w [cmI A B D x vl vd vv dl dv, ownI 59 2 (.slice (some ⟨gw, 0, none⟩) ps.length cw) ps.length (prCells ps), boxI B.J (jd c df) 146, spI A c z v (.slice none 0 0), boxI M #[.int .i64 c.ce, .int .i64 c.sl, .int .i64 c.bi, .int .i64 c.ta, .int .i64 c.ba, .int .i64 c.de] 23] wr) := sj
      clear sj
      go_upto_region 18 with (go_at_call 32; refine hd.mono ?_; rintro e wq ⟨rfl, rfl⟩)
      clear hd
      obtain ⟨w20, hw20⟩ : ∃ y, y = wq := ⟨_, rfl⟩
      subst hw20
      go_cut [111] from 95 to 138 (fun u wx => u = .bool (decide (j < ml) && !(fm j).go) ∧ wx = w20)
      case first =>
        by_cases hlt : j < ml
        · have h1 : (j : Int) < (ml : Int) := by omega
          obtain ⟨b, off, rfl, hat⟩ : ∃ b off, ma = some ⟨b, off, none⟩ ∧ ∀ i, i < ml → MvAt w20 b (off + i * 4) (fm i) := by
            rcases HMV.out w20 HSJ.out.same with h | h
            · omega
            · exact h
          have q0 := (hat j hlt).c0
          have e1 : decide (j < ml) = true := by simpa using hlt
          clear hat
          go_wp2_with fail
          go_meet
          exact ⟨by rw [e1]; rfl, rfl⟩
        · have h1 : ¬ (j : Int) < (ml : Int) := by omega
          have e1 : decide (j < ml) = false := by simpa using hlt
          go_wp2_with fail
          go_meet
          exact ⟨by rw [e1]; rfl, rfl⟩
      case rest =>
        obtain ⟨rfl, rfl⟩ := hcut
        obtain ⟨w21, hw21⟩ : ∃ y, y = wc := ⟨_, rfl⟩
        subst hw21
        by_cases hmv : (decide (j < ml) && !(fm j).go) = true
        · rw [hmv]
          have hlt : j < ml := by
            simp only [Bool.and_eq_true, decide_eq_true_eq] at hmv
            exact hmv.1
          clear hmv
          have h1 : (j : Int) < (ml : Int) := by omega
          obtain ⟨b, off, rfl, hat⟩ : ∃ b off, ma = some ⟨b, off, none⟩ ∧ ∀ i, i < ml → MvAt w21 b (off + i * 4) (fm i) := by
            rcases HMV.out w21 HSJ.out.same with h | h
            · omega
            · exact h
          have hA := hat j hlt
          clear hat
          have q0 := hA.c0
          have q1 := hA.c1
          have q2 := hA.c2
          have q3 := hA.c3
          have hrx := hA.r_x
          clear hA
          have hq := moves_st HSJ.out 3 rfl HB.out.ok (by omega) HB.out.bi.hl (fm j) hrx
          unfold spp at hq
          have HB2 : Hid (BR c ps l0 ml (j + 1) st wt (moveZ z (fm j)) x df) := HB.out.move hlt (fm j) hrx
          clear HSJ hrx
          go_wp2_with fail
          refine hq.mono ?_
          rintro e w22 ⟨rfl, v22, s22⟩
          clear hq q0 q1 q2 q3
          simp only [List.set] at s22
          have HE : Hid (∃ x z df D v vl vd vv dl dv, St w [cmI A B D x vl vd vv dl dv, ownI 59 2 (.slice (some ⟨gw, 0, none⟩) ps.length cw) ps.length (prCells ps), boxI B.J (jd c df) 146, spI A c z v (.slice none 0 0), boxI M #[.int .i64 c.ce, .int .i64 c.sl, .int .i64 c.bi, .int .i64 c.ta, .int .i64 c.ba, .int .i64 c.de] 23] w22 ∧ BR c ps l0 ml (j + 1) st wt z x df) := ⟨_, _, _, _, _, _, _, _, _, _, s22, HB2.out⟩
          clear s22
          go_wp2_with fail
          go_roundw
          case rel => exact ⟨j + 1, st, wt, by go_num, rfl, rfl, hw0, hw1, hst, by omega, HE⟩
          case measure => simp [intOf]; omega
        · rw [show (decide (j < ml) && !(fm j).go) = false by simpa using hmv]
          clear hmv
          have hq := spTurn HSJ.out 3 rfl HB.out.ok (by omega) 1
          unfold spp at hq
          obtain ⟨hb2, hdn1⟩ := HB.out.step HW.out HDN.out
          have HB2 : Hid _ := hb2
          have HD1 : Hid (((z.turn 1).commits x).s.dn = 1) := hdn1
          clear hb2 hdn1 HSJ
          go_wp2_with fail
          refine hq.mono ?_
          rintro e w22 ⟨rfl, s22⟩
          clear hq
          simp only [List.set] at s22
          have hb := HB.out.bi
          have hq := cmStep s22 3 2 0 (by decide) (by decide) (by decide) rfl rfl rfl HAF.out.live.f HB.out.df (by show x.fit z.hs.length; rw [hb.hl]; exact hb.fit) (HB.out.ok.turn 1) (by omega) hb.ws
          clear s22 hb
          go_wp2_with fail
          refine hq.mono ?_
          rintro e w23 ⟨rfl, D', v', vl', vd', vv', dl', dv', s23⟩
          clear hq
          simp only [List.set] at s23
          have hsc : w23.cell? ⟨A.sp, 0, none⟩ = some (.pointer (some ⟨A.m, 0, none⟩)) := spCell s23 3 rfl 0
          have hdo := spDone s23 3 rfl
          rw [HD1.out] at hdo
          have hs2 := HB2.out.hst
          have hj2 := HB2.out.hj
          have HE : Hid (∃ x z df D v vl vd vv dl dv, St w [cmI A B D x vl vd vv dl dv, ownI 59 2 (.slice (some ⟨gw, 0, none⟩) ps.length cw) ps.length (prCells ps), boxI B.J (jd c df) 146, spI A c z v (.slice none 0 0), boxI M #[.int .i64 c.ce, .int .i64 c.sl, .int .i64 c.bi, .int .i64 c.ta, .int .i64 c.ba, .int .i64 c.de] 23] w23 ∧ BR c ps l0 ml (j + 1) (st + 1) _ z x df) := ⟨_, _, _, _, _, _, _, _, _, _, s23, HB2.out⟩
          clear s23 HB2 HD1
          have hnl : ¬ (st : Int) + 1 > 31 + (ps.length : Int) := by omega
          rcases (show x.ans (z.turn 1) = 2 ∨ x.ans (z.turn 1) ≠ 2 from Decidable.em _) with ha | ha
          · have t2 : (x.ans (z.turn 1) == 2) = true := by simp [ha]
            rw [if_pos ha] at HE
            clear ha
            generalize x.ans (z.turn 1) = an at *
            go_wp2_with (go_at_call 19; refine hdo.mono ?_; rintro e wq ⟨rfl, rfl⟩)
            go_roundw
            case rel => exact ⟨j + 1, st + 1, wt + 1, by go_num, by go_num, rfl, by omega, by omega, by omega, by omega, HE⟩
            case measure => simp [intOf]; omega
          · have t2 : (x.ans (z.turn 1) == 2) = false := by simp [ha]
            rw [if_neg ha, Int.add_zero] at HE
            clear ha
            generalize x.ans (z.turn 1) = an at *
            go_wp2_with (go_at_call 19; refine hdo.mono ?_; rintro e wq ⟨rfl, rfl⟩)
            go_roundw
            case rel => exact ⟨j + 1, st + 1, wt, by go_num, by go_num, rfl, by omega, by omega, by omega, by omega, HE⟩
            case measure => simp [intOf]; omega
    · rw [hdn] at hd
      have HDN : Hid (x.done = true) := hdn
      have hov : x.st = .over := by
        unfold Cm.done at hdn
        cases hq : x.st <;> simp_all [Stg.isOver]
      clear hdn
      have hE := cmEnd sj 0 rfl
      have hee : x.end_ = x.e := by unfold Cm.end_; rw [if_pos HDN.out]
      rw [hee] at hE
      have hb := HB.out.bi
      have hgx := hb.out (by rw [hov]; rfl)
      have hfi := hb.fin (by rw [hov]; rfl)
      have hnst : x.nst = if x.won then x.wr.length else 0 := by unfold Cm.nst; rw [hov]
      have hndm : x.ndm = if x.won then x.lk.vs.length else 0 := by unfold Cm.ndm; rw [hov]
      have HCN : Hid (onCells z.s.l = onCells l0 + (if x.won then ps.length else 0)) := by
        have := hb.cnt
        rw [hnst, hb.wr] at this
        exact this
      have HXS : Hid (z.xs = putL (List.replicate 64 0) (ps.take (if x.won then ps.length else 0))) := by
        have := hb.xs
        rw [hnst, hb.wr] at this
        exact this
      have HCDD : Hid (cntD z.hs ≤ if x.won then x.lk.vs.length else 0) := by
        have := hb.cd
        rw [hndm] at this
        exact this
      have HFI : Hid ((x.won = true ∧ x.e = 0 ∧ wt = 0) ∨ (x.won = false ∧ x.why c ∧ wt = if x.e = 9 then 1 else 0)) := hfi
      have HFT : Hid (x.lk.fit) := hb.fit.lk
      have HL8 : Hid (z.hs.length = 8) := hb.hl
      have HX64 : Hid (z.xs.length = 64) := hb.xl
      have HGX : Hid (z.x = ⟨2, 0⟩) := hgx
      have HOK : Hid (z.ok c (60 + j + st)) := HB.out.ok
      obtain ⟨r0, hr0⟩ := HB.out.pre
      have HPRE : Hid (z.s.l.take l0.length = l0 ∧ l0.length ≤ z.s.l.length) := by
        rw [hr0]
        refine ⟨?_, ?_⟩
        · rw [List.take_left']; rfl
        · simp
      clear hee hov hb hgx hfi hnst hndm hr0
      have hsc : wr.cell? ⟨A.sp, 0, none⟩ = some (.pointer (some ⟨A.m, 0, none⟩)) := spCell sj 3 rfl 0
      have hq := spLog sj 3 rfl HOK.out (by omega)
      clear sj
      go_wp2_with fail
      refine hd.mono ?_
      rintro e wq ⟨rfl, rfl⟩
      go_wp2_with fail
      refine hE.mono ?_
      rintro e wq ⟨rfl, rfl⟩
      clear hd hE
      go_wp2_with fail
      refine hq.mono ?_
      rintro e w30 ⟨vlog, rfl, s30⟩
      clear hq hsc
      obtain ⟨lga, lgc, rfl⟩ := own_form (n := z.s.l.length) (s30.get 0 rfl)
      have hNb : z.s.l.length ≤ 4398046511300 := by have := HOK.out.met.len; omega
      obtain ⟨N, hN⟩ : ∃ N, N = z.s.l.length := ⟨_, rfl⟩
      have HN : Hid (N = z.s.l.length) := hN
      rw [← hN] at s30 hNb ⊢
      clear hN
      have hNi : (N : Int) ≤ 4398046511300 := by omega
      go_wp2_with fail
      go_loopw [32, 34] (fun sv iv wr => ∃ (k sc : Nat), iv = .int .i64 k ∧ sv = .int .i64 sc ∧ l0.length ≤ k ∧ k ≤ N ∧ sc ≤ k ∧ Hid (onCells (z.s.l.take k) = onCells l0 + sc) ∧ St w [ownI 118 6 (.slice lga N lgc) N (logCells z.s.l), cmI A B D x vl vd vv dl dv, ownI 59 2 (.slice (some ⟨gw, 0, none⟩) ps.length cw) ps.length (prCells ps), boxI B.J (jd c df) 146, spI A c z v (.slice none 0 0), boxI M #[.int .i64 c.ce, .int .i64 c.sl, .int .i64 c.bi, .int .i64 c.ta, .int .i64 c.ba, .int .i64 c.de] 23] wr) (fun _ iv _ => N - (intOf iv).toNat)
      case atStart => exact ⟨l0.length, 0, rfl, rfl, Nat.le_refl _, by have := HPRE.out.2; have := HN.out; omega, Nat.zero_le _, by show _ = _; rw [HPRE.out.1]; rfl, s30⟩
      case round =>
        clear s30
        obtain ⟨k, sc, rfl, rfl, hk1, hk2, hsk, HC, hS⟩ := hrel
        have hk0 : (0 : Int) ≤ (k : Int) := by omega
        by_cases hlt : k < N
        · focus
            have h1 : (k : Int) < (N : Int) := by omega
            have hlt' : k < z.s.l.length := by have := HN.out; omega
            obtain ⟨g, cap, e1⟩ := hS.form 0 rfl (by omega)
            simp only [Value.slice.injEq] at e1
            obtain ⟨rfl, -, rfl⟩ := e1
            have c2 : wr.cell? ⟨g, k * 6 + 2, none⟩ = some (.int .i64 (z.s.l.getD k Acc.none_).kind) := (hS.ownCell 0 rfl (k * 6 + 2) (by omega)).trans (logCells_kind z.s.l k hlt')
            have HT := onCells_take z.s.l hlt'
            generalize (z.s.l.getD k Acc.none_).kind = kd at *
            have HTT : Hid _ := HT
            clear HT
            have HE : Hid _ := hS
            clear hS
            cases hk : kd == 1 with
            | true =>
              rw [hk] at HTT
              go_wp2_with fail
              go_roundw
              case rel => exact ⟨k + 1, sc + 1, by go_num, by go_num, by omega, by omega, by omega, by show _ = _; rw [HTT.out, HC.out]; simp; omega, HE.out⟩
              case measure => simp [intOf]; omega
            | false =>
              rw [hk] at HTT
              go_wp2_with fail
              go_roundw
              case rel => exact ⟨k + 1, sc, by go_num, rfl, by omega, by omega, by omega, by show _ = _; rw [HTT.out, HC.out]; simp, HE.out⟩
              case measure => simp [intOf]; omega
        · obtain rfl : N = k := by omega
          have h1 : ¬ (N : Int) < (N : Int) := by omega
          have hsc2 : sc = if x.won then ps.length else 0 := by
            have e1 := HC.out
            rw [HN.out, List.take_length, HCN.out] at e1
            omega
          have HSC : Hid (sc = if x.won then ps.length else 0) := hsc2
          clear HC HCN hsc2
          have hok := HOK.out
          have hq := spView hS 4 rfl hok.wl hok.h1 hok.h8
          rw [HGX.out] at hq
          simp only at hq
          unfold spp at hq
          clear hS hok
          go_wp2_with fail
          refine hq.mono ?_
          rintro e w31 ⟨va, vb, rfl, s31⟩
          clear hq
          obtain ⟨qa, ca2, rfl⟩ := own_form (n := z.xs.length) (s31.get 0 rfl)
          obtain ⟨qb, cb2, rfl⟩ := s31.form 1 rfl (by have := HL8.out; omega)
          have hfs := fun W => fieldSlots qa (some ⟨qb, 0, none⟩) z.xs.length z.hs.length ca2 cb2 2 0 W
          have HSL : Hid (∀ k, k < 8 → w31.cell? ⟨qb, k * 8 + 4, none⟩ = some (.bool (z.hs.getD k Hd.zero).dm) ∧ w31.cell? ⟨qb, k * 8 + 5, none⟩ = some (.int .i64 (z.hs.getD k Hd.zero).wy)) := by
            intro k hk
            obtain ⟨y0, y1, y2, y3, y4, y5, y6, y7⟩ := slot_cells s31 1 rfl HOK.out.wl (k := k) (by have := HL8.out; omega)
            exact ⟨y4, y5⟩
          have s32 : St w [cmI A B D x vl vd vv dl dv, ownI 59 2 (.slice (some ⟨gw, 0, none⟩) ps.length cw) ps.length (prCells ps), boxI B.J (jd c df) 146, spI A c z v (.slice none 0 0), boxI M #[.int .i64 c.ce, .int .i64 c.sl, .int .i64 c.bi, .int .i64 c.ta, .int .i64 c.ba, .int .i64 c.de] 23] w31 := s31.pop.pop.pop
          clear s31
          go_wp2_with (simp only [hfs])
          obtain ⟨w32, hw32⟩ : ∃ y, y = w31 := ⟨_, rfl⟩
          subst hw32
          go_loopw [33, 36] (fun dv' iv wr => ∃ (k dc : Nat), iv = .int .i64 k ∧ dv' = .int .i64 dc ∧ 1 ≤ k ∧ k ≤ 8 ∧ dc ≤ k ∧ Hid (cntT z.hs k = dc) ∧ wr = w32) (fun _ iv _ => 8 - (intOf iv).toNat)
          case atStart => exact ⟨1, 0, rfl, rfl, by omega, by omega, by omega, by show _ = _; unfold cntT; cases z.hs <;> simp, rfl⟩
          case round =>
            obtain ⟨k, dc, rfl, rfl, hk1', hk2', hdk, HC, rfl⟩ := hrel
            have hk0' : (0 : Int) ≤ (k : Int) := by omega
            by_cases hlt2 : k < 8
            · focus
                have h2 : (k : Int) < (z.hs.length : Int) := by have := HL8.out; omega
                obtain ⟨y4, y5⟩ := HSL.out k hlt2
                have HT := cntT_succ z.hs (k := k) hk1' (by have := HL8.out; omega)
                have HTT : Hid _ := HT
                clear HT
                generalize z.hs.getD k Hd.zero = hk' at *
                obtain ⟨hg, hsa, hp, hth, hdm, hwy⟩ := hk'
                simp only at y4 y5
                have hby : Hd.by1 ⟨hg, hsa, hp, hth, hdm, hwy⟩ = (hdm && hwy == 1) := rfl
                rw [hby] at HTT
                clear hby
                cases hdm with
                | false =>
                  go_wp2_with fail
                  go_roundw
                  case rel => exact ⟨k + 1, dc, by go_num, rfl, by omega, by omega, by omega, by show _ = _; rw [HTT.out, HC.out]; simp, by trivial⟩
                  case measure => simp [intOf]; omega
                | true =>
                  cases hw2 : hwy == 1 with
                  | false =>
                    rw [hw2] at HTT
                    go_wp2_with fail
                    go_roundw
                    case rel => exact ⟨k + 1, dc, by go_num, rfl, by omega, by omega, by omega, by show _ = _; rw [HTT.out, HC.out]; simp, by trivial⟩
                    case measure => simp [intOf]; omega
                  | true =>
                    rw [hw2] at HTT
                    go_wp2_with fail
                    go_roundw
                    case rel => exact ⟨k + 1, dc + 1, by go_num, by go_num, by omega, by omega, by omega, by show _ = _; rw [HTT.out, HC.out]; simp, by trivial⟩
                    case measure => simp [intOf]; omega
            · obtain rfl : 8 = k := by omega
              have h2 : ¬ (8 : Int) < (z.hs.length : Int) := by have := HL8.out; omega
              have HDC : Hid (dc ≤ if x.won then x.lk.vs.length else 0) := by
                have e1 := HC.out
                rw [cntT_all HL8.out] at e1
                rw [← e1]
                exact HCDD.out
              clear HC HCDD HSL
              clear hfs
              have hWo := cmWon s32 0 rfl
              have hok := HOK.out
              have hvw := spView s32 3 rfl hok.wl hok.h1 hok.h8
              rw [HGX.out] at hvw
              simp only at hvw
              unfold spp at hvw
              clear hok s32
              have hng := fun W => neGt 2 0 W
              have hl52 : ¬ (31 : Int) + (ps.length : Int) > 52 := by omega
              rcases HFI.out with ⟨hwn, he, hwt⟩ | ⟨hwn, hy, hwt⟩
              · subst hwt
                have t0 : (x.e == 0) = true := by simp [he]
                have t9 : (x.e == 9) = false := by simp [he]
                clear he
                have hsc3 : sc = ps.length := by rw [HSC.out, hwn]; rfl
                have hdc3 : dc ≤ x.lk.vs.length := by have := HDC.out; rw [hwn] at this; exact this
                have HXP : Hid (z.xs = putL (List.replicate 64 0) ps) := by
                  have := HXS.out
                  rw [hwn] at this
                  simp only [if_true, List.take_length] at this
                  exact this
                rw [hwn] at hWo
                go_wp2_with fail
                refine hWo.mono ?_
                rintro e wq ⟨rfl, rfl⟩
                clear hWo
                go_wp2_with fail
                refine hvw.mono ?_
                rintro e w33 ⟨va3, vb3, rfl, s33⟩
                clear hvw
                obtain ⟨ra, ca3, rfl⟩ := own_form (n := z.xs.length) (s33.get 0 rfl)
                obtain ⟨rb, cb3, rfl⟩ := own_form (n := z.hs.length) (s33.get 1 rfl)
                have hfg := fun W => fieldGate ra rb z.xs.length z.hs.length ca3 cb3 2 0 W
                have s34 := s33.pop.pop
                clear s33
                clear HDC HSC HFI HXS
                go_wp2_with (first | simp only [hfg] | simp only [hng])
                clear hfg
                obtain ⟨w35, hw35⟩ : ∃ y, y = w33 := ⟨_, rfl⟩
                subst hw35
                have HGV : Hid (∀ k, k < ps.length → z.xs[((ps.getD k Pr.zero).ce).toNat]? = some (ps.getD k Pr.zero).x) := by
                  intro k hk
                  rw [HXP.out]
                  have e : ps.getD k Pr.zero = ps[k] := by rw [List.getD_eq_getElem?_getD, List.getElem?_eq_getElem hk]; rfl
                  rw [e]
                  exact putL_at HW.out (by simp) k hk
                clear HXP
                go_loopw [37] (fun iv wr => ∃ k : Nat, iv = .int .i64 k ∧ k ≤ ps.length ∧ St w [cmI A B D x vl vd vv dl dv, ownI 59 2 (.slice (some ⟨gw, 0, none⟩) ps.length cw) ps.length (prCells ps), boxI B.J (jd c df) 146, spI A c z v (.slice none 0 0), boxI M #[.int .i64 c.ce, .int .i64 c.sl, .int .i64 c.bi, .int .i64 c.ta, .int .i64 c.ba, .int .i64 c.de] 23] wr) (fun iv _ => ps.length - (intOf iv).toNat)
                case atStart => exact ⟨0, rfl, Nat.zero_le _, s34⟩
                case round =>
                  clear s34
                  obtain ⟨k, rfl, hk, hS⟩ := hrel
                  have hk0 : (0 : Int) ≤ (k : Int) := by omega
                  by_cases hlt3 : k < ps.length
                  · focus
                      have h3 : (k : Int) < (ps.length : Int) := by omega
                      have hgv := HGV.out k hlt3
                      have hm : ps.getD k Pr.zero ∈ ps := by rw [List.getD_eq_getElem?_getD, List.getElem?_eq_getElem hlt3]; exact List.getElem_mem hlt3
                      have hr := HW.out.r _ hm
                      have HPC : Hid (∀ W, St w [cmI A B D x vl vd vv dl dv, ownI 59 2 (.slice (some ⟨gw, 0, none⟩) ps.length cw) ps.length (prCells ps), boxI B.J (jd c df) 146, spI A c z v (.slice none 0 0), boxI M #[.int .i64 c.ce, .int .i64 c.sl, .int .i64 c.bi, .int .i64 c.ta, .int .i64 c.ba, .int .i64 c.de] 23] W → W.cell? ⟨gw, k * 2, none⟩ = some (.int .i64 (ps.getD k Pr.zero).ce) ∧ W.cell? ⟨gw, k * 2 + 1, none⟩ = some (.int .i64 (ps.getD k Pr.zero).x)) := fun W hW => by
                        obtain ⟨p0, p1⟩ := (HPW.out _ 1 W rfl hW).cells hlt3
                        simp only [Nat.zero_add] at p0 p1
                        exact ⟨p0, p1⟩
                      generalize ps.getD k Pr.zero = pk at *
                      obtain ⟨ce, px⟩ := pk
                      simp only at hgv hr HPC
                      obtain ⟨cn, rfl⟩ := Int.eq_ofNat_of_zero_le hr.1
                      have r0 : (0 : Int) ≤ (cn : Int) := by omega
                      have r1 : (cn : Int) < (z.xs.length : Int) := by have := HX64.out; omega
                      rw [Int.toNat_natCast] at hgv
                      obtain ⟨PP, hPd⟩ : ∃ PP : World → Prop, PP = fun W => St w [cmI A B D x vl vd vv dl dv, ownI 59 2 (.slice (some ⟨gw, 0, none⟩) ps.length cw) ps.length (prCells ps), boxI B.J (jd c df) 146, spI A c z v (.slice none 0 0), boxI M #[.int .i64 c.ce, .int .i64 c.sl, .int .i64 c.bi, .int .i64 c.ta, .int .i64 c.ba, .int .i64 c.de] 23] W := ⟨_, rfl⟩
                      have hD : PP wr.drew := by rw [hPd]; exact hS.drew
                      have CH : Hid (∀ W, PP W → W.cell? ⟨gw, k * 2, none⟩ = some (.int .i64 (cn : Int)) ∧ W.cell? ⟨gw, k * 2 + 1, none⟩ = some (.int .i64 px) ∧ PP W) := fun W hW => by
                        have h' := hW
                        rw [hPd] at h'
                        obtain ⟨p0, p1⟩ := HPC.out W h'
                        exact ⟨p0, p1, hW⟩
                      have CC : Hid (∀ W, PP W → Calls Tryz.prog 29 #[.pointer (some ⟨A.sp, 0, none⟩)] W fun e w' => ∃ ga ca gb nb cb, e = .returned (.agg #[.slice (some ⟨ga, 0, none⟩) z.xs.length ca, .int .i64 2, .int .i64 0, .slice gb nb cb]) ∧ w'.cell? ⟨ga, cn, none⟩ = some (.int .i64 px) ∧ PP w') := by
                        intro W hW
                        rw [hPd] at hW
                        have hok := HOK.out
                        have hv := spView hW 3 rfl hok.wl hok.h1 hok.h8
                        rw [HGX.out] at hv
                        simp only at hv
                        unfold spp at hv
                        refine hv.mono ?_
                        rintro e w' ⟨v1, v2, rfl, s⟩
                        obtain ⟨ga, ca, rfl⟩ := s.form 0 rfl (by have := HX64.out; omega)
                        obtain ⟨gb, cb, rfl⟩ := own_form (n := z.hs.length) (s.get 1 rfl)
                        refine ⟨ga, ca, gb, _, cb, rfl, ?_, ?_⟩
                        · rw [s.ownCell 0 rfl cn (by have := HX64.out; omega)]
                          unfold clCells
                          rw [List.getElem?_map, hgv]
                          rfl
                        · rw [hPd]; exact s.pop.pop
                      have HPD : Hid (∀ W, PP W → St w [cmI A B D x vl vd vv dl dv, ownI 59 2 (.slice (some ⟨gw, 0, none⟩) ps.length cw) ps.length (prCells ps), boxI B.J (jd c df) 146, spI A c z v (.slice none 0 0), boxI M #[.int .i64 c.ce, .int .i64 c.sl, .int .i64 c.bi, .int .i64 c.ta, .int .i64 c.ba, .int .i64 c.de] 23] W) := fun W hW => by rw [hPd] at hW; exact hW
                      have hnp : (px != px) = false := by simp
                      clear hPd hS hm hr HPC hgv HGV
                      obtain ⟨p0, p1, _⟩ := CH.out _ hD
                      go_upto_region 50 with fail
                      have o0 : wr.cell? ⟨gw, k * 2, none⟩ = some (.int .i64 (cn : Int)) := p0
                      have o1 : wr.cell? ⟨gw, k * 2 + 1, none⟩ = some (.int .i64 px) := p1
                      go_cut [275] from 254 to 275 (fun u wx => u = .bool false ∧ PP wx)
                      case first =>
                        go_region_with (first | (go_at_call 29; refine (CC.out _ hD).mono ?_; rintro e wx ⟨ga, ca, gb, nb, cb, rfl, hcx, hD⟩; obtain ⟨p0, p1, _⟩ := CH.out _ hD) | simp only [fieldCells])
                        all_goals
                          go_wp2_with fail
                          go_meet
                          exact ⟨rfl, hD⟩
                      case rest =>
                        obtain ⟨rfl, hD2⟩ := hcut
                        have HE : Hid _ := HPD.out _ hD2
                        clear CH CC HPD p0 p1 o0 o1 hD hD2
                        go_wp2_with fail
                        go_roundw
                        case rel => exact ⟨k + 1, by go_num, by omega, HE.out⟩
                        case measure => simp [intOf]; omega
                  · obtain rfl : ps.length = k := by omega
                    have h3 : ¬ (ps.length : Int) < (ps.length : Int) := by omega
                    have hV := cmVictims hS 0 rfl HFT.out
                    clear hS
                    subst hsc3
                    have hpp : ((ps.length : Int) == (ps.length : Int)) = true := by simp
                    have hdl : (dc : Int) ≤ (x.lk.vs.length : Int) := by omega
                    go_wp2_with fail
                    refine hV.mono ?_
                    rintro e w36 ⟨vv1, rfl, s36⟩
                    clear hV
                    obtain ⟨va1, ca1, rfl⟩ := own_form (n := x.lk.vs.length) (s36.get 0 rfl)
                    have HKK : Hid _ := s36.same
                    clear s36
                    go_wp2
                    go_ret
                    exact ⟨rfl, HKK.out⟩
              · rcases hy with ⟨he, hta, hba⟩ | ⟨he, hta⟩
                · rw [he] at hwt
                  rw [if_pos rfl] at hwt
                  subst hwt
                  have hsc3 : sc = 0 := by rw [HSC.out, hwn]; rfl
                  have hdc3 : dc = 0 := by have := HDC.out; rw [hwn] at this; simpa using this
                  subst hsc3
                  subst hdc3
                  have t0 : (x.e == 0) = false := by simp [he]
                  have t9 : (x.e == 9) = true := by simp [he]
                  clear he
                  rw [hwn] at hWo
                  go_wp2_with fail
                  refine hWo.mono ?_
                  rintro e wq ⟨rfl, rfl⟩
                  clear hWo
                  go_wp2_with fail
                  refine hvw.mono ?_
                  rintro e w33 ⟨va3, vb3, rfl, s33⟩
                  clear hvw
                  obtain ⟨ra, ca3, rfl⟩ := own_form (n := z.xs.length) (s33.get 0 rfl)
                  obtain ⟨rb, cb3, rfl⟩ := own_form (n := z.hs.length) (s33.get 1 rfl)
                  have hfg := fun W => fieldGate ra rb z.xs.length z.hs.length ca3 cb3 2 0 W
                  have s34 := s33.pop.pop
                  clear s33
                  clear HDC HSC HFI HXS
                  go_upto_region 46 with (first | simp only [hfg] | simp only [hng])
                  clear hfg
                  have mta : w33.cell? ⟨M, 3, none⟩ = some (.int .i64 c.ta) := s34.cell 4 rfl 3
                  rw [hta] at mta
                  have mba : w33.cell? ⟨M, 4, none⟩ = some (.int .i64 c.ba) := s34.cell 4 rfl 4
                  have mta1 : w33.drew.cell? ⟨M, 3, none⟩ = some (.int .i64 2) := mta
                  have mba1 : w33.drew.cell? ⟨M, 4, none⟩ = some (.int .i64 c.ba) := mba
                  obtain ⟨PP, hPd⟩ : ∃ PP : World → Prop, PP = fun W => St w [cmI A B D x vl vd vv dl dv, ownI 59 2 (.slice (some ⟨gw, 0, none⟩) ps.length cw) ps.length (prCells ps), boxI B.J (jd c df) 146, spI A c z v (.slice none 0 0), boxI M #[.int .i64 c.ce, .int .i64 c.sl, .int .i64 c.bi, .int .i64 c.ta, .int .i64 c.ba, .int .i64 c.de] 23] W := ⟨_, rfl⟩
                  have hD : PP w33.drew := by rw [hPd]; exact s34.drew
                  have CH : Hid (∀ W, PP W → W.cell? ⟨M, 3, none⟩ = some (.int .i64 2) ∧ W.cell? ⟨M, 4, none⟩ = some (.int .i64 c.ba) ∧ PP W) := fun W hW => by
                    have h' := hW
                    rw [hPd] at h'
                    have hm3 : W.cell? ⟨M, 3, none⟩ = some (.int .i64 c.ta) := h'.cell 4 rfl 3
                    rw [hta] at hm3
                    exact ⟨hm3, h'.cell 4 rfl 4, hW⟩
                  have CC : Hid (∀ W, PP W → Calls Tryz.prog 37 #[.pointer (some ⟨B.X, 0, none⟩)] W fun e w' => ∃ va ca, e = .returned (.slice va x.lk.vs.length ca) ∧ PP w') := by
                    intro W hW
                    rw [hPd] at hW
                    refine (cmVictims hW 0 rfl HFT.out).mono ?_
                    rintro e w' ⟨v1, rfl, s⟩
                    obtain ⟨ga, ca, rfl⟩ := own_form (n := x.lk.vs.length) (s.get 0 rfl)
                    exact ⟨ga, ca, rfl, by rw [hPd]; exact s.pop⟩
                  have HK : Hid (∀ W, PP W → Kept (fun _ => False) w W) := fun W hW => by rw [hPd] at hW; exact hW.same
                  clear hPd s34
                  have CH2 : Hid (∀ W, PP W → W.cell? ⟨M, 3, none⟩ = some (.int .i64 2) ∧ W.cell? ⟨M, 4, none⟩ = some (.int .i64 c.ba) ∧ Hid (PP W)) := fun W hW => ⟨(CH.out W hW).1, (CH.out W hW).2.1, hW⟩
                  refine wp_region_held_drew (S := fun W => W.cell? ⟨M, 3, none⟩ = some (.int .i64 2) ∧ W.cell? ⟨M, 4, none⟩ = some (.int .i64 c.ba) ∧ Hid (PP W)) (by kernel_rfl) (CH2.out _ hD) (fun hHeld => ?_)
                  refine wpAnyH_take (i := 0) (oi := { dst := some 217, op := Op.move (Operand.tmp 32), type := 3, pos := "law.go:386", after := #[], guard := none }) (v := ?vb0) rfl (by kernel_rfl) (by kernel_rfl) (by kernel_rfl) (fun _ _ _ h => h) (Or.inl ⟨by rfl, ?hyb0⟩) (by assumption) ?_
                  case hyb0 => (intro W hSw; (try dsimp only at hSw); go_simp; (try with_reducible rfl))
                  try simp only [Act.put, List.setIfInBounds_toArray, List.set_cons_zero, List.set_cons_succ]
                  refine wpAnyH_take (i := 1) (oi := { dst := some 218, op := Op.binOp BinOp.eql 3 (Operand.tmp 217) (Operand.const (Value.int IntKind.i64 0)) 3, type := 4, pos := "law.go:386", after := #[{ on := 0, ground := Ground.data }], guard := none }) (v := ?vb1) rfl (by kernel_rfl) (by kernel_rfl) (by kernel_rfl) (fun _ _ _ h => h) (Or.inl ⟨by rfl, ?hyb1⟩) (by assumption) ?_
                  case hyb1 => (intro W hSw; (try dsimp only at hSw); go_simp; (try with_reducible rfl))
                  try simp only [Act.put, List.setIfInBounds_toArray, List.set_cons_zero, List.set_cons_succ]
                  refine wpAnyH_take (i := 2) (oi := { dst := some 219, op := Op.move (Operand.tmp 218), type := 4, pos := "law.go:386", after := #[{ on := 1, ground := Ground.data }], guard := none }) (v := ?vb2) rfl (by kernel_rfl) (by kernel_rfl) (by kernel_rfl) (fun _ _ _ h => h) (Or.inl ⟨by rfl, ?hyb2⟩) (by assumption) ?_
                  case hyb2 => (intro W hSw; (try dsimp only at hSw); go_simp; (try with_reducible rfl))
                  try simp only [Act.put, List.setIfInBounds_toArray, List.set_cons_zero, List.set_cons_succ]
                  refine wpAnyH_take (i := 3) (oi := { dst := some 220, op := Op.move (Operand.tmp 33), type := 3, pos := "law.go:386", after := #[{ on := 2, ground := Ground.guard }], guard := some (2, true) }) (v := ?vb3) rfl (by kernel_rfl) (by kernel_rfl) (by kernel_rfl) (fun _ _ _ h => h) (Or.inl ⟨by rfl, ?hyb3⟩) (by assumption) ?_
                  case hyb3 => (intro W hSw; (try dsimp only at hSw); go_simp; (try with_reducible rfl))
                  try simp only [Act.put, List.setIfInBounds_toArray, List.set_cons_zero, List.set_cons_succ]
                  refine wpAnyH_take (i := 4) (oi := { dst := some 221, op := Op.binOp BinOp.eql 3 (Operand.tmp 220) (Operand.const (Value.int IntKind.i64 0)) 3, type := 4, pos := "law.go:386", after := #[{ on := 3, ground := Ground.data }, { on := 2, ground := Ground.guard }], guard := some (2, true) }) (v := ?vb4) rfl (by kernel_rfl) (by kernel_rfl) (by kernel_rfl) (fun _ _ _ h => h) (Or.inl ⟨by rfl, ?hyb4⟩) (by assumption) ?_
                  case hyb4 => (intro W hSw; (try dsimp only at hSw); go_simp; (try with_reducible rfl))
                  try simp only [Act.put, List.setIfInBounds_toArray, List.set_cons_zero, List.set_cons_succ]
                  refine wpAnyH_take (i := 5) (oi := { dst := some 222, op := Op.pick (Operand.tmp 219) (Operand.tmp 221) (Operand.const (Value.bool false)), type := 4, pos := "law.go:386", after := #[{ on := 2, ground := Ground.data }, { on := 4, ground := Ground.data }], guard := none }) (v := ?vb5) rfl (by kernel_rfl) (by kernel_rfl) (by kernel_rfl) (fun _ _ _ h => h) (Or.inl ⟨by rfl, ?hyb5⟩) (by assumption) ?_
                  case hyb5 => (intro W hSw; (try dsimp only at hSw); go_simp; (try with_reducible rfl))
                  try simp only [Act.put, List.setIfInBounds_toArray, List.set_cons_zero, List.set_cons_succ]
                  refine wpAnyH_take (i := 6) (oi := { dst := some 223, op := Op.move (Operand.tmp 222), type := 4, pos := "law.go:386", after := #[{ on := 5, ground := Ground.data }, { on := 2, ground := Ground.chain }], guard := none }) (v := ?vb6) rfl (by kernel_rfl) (by kernel_rfl) (by kernel_rfl) (fun _ _ _ h => h) (Or.inl ⟨by rfl, ?hyb6⟩) (by assumption) ?_
                  case hyb6 => (intro W hSw; (try dsimp only at hSw); go_simp; (try with_reducible rfl))
                  try simp only [Act.put, List.setIfInBounds_toArray, List.set_cons_zero, List.set_cons_succ]
                  refine wpAnyH_take (i := 7) (oi := { dst := some 224, op := Op.fieldAddr 23 (Operand.tmp 16) 3, type := 0, pos := "law.go:386", after := #[{ on := 6, ground := Ground.guard }], guard := some (6, true) }) (v := ?vb7) rfl (by kernel_rfl) (by kernel_rfl) (by kernel_rfl) (fun _ _ _ h => h) (Or.inl ⟨by rfl, ?hyb7⟩) (by assumption) ?_
                  case hyb7 => (intro W hSw; (try dsimp only at hSw); go_simp; (try with_reducible rfl))
                  try simp only [Act.put, List.setIfInBounds_toArray, List.set_cons_zero, List.set_cons_succ]
                  refine wpAnyH_take (i := 8) (oi := { dst := some 225, op := Op.load 3 (Operand.tmp 224), type := 3, pos := "law.go:386", after := #[{ on := 7, ground := Ground.data }, { on := 6, ground := Ground.guard }], guard := some (6, true) }) (v := ?vb8) rfl (by kernel_rfl) (by kernel_rfl) (by kernel_rfl) (fun _ _ _ h => h) (Or.inl ⟨by rfl, ?hyb8⟩) (by assumption) ?_
                  case hyb8 => (intro W hSw; (try dsimp only at hSw); go_simp; (try with_reducible rfl))
                  try simp only [Act.put, List.setIfInBounds_toArray, List.set_cons_zero, List.set_cons_succ]
                  refine wpAnyH_take (i := 9) (oi := { dst := some 226, op := Op.binOp BinOp.neq 3 (Operand.tmp 225) (Operand.const (Value.int IntKind.i64 1)) 3, type := 4, pos := "law.go:386", after := #[{ on := 8, ground := Ground.data }, { on := 6, ground := Ground.guard }], guard := some (6, true) }) (v := ?vb9) rfl (by kernel_rfl) (by kernel_rfl) (by kernel_rfl) (fun _ _ _ h => h) (Or.inl ⟨by rfl, ?hyb9⟩) (by assumption) ?_
                  case hyb9 => (intro W hSw; (try dsimp only at hSw); go_simp; (try with_reducible rfl))
                  try simp only [Act.put, List.setIfInBounds_toArray, List.set_cons_zero, List.set_cons_succ]
                  refine wpAnyH_take (i := 10) (oi := { dst := some 227, op := Op.pick (Operand.tmp 223) (Operand.tmp 226) (Operand.const (Value.bool false)), type := 4, pos := "law.go:386", after := #[{ on := 6, ground := Ground.data }, { on := 9, ground := Ground.data }], guard := none }) (v := ?vb10) rfl (by kernel_rfl) (by kernel_rfl) (by kernel_rfl) (fun _ _ _ h => h) (Or.inl ⟨by rfl, ?hyb10⟩) (by assumption) ?_
                  case hyb10 => (intro W hSw; (try dsimp only at hSw); go_simp; (try with_reducible rfl))
                  try simp only [Act.put, List.setIfInBounds_toArray, List.set_cons_zero, List.set_cons_succ]
                  refine wpAnyH_take (i := 11) (oi := { dst := some 228, op := Op.move (Operand.tmp 227), type := 4, pos := "law.go:386", after := #[{ on := 10, ground := Ground.data }, { on := 6, ground := Ground.chain }], guard := none }) (v := ?vb11) rfl (by kernel_rfl) (by kernel_rfl) (by kernel_rfl) (fun _ _ _ h => h) (Or.inl ⟨by rfl, ?hyb11⟩) (by assumption) ?_
                  case hyb11 => (intro W hSw; (try dsimp only at hSw); go_simp; (try with_reducible rfl))
                  try simp only [Act.put, List.setIfInBounds_toArray, List.set_cons_zero, List.set_cons_succ]
                  refine wpAnyH_take (i := 12) (oi := { dst := some 229, op := Op.move (Operand.tmp 29), type := 27, pos := "law.go:386", after := #[{ on := 11, ground := Ground.guard }], guard := some (11, true) }) (v := ?vb12) rfl (by kernel_rfl) (by kernel_rfl) (by kernel_rfl) (fun _ _ _ h => h) (Or.inl ⟨by rfl, ?hyb12⟩) (by assumption) ?_
                  case hyb12 => (intro W hSw; (try dsimp only at hSw); go_simp; (try with_reducible rfl))
                  try simp only [Act.put, List.setIfInBounds_toArray, List.set_cons_zero, List.set_cons_succ]
                  refine wpAnyH_take (i := 13) (oi := { dst := some 230, op := Op.binOp BinOp.eql 27 (Operand.tmp 229) (Operand.const (Value.int IntKind.i64 9)) 27, type := 4, pos := "law.go:386", after := #[{ on := 12, ground := Ground.data }, { on := 11, ground := Ground.guard }], guard := some (11, true) }) (v := .bool true) rfl (by kernel_rfl) (by kernel_rfl) (by kernel_rfl) (fun _ _ _ h => h) (Or.inl ⟨by rfl, ?hyb13⟩) (by assumption) ?_
                  case hyb13 => (intro W hSw; (try dsimp only at hSw); go_simp; all_goals (first | with_reducible rfl | (simp only [t9]; done) | (simp [hba]; done) | simp [t9]))
                  try simp only [Act.put, List.setIfInBounds_toArray, List.set_cons_zero, List.set_cons_succ]
                  refine wpAnyH_take (i := 14) (oi := { dst := some 231, op := Op.move (Operand.tmp 230), type := 4, pos := "law.go:386", after := #[{ on := 13, ground := Ground.data }, { on := 11, ground := Ground.chain }, { on := 11, ground := Ground.guard }], guard := some (11, true) }) (v := ?vb14) rfl (by kernel_rfl) (by kernel_rfl) (by kernel_rfl) (fun _ _ _ h => h) (Or.inl ⟨by rfl, ?hyb14⟩) (by assumption) ?_
                  case hyb14 => (intro W hSw; (try dsimp only at hSw); go_simp; (try with_reducible rfl))
                  try simp only [Act.put, List.setIfInBounds_toArray, List.set_cons_zero, List.set_cons_succ]
                  refine wpAnyH_take (i := 15) (oi := { dst := some 232, op := Op.fieldAddr 23 (Operand.tmp 16) 3, type := 0, pos := "law.go:386", after := #[{ on := 14, ground := Ground.guard }], guard := some (14, true) }) (v := ?vb15) rfl (by kernel_rfl) (by kernel_rfl) (by kernel_rfl) (fun _ _ _ h => h) (Or.inl ⟨by rfl, ?hyb15⟩) (by assumption) ?_
                  case hyb15 => (intro W hSw; (try dsimp only at hSw); go_simp; (try with_reducible rfl))
                  try simp only [Act.put, List.setIfInBounds_toArray, List.set_cons_zero, List.set_cons_succ]
                  refine wpAnyH_take (i := 16) (oi := { dst := some 233, op := Op.load 3 (Operand.tmp 232), type := 3, pos := "law.go:386", after := #[{ on := 15, ground := Ground.data }, { on := 14, ground := Ground.guard }], guard := some (14, true) }) (v := ?vb16) rfl (by kernel_rfl) (by kernel_rfl) (by kernel_rfl) (fun _ _ _ h => h) (Or.inl ⟨by rfl, ?hyb16⟩) (by assumption) ?_
                  case hyb16 => (intro W hSw; (try dsimp only at hSw); go_simp; (try with_reducible rfl))
                  try simp only [Act.put, List.setIfInBounds_toArray, List.set_cons_zero, List.set_cons_succ]
                  refine wpAnyH_take (i := 17) (oi := { dst := some 234, op := Op.binOp BinOp.eql 3 (Operand.tmp 233) (Operand.const (Value.int IntKind.i64 2)) 3, type := 4, pos := "law.go:386", after := #[{ on := 16, ground := Ground.data }, { on := 14, ground := Ground.guard }], guard := some (14, true) }) (v := ?vb17) rfl (by kernel_rfl) (by kernel_rfl) (by kernel_rfl) (fun _ _ _ h => h) (Or.inl ⟨by rfl, ?hyb17⟩) (by assumption) ?_
                  case hyb17 => (intro W hSw; (try dsimp only at hSw); go_simp; (try with_reducible rfl))
                  try simp only [Act.put, List.setIfInBounds_toArray, List.set_cons_zero, List.set_cons_succ]
                  refine wpAnyH_take (i := 18) (oi := { dst := some 235, op := Op.pick (Operand.tmp 231) (Operand.tmp 234) (Operand.const (Value.bool false)), type := 4, pos := "law.go:386", after := #[{ on := 14, ground := Ground.data }, { on := 17, ground := Ground.data }, { on := 11, ground := Ground.guard }], guard := some (11, true) }) (v := ?vb18) rfl (by kernel_rfl) (by kernel_rfl) (by kernel_rfl) (fun _ _ _ h => h) (Or.inl ⟨by rfl, ?hyb18⟩) (by assumption) ?_
                  case hyb18 => (intro W hSw; (try dsimp only at hSw); go_simp; (try with_reducible rfl))
                  try simp only [Act.put, List.setIfInBounds_toArray, List.set_cons_zero, List.set_cons_succ]
                  refine wpAnyH_take (i := 19) (oi := { dst := some 236, op := Op.move (Operand.tmp 235), type := 4, pos := "law.go:386", after := #[{ on := 18, ground := Ground.data }, { on := 14, ground := Ground.chain }, { on := 11, ground := Ground.guard }], guard := some (11, true) }) (v := ?vb19) rfl (by kernel_rfl) (by kernel_rfl) (by kernel_rfl) (fun _ _ _ h => h) (Or.inl ⟨by rfl, ?hyb19⟩) (by assumption) ?_
                  case hyb19 => (intro W hSw; (try dsimp only at hSw); go_simp; (try with_reducible rfl))
                  try simp only [Act.put, List.setIfInBounds_toArray, List.set_cons_zero, List.set_cons_succ]
                  refine wpAnyH_take (i := 20) (oi := { dst := some 237, op := Op.move (Operand.tmp 21), type := 33, pos := "law.go:386", after := #[{ on := 19, ground := Ground.guard }], guard := some (19, true) }) (v := ?vb20) rfl (by kernel_rfl) (by kernel_rfl) (by kernel_rfl) (fun _ _ _ h => h) (Or.inl ⟨by rfl, ?hyb20⟩) (by assumption) ?_
                  case hyb20 => (intro W hSw; (try dsimp only at hSw); go_simp; (try with_reducible rfl))
                  try simp only [Act.put, List.setIfInBounds_toArray, List.set_cons_zero, List.set_cons_succ]
                  refine wpAnyH_take (i := 23) (oi := { dst := some 240, op := Op.fieldAddr 23 (Operand.tmp 16) 4, type := 0, pos := "law.go:386", after := #[{ on := 19, ground := Ground.guard }], guard := some (19, true) }) (v := ?vb23) rfl (by kernel_rfl) (by kernel_rfl) (by kernel_rfl) (fun _ _ _ h => h) (Or.inl ⟨by rfl, ?hyb23⟩) (by assumption) ?_
                  case hyb23 => (intro W hSw; (try dsimp only at hSw); go_simp; (try with_reducible rfl))
                  try simp only [Act.put, List.setIfInBounds_toArray, List.set_cons_zero, List.set_cons_succ]
                  refine wpAnyH_take (i := 24) (oi := { dst := some 241, op := Op.load 3 (Operand.tmp 240), type := 3, pos := "law.go:386", after := #[{ on := 23, ground := Ground.data }, { on := 19, ground := Ground.guard }], guard := some (19, true) }) (v := ?vb24) rfl (by kernel_rfl) (by kernel_rfl) (by kernel_rfl) (fun _ _ _ h => h) (Or.inl ⟨by rfl, ?hyb24⟩) (by assumption) ?_
                  case hyb24 => (intro W hSw; (try dsimp only at hSw); go_simp; (try with_reducible rfl))
                  try simp only [Act.put, List.setIfInBounds_toArray, List.set_cons_zero, List.set_cons_succ]
                  refine wpAnyH_ready (rs := [21]) (by kernel_rfl) (by simp) ?_
                  refine AllReadyH.cons (o := { dst := some 238, op := Op.call { callee := Callee.value (Operand.func 37), args := #[Operand.tmp 237], argTypes := #[33] }, type := 97, pos := "law.go:386", after := #[{ on := 20, ground := Ground.data }, { on := 19, ground := Ground.chain }, { on := 19, ground := Ground.guard }], guard := some (19, true) }) rfl (fun K_ hK => ?_) AllReadyH.nil
                  go_simp
                  refine (CC.out _ hD).mono ?_
                  rintro e wx ⟨va9, ca9, rfl, hDx⟩
                  go_wp2_with fail
                  refine hK.out _ _ (CH2.out _ hDx) (fun hHeld => ?_)
                  clear hK K_
                  try simp only [Act.put, List.setIfInBounds_toArray, List.set_cons_zero, List.set_cons_succ]
                  refine wpAnyH_take (i := 22) (oi := { dst := some 239, op := Op.call { callee := Callee.builtin Builtin.len, args := #[Operand.tmp 238], argTypes := #[97] }, type := 3, pos := "law.go:386", after := #[{ on := 21, ground := Ground.data }, { on := 19, ground := Ground.guard }], guard := some (19, true) }) (v := ?vb22) rfl (by kernel_rfl) (by kernel_rfl) (by kernel_rfl) (fun _ _ _ h => h) (Or.inl ⟨by rfl, ?hyb22⟩) (by assumption) ?_
                  case hyb22 => (intro W hSw; (try dsimp only at hSw); go_simp; (try with_reducible rfl))
                  try simp only [Act.put, List.setIfInBounds_toArray, List.set_cons_zero, List.set_cons_succ]
                  refine wpAnyH_take (i := 25) (oi := { dst := some 242, op := Op.binOp BinOp.gtr 3 (Operand.tmp 239) (Operand.tmp 241) 3, type := 4, pos := "law.go:386", after := #[{ on := 22, ground := Ground.data }, { on := 24, ground := Ground.data }, { on := 19, ground := Ground.guard }], guard := some (19, true) }) (v := .bool true) rfl (by kernel_rfl) (by kernel_rfl) (by kernel_rfl) (fun _ _ _ h => h) (Or.inl ⟨by rfl, ?hyb25⟩) (by assumption) ?_
                  case hyb25 => (intro W hSw; (try dsimp only at hSw); go_simp; all_goals (first | with_reducible rfl | (simp only [t9]; done) | (simp [hba]; done) | simp [t9]))
                  try simp only [Act.put, List.setIfInBounds_toArray, List.set_cons_zero, List.set_cons_succ]
                  refine wpAnyH_take (i := 26) (oi := { dst := some 243, op := Op.pick (Operand.tmp 236) (Operand.tmp 242) (Operand.const (Value.bool false)), type := 4, pos := "law.go:386", after := #[{ on := 19, ground := Ground.data }, { on := 25, ground := Ground.data }, { on := 11, ground := Ground.guard }], guard := some (11, true) }) (v := ?vb26) rfl (by kernel_rfl) (by kernel_rfl) (by kernel_rfl) (fun _ _ _ h => h) (Or.inl ⟨by rfl, ?hyb26⟩) (by assumption) ?_
                  case hyb26 => (intro W hSw; (try dsimp only at hSw); go_simp; (try with_reducible rfl))
                  try simp only [Act.put, List.setIfInBounds_toArray, List.set_cons_zero, List.set_cons_succ]
                  refine wpAnyH_take (i := 27) (oi := { dst := some 244, op := Op.move (Operand.tmp 243), type := 4, pos := "law.go:386", after := #[{ on := 26, ground := Ground.data }, { on := 21, ground := Ground.chain }, { on := 11, ground := Ground.guard }], guard := some (11, true) }) (v := ?vb27) rfl (by kernel_rfl) (by kernel_rfl) (by kernel_rfl) (fun _ _ _ h => h) (Or.inl ⟨by rfl, ?hyb27⟩) (by assumption) ?_
                  case hyb27 => (intro W hSw; (try dsimp only at hSw); go_simp; (try with_reducible rfl))
                  try simp only [Act.put, List.setIfInBounds_toArray, List.set_cons_zero, List.set_cons_succ]
                  refine wpAnyH_take (i := 28) (oi := { dst := some 245, op := Op.move (Operand.tmp 29), type := 27, pos := "law.go:386", after := #[{ on := 27, ground := Ground.guard }], guard := some (27, false) }) (v := undef) rfl (by kernel_rfl) (by kernel_rfl) (by kernel_rfl) (fun _ _ _ h => h) (Or.inr ⟨by rfl, rfl⟩) (by assumption) ?_
                  try simp only [Act.put, List.setIfInBounds_toArray, List.set_cons_zero, List.set_cons_succ]
                  refine wpAnyH_take (i := 29) (oi := { dst := some 246, op := Op.binOp BinOp.eql 27 (Operand.tmp 245) (Operand.const (Value.int IntKind.i64 8)) 27, type := 4, pos := "law.go:386", after := #[{ on := 28, ground := Ground.data }, { on := 27, ground := Ground.guard }], guard := some (27, false) }) (v := undef) rfl (by kernel_rfl) (by kernel_rfl) (by kernel_rfl) (fun _ _ _ h => h) (Or.inr ⟨by rfl, rfl⟩) (by assumption) ?_
                  try simp only [Act.put, List.setIfInBounds_toArray, List.set_cons_zero, List.set_cons_succ]
                  refine wpAnyH_take (i := 30) (oi := { dst := some 247, op := Op.move (Operand.tmp 246), type := 4, pos := "law.go:386", after := #[{ on := 29, ground := Ground.data }, { on := 27, ground := Ground.chain }, { on := 27, ground := Ground.guard }], guard := some (27, false) }) (v := undef) rfl (by kernel_rfl) (by kernel_rfl) (by kernel_rfl) (fun _ _ _ h => h) (Or.inr ⟨by rfl, rfl⟩) (by assumption) ?_
                  try simp only [Act.put, List.setIfInBounds_toArray, List.set_cons_zero, List.set_cons_succ]
                  refine wpAnyH_take (i := 31) (oi := { dst := some 248, op := Op.fieldAddr 23 (Operand.tmp 16) 3, type := 0, pos := "law.go:386", after := #[{ on := 30, ground := Ground.guard }], guard := some (30, true) }) (v := undef) rfl (by kernel_rfl) (by kernel_rfl) (by kernel_rfl) (fun _ _ _ h => h) (Or.inr ⟨by rfl, rfl⟩) (by assumption) ?_
                  try simp only [Act.put, List.setIfInBounds_toArray, List.set_cons_zero, List.set_cons_succ]
                  refine wpAnyH_take (i := 32) (oi := { dst := some 249, op := Op.load 3 (Operand.tmp 248), type := 3, pos := "law.go:386", after := #[{ on := 31, ground := Ground.data }, { on := 30, ground := Ground.guard }], guard := some (30, true) }) (v := undef) rfl (by kernel_rfl) (by kernel_rfl) (by kernel_rfl) (fun _ _ _ h => h) (Or.inr ⟨by rfl, rfl⟩) (by assumption) ?_
                  try simp only [Act.put, List.setIfInBounds_toArray, List.set_cons_zero, List.set_cons_succ]
                  refine wpAnyH_take (i := 33) (oi := { dst := some 250, op := Op.binOp BinOp.eql 3 (Operand.tmp 249) (Operand.const (Value.int IntKind.i64 3)) 3, type := 4, pos := "law.go:386", after := #[{ on := 32, ground := Ground.data }, { on := 30, ground := Ground.guard }], guard := some (30, true) }) (v := undef) rfl (by kernel_rfl) (by kernel_rfl) (by kernel_rfl) (fun _ _ _ h => h) (Or.inr ⟨by rfl, rfl⟩) (by assumption) ?_
                  try simp only [Act.put, List.setIfInBounds_toArray, List.set_cons_zero, List.set_cons_succ]
                  refine wpAnyH_take (i := 34) (oi := { dst := some 251, op := Op.pick (Operand.tmp 247) (Operand.tmp 250) (Operand.const (Value.bool false)), type := 4, pos := "law.go:386", after := #[{ on := 30, ground := Ground.data }, { on := 33, ground := Ground.data }, { on := 27, ground := Ground.guard }], guard := some (27, false) }) (v := undef) rfl (by kernel_rfl) (by kernel_rfl) (by kernel_rfl) (fun _ _ _ h => h) (Or.inr ⟨by rfl, rfl⟩) (by assumption) ?_
                  try simp only [Act.put, List.setIfInBounds_toArray, List.set_cons_zero, List.set_cons_succ]
                  refine wpAnyH_take (i := 35) (oi := { dst := some 252, op := Op.pick (Operand.tmp 244) (Operand.const (Value.bool true)) (Operand.tmp 251), type := 4, pos := "law.go:386", after := #[{ on := 27, ground := Ground.data }, { on := 34, ground := Ground.data }, { on := 11, ground := Ground.guard }], guard := some (11, true) }) (v := ?vb35) rfl (by kernel_rfl) (by kernel_rfl) (by kernel_rfl) (fun _ _ _ h => h) (Or.inl ⟨by rfl, ?hyb35⟩) (by assumption) ?_
                  case hyb35 => (intro W hSw; (try dsimp only at hSw); go_simp; (try with_reducible rfl))
                  try simp only [Act.put, List.setIfInBounds_toArray, List.set_cons_zero, List.set_cons_succ]
                  refine wpAnyH_take (i := 36) (oi := { dst := some 253, op := Op.pick (Operand.tmp 228) (Operand.tmp 252) (Operand.const (Value.bool false)), type := 4, pos := "law.go:386", after := #[{ on := 11, ground := Ground.data }, { on := 35, ground := Ground.data }], guard := none }) (v := ?vb36) rfl (by kernel_rfl) (by kernel_rfl) (by kernel_rfl) (fun _ _ _ h => h) (Or.inl ⟨by rfl, ?hyb36⟩) (by assumption) ?_
                  case hyb36 => (intro W hSw; (try dsimp only at hSw); go_simp; (try with_reducible rfl))
                  try simp only [Act.put, List.setIfInBounds_toArray, List.set_cons_zero, List.set_cons_succ]
                  refine wpAnyH_take (i := 37) (oi := { dst := some 14, op := Op.assign (Operand.tmp 253), type := 4, pos := "law.go:386", after := #[{ on := 36, ground := Ground.data }, { on := 30, ground := Ground.chain }, { on := 0, ground := Ground.phase }, { on := 1, ground := Ground.phase }, { on := 2, ground := Ground.phase }, { on := 3, ground := Ground.phase }, { on := 4, ground := Ground.phase }, { on := 5, ground := Ground.phase }, { on := 6, ground := Ground.phase }, { on := 7, ground := Ground.phase }, { on := 8, ground := Ground.phase }, { on := 9, ground := Ground.phase }, { on := 10, ground := Ground.phase }, { on := 11, ground := Ground.phase }, { on := 12, ground := Ground.phase }, { on := 13, ground := Ground.phase }, { on := 14, ground := Ground.phase }, { on := 15, ground := Ground.phase }, { on := 16, ground := Ground.phase }, { on := 17, ground := Ground.phase }, { on := 18, ground := Ground.phase }, { on := 19, ground := Ground.phase }, { on := 20, ground := Ground.phase }, { on := 21, ground := Ground.phase }, { on := 22, ground := Ground.phase }, { on := 23, ground := Ground.phase }, { on := 24, ground := Ground.phase }, { on := 25, ground := Ground.phase }, { on := 26, ground := Ground.phase }, { on := 27, ground := Ground.phase }, { on := 28, ground := Ground.phase }, { on := 29, ground := Ground.phase }, { on := 30, ground := Ground.phase }, { on := 31, ground := Ground.phase }, { on := 32, ground := Ground.phase }, { on := 33, ground := Ground.phase }, { on := 34, ground := Ground.phase }, { on := 35, ground := Ground.phase }, { on := 36, ground := Ground.phase }], guard := none }) (v := ?vb37) rfl (by kernel_rfl) (by kernel_rfl) (by kernel_rfl) (fun _ _ _ h => h) (Or.inl ⟨by rfl, ?hyb37⟩) (by assumption) ?_
                  case hyb37 => (intro W hSw; (try dsimp only at hSw); go_simp; (try with_reducible rfl))
                  try simp only [Act.put, List.setIfInBounds_toArray, List.set_cons_zero, List.set_cons_succ]
                  refine wpAnyH_done (by kernel_rfl) ?_ _
                  have hD := hDx
                  skip
                  all_goals
                    have HF : Hid _ := HK.out _ hD
                    go_wp2
                    go_ret
                    exact ⟨rfl, HF.out⟩
                · rw [he] at hwt
                  rw [if_neg (by decide)] at hwt
                  subst hwt
                  have hsc3 : sc = 0 := by rw [HSC.out, hwn]; rfl
                  have hdc3 : dc = 0 := by have := HDC.out; rw [hwn] at this; simpa using this
                  subst hsc3
                  subst hdc3
                  have t0 : (x.e == 0) = false := by simp [he]
                  have t9 : (x.e == 9) = false := by simp [he]
                  have t8 : (x.e == 8) = true := by simp [he]
                  clear he
                  rw [hwn] at hWo
                  go_wp2_with fail
                  refine hWo.mono ?_
                  rintro e wq ⟨rfl, rfl⟩
                  clear hWo
                  go_wp2_with fail
                  refine hvw.mono ?_
                  rintro e w33 ⟨va3, vb3, rfl, s33⟩
                  clear hvw
                  obtain ⟨ra, ca3, rfl⟩ := own_form (n := z.xs.length) (s33.get 0 rfl)
                  obtain ⟨rb, cb3, rfl⟩ := own_form (n := z.hs.length) (s33.get 1 rfl)
                  have hfg := fun W => fieldGate ra rb z.xs.length z.hs.length ca3 cb3 2 0 W
                  have s34 := s33.pop.pop
                  clear s33
                  clear HDC HSC HFI HXS
                  go_upto_region 46 with (first | simp only [hfg] | simp only [hng])
                  clear hfg
                  have mta : w33.cell? ⟨M, 3, none⟩ = some (.int .i64 c.ta) := s34.cell 4 rfl 3
                  rw [hta] at mta
                  have HKK : Hid (∀ n, Kept (fun _ => False) w (w33.drewN n)) := fun n => (s34.calm ((Kept.refl _ _).drewN n)).same
                  clear s34
                  go_quiet (fail)
                  have HKN : Hid _ := HKK.out nq
                  clear HKK
                  go_wp2
                  go_ret
                  exact ⟨rfl, HKN.out⟩
end Go.Proofs.YtgjmamgohidbiaaGreat
