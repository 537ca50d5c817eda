/- Seats: what is laid into the other slots ahead of a commit. -/
import Derived.Test.YtgjmamgohidbiaaGreatCmW
import Derived.Test.YtgjmamgohidbiaaGreatOps
namespace Go.Proofs.YtgjmamgohidbiaaGreat
open Go.RowKit
set_option linter.unusedVariables false
set_option linter.unusedSimpArgs false
attribute [local go_sem ↓] Go.wp_at_zero Go.wp_at_succ

def SeD.pn (s : SeD) : Nat := (s.sp % 1024).toNat
def SeD.p (s : SeD) : Int := 1 + (s.pn : Int)
def seatC (z : SSt) (q : Nat) (s : SeD) : SSt := z.op (claimOp (1 + (q : Int))) q
def seatP (z : SSt) (q : Nat) (s : SeD) : SSt := (seatC z q s).put q 0 s.w_0
def seatW (z : SSt) (q : Nat) (s : SeD) : SSt := (seatP z q s).put q 1 s.w_1
def seatR (z : SSt) (q : Nat) (s : SeD) : SSt := (seatW z q s).op (readyOp 1 s.p) q
def seatX (z : SSt) (q : Nat) (s : SeD) : SSt := (seatR z q s).op (doomOp 1 8) q
def seatA (z : SSt) (q : Nat) (s : SeD) : SSt := if s.lv then (if s.dm then seatX z q s else seatR z q s) else seatW z q s
def seatsZ (z : SSt) (f : Nat → SeD) : Nat → SSt
  | 0 => z
  | j + 1 => seatA (seatsZ z f j) (j + 1) (f j)
section
variable {z : SSt} {c : Cfg} {n : Nat}
theorem seatC_ok (h : z.ok c n) (q : Nat) (s : SeD) : (seatC z q s).ok c (n + 1) := h.op _ _ (claim_keeps h.hd _ _)
theorem seatP_ok (h : z.ok c n) (q : Nat) (s : SeD) : (seatP z q s).ok c (n + 2) := (seatC_ok h q s).put _ _ _
theorem seatW_ok (h : z.ok c n) (q : Nat) (s : SeD) : (seatW z q s).ok c (n + 3) := (seatP_ok h q s).put _ _ _
theorem seatR_ok (h : z.ok c n) (q : Nat) (s : SeD) : (seatR z q s).ok c (n + 4) := let g := seatW_ok h q s; g.op _ _ (ready_keeps g.hd _ _ _)
theorem seatX_ok (h : z.ok c n) (q : Nat) (s : SeD) : (seatX z q s).ok c (n + 5) := let g := seatR_ok h q s; g.op _ _ (doom_keeps g.hd _ _ _)
theorem seatA_ok (h : z.ok c n) (q : Nat) (s : SeD) : (seatA z q s).ok c (n + 5) := by
  unfold seatA
  split
  · split
    · exact seatX_ok h q s
    · exact (seatR_ok h q s).more (by omega)
  · exact (seatW_ok h q s).more (by omega)
theorem seatsZ_ok (h : z.ok c n) (f : Nat → SeD) (j : Nat) : (seatsZ z f j).ok c (n + 5 * j) := by
  induction j with
  | zero => exact h
  | succ j ih => exact seatA_ok ih _ _
theorem seatA_ws (z : SSt) (q : Nat) (s : SeD) : (seatA z q s).ws = (seatW z q s).ws := by
  unfold seatA
  split
  · split <;> rfl
  · rfl
theorem seatsZ_wok (h : WsOk z.ws) (f : Nat → SeD) (j : Nat) (hf : ∀ i, i < j → (f i).w_0 < 18446744073709551616 ∧ (f i).w_1 < 18446744073709551616) : WsOk (seatsZ z f j).ws := by
  induction j with
  | zero => exact h
  | succ j ih =>
    show WsOk (seatA _ _ _).ws
    rw [seatA_ws]
    exact ((ih (fun i hi => hf i (by omega))).put _ _ _ (hf j (by omega)).1).put _ _ _ (hf j (by omega)).2
/-- The gate and the cells are as they were. -/
theorem seatA_rest (z : SSt) (q : Nat) (s : SeD) : (seatA z q s).x = z.x ∧ (seatA z q s).xs = z.xs := by
  unfold seatA
  split
  · split <;> exact ⟨rfl, rfl⟩
  · exact ⟨rfl, rfl⟩
theorem seatsZ_rest (z : SSt) (f : Nat → SeD) (j : Nat) : (seatsZ z f j).x = z.x ∧ (seatsZ z f j).xs = z.xs := by
  induction j with
  | zero => exact ⟨rfl, rfl⟩
  | succ j ih => exact ⟨(seatA_rest _ _ _).1.trans ih.1, (seatA_rest _ _ _).2.trans ih.2⟩
end
theorem now_op {p : HOp} {hs : List Hd} {s1 s2 : Int} (h : s1 ≠ s2) (h1 : 0 ≤ s1) (h2 : 0 ≤ s2) : nowAt (p.H hs s1) s2 = nowAt hs s2 := by
  unfold HOp.H
  split
  · split
    · rfl
    · split
      · unfold nowAt headAt
        rw [if_pos h2, if_pos h2, List.getElem?_set_ne (by omega)]
      · rfl
  · rfl
/-- Slot 0 is as it was. -/
theorem seatA_own (z : SSt) {q : Nat} (hq : 0 < q) (s : SeD) : nowAt (seatA z q s).hs 0 = nowAt z.hs 0 := by
  have e : ∀ (p : HOp) (hs : List Hd), nowAt (p.H hs (q : Int)) 0 = nowAt hs 0 := fun p hs => now_op (by omega) (by omega) (by omega)
  unfold seatA
  split
  · split
    · simp only [seatX, seatR, seatW, seatP, seatC, SSt.op, SSt.put, e]
    · simp only [seatR, seatW, seatP, seatC, SSt.op, SSt.put, e]
  · simp only [seatW, seatP, seatC, SSt.op, SSt.put, e]
theorem seatsZ_own (z : SSt) (f : Nat → SeD) (j : Nat) : nowAt (seatsZ z f j).hs 0 = nowAt z.hs 0 := by
  induction j with
  | zero => rfl
  | succ j ih => exact (seatA_own _ (by omega) _).trans ih
theorem SeD.p_eq (s : SeD) : bits .and .i64 s.sp 1023 = (s.pn : Int) ∧ s.pn < 1024 := by rw [and1023]; unfold SeD.pn; omega

set_option maxRecDepth 100000 in
set_option maxHeartbeats 4000000 in
theorem seats_st {o w : World} {its : List It} {A : Ad} {c : Cfg} {z : SSt} {v u : Value} (h : St o its w) (i : Nat) (hi : its[i]? = some (spI A c z v u)) {n : Nat} (ok : z.ok c n) (hn : n + 45 ≤ 4611686018427) (h8 : c.sl = 8) {a : Option Addr} {len cap : Nat} {f : Nat → SeD} (hf : ∀ z' v' W, St o (its.set i (spI A c z' v' u)) W → SesAt W a len f) :
    Calls Tryz.prog 26 #[spp A, .slice a len cap] w fun e w' => e = .returned (.tuple #[]) ∧ ∃ v', St o (its.set i (spI A c (seatsZ z f (min len 7)) v' u)) w' := by
  have ht := spSlots h i hi
  unfold spp at *
  have h0 : St o (its.set i (spI A c (seatsZ z f 0) v u)) w := by
    show St o (its.set i (spI A c z v u)) w
    rw [set_back hi]; exact h
  clear h
  have HI : Hid (∀ X : It, (its.set i X)[i]? = some X) := fun X => set_self hi
  have HSS : Hid (∀ X Y : It, (its.set i X).set i Y = its.set i Y) := fun X Y => set_same
  have HO : Hid (∀ j, (seatsZ z f j).ok c (n + 5 * j)) := seatsZ_ok ok f
  have HF : Hid (∀ z' v' W, St o (its.set i (spI A c z' v' u)) W → SesAt W a len f) := hf
  clear hf hi ok
  go_enter Tryz.func26, Tryz.ntmps26
  go_wp2_with (go_at_call 42; refine ht.mono ?_; rintro e wq ⟨rfl, rfl⟩)
  clear ht
  go_loopw [5] (fun x wr => ∃ j v, x = .int .i64 (j : Nat) ∧ j ≤ min len 7 ∧ St o (its.set i (spI A c (seatsZ z f j) v u)) wr) (fun x _ => 8 - (intOf x).toNat)
  case atStart => exact ⟨0, v, rfl, Nat.zero_le _, h0⟩
  case round =>
    clear h0
    obtain ⟨j, v, rfl, hj, hS⟩ := hrel
    have hok := HO.out j
    have hl := spLen hS i (HI.out _)
    have hl8 : ((seatsZ z f j).hs.length : Int) = 8 := by rw [hok.hl, h8]
    rw [hl8] at hl
    clear hl8
    have hj0 : (0 : Int) ≤ (j : Int) := by omega
    by_cases h1 : j < len
    · have h1' : (j : Int) < (len : Int) := by omega
      by_cases h2 : j < 7
      · have h2' : (j : Int) + 1 < 8 := by omega
        have hj7 : (j : Int) < 7 := by omega
        obtain ⟨b, off, rfl⟩ : ∃ b off, a = some ⟨b, off, none⟩ := by
          rcases HF.out _ _ _ hS with h | ⟨b, off, e, h⟩
          · omega
          · exact ⟨b, off, e⟩
        have HA : Hid (∀ z' v' W, St o (its.set i (spI A c z' v' u)) W → SeAt W b (off + j * 5) (f j)) := fun z' v' W hW => by
          rcases HF.out _ _ _ hW with h | ⟨b', off', e, h⟩
          · omega
          · simp only [Option.some.injEq, Addr.mk.injEq, and_true] at e
            obtain ⟨rfl, rfl⟩ := e
            exact h j h1
        have HP1 : Hid (bits .and .i64 (f j).sp 1023 = ((f j).pn : Int) ∧ (f j).pn < 1024) := (f j).p_eq
        have HZ : Hid (seatsZ z f (j + 1) = seatA (seatsZ z f j) (j + 1) (f j)) := rfl
        generalize seatsZ z f j = z1 at *
        generalize f j = sd at *
        obtain ⟨lv, dm, sp, w0, w1⟩ := sd
        have HZ0 : Hid (seatA z1 (j + 1) ⟨lv, dm, sp, w0, w1⟩ = if lv then (if dm then seatX z1 (j + 1) ⟨lv, dm, sp, w0, w1⟩ else seatR z1 (j + 1) ⟨lv, dm, sp, w0, w1⟩) else seatW z1 (j + 1) ⟨lv, dm, sp, w0, w1⟩) := rfl
        have okc : (seatC z1 (j + 1) ⟨lv, dm, sp, w0, w1⟩).ok c _ := seatC_ok hok (j + 1) ⟨lv, dm, sp, w0, w1⟩
        have okp : (seatP z1 (j + 1) ⟨lv, dm, sp, w0, w1⟩).ok c _ := seatP_ok hok (j + 1) ⟨lv, dm, sp, w0, w1⟩
        have okw : (seatW z1 (j + 1) ⟨lv, dm, sp, w0, w1⟩).ok c _ := seatW_ok hok (j + 1) ⟨lv, dm, sp, w0, w1⟩
        have okr : (seatR z1 (j + 1) ⟨lv, dm, sp, w0, w1⟩).ok c _ := seatR_ok hok (j + 1) ⟨lv, dm, sp, w0, w1⟩
        have ecast : ((j + 1 : Nat) : Int) = (j : Int) + 1 := by omega
        have hq := spClaim hS i (HI.out _) hok (by omega) ((j : Int) + 1) (1 + ((j : Int) + 1))
        clear hS
        go_wp2_with (go_at_call 94; refine hl.mono ?_; rintro e wq ⟨rfl, rfl⟩)
        refine hq.mono ?_
        rintro e x0 ⟨rfl, y0, s0⟩
        rw [HSS.out] at s0
        have s0' : St o (its.set i (spI A c (seatC z1 (j + 1) ⟨lv, dm, sp, w0, w1⟩) y0 u)) x0 := by unfold seatC; rw [ecast]; exact s0
        clear hq hl s0
        have c3 := (HA.out _ _ _ s0').c3
        try simp only at c3
        have hq := spPut s0' i (HI.out _) okc (by omega) ((j : Int) + 1) 0 w0
        clear s0'
        go_wp2_with fail
        refine hq.mono ?_
        rintro e x1 ⟨rfl, y1, s1⟩
        rw [HSS.out] at s1
        have s1' : St o (its.set i (spI A c (seatP z1 (j + 1) ⟨lv, dm, sp, w0, w1⟩) y1 u)) x1 := by unfold seatP; rw [ecast]; exact s1
        clear hq c3 s1
        have c4 := (HA.out _ _ _ s1').c4
        try simp only at c4
        have hq := spPut s1' i (HI.out _) okp (by omega) ((j : Int) + 1) 1 w1
        clear s1'
        go_wp2_with fail
        refine hq.mono ?_
        rintro e x2 ⟨rfl, y2, s2⟩
        rw [HSS.out] at s2
        have s2' : St o (its.set i (spI A c (seatW z1 (j + 1) ⟨lv, dm, sp, w0, w1⟩) y2 u)) x2 := by unfold seatW; rw [ecast]; exact s2
        clear hq c4 s2
        have hA := HA.out _ _ _ s2'
        have c0 := hA.c0
        have c1 := hA.c1
        have c2 := hA.c2
        try simp only at c0 c1 c2
        clear hA
        cases lv with
        | false =>
          as_aux_lemma =>
            rw [HZ0.out] at HZ
            simp only [Bool.false_eq_true, if_false] at HZ
            clear HZ0
            have HE : Hid _ := s2'
            clear s2' HA
            go_wp2_with fail
            go_roundw
            case rel => exact ⟨j + 1, _, by go_num, by omega, by rw [HZ.out]; exact HE.out⟩
            case measure => simp [intOf]; omega
        | true =>
          have hq : Calls _ _ #[_, _, _, .int .i64 (1 + ((SeD.pn ⟨true, dm, sp, w0, w1⟩ : Nat) : Int))] _ _ := spReady s2' i (HI.out _) okw (by omega) ((j : Int) + 1) 1 (SeD.p ⟨true, dm, sp, w0, w1⟩)
          obtain ⟨hp1, hp2⟩ := HP1.out
          replace hp1 : bits .and .i64 sp 1023 = ((SeD.pn ⟨true, dm, sp, w0, w1⟩ : Nat) : Int) := hp1
          have hp3 : (0 : Int) ≤ ((SeD.pn ⟨true, dm, sp, w0, w1⟩ : Nat) : Int) := Int.natCast_nonneg _
          have hp4 : ((SeD.pn ⟨true, dm, sp, w0, w1⟩ : Nat) : Int) < 1024 := by have : SeD.pn ⟨true, dm, sp, w0, w1⟩ < 1024 := hp2; omega
          clear hp2
          generalize SeD.pn ⟨true, dm, sp, w0, w1⟩ = qq at *
          clear s2'
          go_wp2_with (simp only [hp1])
          refine hq.mono ?_
          rintro e x3 ⟨rfl, y3, s3⟩
          rw [HSS.out] at s3
          have s3' : St o (its.set i (spI A c (seatR z1 (j + 1) ⟨true, dm, sp, w0, w1⟩) y3 u)) x3 := by unfold seatR; rw [ecast]; exact s3
          clear hq hp1 hp3 hp4 s3 c0 c1 c2
          have hA := HA.out _ _ _ s3'
          have c0 := hA.c0
          have c1 := hA.c1
          try simp only at c0 c1
          clear hA
          cases dm with
          | false =>
            as_aux_lemma =>
              rw [HZ0.out] at HZ
              simp only [Bool.false_eq_true, if_false, if_true] at HZ
              clear HZ0
              have HE : Hid _ := s3'
              clear s3' HA
              go_wp2_with fail
              go_roundw
              case rel => exact ⟨j + 1, _, by go_num, by omega, by rw [HZ.out]; exact HE.out⟩
              case measure => simp [intOf]; omega
          | true =>
            as_aux_lemma =>
              rw [HZ0.out] at HZ
              simp only [if_true] at HZ
              clear HZ0
              have hq := spDoom s3' i (HI.out _) okr (by omega) ((j : Int) + 1) 1 8
              clear s3' HA
              go_wp2_with fail
              refine hq.mono ?_
              rintro e x5 ⟨rfl, y5, s5⟩
              rw [HSS.out] at s5
              have HE : Hid (St o (its.set i (spI A c (seatX z1 (j + 1) ⟨true, true, sp, w0, w1⟩) y5 u)) x5) := by show St _ _ _; unfold seatX; rw [ecast]; exact s5
              clear hq s5
              go_wp2
              go_roundw
              case rel => exact ⟨j + 1, _, by go_num, by omega, by rw [HZ.out]; exact HE.out⟩
              case measure => simp [intOf]; omega
      · have h2' : ¬ (j : Int) + 1 < 8 := by omega
        obtain rfl : j = 7 := by omega
        have HE : Hid (St o (its.set i (spI A c (seatsZ z f (min len 7)) v u)) wr) := by
          show St _ _ _
          rw [show min len 7 = 7 by omega]
          exact hS
        clear hS
        go_wp2_with (go_at_call 94; refine hl.mono ?_; rintro e wq ⟨rfl, rfl⟩)
        go_end0
        exact ⟨rfl, _, HE.out⟩
    · have h1' : ¬ (j : Int) < (len : Int) := by omega
      obtain rfl : j = len := by omega
      have HE : Hid (St o (its.set i (spI A c (seatsZ z f (min j 7)) v u)) wr) := by
        show St _ _ _
        rw [show min j 7 = j by omega]
        exact hS
      clear hS hl
      go_wp2
      go_end0
      exact ⟨rfl, _, HE.out⟩
end Go.Proofs.YtgjmamgohidbiaaGreat
