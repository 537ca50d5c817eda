/- Seats: what is laid into the slots ahead of a look. -/
import Derived.Test.YtpojkkdmlpjfeaaUp
import Derived.Test.YtpojkkdmlpjfeaaOps
import Derived.Test.YtpojkkdmlpjfeaaLists
namespace Go.Proofs.Ytpojkkdmlpjfeaa
open Go.RowKit
set_option linter.unusedVariables false
set_option linter.unusedSimpArgs false
attribute [local go_sem ↓] Go.wp_at_zero Go.wp_at_succ

def SeD.k (s : SeD) : Nat := (s.st % 4).toNat
def SeD.tn (s : SeD) : Nat := (s.th % 8).toNat
def SeD.pn (s : SeD) : Nat := (s.sp % 1024).toNat
def SeD.t (s : SeD) : Int := 1 + (s.tn : Int)
def SeD.p (s : SeD) : Int := 1 + (s.pn : Int)
def seatW (z : SSt) (j : Int) (s : SeD) : SSt := (z.put j 0 s.w_0).put j 1 s.w_1
def seat1 (z : SSt) (j : Int) (s : SeD) : SSt := (seatW z j s).op (claimOp s.t) j
def seat2 (z : SSt) (j : Int) (s : SeD) : SSt := (seat1 z j s).op (readyOp 1 s.p) j
def seat3 (z : SSt) (j : Int) (s : SeD) : SSt := (seat2 z j s).op (doomOp 1 8) j
def seatA (z : SSt) (j : Int) (s : SeD) : SSt := if s.k = 0 then seatW z j s else if s.k = 1 then seat1 z j s else if s.k = 2 then seat2 z j s else seat3 z j s
def seatsZ (z : SSt) (f : Nat → SeD) : Nat → SSt
  | 0 => z
  | j + 1 => seatA (seatsZ z f j) j (f j)
section
variable {z : SSt} {c : Cfg} {n : Nat}
theorem seatW_ok (h : z.ok c n) (j : Int) (s : SeD) : (seatW z j s).ok c (n + 2) := (h.put _ _ _).put _ _ _
theorem seat1_ok (h : z.ok c n) (j : Int) (s : SeD) : (seat1 z j s).ok c (n + 3) := let g := seatW_ok h j s; g.op _ _ (claim_keeps g.hd _ _)
theorem seat2_ok (h : z.ok c n) (j : Int) (s : SeD) : (seat2 z j s).ok c (n + 4) := let g := seat1_ok h j s; g.op _ _ (ready_keeps g.hd _ _ _)
theorem seat3_ok (h : z.ok c n) (j : Int) (s : SeD) : (seat3 z j s).ok c (n + 5) := let g := seat2_ok h j s; g.op _ _ (doom_keeps g.hd _ _ _)
theorem seatA_ok (h : z.ok c n) (j : Int) (s : SeD) : (seatA z j s).ok c (n + 5) := by
  unfold seatA
  split
  · exact (seatW_ok h j s).more (by omega)
  · split
    · exact (seat1_ok h j s).more (by omega)
    · split
      · exact (seat2_ok h j s).more (by omega)
      · exact seat3_ok h j s
theorem seatsZ_ok (h : z.ok c n) (f : Nat → SeD) (j : Nat) : (seatsZ z f j).ok c (n + 5 * j) := by
  induction j with
  | zero => exact h
  | succ j ih => exact seatA_ok ih _ _
theorem seatA_ws (z : SSt) (j : Int) (s : SeD) : (seatA z j s).ws = (seatW z j s).ws := by
  unfold seatA
  split
  · rfl
  · split
    · rfl
    · split <;> rfl
theorem seatA_wok (h : WsOk z.ws) (j : Int) (s : SeD) (h0 : s.w_0 < 18446744073709551616) (h1 : s.w_1 < 18446744073709551616) : WsOk (seatA z j s).ws := by
  rw [seatA_ws]
  exact (h.put _ _ _ h0).put _ _ _ h1
theorem seatsZ_wok (h : WsOk z.ws) (f : Nat → SeD) (j : Nat) (hf : ∀ i, i < j → (f i).w_0 < 18446744073709551616 ∧ (f i).w_1 < 18446744073709551616) : WsOk (seatsZ z f j).ws := by
  induction j with
  | zero => exact h
  | succ j ih => exact seatA_wok (ih (fun i hi => hf i (by omega))) _ _ (hf j (by omega)).1 (hf j (by omega)).2
end
theorem SeD.k_lt (s : SeD) : s.k < 4 := by unfold SeD.k; omega
theorem SeD.k_eq (s : SeD) : bits .and .i64 s.st 3 = (s.k : Nat) := by rw [and3]; unfold SeD.k; omega
theorem SeD.t_eq (s : SeD) : bits .and .i64 s.th 7 = (s.tn : Int) ∧ s.tn < 8 := by rw [and7]; unfold SeD.tn; omega
theorem SeD.p_eq (s : SeD) : bits .and .i64 s.sp 1023 = (s.pn : Int) ∧ s.pn < 1024 := by rw [and1023]; unfold SeD.pn; omega

set_option maxRecDepth 100000 in
set_option maxHeartbeats 4000000 in
theorem seats_st {o w : World} {its : List It} {A : Ad} {c : Cfg} {z : SSt} {v u : Value} (h : St o its w) (i : Nat) (hi : its[i]? = some (spI A c z v u)) {n : Nat} (ok : z.ok c n) (hn : n + 45 ≤ 4611686018427) (h8 : c.sl = 8) {a : Option Addr} {len cap : Nat} {f : Nat → SeD} (hf : SesAt o a len f) :
    Calls Try.prog 8 #[spp A, .slice a len cap] w fun e w' => e = .returned (.tuple #[]) ∧ ∃ v', St o (its.set i (spI A c (seatsZ z f (min len 8)) v' u)) w' := by
  have ht := spSlots h i hi
  unfold spp at *
  have h0 : St o (its.set i (spI A c (seatsZ z f 0) v u)) w := by
    show St o (its.set i (spI A c z v u)) w
    rw [set_back hi]; exact h
  clear h
  have HI : Hid (∀ X : It, (its.set i X)[i]? = some X) := fun X => set_self hi
  have HSS : Hid (∀ X Y : It, (its.set i X).set i Y = its.set i Y) := fun X Y => set_same
  have HO : Hid (∀ j, (seatsZ z f j).ok c (n + 5 * j)) := seatsZ_ok ok f
  have HF : Hid (SesAt o a len f) := hf
  clear hf hi ok
  go_enter Try.func8, Try.ntmps8
  go_wp2_with (go_at_call 19; refine ht.mono ?_; rintro e wq ⟨rfl, rfl⟩)
  clear ht
  go_loopw [5] (fun x wr => ∃ j v, x = .int .i64 (j : Nat) ∧ j ≤ min len 8 ∧ St o (its.set i (spI A c (seatsZ z f j) v u)) wr) (fun x _ => 8 - (intOf x).toNat)
  case atStart => exact ⟨0, v, rfl, Nat.zero_le _, h0⟩
  case round =>
    clear h0
    obtain ⟨j, v, rfl, hj, hS⟩ := hrel
    have hok := HO.out j
    have hl := spLen hS i (HI.out _)
    have hl8 : ((seatsZ z f j).hs.length : Int) = 8 := by rw [hok.hl, h8]
    rw [hl8] at hl
    clear hl8
    have hj0 : (0 : Int) ≤ (j : Int) := by omega
    by_cases h1 : j < len
    · have h1' : (j : Int) < (len : Int) := by omega
      by_cases h2 : j < 8
      · have h2' : (j : Int) < 8 := by omega
        obtain ⟨b, off, rfl, hat⟩ : ∃ b off, a = some ⟨b, off, none⟩ ∧ ∀ i, i < len → SeAt o b (off + i * 5) (f i) := by
          rcases HF.out with h | h
          · omega
          · exact h
        have hA := (hat j h1).kept hS.same
        have HA : Hid (∀ W, Kept (fun _ => False) o W → SeAt W b (off + j * 5) (f j)) := fun W kk => (hat j h1).kept kk
        clear hat
        have hk4 := (f j).k_lt
        have HT1 : Hid (bits .and .i64 (f j).th 7 = ((f j).tn : Int) ∧ (f j).tn < 8) := (f j).t_eq
        have HP1 : Hid (bits .and .i64 (f j).sp 1023 = ((f j).pn : Int) ∧ (f j).pn < 1024) := (f j).p_eq
        have HK1 : Hid (bits .and .i64 (f j).st 3 = ((f j).k : Nat)) := (f j).k_eq
        have HZ : Hid (seatsZ z f (j + 1) = seatA (seatsZ z f j) j (f j)) := rfl
        generalize seatsZ z f j = z1 at *
        generalize f j = sd at *
        obtain ⟨st, sp, th, w0, w1⟩ := sd
        have HZ0 : Hid (seatA z1 j ⟨st, sp, th, w0, w1⟩ = if SeD.k ⟨st, sp, th, w0, w1⟩ = 0 then seatW z1 j ⟨st, sp, th, w0, w1⟩ else if SeD.k ⟨st, sp, th, w0, w1⟩ = 1 then seat1 z1 j ⟨st, sp, th, w0, w1⟩ else if SeD.k ⟨st, sp, th, w0, w1⟩ = 2 then seat2 z1 j ⟨st, sp, th, w0, w1⟩ else seat3 z1 j ⟨st, sp, th, w0, w1⟩) := rfl
        have ok1 := hok.put (j : Int) 0 w0
        have okw : (seatW z1 j ⟨st, sp, th, w0, w1⟩).ok c _ := seatW_ok hok j ⟨st, sp, th, w0, w1⟩
        have okc : (seat1 z1 j ⟨st, sp, th, w0, w1⟩).ok c _ := seat1_ok hok j ⟨st, sp, th, w0, w1⟩
        have okr : (seat2 z1 j ⟨st, sp, th, w0, w1⟩).ok c _ := seat2_ok hok j ⟨st, sp, th, w0, w1⟩
        generalize SeD.k ⟨st, sp, th, w0, w1⟩ = k at *
        have c3 := hA.c3
        try simp only at c3
        have hq := spPut hS i (HI.out _) hok (by omega) j 0 w0
        clear hS hA
        go_wp2_with (go_at_call 29; refine hl.mono ?_; rintro e wq ⟨rfl, rfl⟩)
        refine hq.mono ?_
        rintro e x1 ⟨rfl, y1, s1⟩
        rw [HSS.out] at s1
        clear hq hl c3
        have c4 := (HA.out _ s1.same).c4
        try simp only at c4
        have hq := spPut s1 i (HI.out _) ok1 (by omega) j 1 w1
        clear s1
        go_wp2_with fail
        refine hq.mono ?_
        rintro e x2 ⟨rfl, y2, s2⟩
        rw [HSS.out] at s2
        clear hq c4
        have s2' : St o (its.set i (spI A c (seatW z1 j ⟨st, sp, th, w0, w1⟩) y2 u)) x2 := s2
        clear s2
        have hA := HA.out _ s2'.same
        have c0 := hA.c0
        have c1 := hA.c1
        have c2 := hA.c2
        try simp only at c0 c1 c2
        clear hA
        rcases (show k = 0 ∨ k = 1 ∨ k = 2 ∨ k = 3 by omega) with rfl | rfl | rfl | rfl
        · as_aux_lemma =>
            rw [HZ0.out] at HZ
            simp only [if_true] at HZ
            clear HZ0
            have hk : bits .and .i64 st 3 = 0 := HK1.out
            have HE : Hid _ := s2'
            clear s2'
            clear HA
            go_wp2_with (simp only [hk])
            go_roundw
            case rel => exact ⟨j + 1, _, by go_num, by omega, by rw [HZ.out]; exact HE.out⟩
            case measure => simp [intOf]; omega
        · as_aux_lemma =>
            rw [HZ0.out] at HZ
            simp only [Nat.one_ne_zero, if_false, if_true] at HZ
            clear HZ0
            have hk : bits .and .i64 st 3 = 1 := HK1.out
            have hq : Calls _ _ #[_, _, .int .i64 (1 + ((SeD.tn ⟨st, sp, th, w0, w1⟩ : Nat) : Int))] _ _ := spClaim s2' i (HI.out _) okw (by omega) j (SeD.t ⟨st, sp, th, w0, w1⟩)
            obtain ⟨ht1, ht2⟩ := HT1.out
            replace ht1 : bits .and .i64 th 7 = ((SeD.tn ⟨st, sp, th, w0, w1⟩ : Nat) : Int) := ht1
            have HT2 : Hid (SeD.t ⟨st, sp, th, w0, w1⟩ = 1 + ((SeD.tn ⟨st, sp, th, w0, w1⟩ : Nat) : Int)) := rfl
            have ht3 : (0 : Int) ≤ ((SeD.tn ⟨st, sp, th, w0, w1⟩ : Nat) : Int) := Int.natCast_nonneg _
            have ht4 : ((SeD.tn ⟨st, sp, th, w0, w1⟩ : Nat) : Int) < 8 := by have : SeD.tn ⟨st, sp, th, w0, w1⟩ < 8 := ht2; omega
            clear ht2
            generalize SeD.tn ⟨st, sp, th, w0, w1⟩ = q at *
            clear s2'
            go_wp2_with (simp only [hk, ht1])
            refine hq.mono ?_
            rintro e x3 ⟨rfl, y3, s3⟩
            rw [HSS.out] at s3
            clear hq ht1 ht3 ht4
            have s3' : St o (its.set i (spI A c (seat1 z1 j ⟨st, sp, th, w0, w1⟩) y3 u)) x3 := s3
            clear s3
            have HE : Hid _ := s3'
            clear s3' c0 c1 c2
            clear HA
            go_wp2
            go_roundw
            case rel => exact ⟨j + 1, _, by go_num, by omega, by rw [HZ.out]; exact HE.out⟩
            case measure => simp [intOf]; omega
        · as_aux_lemma =>
            rw [HZ0.out] at HZ
            simp only [show ¬ (2 : Nat) = 0 by decide, show ¬ (2 : Nat) = 1 by decide, if_false, if_true] at HZ
            clear HZ0
            have hk : bits .and .i64 st 3 = 2 := HK1.out
            have hq : Calls _ _ #[_, _, .int .i64 (1 + ((SeD.tn ⟨st, sp, th, w0, w1⟩ : Nat) : Int))] _ _ := spClaim s2' i (HI.out _) okw (by omega) j (SeD.t ⟨st, sp, th, w0, w1⟩)
            obtain ⟨ht1, ht2⟩ := HT1.out
            replace ht1 : bits .and .i64 th 7 = ((SeD.tn ⟨st, sp, th, w0, w1⟩ : Nat) : Int) := ht1
            have HT2 : Hid (SeD.t ⟨st, sp, th, w0, w1⟩ = 1 + ((SeD.tn ⟨st, sp, th, w0, w1⟩ : Nat) : Int)) := rfl
            have ht3 : (0 : Int) ≤ ((SeD.tn ⟨st, sp, th, w0, w1⟩ : Nat) : Int) := Int.natCast_nonneg _
            have ht4 : ((SeD.tn ⟨st, sp, th, w0, w1⟩ : Nat) : Int) < 8 := by have : SeD.tn ⟨st, sp, th, w0, w1⟩ < 8 := ht2; omega
            clear ht2
            generalize SeD.tn ⟨st, sp, th, w0, w1⟩ = q at *
            clear s2'
            go_wp2_with (simp only [hk, ht1])
            refine hq.mono ?_
            rintro e x3 ⟨rfl, y3, s3⟩
            rw [HSS.out] at s3
            clear hq ht1 ht3 ht4
            have s3' : St o (its.set i (spI A c (seat1 z1 j ⟨st, sp, th, w0, w1⟩) y3 u)) x3 := s3
            clear s3
            have d1 := (HA.out _ s3'.same).c1
            try simp only at d1
            clear c0 c1 c2
            have hq : Calls _ _ #[_, _, _, .int .i64 (1 + ((SeD.pn ⟨st, sp, th, w0, w1⟩ : Nat) : Int))] _ _ := spReady s3' i (HI.out _) okc (by omega) j 1 (SeD.p ⟨st, sp, th, w0, w1⟩)
            obtain ⟨hp1, hp2⟩ := HP1.out
            replace hp1 : bits .and .i64 sp 1023 = ((SeD.pn ⟨st, sp, th, w0, w1⟩ : Nat) : Int) := hp1
            have hp3 : (0 : Int) ≤ ((SeD.pn ⟨st, sp, th, w0, w1⟩ : Nat) : Int) := Int.natCast_nonneg _
            have hp4 : ((SeD.pn ⟨st, sp, th, w0, w1⟩ : Nat) : Int) < 1024 := by have : SeD.pn ⟨st, sp, th, w0, w1⟩ < 1024 := hp2; omega
            clear hp2
            generalize SeD.pn ⟨st, sp, th, w0, w1⟩ = qq at *
            clear s3'
            go_wp2_with (simp only [hp1])
            refine hq.mono ?_
            rintro e x4 ⟨rfl, y4, s4⟩
            rw [HSS.out] at s4
            clear hq d1 hp1 hp3 hp4
            have s4' : St o (its.set i (spI A c (seat2 z1 j ⟨st, sp, th, w0, w1⟩) y4 u)) x4 := s4
            clear s4
            have HE : Hid _ := s4'
            clear s4'
            clear HA
            go_wp2
            go_roundw
            case rel => exact ⟨j + 1, _, by go_num, by omega, by rw [HZ.out]; exact HE.out⟩
            case measure => simp [intOf]; omega
        · as_aux_lemma =>
            rw [HZ0.out] at HZ
            simp only [show ¬ (3 : Nat) = 0 by decide, show ¬ (3 : Nat) = 1 by decide, show ¬ (3 : Nat) = 2 by decide, if_false] at HZ
            clear HZ0
            have hk : bits .and .i64 st 3 = 3 := HK1.out
            have hq : Calls _ _ #[_, _, .int .i64 (1 + ((SeD.tn ⟨st, sp, th, w0, w1⟩ : Nat) : Int))] _ _ := spClaim s2' i (HI.out _) okw (by omega) j (SeD.t ⟨st, sp, th, w0, w1⟩)
            obtain ⟨ht1, ht2⟩ := HT1.out
            replace ht1 : bits .and .i64 th 7 = ((SeD.tn ⟨st, sp, th, w0, w1⟩ : Nat) : Int) := ht1
            have HT2 : Hid (SeD.t ⟨st, sp, th, w0, w1⟩ = 1 + ((SeD.tn ⟨st, sp, th, w0, w1⟩ : Nat) : Int)) := rfl
            have ht3 : (0 : Int) ≤ ((SeD.tn ⟨st, sp, th, w0, w1⟩ : Nat) : Int) := Int.natCast_nonneg _
            have ht4 : ((SeD.tn ⟨st, sp, th, w0, w1⟩ : Nat) : Int) < 8 := by have : SeD.tn ⟨st, sp, th, w0, w1⟩ < 8 := ht2; omega
            clear ht2
            generalize SeD.tn ⟨st, sp, th, w0, w1⟩ = q at *
            clear s2'
            go_wp2_with (simp only [hk, ht1])
            refine hq.mono ?_
            rintro e x3 ⟨rfl, y3, s3⟩
            rw [HSS.out] at s3
            clear hq ht1 ht3 ht4
            have s3' : St o (its.set i (spI A c (seat1 z1 j ⟨st, sp, th, w0, w1⟩) y3 u)) x3 := s3
            clear s3
            have d1 := (HA.out _ s3'.same).c1
            try simp only at d1
            clear c0 c1 c2
            have hq : Calls _ _ #[_, _, _, .int .i64 (1 + ((SeD.pn ⟨st, sp, th, w0, w1⟩ : Nat) : Int))] _ _ := spReady s3' i (HI.out _) okc (by omega) j 1 (SeD.p ⟨st, sp, th, w0, w1⟩)
            obtain ⟨hp1, hp2⟩ := HP1.out
            replace hp1 : bits .and .i64 sp 1023 = ((SeD.pn ⟨st, sp, th, w0, w1⟩ : Nat) : Int) := hp1
            have hp3 : (0 : Int) ≤ ((SeD.pn ⟨st, sp, th, w0, w1⟩ : Nat) : Int) := Int.natCast_nonneg _
            have hp4 : ((SeD.pn ⟨st, sp, th, w0, w1⟩ : Nat) : Int) < 1024 := by have : SeD.pn ⟨st, sp, th, w0, w1⟩ < 1024 := hp2; omega
            clear hp2
            generalize SeD.pn ⟨st, sp, th, w0, w1⟩ = qq at *
            clear s3'
            go_wp2_with (simp only [hp1])
            refine hq.mono ?_
            rintro e x4 ⟨rfl, y4, s4⟩
            rw [HSS.out] at s4
            clear hq d1 hp1 hp3 hp4
            have s4' : St o (its.set i (spI A c (seat2 z1 j ⟨st, sp, th, w0, w1⟩) y4 u)) x4 := s4
            clear s4
            have hq := spDoom s4' i (HI.out _) okr (by omega) j 1 8
            clear s4'
            go_wp2_with fail
            refine hq.mono ?_
            rintro e x5 ⟨rfl, y5, s5⟩
            rw [HSS.out] at s5
            clear hq
            have HE : Hid (St o (its.set i (spI A c (seat3 z1 j ⟨st, sp, th, w0, w1⟩) y5 u)) x5) := s5
            clear s5
            clear HA
            go_wp2
            go_roundw
            case rel => exact ⟨j + 1, _, by go_num, by omega, by rw [HZ.out]; exact HE.out⟩
            case measure => simp [intOf]; omega
      · have h2' : ¬ (j : Int) < 8 := by omega
        obtain rfl : j = 8 := by omega
        have HE : Hid (St o (its.set i (spI A c (seatsZ z f (min len 8)) v u)) wr) := by
          show St _ _ _
          rw [show min len 8 = 8 by omega]
          exact hS
        clear hS
        go_wp2_with (go_at_call 29; refine hl.mono ?_; rintro e wq ⟨rfl, rfl⟩)
        go_end0
        exact ⟨rfl, _, HE.out⟩
    · have h1' : ¬ (j : Int) < (len : Int) := by omega
      obtain rfl : j = len := by omega
      have HE : Hid (St o (its.set i (spI A c (seatsZ z f (min j 8)) v u)) wr) := by
        show St _ _ _
        rw [show min j 8 = j by omega]
        exact hS
      clear hS hl
      go_wp2
      go_end0
      exact ⟨rfl, _, HE.out⟩
end Go.Proofs.Ytpojkkdmlpjfeaa
