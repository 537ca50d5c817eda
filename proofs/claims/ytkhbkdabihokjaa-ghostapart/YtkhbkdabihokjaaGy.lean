/- The law GhostApart, walked. -/
import Derived.Test.YtkhbkdabihokjaaGw
import Derived.Test.YtkhbkdabihokjaaGt
import Derived.Test.YtkhbkdabihokjaaGx
namespace Go.Proofs.Ytkhbkdabihokjaa
open Go.RowKit Go.Shelf
set_option linter.unusedVariables false
set_option linter.unusedSimpArgs false
attribute [local go_sem ↓] Go.wp_at_zero Go.wp_at_succ

theorem outS_half (l : List Ev) : 2 * (outS l).length ≤ l.length + 8 := by
  unfold outS
  cases h : (outR l).2 with
  | some j => simp
  | none =>
    have := (runB_grows l Bk.zero 0 0 Bk.ok_zero Bk.live_zero h).2.1
    rw [Nat.zero_add] at this
    change (outR l).1.ok l.length at this
    have h1 := this.many
    have h2 := opens_le (outR l).1.op
    show 2 * (outR l).1.ss.length ≤ _
    omega
theorem outE_zero {l : List Ev} (h : outE l = 0) : (outR l).2 = none := by
  unfold outE at h
  cases h2 : (outR l).2 with
  | none => rfl
  | some j => rw [h2] at h; simp at h
theorem outE_of {l : List Ev} (h : (outR l).2 = none) : outE l = 0 := by unfold outE; rw [h]
theorem outE_two (l : List Ev) : outE l = 0 ∨ outE l = 210 := by
  unfold outE
  cases (outR l).2 with
  | none => exact .inl rfl
  | some j => exact .inr rfl
theorem take_next {α : Type} {l : List α} {j : Nat} {x : α} (h : l[j]? = some x) : l.take (j + 1) = l.take j ++ [x] := by
  rw [List.take_add_one, h]; rfl
theorem sameAll_two {w : World} {la lb : Option Addr} {n m lc ld : Nat} {L M : List Sm} (e : m = n) (h : L.map Sm.s = M.map Sm.s) (hL : RIn sC w la n L) (hM : RIn sC w lb m M) (mL : MsIn w L) (mM : MsIn w M) (hn : (n : Int) ≤ 1759218604398) :
    Calls Try.prog 12 #[.slice la n lc, .slice lb m ld] w fun e w' => e = .returned (.bool true) ∧ Kept (fun _ => False) w w' := by
  subst e
  exact sameAll_eq h hL hM mL mM hn
theorem MsIn.of_filter {w : World} {L : List Sm} (h : MsIn w L) (f : Sm → Bool) : MsIn w (L.filter f) := fun j m hm => by
  have h1 := List.mem_of_getElem? hm
  obtain ⟨i, hi⟩ := List.mem_iff_getElem?.1 (List.mem_filter.1 h1).1
  exact h i m hi
def ofM (t : Int) (m : Sm) : Bool := m.s.th == t
theorem map_filter_s (L : List Sm) (t : Int) : (L.filter (ofM t)).map Sm.s = (L.map Sm.s).filter (ofT t) := by
  rw [List.filter_map]; rfl
theorem ms_of {o w : World} {sv : Value} {L : List Sm} {A B : List It} {l : List Ev} (h : St o (A ++ (stL sv L ++ B)) w) (hL : L.map Sm.s = outS l) (hl : l.length ≤ 2932031007317) : MsIn w L := fun j m hm => by
  refine ⟨mv_rin h hm, ?_⟩
  have := (outS_small l).2 m.s (by rw [← hL]; exact List.mem_map_of_mem (List.mem_of_getElem? hm))
  omega
theorem built_in {o w : World} {sv : Value} {L : List Sm} {A B : List It} (h : St o (A ++ (stL sv L ++ B)) w) : ∃ la lc, sv = .slice la L.length lc ∧ RIn sC w la L.length L := by
  obtain ⟨la, lc, e, h1, _⟩ := r_rin (f := sC) (k := 10) (t := 36) (v := sv) (xs := L) h A.length (by rw [List.getElem?_append_right (by omega)]; simp) sC_len
  exact ⟨la, lc, e, h1⟩
set_option maxRecDepth 100000 in
set_option maxHeartbeats 4000000 in
theorem apart_walk {w : World} (la : Option Addr) (n lc : Nat) (l : List Ev) (t : Int) (hl : RIn eC w la n l) (h3 : n * 80 ≤ 140737488351232) :
    Calls Try.prog 8 #[.slice la n lc, .int .i64 t] w fun e w' => e = .returned (.bool true) ∧ Kept (fun _ => False) w w' := by
  have hU := awake_any w
  have hn1 : (n : Int) ≤ 1759218604390 := by omega
  have HLN := hid hl.1
  have HL := hid hl
  have HB := hid (fun (W : World) (kk : Kept (fun _ => False) w W) => build_any (lc := lc) (hl.kept kk) h3)
  clear hl h3
  go_enter Try.func8, Try.ntmps8
  go_upto_region 2 with (first | (go_at_call 9; refine hU.mono ?_; rintro e wa ⟨rfl, ka⟩))
  have HKW := hid ka
  have hB := HB.out _ ka
  clear hU ka
  go_upto_region 3 with (first | (go_at_call 11; refine hB.mono ?_; rintro e wb ⟨sv, L, rfl, hL, sb⟩; have HSB := hid sb; obtain ⟨sa, sc, rfl, -, hsc, -⟩ := r_rin sb 0 rfl sC_len))
  have HLL := hid hL
  clear hB sb hL HB
  rcases outE_two l with e0 | e0
  case inr =>
    simp only [e0]
    clear e0
    go_wp2
    go_ret
    exact ⟨rfl, HKW.out.trans HSB.out.same (fun _ _ f => f)⟩
  simp only [e0]
  have HM := hid (out_mine l t (outE_zero e0))
  have HQ := hid (out_quiet l (outE_zero e0))
  have HSM := hid (outS_small l)
  have HSH := hid (outS_half l)
  clear e0
  generalize outP l = p1
  have HS0 := hid (r_nil eC 26 10 (r_nil eC 26 10 HSB.out))
  clear HSB
  go_upto_region 8 with fail
  go_loopw [9, 10, 11] (fun v9 v10 i wr => ∃ (j : Nat), i = .int .i64 j ∧ j ≤ n ∧ St wa (lstR eC 26 10 v9 ((l.take j).filter (evT t)) :: lstR eC 26 10 v10 ((l.take j).filter evQ) :: stL (.slice sa L.length sc) L) wr) (fun _ _ i _ => n - (intOf i).toNat)
  case atStart => exact ⟨0, rfl, Nat.zero_le _, HS0.out⟩
  case round =>
    clear HS0
    obtain ⟨j, rfl, hj, hs⟩ := hrel
    by_cases hlt : j < n
    · have hlt' : (j : Int) < (n : Int) := by omega
      have hj0 : (0 : Int) ≤ (j : Int) := by omega
      have HS := hid hs
      obtain ⟨g, off, rfl⟩ := HL.out.addr (by omega)
      obtain ⟨⟨kd, st, th, sp, ce, xx, ow, ga, er, by_⟩, hx⟩ : ∃ x, l[j]? = some x := ⟨_, List.getElem?_eq_getElem (by have := HLN.out; omega)⟩
      have HT := hid (take_next hx)
      have HZ1 : Hid ((((l.take j).filter (evT t)).length + 1) * 80 ≤ 140737488355328) := hid (by
        have h1 := List.length_filter_le (evT t) (l.take j)
        rw [List.length_take] at h1
        omega)
      have HZ2 : Hid ((((l.take j).filter evQ).length + 1) * 80 ≤ 140737488355328) := hid (by
        have h1 := List.length_filter_le evQ (l.take j)
        rw [List.length_take] at h1
        omega)
      have HJ : Hid (j + 1 ≤ n ∧ n - (j + 1) < n - j) := hid ⟨by omega, by omega⟩
      clear hlt hj hs HM HQ HSM HSH HLN HLL
      by_cases e1 : th = t
      · by_cases e2 : kd = 6
        · skip
          have t1 : (th == t) = true := by simp [e1]
          have t2 : (kd == 6) = true := by simp [e2]
          have HE1 := hid e1
          have HE2 := hid e2
          clear e1 e2
          have q := fun i u hu => (HL.out.kept (HKW.out.trans HS.out.same (fun _ _ f => f))).at (k := 10) (fun _ => rfl) hx i u hu
          have q0 := q 0 _ rfl
          have q1 := q 1 _ rfl
          have q2 := q 2 _ rfl
          have q3 := q 3 _ rfl
          have q4 := q 4 _ rfl
          have q5 := q 5 _ rfl
          have q6 := q 6 _ rfl
          have q7 := q 7 _ rfl
          have q8 := q 8 _ rfl
          have q9 := q 9 _ rfl
          rw [Nat.add_zero] at q0
          clear q
          have HBX := hid (r_box (f := eC) (k := 10) (fun _ => rfl) 26 HS.out ⟨kd, st, th, sp, ce, xx, ow, ga, er, by_⟩ #[.int .i64 kd, .int .i64 st, .int .i64 th, .int .i64 sp, .int .i64 ce, .int .i64 xx, .bool ow, .int .i64 ga, .int .i64 er, .int .i64 by_] rfl)
          have HSX := hid (HS.out.calm (kept_alloc wr (.cells #[.int .i64 kd, .int .i64 st, .int .i64 th, .int .i64 sp, .int .i64 ce, .int .i64 xx, .bool ow, .int .i64 ga, .int .i64 er, .int .i64 by_] 26)))
          go_upto_region 12 with (first | (at_builtin; refine wpList_appR Try.rowE HSX.out rfl _ _ rfl rfl _ 1 1 rfl HBX.out (by simp) HZ1.out ?_; intro v1 w1 s1; have HS1 := hid s1; clear s1))
          clear HBX HSX
          clear q0 q1 q2 q3 q4 q5 q6 q7 q8 q9
          have r := fun i u hu => (HL.out.kept (HKW.out.trans HS1.out.same (fun _ _ f => f))).at (k := 10) (fun _ => rfl) hx i u hu
          have r0 := r 0 _ rfl
          have r1 := r 1 _ rfl
          have r2 := r 2 _ rfl
          have r3 := r 3 _ rfl
          have r4 := r 4 _ rfl
          have r5 := r 5 _ rfl
          have r6 := r 6 _ rfl
          have r7 := r 7 _ rfl
          have r8 := r 8 _ rfl
          have r9 := r 9 _ rfl
          rw [Nat.add_zero] at r0
          clear r
          go_wp2
          have HS2 := HS1
          clear r0 r1 r2 r3 r4 r5 r6 r7 r8 r9
          go_roundw
          case rel =>
            refine ⟨j + 1, by simp, HJ.out.1, ?_⟩
            rw [HT.out, List.filter_append, List.filter_append, show [(⟨kd, st, th, sp, ce, xx, ow, ga, er, by_⟩ : Ev)].filter (evT t) = [⟨kd, st, th, sp, ce, xx, ow, ga, er, by_⟩] by simp [evT, HE1.out], show [(⟨kd, st, th, sp, ce, xx, ow, ga, er, by_⟩ : Ev)].filter evQ = [] by simp [evQ, HE2.out]]
            rw [List.append_nil]; exact HS2.out
          case measure => have := HJ.out.2; simp [intOf]; omega
        · skip
          have t1 : (th == t) = true := by simp [e1]
          have t2 : (kd == 6) = false := by simp [e2]
          have HE1 := hid e1
          have HE2 := hid e2
          clear e1 e2
          have q := fun i u hu => (HL.out.kept (HKW.out.trans HS.out.same (fun _ _ f => f))).at (k := 10) (fun _ => rfl) hx i u hu
          have q0 := q 0 _ rfl
          have q1 := q 1 _ rfl
          have q2 := q 2 _ rfl
          have q3 := q 3 _ rfl
          have q4 := q 4 _ rfl
          have q5 := q 5 _ rfl
          have q6 := q 6 _ rfl
          have q7 := q 7 _ rfl
          have q8 := q 8 _ rfl
          have q9 := q 9 _ rfl
          rw [Nat.add_zero] at q0
          clear q
          have HBX := hid (r_box (f := eC) (k := 10) (fun _ => rfl) 26 HS.out ⟨kd, st, th, sp, ce, xx, ow, ga, er, by_⟩ #[.int .i64 kd, .int .i64 st, .int .i64 th, .int .i64 sp, .int .i64 ce, .int .i64 xx, .bool ow, .int .i64 ga, .int .i64 er, .int .i64 by_] rfl)
          have HSX := hid (HS.out.calm (kept_alloc wr (.cells #[.int .i64 kd, .int .i64 st, .int .i64 th, .int .i64 sp, .int .i64 ce, .int .i64 xx, .bool ow, .int .i64 ga, .int .i64 er, .int .i64 by_] 26)))
          go_upto_region 12 with (first | (at_builtin; refine wpList_appR Try.rowE HSX.out rfl _ _ rfl rfl _ 1 1 rfl HBX.out (by simp) HZ1.out ?_; intro v1 w1 s1; have HS1 := hid s1; clear s1))
          clear HBX HSX
          clear q0 q1 q2 q3 q4 q5 q6 q7 q8 q9
          have r := fun i u hu => (HL.out.kept (HKW.out.trans HS1.out.same (fun _ _ f => f))).at (k := 10) (fun _ => rfl) hx i u hu
          have r0 := r 0 _ rfl
          have r1 := r 1 _ rfl
          have r2 := r 2 _ rfl
          have r3 := r 3 _ rfl
          have r4 := r 4 _ rfl
          have r5 := r 5 _ rfl
          have r6 := r 6 _ rfl
          have r7 := r 7 _ rfl
          have r8 := r 8 _ rfl
          have r9 := r 9 _ rfl
          rw [Nat.add_zero] at r0
          clear r
          have HP1 := hid (HS1.out.perm (List.Perm.swap _ _ _))
          have HBX := hid (r_box (f := eC) (k := 10) (fun _ => rfl) 26 HS1.out ⟨kd, st, th, sp, ce, xx, ow, ga, er, by_⟩ #[.int .i64 kd, .int .i64 st, .int .i64 th, .int .i64 sp, .int .i64 ce, .int .i64 xx, .bool ow, .int .i64 ga, .int .i64 er, .int .i64 by_] rfl)
          have HSX := hid (HP1.out.calm (kept_alloc w1 (.cells #[.int .i64 kd, .int .i64 st, .int .i64 th, .int .i64 sp, .int .i64 ce, .int .i64 xx, .bool ow, .int .i64 ga, .int .i64 er, .int .i64 by_] 26)))
          go_wp2_with (first | (at_builtin; refine wpList_appR Try.rowE HSX.out rfl _ _ rfl rfl _ 1 1 rfl HBX.out (by simp) HZ2.out ?_; intro v2 w2 s2; have HS2 := hid (s2.perm (List.Perm.swap _ _ _)); clear s2))
          clear HBX HSX HP1
          clear r0 r1 r2 r3 r4 r5 r6 r7 r8 r9
          go_roundw
          case rel =>
            refine ⟨j + 1, by simp, HJ.out.1, ?_⟩
            rw [HT.out, List.filter_append, List.filter_append, show [(⟨kd, st, th, sp, ce, xx, ow, ga, er, by_⟩ : Ev)].filter (evT t) = [⟨kd, st, th, sp, ce, xx, ow, ga, er, by_⟩] by simp [evT, HE1.out], show [(⟨kd, st, th, sp, ce, xx, ow, ga, er, by_⟩ : Ev)].filter evQ = [⟨kd, st, th, sp, ce, xx, ow, ga, er, by_⟩] by simp [evQ, HE2.out]]
            exact HS2.out
          case measure => have := HJ.out.2; simp [intOf]; omega
      · by_cases e2 : kd = 6
        · skip
          have t1 : (th == t) = false := by simp [e1]
          have t2 : (kd == 6) = true := by simp [e2]
          have HE1 := hid e1
          have HE2 := hid e2
          clear e1 e2
          have q := fun i u hu => (HL.out.kept (HKW.out.trans HS.out.same (fun _ _ f => f))).at (k := 10) (fun _ => rfl) hx i u hu
          have q0 := q 0 _ rfl
          have q1 := q 1 _ rfl
          have q2 := q 2 _ rfl
          have q3 := q 3 _ rfl
          have q4 := q 4 _ rfl
          have q5 := q 5 _ rfl
          have q6 := q 6 _ rfl
          have q7 := q 7 _ rfl
          have q8 := q 8 _ rfl
          have q9 := q 9 _ rfl
          rw [Nat.add_zero] at q0
          clear q
          go_upto_region 12 with fail
          have HS1 := HS
          generalize wr = w1 at *
          clear q0 q1 q2 q3 q4 q5 q6 q7 q8 q9
          have r := fun i u hu => (HL.out.kept (HKW.out.trans HS1.out.same (fun _ _ f => f))).at (k := 10) (fun _ => rfl) hx i u hu
          have r0 := r 0 _ rfl
          have r1 := r 1 _ rfl
          have r2 := r 2 _ rfl
          have r3 := r 3 _ rfl
          have r4 := r 4 _ rfl
          have r5 := r 5 _ rfl
          have r6 := r 6 _ rfl
          have r7 := r 7 _ rfl
          have r8 := r 8 _ rfl
          have r9 := r 9 _ rfl
          rw [Nat.add_zero] at r0
          clear r
          go_wp2
          have HS2 := HS1
          clear r0 r1 r2 r3 r4 r5 r6 r7 r8 r9
          go_roundw
          case rel =>
            refine ⟨j + 1, by simp, HJ.out.1, ?_⟩
            rw [HT.out, List.filter_append, List.filter_append, show [(⟨kd, st, th, sp, ce, xx, ow, ga, er, by_⟩ : Ev)].filter (evT t) = [] by simp [evT, HE1.out], show [(⟨kd, st, th, sp, ce, xx, ow, ga, er, by_⟩ : Ev)].filter evQ = [] by simp [evQ, HE2.out]]
            rw [List.append_nil, List.append_nil]; exact HS2.out
          case measure => have := HJ.out.2; simp [intOf]; omega
        · skip
          have t1 : (th == t) = false := by simp [e1]
          have t2 : (kd == 6) = false := by simp [e2]
          have HE1 := hid e1
          have HE2 := hid e2
          clear e1 e2
          have q := fun i u hu => (HL.out.kept (HKW.out.trans HS.out.same (fun _ _ f => f))).at (k := 10) (fun _ => rfl) hx i u hu
          have q0 := q 0 _ rfl
          have q1 := q 1 _ rfl
          have q2 := q 2 _ rfl
          have q3 := q 3 _ rfl
          have q4 := q 4 _ rfl
          have q5 := q 5 _ rfl
          have q6 := q 6 _ rfl
          have q7 := q 7 _ rfl
          have q8 := q 8 _ rfl
          have q9 := q 9 _ rfl
          rw [Nat.add_zero] at q0
          clear q
          go_upto_region 12 with fail
          have HS1 := HS
          generalize wr = w1 at *
          clear q0 q1 q2 q3 q4 q5 q6 q7 q8 q9
          have r := fun i u hu => (HL.out.kept (HKW.out.trans HS1.out.same (fun _ _ f => f))).at (k := 10) (fun _ => rfl) hx i u hu
          have r0 := r 0 _ rfl
          have r1 := r 1 _ rfl
          have r2 := r 2 _ rfl
          have r3 := r 3 _ rfl
          have r4 := r 4 _ rfl
          have r5 := r 5 _ rfl
          have r6 := r 6 _ rfl
          have r7 := r 7 _ rfl
          have r8 := r 8 _ rfl
          have r9 := r 9 _ rfl
          rw [Nat.add_zero] at r0
          clear r
          have HP1 := hid (HS1.out.perm (List.Perm.swap _ _ _))
          have HBX := hid (r_box (f := eC) (k := 10) (fun _ => rfl) 26 HS1.out ⟨kd, st, th, sp, ce, xx, ow, ga, er, by_⟩ #[.int .i64 kd, .int .i64 st, .int .i64 th, .int .i64 sp, .int .i64 ce, .int .i64 xx, .bool ow, .int .i64 ga, .int .i64 er, .int .i64 by_] rfl)
          have HSX := hid (HP1.out.calm (kept_alloc w1 (.cells #[.int .i64 kd, .int .i64 st, .int .i64 th, .int .i64 sp, .int .i64 ce, .int .i64 xx, .bool ow, .int .i64 ga, .int .i64 er, .int .i64 by_] 26)))
          go_wp2_with (first | (at_builtin; refine wpList_appR Try.rowE HSX.out rfl _ _ rfl rfl _ 1 1 rfl HBX.out (by simp) HZ2.out ?_; intro v2 w2 s2; have HS2 := hid (s2.perm (List.Perm.swap _ _ _)); clear s2))
          clear HBX HSX HP1
          clear r0 r1 r2 r3 r4 r5 r6 r7 r8 r9
          go_roundw
          case rel =>
            refine ⟨j + 1, by simp, HJ.out.1, ?_⟩
            rw [HT.out, List.filter_append, List.filter_append, show [(⟨kd, st, th, sp, ce, xx, ow, ga, er, by_⟩ : Ev)].filter (evT t) = [] by simp [evT, HE1.out], show [(⟨kd, st, th, sp, ce, xx, ow, ga, er, by_⟩ : Ev)].filter evQ = [⟨kd, st, th, sp, ce, xx, ow, ga, er, by_⟩] by simp [evQ, HE2.out]]
            rw [List.append_nil]; exact HS2.out
          case measure => have := HJ.out.2; simp [intOf]; omega
    · have hlt' : ¬ (j : Int) < (n : Int) := by omega
      obtain rfl : j = n := by omega
      rw [List.take_of_length_le (by have := HLN.out; omega)] at hs
      obtain ⟨a9, c9, rfl, r9, -, -⟩ := r_rin hs 0 rfl (fun _ => rfl)
      obtain ⟨a10, c10, rfl, r10, -, -⟩ := r_rin hs 1 rfl (fun _ => rfl)
      have z9 := List.length_filter_le (evT t) l
      have z10 := List.length_filter_le evQ l
      have hln := HLN.out
      have hB1 := build_any (lc := c9) r9 (by omega)
      have HB2 := hid (fun (W : World) (kk : Kept (fun _ => False) wr W) => build_any (lc := c10) (r10.kept kk) (by omega))
      have HS := hid hs
      have HMs : Hid (MsIn wr L) := hid (ms_of (A := [_, _]) (B := []) (by rw [List.append_nil]; exact hs) HLL.out (by omega))
      have HRL : Hid (RIn sC wr sa L.length L) := hid (st_rin hs 2 rfl rfl sC_len)
      have HSZ : Hid (2 * L.length ≤ l.length + 8) := hid (by have := HSH.out; rw [← HLL.out, List.length_map] at this; exact this)
      clear hs r9 r10 hj hlt hlt'
      go_upto_region 15 with (first | (go_at_call 11; refine hB1.mono ?_; rintro e w3 ⟨svM, LM, rfl, hLM, s3⟩; have HS3 := hid s3; obtain ⟨am, cm, rfl, -⟩ := built_in (A := []) (B := []) (by rw [List.append_nil]; exact s3)))
      have hB2 := HB2.out _ HS3.out.same
      have HLM := hid hLM
      rw [outE_of HM.out.1]
      clear hB1 HB2 s3 hLM
      go_upto_region 16 with (first | (go_at_call 11; refine hB2.mono ?_; rintro e w4 ⟨svQ, LQ, rfl, hLQ, s4⟩; have HS4 := hid s4; obtain ⟨aq, cq, rfl, -⟩ := built_in (A := []) (B := []) (by rw [List.append_nil]; exact s4)))
      have HLQ := hid hLQ
      rw [outE_of HQ.out.1]
      clear hB2 s4 hLQ
      have HK4 := hid (HS3.out.same.trans HS4.out.same (fun _ _ f => f))
      have HMs4 := hid (HMs.out.kept HK4.out)
      have HRL4 := hid (HRL.out.kept HK4.out)
      have HRM4 : Hid (RIn sC w4 am LM.length LM) := hid ((st_rin HS3.out 0 rfl rfl sC_len).kept HS4.out.same)
      have HMM4 : Hid (MsIn w4 LM) := hid ((ms_of (A := []) (B := []) (by rw [List.append_nil]; exact HS3.out) HLM.out (by omega)).kept HS4.out.same)
      have HRQ4 : Hid (RIn sC w4 aq LQ.length LQ) := hid (st_rin HS4.out 0 rfl rfl sC_len)
      have HMQ4 : Hid (MsIn w4 LQ) := hid (ms_of (A := []) (B := []) (by rw [List.append_nil]; exact HS4.out) HLQ.out (by omega))
      have HEM : Hid (LM.map Sm.s = (L.filter (ofM t)).map Sm.s) := hid (by rw [HLM.out, HM.out.2, ← HLL.out, map_filter_s])
      have HEQ : Hid (LQ.map Sm.s = L.map Sm.s) := hid (by rw [HLQ.out, HQ.out.2, ← HLL.out])
      have HKF := hid ((HKW.out.trans HS.out.same (fun _ _ f => f)).trans HK4.out (fun _ _ f => f))
      have hm1 : (L.length : Int) ≤ 879609302199 := by have := HSZ.out; omega
      clear HS3 HS4 HMs HRL HLM HLQ HM HQ HSM HSH HLL HS HK4 HKW HL z9 z10
      generalize outP (l.filter (evT t)) = p2
      generalize outP (l.filter evQ) = p3
      have HS0 := hid (r_nil sC 36 10 (St.nil w4))
      go_upto_region 18 with fail
      go_loopw [18, 19] (fun v18 i wr => ∃ (j : Nat), i = .int .i64 j ∧ j ≤ L.length ∧ St w4 [lstR sC 36 10 v18 ((L.take j).filter (ofM t))] wr) (fun _ i _ => L.length - (intOf i).toNat)
      case atStart => exact ⟨0, rfl, Nat.zero_le _, HS0.out⟩
      case round =>
        clear HS0
        obtain ⟨j, rfl, hj, hs⟩ := hrel
        by_cases hlt : j < L.length
        · have hlt' : (j : Int) < (L.length : Int) := by omega
          have hj0 : (0 : Int) ≤ (j : Int) := by omega
          have HS := hid hs
          obtain ⟨g, off, rfl⟩ := HRL4.out.addr (by omega)
          obtain ⟨⟨⟨z0, z1, z2, z3, z4, z5, z6, z7, z8, ms⟩, ma, mc⟩, hx⟩ : ∃ x, L[j]? = some x := ⟨_, List.getElem?_eq_getElem hlt⟩
          have HT := hid (take_next hx)
          have HZ1 : Hid ((((L.take j).filter (ofM t)).length + 1) * 96 ≤ 140737488355328) := hid (by
            have h1 := List.length_filter_le (ofM t) (L.take j)
            rw [List.length_take] at h1
            omega)
          have HJ : Hid (j + 1 ≤ L.length ∧ L.length - (j + 1) < L.length - j) := hid ⟨by omega, by omega⟩
          have q := fun i u hu => (HRL4.out.kept hs.same).at (k := 10) sC_len hx i u hu
          have q0 := q 0 _ rfl
          have q1 := q 1 _ rfl
          have q2 := q 2 _ rfl
          have q3 := q 3 _ rfl
          have q4 := q 4 _ rfl
          have q5 := q 5 _ rfl
          have q6 := q 6 _ rfl
          have q7 := q 7 _ rfl
          have q8 := q 8 _ rfl
          have q9 := q 9 _ rfl
          rw [Nat.add_zero] at q0
          clear q hx hlt hj hs HRL4 HMs4 HRM4 HMM4 HRQ4 HMQ4 HEM HEQ HKF HSZ HLN hln
          simp only at q0 q1 q2 q3 q4 q5 q6 q7 q8 q9
          by_cases e1 : z0 = t
          · have t1 : (z0 == t) = true := by simp [e1]
            have HE1 := hid e1
            clear e1
            have HBX := hid (r_box (f := sC) (k := 10) sC_len 36 HS.out (⟨⟨z0, z1, z2, z3, z4, z5, z6, z7, z8, ms⟩, ma, mc⟩ : Sm) #[.int .i64 z0, .int .i64 z1, .int .i64 z2, .int .i64 z3, .int .i64 z4, .int .i64 z5, .int .i64 z6, .int .i64 z7, .int .i64 z8, .slice ma ms.length mc] rfl)
            have HSX := hid (HS.out.calm (kept_alloc wr (.cells #[.int .i64 z0, .int .i64 z1, .int .i64 z2, .int .i64 z3, .int .i64 z4, .int .i64 z5, .int .i64 z6, .int .i64 z7, .int .i64 z8, .slice ma ms.length mc] 36)))
            go_wp2_with (first | (at_builtin; refine wpList_appR Try.rowS HSX.out rfl _ _ rfl rfl _ 1 1 rfl HBX.out (by simp) HZ1.out ?_; intro v1 w1 s1; have HS1 := hid s1; clear s1))
            clear HBX HSX q0 q1 q2 q3 q4 q5 q6 q7 q8 q9
            go_roundw
            case rel =>
              refine ⟨j + 1, by simp, HJ.out.1, ?_⟩
              rw [HT.out, List.filter_append, show [(⟨⟨z0, z1, z2, z3, z4, z5, z6, z7, z8, ms⟩, ma, mc⟩ : Sm)].filter (ofM t) = [⟨⟨z0, z1, z2, z3, z4, z5, z6, z7, z8, ms⟩, ma, mc⟩] by simp [ofM, HE1.out]]
              exact HS1.out
            case measure => have := HJ.out.2; simp [intOf]; omega
          · have t1 : (z0 == t) = false := by simp [e1]
            have HE1 := hid e1
            clear e1
            go_wp2
            clear q0 q1 q2 q3 q4 q5 q6 q7 q8 q9
            go_roundw
            case rel =>
              refine ⟨j + 1, by simp, HJ.out.1, ?_⟩
              rw [HT.out, List.filter_append, show [(⟨⟨z0, z1, z2, z3, z4, z5, z6, z7, z8, ms⟩, ma, mc⟩ : Sm)].filter (ofM t) = [] by simp [ofM, HE1.out], List.append_nil]
              exact HS.out
            case measure => have := HJ.out.2; simp [intOf]; omega
        · have hlt' : ¬ (j : Int) < (L.length : Int) := by omega
          obtain rfl : j = L.length := by omega
          rw [List.take_of_length_le (Nat.le_refl _)] at hs
          obtain ⟨a18, c18, rfl, r18, -, -⟩ := r_rin hs 0 rfl sC_len
          have hle : (L.filter (ofM t)).length = LM.length := by have := congrArg List.length HEM.out; simpa using this.symm
          have hle2 : L.length = LQ.length := by have := congrArg List.length HEQ.out; simpa using this.symm
          have hle3 := List.length_filter_le (ofM t) L
          have hS1 := sameAll_two (lc := cm) (ld := c18) hle HEM.out (HRM4.out.kept hs.same) r18 (HMM4.out.kept hs.same) ((HMs4.out.kept hs.same).of_filter _) (by omega)
          have HS2 := hid (fun (W : World) (kk : Kept (fun _ => False) w4 W) => sameAll_two (lc := cq) (ld := sc) hle2 HEQ.out (HRQ4.out.kept kk) (HRL4.out.kept kk) (HMQ4.out.kept kk) (HMs4.out.kept kk) (by omega))
          have HKS := hid hs.same
          clear hs r18 HRL4 HMs4 HRM4 HMM4 HRQ4 HMQ4 HEM HEQ HSZ hle hle2 hle3 hj hlt
          go_upto_region 23 with (first | (go_at_call 12; refine hS1.mono ?_; rintro e w5 ⟨rfl, k5⟩))
          have HK5 := hid (HKS.out.trans k5 (fun _ _ f => f))
          have hS2 := HS2.out _ HK5.out
          clear hS1 HS2 k5
          go_upto_region 24 with (first | (go_at_call 12; refine hS2.mono ?_; rintro e w6 ⟨rfl, k6⟩))
          have HK6 := hid ((HKF.out.trans HK5.out (fun _ _ f => f)).trans k6 (fun _ _ f => f))
          clear hS2 k6 HK5 HKS HKF
          go_wp2
          go_ret
          exact ⟨rfl, HK6.out⟩
end Go.Proofs.Ytkhbkdabihokjaa
