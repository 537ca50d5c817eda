/- Package ghost: put in whole; Build. -/
import Derived.Test.YtkhbkdabihokjaaGf

namespace Go.Proofs.Ytkhbkdabihokjaa
open Go.RowKit Go.MapKept
open Go.Maps (Keyed)
set_option linter.unusedVariables false
set_option linter.unusedSimpArgs false
attribute [local go_sem ↓] Go.wp_at_zero Go.wp_at_succ

set_option maxRecDepth 100000 in
set_option maxHeartbeats 4000000 in
theorem put_slots {o w : World} {R : List It} {X mb : Nat} {sv : Value} {L : List Sm} {ls : List Pr} {st : Int} (h : St o (bkL X mb sv L ls st R) w) (v : Ev) (hk : v.kd = 6) :
    Calls Try.prog 31 #[.pointer (some ⟨X, 0, none⟩), evV v] w fun e w' => e = .returned (.tuple #[]) ∧ St o (bkL X mb sv L ls v.st R) w' := by
  obtain ⟨kd, sp', th, sp, ce, x, ow, ga, er, by_⟩ := v
  simp only at hk
  subst hk
  have s1 := h.box #[.int .i64 6, .int .i64 sp', .int .i64 th, .int .i64 sp, .int .i64 ce, .int .i64 x, .bool ow, .int .i64 ga, .int .i64 er, .int .i64 by_] 26
  generalize hw1 : w.alloc (.cells #[.int .i64 6, .int .i64 sp', .int .i64 th, .int .i64 sp, .int .i64 ce, .int .i64 x, .bool ow, .int .i64 ga, .int .i64 er, .int .i64 by_] 26) = w1 at *
  generalize hE : w.heap.size = E at *
  have b2 := s1.cell 1 rfl 2
  have g2 := s1.frozen 1 rfl 2
  have a1 := s1.cell 0 rfl 1
  have s2 := s1.write 1 rfl 2 (.int .i64 sp')
  have a0 := s2.cell 0 rfl 0
  have HS2 := hid s2.pop
  clear s1 s2 h
  unfold evV
  simp only
  go_enter Try.func31, Try.ntmps31
  go_upto_region 2 with (simp only [hw1, hE])
  clear hw1 a1 b2 g2
  generalize w1.setCell ⟨X, 2, none⟩ (.int .i64 sp') = w2 at *
  go_wp2
  go_end0
  exact ⟨rfl, HS2.out⟩
theorem opR_begin {ls : List Pr} {op : Int → Option Nat} (h : OpR ls op) {x : Int} (hx : op x = none) (n : Nat) : OpR ((x, (n : Int)) :: ls) (opSet op x (some n)) := by
  intro y v
  unfold opSet
  by_cases e : y = x
  · subst e
    simp only [if_true, List.mem_cons, Prod.mk.injEq, true_and]
    constructor
    · rintro (rfl | hm)
      · exact ⟨n, rfl, rfl⟩
      · exact absurd rfl (opR_none h hx _ hm)
    · rintro ⟨p, h1, rfl⟩
      simp only [Option.some.injEq] at h1
      exact .inl (by rw [h1])
  · simp only [if_neg e, List.mem_cons, Prod.mk.injEq, e, false_and, false_or]
    exact h y v
theorem opR_end {ls : List Pr} {op : Int → Option Nat} (h : OpR ls op) (x : Int) : OpR (lackP ls x) (opSet op x none) := by
  intro y v
  unfold opSet lackP
  rw [List.mem_filter]
  by_cases e : y = x
  · subst e
    simp
  · simp only [if_neg e, bne_iff_ne, ne_eq, e, not_false_eq_true, and_true]
    exact h y v
theorem opR_nil : OpR [] Bk.zero.op := fun x v => by simp [Bk.zero]
theorem map_set_s {L : List Sm} {ss : List Sy} (hL : L.map Sm.s = ss) (p : Nat) (m' : Sm) : (L.set p m').map Sm.s = ss.set p m'.s := by rw [List.map_set, hL]
theorem put_any {o w : World} {R : List It} {X mb i : Nat} {sv : Value} {L : List Sm} {ls : List Pr} {b : Bk} (h : St o (bkL X mb sv L ls b.st R) w) (hL : L.map Sm.s = b.ss) (hO : OpR ls b.op) (hb : b.ok i) (hi : (i + 1) * 80 ≤ 140737488351232) (v : Ev) (ht : b.takes v = true) :
    Calls Try.prog 31 #[.pointer (some ⟨X, 0, none⟩), evV v] w fun e w' => e = .returned (.tuple #[]) ∧ ∃ sv' L' ls', St o (bkL X mb sv' L' ls' (b.put v).st R) w' ∧ L'.map Sm.s = (b.put v).ss ∧ OpR ls' (b.put v).op := by
  obtain ⟨hm, _, hg⟩ := takes_parts ht
  obtain ⟨k1, k2, t1, t2, _, _⟩ := may_parts hm
  have hlen : b.ss.length = L.length := by rw [← hL, List.length_map]
  have hmany := hb.many
  have hop := opens_le b.op
  by_cases h1 : v.kd = 1
  · have hn : b.op v.th = none := by
      unfold Bk.goes at hg
      cases ho : b.op v.th with
      | none => rfl
      | some p =>
        rw [ho] at hg
        have : v.first = true := first_iff.2 (.inl h1)
        simp [this] at hg
    refine (put_begin h v h1 (opR_none hO hn) (by omega) (by omega)).mono ?_
    rintro e w' ⟨rfl, sv', hs⟩
    have e : b.put v = ⟨b.ss ++ [v.opens], opSet b.op v.th (some b.ss.length), v.st⟩ := by unfold Bk.put; rw [if_pos h1]
    rw [e]
    exact ⟨rfl, sv', _, _, hs, by simp [hL], by rw [hlen]; exact opR_begin hO hn _⟩
  · by_cases h6 : v.kd = 6
    · have hn : b.op v.th = none := by
        unfold Bk.goes at hg
        cases ho : b.op v.th with
        | none => rfl
        | some p =>
          rw [ho] at hg
          have : v.first = true := first_iff.2 (.inr h6)
          simp [this] at hg
      have e : b.put v = { b with st := v.st } := by unfold Bk.put; rw [if_neg h1, hn]
      refine (put_slots h v h6).mono ?_
      rintro e w' ⟨rfl, hs⟩
      rw [e]
      exact ⟨rfl, sv, L, ls, hs, hL, hO⟩
    · have ho : ∃ p, b.op v.th = some p := by
        unfold Bk.goes at hg
        cases ho : b.op v.th with
        | none =>
          rw [ho] at hg
          rcases first_iff.1 hg with e | e
          · exact absurd e h1
          · exact absurd e h6
        | some p => exact ⟨p, rfl⟩
      obtain ⟨p, ho⟩ := ho
      have hp := (hb.place _ _ ho).1
      obtain ⟨m, hm1, hm2⟩ := sy_at hL hp
      obtain ⟨g, cap, rfl⟩ := h.form 2 rfl (show 0 < L.length by omega)
      have hms := getD_len hb hp
      by_cases h2 : v.kd = 2 ∨ v.kd = 3
      · have e : b.put v = ⟨b.ss.set p ((b.ss.getD p Sy.zero).moved v), b.op, v.st⟩ := by unfold Bk.put; rw [if_neg h1, ho]; simp only; rw [if_pos h2]
        refine (put_move h v h2 (opR_some hO ho) hm1 (by omega) (by rw [hm2]; omega)).mono ?_
        rintro e w' ⟨rfl, la, lc, hs⟩
        rw [e]
        exact ⟨rfl, _, _, ls, hs, by rw [map_set_s hL, hm2], hO⟩
      · have e : b.put v = ⟨b.ss.set p ((b.ss.getD p Sy.zero).ended v), opSet b.op v.th none, v.st⟩ := by unfold Bk.put; rw [if_neg h1, ho]; simp only; rw [if_neg h2]
        refine (put_end h v (by omega) (opR_some hO ho) hm1 (by omega)).mono ?_
        rintro e w' ⟨rfl, hs⟩
        rw [e]
        exact ⟨rfl, _, _, _, hs, by rw [map_set_s hL, hm2], opR_end hO _⟩
/-- How Build ends. -/
def BuiltE (w : World) (l : List Ev) (e : Ending) (w' : World) : Prop := ∃ sv L, e = .returned (.tuple #[sv, .int .i64 (outP l), .int .i64 (outE l)]) ∧ L.map Sm.s = outS l ∧ St w (stL sv L) w'
theorem drop_next {l : List Ev} {j : Nat} {v : Ev} (hv : l[j]? = some v) : l.drop j = v :: l.drop (j + 1) := by
  obtain ⟨h1, h2⟩ := List.getElem?_eq_some_iff.1 hv
  subst h2
  exact List.drop_eq_getElem_cons h1
set_option maxRecDepth 100000 in
set_option maxHeartbeats 4000000 in
theorem build_any {w : World} {la : Option Addr} {n lc : Nat} {l : List Ev} (hl : RIn eC w la n l) (hn : n * 80 ≤ 140737488351232) : Calls Try.prog 11 #[.slice la n lc] w (BuiltE w l) := by
  have HF : Hid (∀ i b, outR l = (b, some i) → ∀ w' R, St w R w' → BuiltE w l (.returned (.tuple #[.slice none 0 0, .int .i64 (i : Nat), .int .i64 210])) w') := hid (fun i b h w' R s => by
    refine ⟨.slice none 0 0, [], ?_, ?_, r_nil sC _ _ (St.base (St.nil w') s.same)⟩
    · simp [outP, outE, h]
    · simp [outS, h])
  have HG : Hid (∀ b, outR l = (b, none) → ∀ sv L w' X mb ls, St w (bkL X mb sv L ls b.st []) w' → L.map Sm.s = b.ss → BuiltE w l (.returned (.tuple #[sv, .int .i64 0, .int .i64 0])) w') := hid (fun b h sv L w' X mb ls s hL => by
    refine ⟨sv, L, ?_, ?_, ?_⟩
    · simp [outP, outE, h]
    · simp [outS, h, hL]
    · have := s.pop.pop
      rw [List.append_nil] at this
      exact this)
  have hN := newBook_any w
  have HL := hid hl
  have hlen := hl.1
  have HLN := hid hl.1
  have hn1 : (n : Int) ≤ 1759218604390 := by omega
  have HNN := hid hn
  generalize BuiltE w l = Q at *
  clear hl hlen hn
  go_enter Try.func11, Try.ntmps11
  go_wp2_with (go_at_call 29; refine hN.mono ?_; rintro e w1 ⟨X, mb, rfl, hs⟩; have HS := hid hs; clear hs hN)
  go_loopw [11] (fun i wr => ∃ (j : Nat) (b : Bk) (sv : Value) (L : List Sm) (ls : List Pr), i = .int .i64 j ∧ j ≤ n ∧ outR l = runB b (l.drop j) j ∧ b.ok j ∧ L.map Sm.s = b.ss ∧ OpR ls b.op ∧ St w (bkL X mb sv L ls b.st []) wr) (fun i _ => n - (intOf i).toNat)
  case atStart => exact ⟨0, Bk.zero, .slice none 0 0, [], [], rfl, Nat.zero_le _, rfl, Bk.ok_zero, rfl, opR_nil, (r_nil sC _ _ HS.out).perm (by exact List.perm_middle (l₁ := [_, _]) (a := _) (l₂ := []) |>.symm)⟩
  case round =>
    obtain ⟨j, b, sv, L, ls, rfl, hj, hr, hb, hL, hO, hs⟩ := hrel
    by_cases hlt : j < n
    · have hlt' : (j : Int) < (n : Int) := by omega
      have hj0 : (0 : Int) ≤ (j : Int) := by omega
      obtain ⟨g, off, rfl⟩ := HL.out.addr (by omega)
      have hjl : j < l.length := by have := HLN.out; omega
      obtain ⟨v, hv⟩ : ∃ v, l[j]? = some v := ⟨_, List.getElem?_eq_getElem hjl⟩
      rw [drop_next hv] at hr
      have hlr := HL.out.kept hs.same
      have q := fun i u hu => hlr.at (k := 10) (fun _ => rfl) hv i u hu
      have q0 := q 0 _ rfl
      have q1 := q 1 _ rfl
      have q2 := q 2 _ rfl
      have q3 := q 3 _ rfl
      have q4 := q 4 _ rfl
      have q5 := q 5 _ rfl
      have q6 := q 6 _ rfl
      have q7 := q 7 _ rfl
      have q8 := q 8 _ rfl
      have q9 := q 9 _ rfl
      rw [Nat.add_zero] at q0
      try simp only [eC, List.getElem?_cons_succ, List.getElem?_cons_zero] at q0 q1 q2 q3 q4 q5 q6 q7 q8 q9
      obtain ⟨kd, sp', th, sp, ce, x, ow, ga, er, by_⟩ := v
      try simp only at q0 q1 q2 q3 q4 q5 q6 q7 q8 q9
      clear q hlr
      have s1 := hs.box #[.int .i64 kd, .int .i64 sp', .int .i64 th, .int .i64 sp, .int .i64 ce, .int .i64 x, .bool ow, .int .i64 ga, .int .i64 er, .int .i64 by_] 26
      go_upto_region 5 with fail
      clear q0 q1 q2 q3 q4 q5 q6 q7 q8 q9
      generalize wr.alloc (.cells #[.int .i64 kd, .int .i64 sp', .int .i64 th, .int .i64 sp, .int .i64 ce, .int .i64 x, .bool ow, .int .i64 ga, .int .i64 er, .int .i64 by_] 26) = w1 at *
      generalize wr.heap.size = E at *
      have hbound : L.length ≤ 9223372036854775807 := by
        have h1 := hb.many
        have h2 := opens_le b.op
        have h3 : b.ss.length = L.length := by rw [← hL, List.length_map]
        omega
      have hT := takes_any s1.pop hL hO (fun x p h => (hb.place x p h).1) hbound ⟨kd, sp', th, sp, ce, x, ow, ga, er, by_⟩
      have FC : Hid (∀ W, Kept (fun _ => False) w1 W → W.cell? ⟨E, 0, none⟩ = some (.int .i64 kd) ∧ W.cell? ⟨E, 1, none⟩ = some (.int .i64 sp') ∧ W.cell? ⟨E, 2, none⟩ = some (.int .i64 th) ∧ W.cell? ⟨E, 3, none⟩ = some (.int .i64 sp) ∧ W.cell? ⟨E, 4, none⟩ = some (.int .i64 ce) ∧ W.cell? ⟨E, 5, none⟩ = some (.int .i64 x) ∧ W.cell? ⟨E, 6, none⟩ = some (.bool ow) ∧ W.cell? ⟨E, 7, none⟩ = some (.int .i64 ga) ∧ W.cell? ⟨E, 8, none⟩ = some (.int .i64 er) ∧ W.cell? ⟨E, 9, none⟩ = some (.int .i64 by_)) := hid (fun W hW => by
        have hs := s1.calm hW
        exact ⟨hs.cell 0 rfl 0, hs.cell 0 rfl 1, hs.cell 0 rfl 2, hs.cell 0 rfl 3, hs.cell 0 rfl 4, hs.cell 0 rfl 5, hs.cell 0 rfl 6, hs.cell 0 rfl 7, hs.cell 0 rfl 8, hs.cell 0 rfl 9⟩)
      obtain ⟨c0, c1, c2, c3, c4, c5, c6, c7, c8, c9⟩ := FC.out _ (Kept.refl _ w1)
      cases ht : b.takes ⟨kd, sp', th, sp, ce, x, ow, ga, er, by_⟩ with
      | false =>
        rw [ht] at hT
        have HQ := hid (fun (W : World) (hW : Kept (fun _ => False) w1 W) => HF.out j b (by rw [hr]; simp [runB, ht]) W _ (s1.calm hW))
        clear s1 hs hL hO hb hr ht hv HF HG HL HS hjl HLN HNN hlt hbound
        go_wp2_with (go_at_call 30; refine hT.mono ?_; rintro e w2 ⟨rfl, hk⟩; have HK := hid hk; clear hk)
        exact bodyPost_ret (v := .tuple #[.slice none 0 0, .int .i64 j, .int .i64 210]) (by simp [results, Try.f11, go_sem]) rfl (HQ.out _ HK.out)
      | true =>
        rw [ht] at hT
        have HP := hid (fun (W : World) (hW : Kept (fun _ => False) w1 W) => put_any (i := j) ((s1.calm hW).pop) hL hO hb (by have := HNN.out; omega) ⟨kd, sp', th, sp, ce, x, ow, ga, er, by_⟩ ht)
        have HR : Hid (outR l = runB (b.put ⟨kd, sp', th, sp, ce, x, ow, ga, er, by_⟩) (l.drop (j + 1)) (j + 1)) := hid (by rw [hr]; simp [runB, ht])
        have HB := hid (Bk.ok_put hb ht)
        have HJ : Hid (j + 1 ≤ n ∧ n - (j + 1) < n - j) := hid ⟨by omega, by omega⟩
        clear s1 hs hL hO hb hr ht hv HF HG HL HS hjl HLN HNN hlt hbound
        generalize b.put ⟨kd, sp', th, sp, ce, x, ow, ga, er, by_⟩ = b' at *
        go_upto_region 7 with (go_at_call 30; refine hT.mono ?_; rintro e w2 ⟨rfl, hk⟩; have HK := hid hk; clear hk)
        clear c0 c1 c2 c3 c4 c5 c6 c7 c8 c9
        obtain ⟨c0, c1, c2, c3, c4, c5, c6, c7, c8, c9⟩ := FC.out _ HK.out
        have hP := HP.out _ HK.out
        go_wp2_with (go_at_call 31; refine hP.mono ?_; rintro e w3 ⟨rfl, sv3, L3, ls3, hs3, hL3, hO3⟩; have HX3 := hid (And.intro hs3 (And.intro hL3 hO3)); clear hs3 hL3 hO3)
        go_roundw
        case rel => exact ⟨j + 1, b', sv3, L3, ls3, by simp, HJ.out.1, HR.out, HB.out, HX3.out.2.1, HX3.out.2.2, HX3.out.1⟩
        case measure => have := HJ.out.2; simp [intOf]; omega
    · have hlt' : ¬ (j : Int) < (n : Int) := by omega
      have hd : l.drop j = [] := List.drop_eq_nil_of_le (by have := HLN.out; omega)
      rw [hd] at hr
      have HQ := hid (HG.out b (by rw [hr]; rfl) sv L wr X mb ls hs hL)
      have x0 := hs.cell 0 rfl 0
      obtain ⟨va, vc, rfl, -, -, -⟩ := r_rin hs 2 rfl (fun _ => rfl)
      clear hs hL hO hb hr hd HF HG HL HS HLN HNN
      go_wp2
      exact bodyPost_ret (v := .tuple #[.slice va L.length vc, .int .i64 0, .int .i64 0]) (by simp [results, Try.f11, go_sem]) rfl HQ.out
end Go.Proofs.Ytkhbkdabihokjaa
