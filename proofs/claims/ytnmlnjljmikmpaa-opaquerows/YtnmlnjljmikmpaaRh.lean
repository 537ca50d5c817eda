/- The document's memory: what a cell holds. The document's memory: Put. The document's memory: what a story leaves. The document's memory: is a story explained? -/
import Derived.Test.YtnmlnjljmikmpaaRb
import Derived.Test.YtnmlnjljmikmpaaHc
namespace Go.Proofs.Ytnmlnjljmikmpaa
open Go.RowKit Go.Shelf
set_option linter.unusedVariables false
set_option linter.unusedSimpArgs false
attribute [local go_sem ↓] Go.wp_at_zero Go.wp_at_succ

/-- No cell twice. -/
def Uq (ps : List Pr) : Prop := ps.Pairwise (fun a b => a.1 ≠ b.1)
/-- What pairs tell. -/
def ovP (ps : List Pr) : Int → Option Int := fun c => (ps.find? (fun p => p.1 == c)).map (·.2)
theorem ovP_none {ps : List Pr} {c : Int} (h : ∀ p ∈ ps, p.1 ≠ c) : ovP ps c = none := by
  unfold ovP
  rw [List.find?_eq_none.2 (fun p hp hc => h p hp (by simpa using hc))]
  rfl
theorem ovP_at {ps : List Pr} (hu : Uq ps) {j : Nat} {c x : Int} (h : ps[j]? = some (c, x)) : ovP ps c = some x := by
  induction ps generalizing j with
  | nil => simp at h
  | cons a r ih =>
    have hu' := List.pairwise_cons.1 hu
    unfold ovP at ih ⊢
    rw [List.find?_cons]
    cases j with
    | zero =>
      simp only [List.getElem?_cons_zero, Option.some.injEq] at h
      subst h
      simp
    | succ j =>
      rw [List.getElem?_cons_succ] at h
      have hne := hu'.1 _ (List.mem_of_getElem? h)
      have : (a.1 == c) = false := by simpa using hne
      rw [this]
      exact ih hu'.2 h
theorem Uq.nil : Uq [] := List.Pairwise.nil
theorem uq_put {ps : List Pr} (hu : Uq ps) (c x : Int) : Uq (putP ps c x) ∧ ovP (putP ps c x) = ownSet (ovP ps) c x := by
  induction ps with
  | nil =>
    refine ⟨by simp [putP, keyAt, Uq], ?_⟩
    funext y
    by_cases e : y = c
    · subst e; simp [putP, keyAt, ovP, ownSet]
    · have e2 : ¬ c = y := fun h => e h.symm
      simp [putP, keyAt, ovP, ownSet, e, e2]
  | cons a r ih =>
    obtain ⟨ac, ax⟩ := a
    have hu' := List.pairwise_cons.1 hu
    have ih := ih hu'.2
    by_cases e : ac = c
    · subst e
      have ep : putP ((ac, ax) :: r) ac x = (ac, x) :: r := by simp [putP, keyAt, List.findIdx?_cons]
      rw [ep]
      refine ⟨List.pairwise_cons.2 ⟨hu'.1, hu'.2⟩, ?_⟩
      funext y
      unfold ovP ownSet
      by_cases e2 : y = ac
      · subst e2; simp
      · have e3 : (ac == y) = false := by simp; exact fun h => e2 h.symm
        simp [List.find?_cons, e3, e2]
    · have ep : putP ((ac, ax) :: r) c x = (ac, ax) :: putP r c x := by
        have : (ac == c) = false := by simpa using e
        unfold putP keyAt
        rw [List.findIdx?_cons]
        simp only [this, Bool.false_eq_true, if_false]
        cases r.findIdx? (fun p => p.1 == c) with
        | none => rfl
        | some i => rfl
      rw [ep]
      refine ⟨List.pairwise_cons.2 ⟨fun b hb => ?_, ih.1⟩, ?_⟩
      · unfold putP at hb
        split at hb
        · rcases List.mem_or_eq_of_mem_set hb with hb | hb
          · exact hu'.1 b hb
          · rw [hb]; exact e
        · rcases List.mem_append.1 hb with hb | hb
          · exact hu'.1 b hb
          · rw [List.mem_singleton.1 hb]; exact e
      · funext y
        have hh := congrFun ih.2 y
        unfold ovP ownSet at hh ⊢
        rw [List.find?_cons]
        by_cases e2 : ac = y
        · subst e2
          simp [e]
        · have e3 : (ac == y) = false := by simpa using e2
          simp only [e3]
          rw [hh]
          rw [List.find?_cons]
          simp only [e3]
set_option maxRecDepth 100000 in
set_option maxHeartbeats 4000000 in
theorem rGet_any {w : World} {sa la : Option Addr} {sn sc n lc g : Nat} {start : List Int} {ps : List Pr} (hs : RIn iC w sa sn start) (hl : RIn pC w la n ps) (hu : Uq ps) (h0 : w.cell? ⟨g, 0, none⟩ = some (.slice sa sn sc)) (h1 : w.cell? ⟨g, 1, none⟩ = some (.slice la n lc)) (c : Int) (hsn : (sn : Int) ≤ 9223372036854775807) (hn : (n : Int) ≤ 9223372036854775807) :
    Calls Try.prog 41 #[.pointer (some ⟨g, 0, none⟩), .int .i64 c] w fun e w' => e = .returned (.int .i64 (memO start (ovP ps) c)) ∧ Kept (fun _ => False) w w' := by
  have HS := hid hs
  have HSN := hid hs.1
  have HL := hid hl
  have HLN := hid hl.1
  have HU := hid hu
  have cc := fun W (k : Kept (fun _ => False) w W) => (show W.cell? ⟨g, 0, none⟩ = some (.slice sa sn sc) ∧ W.cell? ⟨g, 1, none⟩ = some (.slice la n lc) from ⟨by rw [World.cell?_of_block (k.block g (World.block_lt_of_cell? w _ h0) (fun f => f))]; exact h0, by rw [World.cell?_of_block (k.block g (World.block_lt_of_cell? w _ h1) (fun f => f))]; exact h1⟩)
  have CC := hid cc
  clear hs hl hu cc
  go_enter Try.func41, Try.ntmps41
  go_upto_region 2 with fail
  go_loopw [5] (fun i wr => ∃ t : Nat, i = .int .i64 ((t : Int) - 1) ∧ t ≤ n ∧ (∀ p ∈ ps.drop t, p.1 ≠ c) ∧ Kept (fun _ => False) w wr) (fun i _ => (intOf i + 1).toNat)
  case atStart => exact ⟨n, rfl, Nat.le_refl _, by rw [List.drop_of_length_le (by have := HLN.out; omega)]; simp, Kept.refl _ _⟩
  case round =>
    clear h0 h1
    obtain ⟨t, rfl, ht, hd, hk⟩ := hrel
    obtain ⟨c0, c1⟩ := CC.out _ hk
    have HK := hid hk
    have HT := hid ht
    by_cases hz : t = 0
    · subst hz
      have t0 : decide ((0 : Int) ≤ ((0 : Nat) : Int) - 1) = false := by decide
      have ho : ovP ps c = none := ovP_none (by simpa using hd)
      have HO := hid ho
      clear hd hk ho ht
      by_cases h0 : 0 ≤ c
      · by_cases h1 : c < (sn : Int)
        · have t0 : decide (0 ≤ c) = true := by simpa using h0
          have t1 : decide (c < (sn : Int)) = true := by simpa using h1
          obtain ⟨k, rfl⟩ : ∃ k : Nat, c = (k : Int) := ⟨c.toNat, by omega⟩
          have hkl : k < start.length := by have := HSN.out; omega
          have HV := hid (startM_at hkl)
          obtain ⟨g', off, rfl⟩ := HS.out.addr (by omega)
          have q0 := (HS.out.kept HK.out).at (k := 1) (fun _ => rfl) (List.getElem?_eq_getElem hkl) 0 _ rfl
          rw [Nat.mul_one, Nat.add_zero] at q0
          generalize start[k] = z at *
          clear hkl HSN
          go_wp2
          go_ret
          exact ⟨by unfold memO; rw [HO.out, Option.getD_none, HV.out]; rfl, HK.out⟩
        · have t0 : decide (0 ≤ c) = true := by simpa using h0
          have t1 : decide (c < (sn : Int)) = false := by simpa using h1
          have HV := hid (startM_no (start := start) (c := c) (by have := HSN.out; omega))
          clear HSN h0 h1
          go_wp2
          go_ret
          exact ⟨by unfold memO; rw [HO.out, Option.getD_none, HV.out]; rfl, HK.out⟩
      · have t0 : decide (0 ≤ c) = false := by simpa using h0
        have HV := hid (startM_no (start := start) (c := c) (by omega))
        clear HSN h0
        go_wp2
        go_ret
        exact ⟨by unfold memO; rw [HO.out, Option.getD_none, HV.out]; rfl, HK.out⟩
    · obtain ⟨j, rfl⟩ : ∃ j, t = j + 1 := ⟨t - 1, by omega⟩
      have hj0 : (0 : Int) ≤ (j : Int) := by omega
      have hjn : (j : Int) < (n : Int) := by omega
      have ej : ((j + 1 : Nat) : Int) - 1 = (j : Int) := by omega
      obtain ⟨⟨pc, px⟩, hp⟩ : ∃ p, ps[j]? = some p := ⟨_, List.getElem?_eq_getElem (by have := HLN.out; omega)⟩
      have HP := hid hp
      obtain ⟨lg, loff, rfl⟩ := HL.out.addr (by omega)
      have q0 := (HL.out.kept HK.out).at (k := 2) (fun _ => rfl) hp 0 _ rfl
      have q1 := (HL.out.kept HK.out).at (k := 2) (fun _ => rfl) hp 1 _ rfl
      rw [Nat.add_zero] at q0
      have HD := hid hd
      rw [ej]
      clear hd hp hk ht hz
      by_cases hc : pc = c
      · subst hc
        have t1 : (pc == pc) = true := by simp
        have HO := hid (ovP_at HU.out HP.out)
        go_wp2
        go_ret
        exact ⟨by unfold memO; rw [HO.out]; rfl, HK.out⟩
      · have t1 : (pc == c) = false := by simpa using hc
        have HC := hid hc
        clear hc
        go_wp2
        go_roundw
        case rel =>
          refine ⟨j, rfl, by have := HT.out; omega, fun p hp => ?_, HK.out⟩
          rw [List.drop_eq_getElem_cons (List.getElem?_eq_some_iff.1 HP.out).1] at hp
          rcases List.mem_cons.1 hp with rfl | hp
          · rw [(List.getElem?_eq_some_iff.1 HP.out).2]; exact HC.out
          · exact HD.out p hp
        case measure => simp [intOf]
end Go.Proofs.Ytnmlnjljmikmpaa

namespace Go.Proofs.Ytnmlnjljmikmpaa
open Go.RowKit Go.Shelf
set_option linter.unusedVariables false
set_option linter.unusedSimpArgs false
attribute [local go_sem ↓] Go.wp_at_zero Go.wp_at_succ

theorem key_next {ps : List Pr} {j : Nat} {p : Pr} {c : Int} (h : ∀ x ∈ ps.take j, x.1 ≠ c) (hp : ps[j]? = some p) (hc : p.1 ≠ c) : ∀ x ∈ ps.take (j + 1), x.1 ≠ c := by
  intro x hx
  rw [List.take_add_one, hp] at hx
  rcases List.mem_append.1 hx with hx | hx
  · exact h x hx
  · simp only [Option.toList_some, List.mem_singleton] at hx
    rw [hx]; exact hc
theorem put_here' {ps : List Pr} {j : Nat} {c y : Int} (h : ∀ x ∈ ps.take j, x.1 ≠ c) (hp : ps[j]? = some (c, y)) (x : Int) : putP ps c x = ps.set j (c, x) := by
  unfold putP
  rw [keyAt_here hp (fun i p hi hip => h p (List.mem_iff_getElem?.2 ⟨i, by rw [List.getElem?_take_of_lt hi]; exact hip⟩))]
theorem put_no {ps : List Pr} {c : Int} (h : ∀ x ∈ ps, x.1 ≠ c) (x : Int) : putP ps c x = ps ++ [(c, x)] := by
  unfold putP
  rw [keyAt_nowhere (fun i p hi hip => h p (List.mem_of_getElem? hip))]
set_option maxRecDepth 100000 in
set_option maxHeartbeats 4000000 in
theorem rPut_any {o w : World} {R : List It} {ps : List Pr} {g : Nat} {s v : Value} (h : St o (lstR pC 86 2 v ps :: boxI g #[s, v] 73 :: R) w) (c x : Int) (hn : ps.length < 2932031007317) :
    Calls Try.prog 40 #[.pointer (some ⟨g, 0, none⟩), .int .i64 c, .int .i64 x] w fun e w' => ∃ v', e = .returned (.tuple #[]) ∧ St o (lstR pC 86 2 v' (putP ps c x) :: boxI g #[s, v'] 73 :: R) w' := by
  obtain ⟨la, lc, rfl⟩ := r_form h 0 rfl rfl (fun _ => rfl)
  have HH := hid h
  have hn1 : (ps.length : Int) ≤ 2932031007317 := by omega
  have HN := hid hn
  clear h hn
  go_enter Try.func40, Try.ntmps40
  go_upto_region 1 with fail
  go_loopw [6] (fun i wr => ∃ j : Nat, i = .int .i64 j ∧ j ≤ ps.length ∧ (∀ p ∈ ps.take j, p.1 ≠ c) ∧ St o (lstR pC 86 2 (.slice la ps.length lc) ps :: boxI g #[s, .slice la ps.length lc] 73 :: R) wr) (fun i _ => ps.length - (intOf i).toNat)
  case atStart => exact ⟨0, rfl, Nat.zero_le _, by simp, HH.out⟩
  case round =>
    clear HH
    obtain ⟨j, rfl, hj, hno, hst⟩ := hrel
    have c1 := hst.cell 1 rfl 1
    have HS := hid hst
    have HO := hid hno
    by_cases hlt : j < ps.length
    · have hlt' : (j : Int) < (ps.length : Int) := by omega
      have hj0 : (0 : Int) ≤ (j : Int) := by omega
      have HJ : Hid (j + 1 ≤ ps.length ∧ ps.length - (j + 1) < ps.length - j) := hid ⟨by omega, by omega⟩
      obtain ⟨⟨pc, px⟩, hp⟩ : ∃ p, ps[j]? = some p := ⟨_, List.getElem?_eq_getElem hlt⟩
      obtain ⟨g3, cap, hv⟩ := hst.form 0 rfl (by omega)
      simp only [Value.slice.injEq, true_and] at hv
      obtain ⟨rfl, rfl⟩ := hv
      have r := st_rin (f := pC) hst 0 rfl rfl (fun _ => rfl)
      have q0 := r.at (k := 2) (fun _ => rfl) hp 0 _ rfl
      have q1 := r.at (k := 2) (fun _ => rfl) hp 1 _ rfl
      rw [Nat.add_zero, Nat.zero_add] at q0
      rw [Nat.zero_add] at q1
      have f1 := hst.ownFrozen 0 rfl (j * 2 + 1)
      have HP := hid hp
      clear r hp hj hlt hno
      by_cases hc : pc = c
      · subst hc
        have t1 : (pc == pc) = true := by simp
        have s2 := r_set (f := pC) (k := 2) (fun _ => rfl) hst 0 rfl rfl HP.out 1 (by omega) (.int .i64 x) (x' := (pc, x)) rfl
        have HE : Hid (St o (lstR pC 86 2 (.slice (some ⟨g3, 0, none⟩) ps.length lc) (putP ps pc x) :: boxI g #[s, .slice (some ⟨g3, 0, none⟩) ps.length lc] 73 :: R) (wr.setCell ⟨g3, j * 2 + 1, none⟩ (.int .i64 x))) := hid (by
          rw [put_here' HO.out HP.out x]
          show St o (ownI _ _ _ (ps.set j (pc, x)).length _ :: _) _
          rw [List.length_set]
          exact s2)
        clear s2 hst HS
        go_wp2
        refine bodyPost_ret (v := .tuple #[]) ?_ rfl ⟨rfl, _, HE.out⟩
        simp [results, Try.f40, go_sem]
      · have t1 : (pc == c) = false := by simpa using hc
        have HO2 := hid (key_next HO.out HP.out hc)
        clear hc hst
        go_wp2
        go_roundw
        case rel => exact ⟨j + 1, by simp, HJ.out.1, HO2.out, HS.out⟩
        case measure => have := HJ.out.2; simp [intOf]; omega
    · have hlt' : ¬ (j : Int) < (ps.length : Int) := by omega
      have e : ps.take j = ps := List.take_of_length_le (by omega)
      have HE := hid (put_no (fun p hp => hno p (by rw [e]; exact hp)) x)
      have hbs := buildP wr c x
      have HZ : Hid ((ps.length + 1) * 16 ≤ 140737488355328) := hid (by have := HN.out; omega)
      have HBX := hid (r_box (f := pC) (k := 2) (fun _ => rfl) 86 hst (c, x) #[.int .i64 c, .int .i64 x] rfl)
      have HSX := hid (hst.calm (kept_alloc wr (.cells #[.int .i64 c, .int .i64 x] 86)))
      have c1' := HSX.out.cell 1 rfl 1
      clear hst e hno hlt hj HO HS
      go_wp2_with (first | simp only [hbs] | (at_builtin; refine wpList_appR Try.rowP HSX.out rfl _ _ rfl rfl (some ⟨wr.heap.size, 0, none⟩) 1 1 rfl HBX.out (fun e => by cases e) HZ.out ?_; intro v6 w6 s6; obtain ⟨ga, gc, rfl⟩ := r_form s6 0 rfl rfl (fun _ => rfl); have c2 := s6.cell 1 rfl 1; have f2 := s6.frozen 1 rfl 1; have HS6 := hid (s6.write 1 rfl 1 (.slice ga (ps ++ [(c, x)]).length gc)); clear s6))
      go_end0
      exact ⟨rfl, .slice ga (ps.length + 1) gc, by rw [HE.out]; have := HS6.out; rw [show (ps ++ [(c, x)]).length = ps.length + 1 by simp] at this; exact this⟩
end Go.Proofs.Ytnmlnjljmikmpaa

namespace Go.Proofs.Ytnmlnjljmikmpaa
open Go.RowKit Go.Shelf
set_option linter.unusedVariables false
set_option linter.unusedSimpArgs false
attribute [local go_sem ↓] Go.wp_at_zero Go.wp_at_succ

def putL (ps qs : List Pr) : List Pr := qs.foldl (fun l p => putP l p.1 p.2) ps
theorem putL_next {ps qs : List Pr} {j : Nat} {p : Pr} (h : qs[j]? = some p) : putL ps (qs.take (j + 1)) = putP (putL ps (qs.take j)) p.1 p.2 := by
  unfold putL
  rw [List.take_add_one, h, List.foldl_append]
  rfl
theorem putL_len : ∀ (qs ps : List Pr), (putL ps qs).length ≤ ps.length + qs.length
  | [], ps => by simp [putL]
  | q :: qs, ps => by
    have h := putL_len qs (putP ps q.1 q.2)
    have h2 := putP_len ps q.1 q.2
    simp only [putL, List.foldl_cons, List.length_cons] at h ⊢
    omega
theorem uq_putL : ∀ (qs ps : List Pr), Uq ps → Uq (putL ps qs) ∧ ∀ start, memO start (ovP (putL ps qs)) = updL (memO start (ovP ps)) qs
  | [], ps, h => ⟨h, fun _ => rfl⟩
  | q :: qs, ps, h => by
    have h1 := uq_put h q.1 q.2
    have h2 := uq_putL qs (putP ps q.1 q.2) h1.1
    refine ⟨h2.1, fun start => ?_⟩
    show memO start (ovP (putL (putP ps q.1 q.2) qs)) = _
    rw [h2.2, h1.2, memO_set]
    rfl
set_option maxRecDepth 100000 in
set_option maxHeartbeats 4000000 in
theorem rLeaves_any {o w : World} {R : List It} {ps : List Pr} {g : Nat} {st v : Value} {m : Sm} (h : St o (lstR pC 86 2 v ps :: boxI g #[st, v] 73 :: R) w) (hm : SIn o m) (hn : ps.length + (wrM m.s.ms).length < 2932031007317) :
    Calls Try.prog 35 #[.pointer (some ⟨g, 0, none⟩), syV m] w fun e w' => ∃ v', e = .returned (.tuple #[]) ∧ St o (lstR pC 86 2 v' (putL ps (leavesL m.s)) :: boxI g #[st, v'] 73 :: R) w' := by
  have HW := hid (fun W (k : Kept (fun _ => False) o W) => rWrites_any (w := W) m (hm.kept k))
  have HPUT := hid (fun W (v : Value) (ps' : List Pr) (S : List It) (c x : Int) (hs : St o (lstR pC 86 2 v ps' :: boxI g #[st, v] 73 :: S) W) (hl : ps'.length < 2932031007317) => rPut_any (o := o) (w := W) (R := S) hs c x hl)
  obtain ⟨⟨z0, z1, z2, z3, z4, z5, z6, z7, z8, ms⟩, la, lc⟩ := m
  unfold syV at *
  simp only at *
  have HN := hid hn
  have s1 := h.box #[.int .i64 z0, .int .i64 z1, .int .i64 z2, .int .i64 z3, .int .i64 z4, .int .i64 z5, .int .i64 z6, .int .i64 z7, .int .i64 z8, .slice la ms.length lc] 44
  generalize hw1 : w.alloc (.cells #[.int .i64 z0, .int .i64 z1, .int .i64 z2, .int .i64 z3, .int .i64 z4, .int .i64 z5, .int .i64 z6, .int .i64 z7, .int .i64 z8, .slice la ms.length lc] 44) = w1 at *
  generalize hE : w.heap.size = E at *
  have HS1 := hid s1
  have c4 := s1.cell 0 rfl 4
  clear h hm hn s1
  by_cases h1 : z4 = 1
  · subst h1
    have t1 : ((1 : Int) != 1) = false := rfl
    have c0 := HS1.out.cell 0 rfl 0
    have c1 := HS1.out.cell 0 rfl 1
    have c2 := HS1.out.cell 0 rfl 2
    have c3 := HS1.out.cell 0 rfl 3
    have c5 := HS1.out.cell 0 rfl 5
    have c6 := HS1.out.cell 0 rfl 6
    have c7 := HS1.out.cell 0 rfl 7
    have c8 := HS1.out.cell 0 rfl 8
    have c9 := HS1.out.cell 0 rfl 9
    have hW := HW.out _ HS1.out.same
    go_enter Try.func35, Try.ntmps35
    go_upto_region 4 with (first | simp only [hw1, hE] | (go_at_call 52; refine hW.mono ?_; rintro e w2 ⟨vw, rfl, hs2⟩; obtain ⟨wa, wc, rfl⟩ := r_form hs2 0 rfl rfl (fun _ => rfl); have HS2 := hid (St.over HS1.out hs2); clear hs2))
    clear hW HW c0 c1 c2 c3 c4 c5 c6 c7 c8 c9 HS1
    have HQ : Hid (leavesL ⟨z0, z1, z2, z3, 1, z5, z6, z7, z8, ms⟩ = wrM ms) := hid (by unfold leavesL; rw [if_pos rfl])
    generalize hqs : wrM ms = qs at *
    have hql : (qs.length : Int) ≤ 2932031007317 := by have := HN.out; omega
    go_loopw [5] (fun i wr => ∃ (j : Nat) (v' : Value), i = .int .i64 j ∧ j ≤ qs.length ∧ St o (lstR pC 86 2 v' (putL ps (qs.take j)) :: boxI g #[st, v'] 73 :: lstR pC 86 2 (.slice wa qs.length wc) qs :: boxI E #[.int .i64 z0, .int .i64 z1, .int .i64 z2, .int .i64 z3, .int .i64 1, .int .i64 z5, .int .i64 z6, .int .i64 z7, .int .i64 z8, .slice la ms.length lc] 44 :: R) wr) (fun i _ => qs.length - (intOf i).toNat)
    case atStart => exact ⟨0, v, rfl, Nat.zero_le _, HS2.out.perm ((List.perm_append_comm (l₁ := [_, _]) (l₂ := [_, _])).append_right R)⟩
    case round =>
      clear HS2
      obtain ⟨j, v', rfl, hj, hst⟩ := hrel
      by_cases hlt : j < qs.length
      · have hlt' : (j : Int) < (qs.length : Int) := by omega
        have hj0 : (0 : Int) ≤ (j : Int) := by omega
        have HJ : Hid (j + 1 ≤ qs.length ∧ qs.length - (j + 1) < qs.length - j) := hid ⟨by omega, by omega⟩
        obtain ⟨⟨pc, px⟩, hp⟩ : ∃ p, qs[j]? = some p := ⟨_, List.getElem?_eq_getElem hlt⟩
        obtain ⟨g3, cap, hv⟩ := hst.form 2 rfl (by omega)
        simp only [Value.slice.injEq, true_and] at hv
        obtain ⟨rfl, rfl⟩ := hv
        have hsd := hst.drew
        have r := st_rin (f := pC) hsd 2 rfl rfl (fun _ => rfl)
        have q0 := r.at (k := 2) (fun _ => rfl) hp 0 _ rfl
        have q1 := r.at (k := 2) (fun _ => rfl) hp 1 _ rfl
        rw [Nat.add_zero, Nat.zero_add] at q0
        rw [Nat.zero_add] at q1
        have hP := HPUT.out wr.drew v' (putL ps (qs.take j)) _ pc px hsd (by have := putL_len (qs.take j) ps; rw [List.length_take] at this; have := HN.out; omega)
        have HNX := hid (putL_next (ps := ps) hp)
        clear r hp hj hlt hst hsd
        go_upto_region 6 with fail
        go_region_with (go_at_call 40; refine hP.mono ?_; rintro e w5 ⟨v5, rfl, hs5⟩; have HS5 := hid hs5; clear hs5)
        all_goals
          go_wp2
          go_roundw
        all_goals first
          | exact ⟨j + 1, v5, by simp, HJ.out.1, by rw [HNX.out]; exact HS5.out⟩
          | (have := HJ.out.2; simp [intOf]; omega)
      · have hlt' : ¬ (j : Int) < (qs.length : Int) := by omega
        have e : qs.take j = qs := List.take_of_length_le (by omega)
        rw [e] at hst
        have HF := hid (hst.perm ((List.perm_append_comm (l₁ := [_, _]) (l₂ := [_, _])).append_right R)).pop.pop
        clear hst e hlt hj HPUT
        go_wp2
        go_end0
        exact ⟨rfl, _, by rw [HQ.out]; exact HF.out⟩
  · have t1 : (z4 != 1) = true := by simpa using h1
    have HE : Hid (leavesL ⟨z0, z1, z2, z3, z4, z5, z6, z7, z8, ms⟩ = []) := hid (by unfold leavesL; rw [if_neg h1])
    have HF := hid ((HS1.out.pop))
    clear h1 HW HPUT HS1
    go_enter Try.func35, Try.ntmps35
    go_wp2_with (simp only [hw1, hE])
    refine bodyPost_ret (v := .tuple #[]) ?_ rfl ⟨_, rfl, by rw [HE.out]; exact HF.out⟩
    simp [results, Try.f35, go_sem]
end Go.Proofs.Ytnmlnjljmikmpaa

namespace Go.Proofs.Ytnmlnjljmikmpaa
open Go.RowKit Go.Shelf
set_option linter.unusedVariables false
set_option linter.unusedSimpArgs false
attribute [local go_sem ↓] Go.wp_at_zero Go.wp_at_succ

theorem uq_take {ps : List Pr} (h : Uq ps) (k : Nat) : Uq (ps.take k) := List.Pairwise.sublist (List.take_sublist k ps) h
theorem ovP_here {ps : List Pr} (h : Uq ps) {k : Nat} {c y : Int} (hp : ps[k]? = some (c, y)) : ovP (ps.take (k + 1)) c = some y :=
  ovP_at (uq_take h (k + 1)) (j := k) (by rw [List.getElem?_take_of_lt (by omega)]; exact hp)
theorem ovP_past {ps : List Pr} {k : Nat} {p : Pr} {c : Int} (hp : ps[k]? = some p) (hc : p.1 ≠ c) : ovP (ps.take (k + 1)) c = ovP (ps.take k) c := by
  unfold ovP
  have e : (p.1 == c) = false := by simpa using hc
  rw [List.take_add_one, hp, List.find?_append]
  simp [e]
set_option maxRecDepth 100000 in
set_option maxHeartbeats 8000000 in
theorem rExpl_any {w : World} {sa la : Option Addr} {sn sc n lc g : Nat} {start : List Int} {ps : List Pr} {m : Sm} (hs : RIn iC w sa sn start) (hl : RIn pC w la n ps) (hu : Uq ps) (h0 : w.cell? ⟨g, 0, none⟩ = some (.slice sa sn sc)) (h1 : w.cell? ⟨g, 1, none⟩ = some (.slice la n lc)) (hm : SIn w m) (hsn : (sn : Int) ≤ 9223372036854775807) (hn : (n : Int) ≤ 9223372036854775807) :
    Calls Try.prog 34 #[.pointer (some ⟨g, 0, none⟩), syV m] w fun e w' => e = .returned (.bool (okS (memO start (ovP ps)) m.s)) ∧ Kept (fun _ => False) w w' := by
  have cc := fun W (k : Kept (fun _ => False) w W) => (show W.cell? ⟨g, 0, none⟩ = some (.slice sa sn sc) ∧ W.cell? ⟨g, 1, none⟩ = some (.slice la n lc) from ⟨by rw [World.cell?_of_block (k.block g (World.block_lt_of_cell? w _ h0) (fun f => f))]; exact h0, by rw [World.cell?_of_block (k.block g (World.block_lt_of_cell? w _ h1) (fun f => f))]; exact h1⟩)
  have HGET := hid (fun W (k : Kept (fun _ => False) w W) (c : Int) => rGet_any (w := W) (sc := sc) (lc := lc) (hs.kept k) (hl.kept k) hu (cc W k).1 (cc W k).2 c hsn hn)
  have HPUT := hid (fun W (B : Nat) (st v : Value) (os : List Pr) (S : List It) (c x : Int) (hs : St w (lstR pC 86 2 v os :: boxI B #[st, v] 73 :: S) W) (hl : os.length < 2932031007317) => rPut_any (o := w) (w := W) (R := S) hs c x hl)
  have HM := hid hm
  obtain ⟨⟨z0, z1, z2, z3, z4, z5, z6, z7, z8, ms⟩, ma, mc⟩ := m
  unfold syV okS at *
  simp only at *
  have hml : (ms.length : Int) ≤ 2932031007317 := by have := hm.2.1; simp only at this; omega
  generalize memO start (ovP ps) = mem at *
  have s1 := (St.nil w).box #[.int .i64 z0, .int .i64 z1, .int .i64 z2, .int .i64 z3, .int .i64 z4, .int .i64 z5, .int .i64 z6, .int .i64 z7, .int .i64 z8, .slice ma ms.length mc] 44
  generalize hw1 : w.alloc (.cells #[.int .i64 z0, .int .i64 z1, .int .i64 z2, .int .i64 z3, .int .i64 z4, .int .i64 z5, .int .i64 z6, .int .i64 z7, .int .i64 z8, .slice ma ms.length mc] 44) = w1 at *
  generalize hE : w.heap.size = E at *
  have s2 := s1.box #[.slice none 0 0, .slice none 0 0] 73
  generalize hw2 : w1.alloc (.cells #[.slice none 0 0, .slice none 0 0] 73) = w2 at *
  generalize hB : w1.heap.size = B at *
  have HS2 := hid (r_nil pC 86 2 s2)
  clear hs hl hu h0 h1 hm cc s1 s2
  go_enter Try.func34, Try.ntmps34
  go_upto_region 3 with (first | simp only [hw1, hE] | simp only [hw2, hB])
  go_loopw [6] (fun i wr => ∃ (j : Nat) (os : List Pr) (vo : Value), i = .int .i64 j ∧ j ≤ ms.length ∧ Uq os ∧ os.length ≤ j ∧ okMs mem (fun _ => none) ms = okMs mem (ovP os) (ms.drop j) ∧ St w [lstR pC 86 2 vo os, boxI B #[.slice none 0 0, vo] 73, boxI E #[.int .i64 z0, .int .i64 z1, .int .i64 z2, .int .i64 z3, .int .i64 z4, .int .i64 z5, .int .i64 z6, .int .i64 z7, .int .i64 z8, .slice ma ms.length mc] 44] wr) (fun i _ => ms.length - (intOf i).toNat)
  case atStart => exact ⟨0, [], _, rfl, Nat.zero_le _, Uq.nil, Nat.le_refl _, rfl, HS2.out⟩
  case round =>
    clear HS2 hw1 hw2 hE hB
    obtain ⟨j, os, vo, rfl, hj, huq, hol, hok, hst⟩ := hrel
    have c9 := hst.cell 2 rfl 9
    obtain ⟨va, vc, rfl⟩ := r_form hst 0 rfl rfl (fun _ => rfl)
    by_cases hlt : j < ms.length
    · have hlt' : (j : Int) < (ms.length : Int) := by omega
      have hj0 : (0 : Int) ≤ (j : Int) := by omega
      have HJ : Hid (j + 1 ≤ ms.length ∧ ms.length - (j + 1) < ms.length - j) := hid ⟨by omega, by omega⟩
      obtain ⟨⟨xst, xwr, xce, xx, xow, xga⟩, hx⟩ : ∃ x, ms[j]? = some x := ⟨_, List.getElem?_eq_getElem hlt⟩
      obtain ⟨mg, moff, rfl⟩ := HM.out.1.addr (by simp only; omega)
      have q := fun i u hu => (HM.out.1.kept hst.same).at (k := 6) (fun _ => rfl) hx i u hu
      have q0 := q 0 _ rfl
      have q1 := q 1 _ rfl
      have q2 := q 2 _ rfl
      have q3 := q 3 _ rfl
      have q4 := q 4 _ rfl
      have q5 := q 5 _ rfl
      rw [Nat.add_zero] at q0
      simp only at q0 q1 q2 q3 q4 q5
      have ed : ms.drop j = ⟨xst, xwr, xce, xx, xow, xga⟩ :: ms.drop (j + 1) := by
        rw [List.drop_eq_getElem_cons hlt]
        rw [List.getElem?_eq_getElem hlt] at hx
        simp only [Option.some.injEq] at hx
        rw [hx]
      rw [ed] at hok
      have HOK := hid hok
      have HUQ := hid huq
      have HOL := hid hol
      have s5 := hst.box #[.int .i64 xst, .bool xwr, .int .i64 xce, .int .i64 xx, .bool xow, .int .i64 xga] 46
      generalize hw5 : wr.alloc (.cells #[.int .i64 xst, .bool xwr, .int .i64 xce, .int .i64 xx, .bool xow, .int .i64 xga] 46) = w5 at *
      generalize hX : wr.heap.size = X at *
      have HS5 := hid s5
      have hob : (os.length : Int) ≤ 2932031007317 := by omega
      have HOB : Hid (os.length < 2932031007317) := hid (by have := HM.out.2.1; simp only at this; omega)
      clear q hx ed hok huq hol hst hlt hj
      go_upto_region 6 with (simp only [hw5, hX])
      have e1 := s5.cell 0 rfl 1
      have e2 := s5.cell 0 rfl 2
      have e3 := s5.cell 0 rfl 3
      clear c9 q0 q1 q2 q3 q4 q5 hw5 hX s5
      cases xwr with
      | true =>
        have hP := HPUT.out w5 B (.slice none 0 0) (.slice va os.length vc) os _ xce xx (HS5.out.perm ((List.perm_append_comm (l₁ := [_]) (l₂ := [_, _])).append_right [_])) HOB.out
        have HNX : Hid (okMs mem (fun _ => none) ms = okMs mem (ovP (putP os xce xx)) (ms.drop (j + 1))) := hid (by rw [HOK.out, (uq_put HUQ.out xce xx).2]; simp [okMs])
        have HNU := hid (uq_put HUQ.out xce xx).1
        have HNL : Hid ((putP os xce xx).length ≤ j + 1) := hid (by have := putP_len os xce xx; have := HOL.out; omega)
        clear HOK
        go_wp2_with (go_at_call 40; refine hP.mono ?_; rintro e w6 ⟨v6, rfl, hs6⟩; have HS6 := hid (hs6.perm ((List.perm_append_comm (l₁ := [_, _]) (l₂ := [_])).append_right [_])).pop; clear hs6)
        all_goals
          go_roundw
        all_goals first
          | exact ⟨j + 1, _, v6, by simp, HJ.out.1, HNU.out, HNL.out, HNX.out, HS6.out⟩
          | (have := HJ.out.2; simp [intOf]; omega)
      | false =>
        have hG := HGET.out w5 HS5.out.same xce
        have HNX : Hid (okMs mem (fun _ => none) ms = (((ovP os xce).getD (mem xce) == xx) && okMs mem (ovP os) (ms.drop (j + 1)))) := hid (by rw [HOK.out]; simp [okMs])
        clear HOK
        go_upto_region 9 with (go_at_call 41; refine hG.mono ?_; rintro e w6 ⟨rfl, hk6⟩; have HS6 := hid (HS5.out.calm hk6); clear hk6)
        clear hG e1 e2 e3
        go_upto_region 10 with fail
        go_loopw [8, 9] (fun wn kv wr2 => ∃ t : Nat, kv = .int .i64 t ∧ t ≤ os.length ∧ wn = .int .i64 ((ovP (os.take t) xce).getD (mem xce)) ∧ St w [boxI X #[.int .i64 xst, .bool false, .int .i64 xce, .int .i64 xx, .bool xow, .int .i64 xga] 46, lstR pC 86 2 (.slice va os.length vc) os, boxI B #[.slice none 0 0, .slice va os.length vc] 73, boxI E #[.int .i64 z0, .int .i64 z1, .int .i64 z2, .int .i64 z3, .int .i64 z4, .int .i64 z5, .int .i64 z6, .int .i64 z7, .int .i64 z8, .slice (some ⟨mg, moff, none⟩) ms.length mc] 44] wr2) (fun _ kv _ => os.length - (intOf kv).toNat)
        case atStart => exact ⟨0, rfl, Nat.zero_le _, rfl, HS6.out⟩
        case round =>
          clear HS6 HS5
          obtain ⟨t, rfl, ht, rfl, hst⟩ := hrel
          have HS := hid hst
          have b1 := hst.cell 2 rfl 1
          have e2 := hst.cell 0 rfl 2
          have e3 := hst.cell 0 rfl 3
          by_cases htl : t < os.length
          · have htl' : (t : Int) < (os.length : Int) := by omega
            have ht0 : (0 : Int) ≤ (t : Int) := by omega
            have HT : Hid (t + 1 ≤ os.length ∧ os.length - (t + 1) < os.length - t) := hid ⟨by omega, by omega⟩
            obtain ⟨⟨pc, py⟩, hp⟩ : ∃ p, os[t]? = some p := ⟨_, List.getElem?_eq_getElem htl⟩
            obtain ⟨g3, cap, hv⟩ := hst.form 1 rfl (by omega)
            clear HS
            simp only [Value.slice.injEq, true_and] at hv
            obtain ⟨rfl, rfl⟩ := hv
            have HS := hid hst.drew
            have d1 := HS.out.cell 2 rfl 1
            have d2 := HS.out.cell 0 rfl 2
            have r := st_rin (f := pC) HS.out 1 rfl rfl (fun _ => rfl)
            have p0 := r.at (k := 2) (fun _ => rfl) hp 0 _ rfl
            have p1 := r.at (k := 2) (fun _ => rfl) hp 1 _ rfl
            rw [Nat.add_zero, Nat.zero_add] at p0
            rw [Nat.zero_add] at p1
            have HP := hid hp
            clear r hp ht htl hst
            by_cases hc : pc = xce
            · subst hc
              have t1 : (pc == pc) = true := by simp
              have HE := hid (ovP_here HUQ.out HP.out)
              go_upto_region 12 with fail
              go_region
              go_wp2
              go_roundw
              case rel => exact ⟨t + 1, by simp, HT.out.1, by rw [HE.out]; rfl, HS.out⟩
              case measure => have := HT.out.2; simp [intOf]; omega
            · have t1 : (pc == xce) = false := by simpa using hc
              have HE := hid (ovP_past HP.out hc)
              clear hc
              go_upto_region 12 with fail
              go_region
              go_wp2
              go_roundw
              case rel => exact ⟨t + 1, by simp, HT.out.1, by rw [HE.out], HS.out⟩
              case measure => have := HT.out.2; simp [intOf]; omega
          · have htl' : ¬ (t : Int) < (os.length : Int) := by omega
            have et : os.take t = os := List.take_of_length_le (by omega)
            rw [et]
            generalize (ovP os xce).getD (mem xce) = wv at *
            have HSP := hid hst.pop
            clear hst ht htl et
            by_cases hw : wv = xx
            · subst hw
              have t1 : (wv != wv) = false := by simp
              have HNY : Hid (okMs mem (fun _ => none) ms = okMs mem (ovP os) (ms.drop (j + 1))) := hid (by rw [HNX.out]; simp)
              have HOL2 : Hid (os.length ≤ j + 1) := hid (by have := HOL.out; omega)
              go_wp2
              go_roundw
              case rel => exact ⟨j + 1, os, _, by simp, HJ.out.1, HUQ.out, HOL2.out, HNY.out, HSP.out⟩
              case measure => have := HJ.out.2; simp [intOf]; omega
            · have t1 : (wv != xx) = true := by simpa using hw
              have HNY : Hid (okMs mem (fun _ => none) ms = false) := hid (by rw [HNX.out]; simp [hw])
              clear hw
              go_wp2
              go_ret
              exact ⟨by rw [HNY.out]; rfl, HSP.out.same⟩
    · have hlt' : ¬ (j : Int) < (ms.length : Int) := by omega
      have e : ms.drop j = [] := List.drop_of_length_le (by omega)
      rw [e] at hok
      have HOK := hid hok
      have HK := hid hst.same
      clear hok hst hlt hj e huq hol
      go_wp2
      go_ret
      exact ⟨by rw [HOK.out]; rfl, HK.out⟩
end Go.Proofs.Ytnmlnjljmikmpaa
