/- The document's Writes; samePairs. -/
import Derived.Test.YtnmlnjljmikmpaaHb
namespace Go.Proofs.Ytnmlnjljmikmpaa
open Go.RowKit Go.Shelf
set_option linter.unusedVariables false
set_option linter.unusedSimpArgs false
attribute [local go_sem ↓] Go.wp_at_zero Go.wp_at_succ

theorem wrM_next {ms : List Mv} {j : Nat} {x : Mv} (h : ms[j]? = some x) : wrM (ms.take (j + 1)) = if x.wr = true then putP (wrM (ms.take j)) x.ce x.x else wrM (ms.take j) := by
  rw [take_nextM h]
  unfold wrM
  rw [List.filter_append]
  by_cases e : x.wr = true
  · rw [if_pos e, show [x].filter Mv.puts = [x] by simp [Mv.puts, e], wrs_snoc]
  · rw [if_neg e, show [x].filter Mv.puts = [] by simp [Mv.puts, e], List.append_nil]
theorem wrM_len (ms : List Mv) : (wrM ms).length ≤ ms.length := by
  unfold wrM wrs
  have h1 := wrs_len (ms.filter Mv.puts) []
  have h2 := List.length_filter_le Mv.puts ms
  simp only [List.length_nil] at h1
  omega
theorem keyAt_here {ps : List Pr} {c y : Int} {k : Nat} (h : ps[k]? = some (c, y)) (hb : ∀ (i : Nat) p, i < k → ps[i]? = some p → p.1 ≠ c) : keyAt ps c = some k := by
  unfold keyAt
  rw [List.findIdx?_eq_some_iff_getElem]
  obtain ⟨h1, h2⟩ := List.getElem?_eq_some_iff.1 h
  refine ⟨h1, by rw [h2]; simp, fun j hj => ?_⟩
  have := hb j _ hj (List.getElem?_eq_getElem (by omega))
  simpa using this
theorem keyAt_nowhere {ps : List Pr} {c : Int} (hb : ∀ (i : Nat) p, i < ps.length → ps[i]? = some p → p.1 ≠ c) : keyAt ps c = none := by
  unfold keyAt
  rw [List.findIdx?_eq_none_iff]
  intro x hx
  obtain ⟨i, hi⟩ := List.mem_iff_getElem?.1 hx
  have := hb i x (List.getElem?_eq_some_iff.1 hi).1 hi
  simpa using this
theorem pair_cell {o w : World} {its : List It} {ps : List Pr} {g n cap : Nat} (h : St o its w) (i : Nat) (hi : its[i]? = some (ownI 86 2 (.slice (some ⟨g, 0, none⟩) n cap) n (fl pC ps))) (hn : n = ps.length) {k : Nat} {p : Pr} (hp : ps[k]? = some p) : w.cell? ⟨g, k * 2, none⟩ = some (.int .i64 p.1) ∧ w.cell? ⟨g, k * 2 + 1, none⟩ = some (.int .i64 p.2) ∧ w.frozen? ⟨g, k * 2 + 1, none⟩ = false := by
  have r := st_rin (f := pC) (xs := ps) h i hi hn (fun _ => rfl)
  have q0 := r.at (k := 2) (fun _ => rfl) hp 0 _ rfl
  have q1 := r.at (k := 2) (fun _ => rfl) hp 1 _ rfl
  simp only [Nat.zero_add, Nat.add_zero] at q0 q1
  exact ⟨q0, q1, h.ownFrozen i hi _⟩
theorem found_st {o w : World} {R : List It} {ps : List Pr} {g cap k : Nat} {pc px xce : Int} {A : It} (h : St o (A :: lstR pC 86 2 (.slice (some ⟨g, 0, none⟩) ps.length cap) ps :: R) w) (hp : ps[k]? = some (pc, px)) (he : pc = xce) (xx : Int) : St o (lstR pC 86 2 (.slice (some ⟨g, 0, none⟩) ps.length cap) (ps.set k (xce, xx)) :: R) (w.setCell ⟨g, k * 2 + 1, none⟩ (.int .i64 xx)) := by
  subst he
  have := (r_set (f := pC) (k := 2) (fun _ => rfl) h 1 rfl rfl hp 1 (by omega) (.int .i64 xx) (x' := (pc, xx)) rfl).pop
  show St o (ownI _ _ _ (ps.set k (pc, xx)).length _ :: R) _
  rw [List.length_set]
  exact this
theorem new_st {w w1' : World} {v1 : Value} {ps : List Pr} {xce xx xst xga : Int} {xow : Bool} {E B : Nat} {cs : Array Value} (h : St w [lstR pC 86 2 v1 (ps ++ [(xce, 0)]), boxI B #[.int .i64 xst, .bool true, .int .i64 xce, .int .i64 xx, .bool xow, .int .i64 xga] 46, boxI E cs 44] w1') :
    ∃ g1 cap1, v1 = .slice (some ⟨g1, 0, none⟩) (ps.length + 1) cap1 ∧ w1'.cell? ⟨B, 3, none⟩ = some (.int .i64 xx) ∧ w1'.cell? ⟨g1, ps.length * 2 + 1, none⟩ = some (.int .i64 0) ∧ w1'.frozen? ⟨g1, ps.length * 2 + 1, none⟩ = false ∧ St w [lstR pC 86 2 (.slice (some ⟨g1, 0, none⟩) (ps.length + 1) cap1) (ps ++ [(xce, xx)]), boxI E cs 44] (w1'.setCell ⟨g1, ps.length * 2 + 1, none⟩ (.int .i64 xx)) := by
  have e : (ps ++ [(xce, (0 : Int))]).length = ps.length + 1 := by simp
  have h2 : St w [ownI 86 2 v1 (ps.length + 1) (fl pC (ps ++ [(xce, 0)])), boxI B #[.int .i64 xst, .bool true, .int .i64 xce, .int .i64 xx, .bool xow, .int .i64 xga] 46, boxI E cs 44] w1' := by rw [← e]; exact h
  obtain ⟨g1, cap1, rfl⟩ := h2.form 0 rfl (by omega)
  have hp : (ps ++ [(xce, (0 : Int))])[ps.length]? = some (xce, 0) := by simp
  obtain ⟨-, q1, qf⟩ := pair_cell h2 0 rfl e.symm hp
  refine ⟨g1, cap1, rfl, h2.cell 1 rfl 3, q1, qf, ?_⟩
  have := r_set (f := pC) (k := 2) (fun _ => rfl) h2 0 rfl e.symm hp 1 (by omega) (.int .i64 xx) (x' := (xce, xx)) rfl
  have e2 : (ps ++ [(xce, (0 : Int))]).set ps.length (xce, xx) = ps ++ [(xce, xx)] := by simp
  rw [e2] at this
  have e3 : (ps ++ [(xce, xx)]).length = ps.length + 1 := by simp
  have s3 : St w [ownI 86 2 (.slice (some ⟨g1, 0, none⟩) (ps.length + 1) cap1) (ps.length + 1) (fl pC (ps ++ [(xce, xx)])), boxI B #[.int .i64 xst, .bool true, .int .i64 xce, .int .i64 xx, .bool xow, .int .i64 xga] 46, boxI E cs 44] (w1'.setCell ⟨g1, ps.length * 2 + 1, none⟩ (.int .i64 xx)) := this
  have s4 := (s3.perm (List.Perm.swap _ _ _)).pop
  show St w [ownI _ _ _ (ps ++ [(xce, xx)]).length _, _] _
  rw [e3]
  exact s4
set_option maxRecDepth 100000 in
set_option maxHeartbeats 4000000 in
theorem rWrites_any {w : World} (m : Sm) (hm : SIn w m) : Calls Try.prog 52 #[syV m] w fun e w' => ∃ v, e = .returned v ∧ St w [lstR pC 86 2 v (wrM m.s.ms)] w' := by
  obtain ⟨hl, hb, hrg⟩ := hm
  obtain ⟨⟨z0, z1, z2, z3, z4, z5, z6, z7, z8, ms⟩, la, lc⟩ := m
  simp only at hl hb hrg
  have a1 := (St.nil w).box #[.int .i64 z0, .int .i64 z1, .int .i64 z2, .int .i64 z3, .int .i64 z4, .int .i64 z5, .int .i64 z6, .int .i64 z7, .int .i64 z8, .slice la ms.length lc] 44
  unfold syV
  simp only
  generalize hw1 : w.alloc (.cells #[.int .i64 z0, .int .i64 z1, .int .i64 z2, .int .i64 z3, .int .i64 z4, .int .i64 z5, .int .i64 z6, .int .i64 z7, .int .i64 z8, .slice la ms.length lc] 44) = w1 at *
  generalize hE : w.heap.size = E at *
  have HL := hid hl
  have hb1 : (ms.length : Int) ≤ 2932031007317 := by omega
  have HA1 := hid a1
  have HS0 := hid (r_nil pC 86 2 a1)
  clear a1 hl hb hrg HA1
  go_enter Try.func52, Try.ntmps52
  go_upto_region 3 with (simp only [hw1, hE])
  go_loopw [3, 4] (fun v i wr => ∃ (j : Nat), i = .int .i64 j ∧ j ≤ ms.length ∧ St w [lstR pC 86 2 v (wrM (ms.take j)), boxI E #[.int .i64 z0, .int .i64 z1, .int .i64 z2, .int .i64 z3, .int .i64 z4, .int .i64 z5, .int .i64 z6, .int .i64 z7, .int .i64 z8, .slice la ms.length lc] 44] wr) (fun _ i _ => ms.length - (intOf i).toNat)
  case atStart => exact ⟨0, rfl, Nat.zero_le _, HS0.out⟩
  case round =>
    clear HS0
    obtain ⟨j, rfl, hj, hs⟩ := hrel
    have c9 := hs.cell 1 rfl 9
    have HS := hid hs
    by_cases hlt : j < ms.length
    · have hlt' : (j : Int) < (ms.length : Int) := by omega
      have hj0 : (0 : Int) ≤ (j : Int) := by omega
      obtain ⟨g, off, rfl⟩ := HL.out.addr (by omega)
      obtain ⟨⟨xst, xwr, xce, xx, xow, xga⟩, hx⟩ : ∃ x, ms[j]? = some x := ⟨_, List.getElem?_eq_getElem hlt⟩
      have HT := hid (wrM_next hx)
      have q := fun i u hu => (HL.out.kept HS.out.same).at (k := 6) (fun _ => rfl) hx i u hu
      have q0 := q 0 _ rfl
      have q1 := q 1 _ rfl
      have q2 := q 2 _ rfl
      have q3 := q 3 _ rfl
      have q4 := q 4 _ rfl
      have q5 := q 5 _ rfl
      rw [Nat.add_zero] at q0
      clear q
      have HJ : Hid (j + 1 ≤ ms.length ∧ ms.length - (j + 1) < ms.length - j) := hid ⟨by omega, by omega⟩
      have HLE : Hid ((wrM (ms.take j)).length + 1 ≤ ms.length) := hid (by
        have h1 := wrM_len (ms.take j)
        rw [List.length_take] at h1
        omega)
      clear hx hj hlt hs
      cases xwr
      · have HB := hid ((HS.out.box #[.int .i64 xst, .bool false, .int .i64 xce, .int .i64 xx, .bool xow, .int .i64 xga] 46).pop)
        have b1 := (HS.out.box #[.int .i64 xst, .bool false, .int .i64 xce, .int .i64 xx, .bool xow, .int .i64 xga] 46).cell 0 rfl 1
        go_wp2
        go_roundw
        case rel =>
          refine ⟨j + 1, by simp, HJ.out.1, ?_⟩
          rw [HT.out, if_neg (by simp)]
          exact HB.out
        case measure => have := HJ.out.2; simp [intOf]; omega
      · have hB := HS.out.box #[.int .i64 xst, .bool true, .int .i64 xce, .int .i64 xx, .bool xow, .int .i64 xga] 46
        have b1 := hB.cell 0 rfl 1
        obtain ⟨ps, hps⟩ : ∃ ps, ps = wrM (ms.take j) := ⟨_, rfl⟩
        rw [← hps] at hB HLE HT
        obtain ⟨va, vc, rfl, -, -, -⟩ := r_rin hB 1 rfl (fun _ => rfl)
        have HB := hid hB
        have HPS := hid hps
        clear hB hps HS
        go_upto_region 8 with fail
        clear b1 c9 q0 q1 q2 q3 q4 q5
        generalize wr.alloc (.cells #[.int .i64 xst, .bool true, .int .i64 xce, .int .i64 xx, .bool xow, .int .i64 xga] 46) = w2 at *
        generalize wr.heap.size = B at *
        have hpl : (ps.length : Int) ≤ 2932031007317 := by have := HLE.out; omega
        go_loopw [6] (fun i wq => ∃ (k : Nat), i = .int .i64 k ∧ k ≤ ps.length ∧ (∀ (i : Nat) p, i < k → ps[i]? = some p → p.1 ≠ xce) ∧ Kept (fun _ => False) w2 wq) (fun i _ => ps.length - (intOf i).toNat)
        case atStart => exact ⟨0, rfl, Nat.zero_le _, fun i p hi => by omega, Kept.refl _ _⟩
        case round =>
          obtain ⟨k, rfl, hk, hno, hkk⟩ := hrel
          have HKK := hid hkk
          have HNO := hid hno
          have HSQ := hid (HB.out.calm hkk)
          have HSD := hid (HB.out.calm hkk.drew)
          have b2 := HSD.out.cell 0 rfl 2
          clear hno
          by_cases hlk : k < ps.length
          · have hlk' : (k : Int) < (ps.length : Int) := by omega
            have hlkd : decide ((k : Int) < (ps.length : Int)) = true := by simpa using hlk'
            have hlkn : decide (k < ps.length) = true := by simpa using hlk
            have hk0 : (0 : Int) ≤ (k : Int) := by omega
            obtain ⟨pg, pcap, hve⟩ := HSD.out.form 1 rfl (by omega)
            cases hve
            obtain ⟨⟨pc, px⟩, hp⟩ : ∃ p, ps[k]? = some p := ⟨_, List.getElem?_eq_getElem hlk⟩
            obtain ⟨p0, p1, pf⟩ := pair_cell HSD.out 1 rfl rfl hp
            have HP := hid hp
            have HJ2 : Hid (k + 1 ≤ ps.length ∧ ps.length - (k + 1) < ps.length - k) := hid ⟨by omega, by omega⟩
            simp only at p0 p1
            by_cases he : pc = xce
            · have te : (pc == xce) = true := by simp [he]
              have HE := hid he
              clear he hlk hk hp hkk
              have tk : ((k : Int) == (ps.length : Int)) = false := by have := hlk'; simp; omega
              have b3 := HSD.out.cell 0 rfl 3
              have HSE := hid ((found_st HSQ.out HP.out HE.out xx).calm (Kept.refl _ _).drew)
              go_upto_region 8 with fail
              go_region
              go_wp2
              go_roundw
              case rel =>
                refine ⟨j + 1, by simp, HJ.out.1, ?_⟩
                rw [HT.out, if_pos trivial]
                unfold putP
                rw [keyAt_here (HE.out ▸ HP.out) HNO.out]
                exact HSE.out
              case measure => have := HJ.out.2; simp [intOf]; omega
            · have te : (pc == xce) = false := by simp [he]
              have HE := hid he
              clear he hlk hk hp hkk
              go_upto_region 8 with fail
              go_region
              go_wp2
              go_roundw
              case rel =>
                refine ⟨k + 1, by simp, HJ2.out.1, fun i p hi hp => ?_, HKK.out.drew⟩
                by_cases e : i = k
                · subst e
                  have := HP.out
                  rw [this] at hp
                  cases hp
                  exact HE.out
                · exact HNO.out i p (by omega) hp
              case measure => have := HJ2.out.2; simp [intOf]; omega
          · have hlk' : ¬ (k : Int) < (ps.length : Int) := by omega
            have hlkd : decide ((k : Int) < (ps.length : Int)) = false := by simp; omega
            have hlkn : decide (k < ps.length) = false := by simp; omega
            obtain rfl : k = ps.length := by omega
            clear hlk hk hkk
            have HBX := hid (r_box (f := pC) (k := 2) (fun _ => rfl) 86 HSD.out (xce, 0) #[.int .i64 xce, .int .i64 0] rfl)
            have HSX := hid ((HSD.out.perm (List.Perm.swap _ _ _)).calm (kept_alloc wr.drew (.cells #[.int .i64 xce, .int .i64 0] 86)))
            have HSZ : Hid ((ps.length + 1) * 16 ≤ 140737488355328) := hid (by have := HLE.out; omega)
            have tk : ((ps.length : Int) < (ps.length : Int) + 1) := by omega
            have HV := hid (fun v1 w1' s1 => new_st (w := w) (w1' := w1') (v1 := v1) (ps := ps) (xce := xce) (E := E) (cs := #[.int .i64 z0, .int .i64 z1, .int .i64 z2, .int .i64 z3, .int .i64 z4, .int .i64 z5, .int .i64 z6, .int .i64 z7, .int .i64 z8, .slice (some ⟨g, off, none⟩) ms.length lc]) (B := B) (xst := xst) (xow := xow) (xga := xga) (xx := xx) s1)
            go_upto_region 8 with fail
            go_region
            go_upto_region 12 with (first | (at_builtin; refine wpList_appR Try.rowP HSX.out rfl _ _ rfl rfl _ 1 1 rfl HBX.out (by simp) HSZ.out ?_; intro v1 w1' s1; obtain ⟨g1, cap1, rfl, k3, kc, kf, hend⟩ := HV.out _ _ s1; have HEND := hid hend; clear s1 hend))
            clear HBX HSX HV
            go_wp2
            go_roundw
            case rel =>
              refine ⟨j + 1, by simp, HJ.out.1, ?_⟩
              rw [HT.out, if_pos trivial]
              unfold putP
              rw [keyAt_nowhere HNO.out]
              exact HEND.out
            case measure => have := HJ.out.2; simp [intOf]; omega
    · have hlt' : ¬ (j : Int) < (ms.length : Int) := by omega
      obtain rfl : j = ms.length := by omega
      rw [List.take_of_length_le (Nat.le_refl _)] at hs
      have HR := hid (St.cut (A := [_]) hs)
      obtain ⟨va, vc, rfl, -, -, -⟩ := r_rin hs 0 rfl (fun _ => rfl)
      clear HS hs hj hlt HL
      go_wp2
      go_ret
      exact ⟨_, rfl, HR.out⟩
end Go.Proofs.Ytnmlnjljmikmpaa
