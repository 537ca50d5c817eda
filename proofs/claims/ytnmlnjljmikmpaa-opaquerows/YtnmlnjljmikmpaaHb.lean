/- The document's Writer and Point; samePairs. -/
import Derived.Test.YtnmlnjljmikmpaaHa
namespace Go.Proofs.Ytnmlnjljmikmpaa
open Go.RowKit Go.Shelf
set_option linter.unusedVariables false
set_option linter.unusedSimpArgs false
attribute [local go_sem ↓] Go.wp_at_zero Go.wp_at_succ

def writerM (s : Sy) : Bool := s.ms.any Mv.puts && s.ft == 1
theorem any_next {ms : List Mv} {j : Nat} {x : Mv} (h : ms[j]? = some x) (h0 : (ms.take j).any Mv.puts = false) (hx : x.wr = false) : (ms.take (j + 1)).any Mv.puts = false := by
  rw [take_nextM h, List.any_append, h0]
  simp [Mv.puts, hx]
theorem any_here {ms : List Mv} {j : Nat} {x : Mv} (h : ms[j]? = some x) (hx : x.wr = true) : ms.any Mv.puts = true := by
  rw [List.any_eq_true]
  exact ⟨x, List.mem_of_getElem? h, hx⟩
set_option maxRecDepth 100000 in
set_option maxHeartbeats 4000000 in
theorem rWriter_any {w : World} (m : Sm) (hm : SIn w m) : Calls Try.prog 71 #[syV m] w fun e w' => e = .returned (.bool (writerM m.s)) ∧ Kept (fun _ => False) w w' := by
  obtain ⟨hl, hb, hrg⟩ := hm
  obtain ⟨⟨z0, z1, z2, z3, z4, z5, z6, z7, z8, ms⟩, la, lc⟩ := m
  simp only at hl hb hrg
  have a1 := (St.nil w).box #[.int .i64 z0, .int .i64 z1, .int .i64 z2, .int .i64 z3, .int .i64 z4, .int .i64 z5, .int .i64 z6, .int .i64 z7, .int .i64 z8, .slice la ms.length lc] 44
  unfold syV
  simp only
  generalize hw1 : w.alloc (.cells #[.int .i64 z0, .int .i64 z1, .int .i64 z2, .int .i64 z3, .int .i64 z4, .int .i64 z5, .int .i64 z6, .int .i64 z7, .int .i64 z8, .slice la ms.length lc] 44) = w1 at *
  generalize hE : w.heap.size = E at *
  have HL := hid hl
  have hb1 : (ms.length : Int) ≤ 2932031007317 := by omega
  have HA1 := hid a1
  have HKS := hid a1.same
  unfold writerM
  simp only
  clear a1 hl hb hrg
  go_enter Try.func71, Try.ntmps71
  go_upto_region 2 with (simp only [hw1, hE])
  go_loopw [3] (fun i wr => ∃ (j : Nat), i = .int .i64 j ∧ j ≤ ms.length ∧ (ms.take j).any Mv.puts = false ∧ Kept (fun _ => False) w1 wr) (fun i _ => ms.length - (intOf i).toNat)
  case atStart => exact ⟨0, rfl, Nat.zero_le _, rfl, Kept.refl _ _⟩
  case round =>
    obtain ⟨j, rfl, hj, hany, hk⟩ := hrel
    have c9 := (HA1.out.calm hk).cell 0 rfl 9
    have c4 := (HA1.out.calm hk).cell 0 rfl 4
    have HK := hid hk
    have HAN := hid hany
    clear hany
    by_cases hlt : j < ms.length
    · have hlt' : (j : Int) < (ms.length : Int) := by omega
      have hj0 : (0 : Int) ≤ (j : Int) := by omega
      obtain ⟨g, off, rfl⟩ := HL.out.addr (by omega)
      obtain ⟨⟨xst, xwr, xce, xx, xow, xga⟩, hx⟩ : ∃ x, ms[j]? = some x := ⟨_, List.getElem?_eq_getElem hlt⟩
      have HX := hid hx
      have q1 := (HL.out.kept (HKS.out.trans hk (fun _ _ f => f))).at (k := 6) (fun _ => rfl) hx 1 _ rfl
      have HJ : Hid (j + 1 ≤ ms.length ∧ ms.length - (j + 1) < ms.length - j) := hid ⟨by omega, by omega⟩
      clear hx hk hj hlt HL
      cases xwr
      · simp only at q1
        go_wp2
        go_roundw
        case rel => exact ⟨j + 1, by simp, HJ.out.1, any_next HX.out HAN.out rfl, HK.out⟩
        case measure => have := HJ.out.2; simp [intOf]; omega
      · simp only at q1
        have e := any_here HX.out rfl
        have HE := hid e
        clear e
        go_wp2
        go_ret
        refine ⟨?_, HKS.out.trans HK.out (fun _ _ f => f)⟩
        rw [HE.out]
        rfl
    · have hlt' : ¬ (j : Int) < (ms.length : Int) := by omega
      have e : ms.any Mv.puts = false := by
        have := HAN.out
        rw [List.take_of_length_le (by omega)] at this
        exact this
      have HE := hid e
      clear e hk HL hj hlt
      go_wp2
      go_ret
      refine ⟨?_, HKS.out.trans HK.out (fun _ _ f => f)⟩
      rw [HE.out]
      rfl
theorem pointM_yes {s : Sy} (h : writerM s = true) : pointM s = (s.ga, s.en) := by
  unfold writerM at h
  simp only [Bool.and_eq_true, beq_iff_eq] at h
  unfold pointM
  rw [if_pos ⟨h.2, h.1⟩]
theorem pointM_no {s : Sy} (h : writerM s = false) : pointM s = lastM (s.op, s.bg) (s.ms.filter Mv.out) := by
  unfold writerM at h
  unfold pointM
  rw [if_neg (fun ⟨a, b⟩ => by rw [b, a] at h; simp at h)]
theorem last_none {ms : List Mv} {d : Int × Int} (h : (ms.drop 0).filter Mv.out = []) : lastM d (ms.filter Mv.out) = d := by
  rw [List.drop_zero] at h
  rw [h]
  rfl
theorem last_here {ms : List Mv} {d : Int × Int} {j : Nat} {x : Mv} (hx : ms[j]? = some x) (h : (ms.drop (j + 1)).filter Mv.out = []) (ho : x.out = true) : lastM d (ms.filter Mv.out) = (x.ga, x.st) := by
  have e : ms = ms.take j ++ [x] ++ ms.drop (j + 1) := by rw [← take_nextM hx, List.take_append_drop]
  rw [e, List.filter_append, h, List.append_nil, List.filter_append, show [x].filter Mv.out = [x] by simp [ho], lastM_snoc]
theorem last_step {ms : List Mv} {j : Nat} {x : Mv} (hx : ms[j]? = some x) (h : (ms.drop (j + 1)).filter Mv.out = []) (ho : x.out = false) : (ms.drop j).filter Mv.out = [] := by
  obtain ⟨h1, h2⟩ := List.getElem?_eq_some_iff.1 hx
  rw [List.drop_eq_getElem_cons h1, List.filter_cons, h2, ho]
  exact h
set_option maxRecDepth 100000 in
set_option maxHeartbeats 4000000 in
theorem rPoint_any {w : World} (m : Sm) (hm : SIn w m) : Calls Try.prog 70 #[syV m] w fun e w' => e = .returned (.tuple #[.int .i64 (pointM m.s).1, .int .i64 (pointM m.s).2]) ∧ Kept (fun _ => False) w w' := by
  have HWR := hid (fun (W : World) (k : Kept (fun _ => False) w W) => rWriter_any m ⟨hm.1.kept k, hm.2⟩)
  obtain ⟨hl, hb, hrg⟩ := hm
  obtain ⟨⟨z0, z1, z2, z3, z4, z5, z6, z7, z8, ms⟩, la, lc⟩ := m
  simp only at hl hb hrg
  have a1 := (St.nil w).box #[.int .i64 z0, .int .i64 z1, .int .i64 z2, .int .i64 z3, .int .i64 z4, .int .i64 z5, .int .i64 z6, .int .i64 z7, .int .i64 z8, .slice la ms.length lc] 44
  unfold syV
  simp only
  generalize hw1 : w.alloc (.cells #[.int .i64 z0, .int .i64 z1, .int .i64 z2, .int .i64 z3, .int .i64 z4, .int .i64 z5, .int .i64 z6, .int .i64 z7, .int .i64 z8, .slice la ms.length lc] 44) = w1 at *
  generalize hE : w.heap.size = E at *
  have HL := hid hl
  have hb1 : (ms.length : Int) ≤ 2932031007317 := by omega
  have HA1 := hid a1
  have HKS := hid a1.same
  have hWR := HWR.out _ a1.same
  unfold syV at hWR
  have c := fun j => a1.cell 0 rfl j
  have c0 := c 0
  have c1 := c 1
  have c2 := c 2
  have c3 := c 3
  have c4 := c 4
  have c5 := c 5
  have c6 := c 6
  have c7 := c 7
  have c8 := c 8
  have c9 := c 9
  clear c a1 hl hb hrg HWR
  cases hwm : writerM ⟨z0, z1, z2, z3, z4, z5, z6, z7, z8, ms⟩ with
  | true =>
    rw [pointM_yes hwm]
    rw [hwm] at hWR
    clear hwm
    simp only at hWR ⊢
    go_enter Try.func70, Try.ntmps70
    go_upto_region 3 with (first | simp only [hw1, hE] | (go_at_call 71; refine hWR.mono ?_; rintro e w2 ⟨rfl, k2⟩))
    have HK := hid k2.drew
    have d8 := (HA1.out.calm HK.out).cell 0 rfl 8
    have d3 := (HA1.out.calm HK.out).cell 0 rfl 3
    clear k2 hWR
    go_region
    go_wp2
    go_ret2
    exact ⟨rfl, HKS.out.trans HK.out (fun _ _ f => f)⟩
  | false =>
    rw [pointM_no hwm]
    rw [hwm] at hWR
    clear hwm
    simp only at hWR ⊢
    go_enter Try.func70, Try.ntmps70
    go_upto_region 4 with (first | simp only [hw1, hE] | (go_at_call 71; refine hWR.mono ?_; rintro e w2 ⟨rfl, k2⟩))
    have HK2 := hid k2
    have d9 := (HA1.out.calm k2).cell 0 rfl 9
    clear k2 hWR c0 c1 c2 c3 c4 c5 c6 c7 c8 c9
    go_upto_region 5 with fail
    clear d9
    go_loopw [5] (fun i wr => ∃ (j : Nat), i = .int .i64 ((j : Int) - 1) ∧ j ≤ ms.length ∧ (ms.drop j).filter Mv.out = [] ∧ Kept (fun _ => False) w1 wr) (fun i _ => (intOf i + 1).toNat)
    case atStart => exact ⟨ms.length, rfl, Nat.le_refl _, by simp, HK2.out⟩
    case round =>
      obtain ⟨j, rfl, hj, hdr, hk⟩ := hrel
      have HK := hid hk
      have HDR := hid hdr
      clear hdr
      cases j with
      | zero =>
        have HKD := hid hk.drew
        have d7 := (HA1.out.calm HKD.out).cell 0 rfl 7
        have d2 := (HA1.out.calm HKD.out).cell 0 rfl 2
        clear hk HL
        go_upto_region 9 with fail
        go_region
        go_wp2
        go_ret2
        rw [last_none HDR.out]
        exact ⟨rfl, HKS.out.trans HKD.out (fun _ _ f => f)⟩
      | succ j =>
        have ej : ((j + 1 : Nat) : Int) - 1 = (j : Int) := by omega
        rw [ej]
        clear ej
        have hlt' : (j : Int) < (ms.length : Int) := by omega
        have hj0 : (0 : Int) ≤ (j : Int) := by omega
        obtain ⟨g, off, rfl⟩ := HL.out.addr (by omega)
        obtain ⟨⟨xst, xwr, xce, xx, xow, xga⟩, hx⟩ : ∃ x, ms[j]? = some x := ⟨_, List.getElem?_eq_getElem (by omega)⟩
        have HX := hid hx
        have c9 := (HA1.out.calm hk).cell 0 rfl 9
        have HKD := hid hk.drew
        have d9 := (HA1.out.calm HKD.out).cell 0 rfl 9
        have q := fun i u hu => (HL.out.kept (HKS.out.trans hk (fun _ _ f => f))).at (k := 6) (fun _ => rfl) hx i u hu
        have q1 := q 1 _ rfl
        have q4 := q 4 _ rfl
        have r := fun i u hu => (HL.out.kept (HKS.out.trans HKD.out (fun _ _ f => f))).at (k := 6) (fun _ => rfl) hx i u hu
        have r5 := r 5 _ rfl
        have r0 := r 0 _ rfl
        rw [Nat.add_zero] at r0
        have HJ : Hid (j ≤ ms.length ∧ ((j : Int)).toNat < ((j : Int) + 1).toNat) := hid ⟨by omega, by omega⟩
        clear q r hx hk hj HL
        by_cases ho : (⟨xst, xwr, xce, xx, xow, xga⟩ : Mv).out = true
        · have ho2 : xwr = false ∧ xow = false := by simpa [Mv.out] using ho
          have HO := hid ho
          obtain ⟨rfl, rfl⟩ := ho2
          clear ho
          simp only at q1 q4
          go_upto_region 8 with fail
          go_region
          go_wp2
          go_ret2
          rw [last_here HX.out HDR.out HO.out]
          exact ⟨rfl, HKS.out.trans HKD.out (fun _ _ f => f)⟩
        · have ho' : (⟨xst, xwr, xce, xx, xow, xga⟩ : Mv).out = false := by simpa using ho
          have HO := hid (last_step HX.out HDR.out ho')
          have hw : xwr = true ∨ (xwr = false ∧ xow = true) := by
            cases xwr <;> cases xow <;> simp_all [Mv.out]
          clear ho ho' HDR
          rcases hw with rfl | ⟨rfl, rfl⟩
          · simp only at q1 q4
            go_wp2
            go_roundw
            case rel => exact ⟨j, by simp, HJ.out.1, HO.out, HK.out⟩
            case measure => have := HJ.out.2; simp [intOf] <;> omega
          · simp only at q1 q4
            go_wp2
            go_roundw
            case rel => exact ⟨j, by simp, HJ.out.1, HO.out, HK.out⟩
            case measure => have := HJ.out.2; simp [intOf] <;> omega
end Go.Proofs.Ytnmlnjljmikmpaa
