/- LookFinds, step by step. -/
import Derived.Test.YtpojkkdmlpjfeaaFndW
namespace Go.Proofs.Ytpojkkdmlpjfeaa
open Go.RowKit
set_option linter.unusedVariables false
set_option linter.unusedSimpArgs false
attribute [local go_sem ↓] Go.wp_at_zero Go.wp_at_succ
attribute [local go_sem ↓] exec_neSl run_neSl

theorem vField_slots (p q : Option Addr) (n m k l : Nat) (a b : Int) (w : World) : (Instr.field 40 (.agg #[.slice p n k, .int .i64 a, .int .i64 b, .slice q m l]) 2).run Try.prog w = .ok (.slice q m l) w := by kernel_rfl
theorem boxedH {wr w3 : World} {HH j : Nat} {v : Value} {L : List Value} (ho : wr.ownsRow HH 48 4 v j L) (hK : Kept (fun _ => False) w3 wr) (a b c d : Int) (e : Bool) (f : Int) {W : World} (hW : wr.alloc (.cells #[.int .i64 a, .int .i64 b, .int .i64 c, .int .i64 d, .bool e, .int .i64 f] 44) = W) :
    W.cell? ⟨wr.heap.size, 0, none⟩ = some (.int .i64 a) ∧ W.cell? ⟨wr.heap.size, 1, none⟩ = some (.int .i64 b) ∧ W.cell? ⟨wr.heap.size, 2, none⟩ = some (.int .i64 c) ∧ W.cell? ⟨wr.heap.size, 3, none⟩ = some (.int .i64 d) ∧ W.cell? ⟨wr.heap.size, 4, none⟩ = some (.bool e) ∧ W.ownsRow HH 48 4 v j L ∧ Kept (fun _ => False) w3 W ∧ wr.heap.size ≤ W.heap.size := by
  subst hW
  have hb := heap_alloc_new wr (.cells #[.int .i64 a, .int .i64 b, .int .i64 c, .int .i64 d, .bool e, .int .i64 f] 44)
  exact ⟨cell_of_heap hb, cell_of_heap hb, cell_of_heap hb, cell_of_heap hb, cell_of_heap hb, ho.alloc _, hK.alloc _, by simp⟩
theorem cell_alloc {wr W : World} {p : Addr} {u : Value} {ob : Obj} (h : wr.cell? p = some u) (hW : wr.alloc ob = W) : W.cell? p = some u := by
  subst hW
  rw [World.cell?_of_block (Below.heap_alloc wr _ p.block (World.block_lt_of_cell? wr _ h))]; exact h
theorem own_drewN {w : World} {b : Nat} {e : TypeId} {z : Nat} {v : Value} {n : Nat} {xs : List Value} (h : w.ownsRow b e z v n xs) (k : Nat) : (w.drewN k).ownsRow b e z v n xs := h
theorem wordR_at {ws : List Int} {n k : Nat} (hk : k < n) : wordR ws n (k : Int) 0 = ws.getD (k * 2) 0 ∧ wordR ws n (k : Int) 1 = ws.getD (k * 2 + 1) 0 := by
  unfold wordR wordAt
  rw [if_pos ⟨by omega, by omega, by omega, by omega⟩, if_pos ⟨by omega, by omega, by omega, by omega⟩]
  exact ⟨rfl, rfl⟩

set_option maxRecDepth 100000 in
set_option maxHeartbeats 8000000 in
theorem finds_walk (w : World) (slot : Int) (wr : Sg) (hwr : wr.ok) {sa : Option Addr} {sl sc : Nat} {f : Nat → SeD} (hf : SesAt w sa sl f) (hs40 : sl * 40 ≤ 140737488351232) :
    Calls Try.prog 3 #[.int .i64 slot, wr.val, .slice sa sl sc] w fun e w' => e = .returned (.bool true) ∧ Kept (fun _ => False) w w' := by
  obtain ⟨i0, hi0, hz0, hz1, hz2⟩ := info_parts Try.infoVt
  obtain ⟨q, hq7, hq8⟩ : ∃ q : Nat, bits .and .i64 slot 7 = (q : Int) ∧ q < 8 := ⟨(slot % 8).toNat, by rw [and7]; omega, by omega⟩
  have q0 : (0 : Int) ≤ (q : Int) := by omega
  have q8 : (q : Int) < 8 := by omega
  have HSW : Hid (∀ i, i < min sl 8 → (f i).w_0 < 18446744073709551616 ∧ (f i).w_1 < 18446744073709551616) := fun i hi => by
    rcases hf with h | ⟨b, off, _, hat⟩
    · omega
    · exact ⟨(hat i (by omega)).r_w_0, (hat i (by omega)).r_w_1⟩
  have sb := (St.nil w).box #[.int .u64 wr.lo, .int .u64 wr.hi] 24
  obtain ⟨r0, r1⟩ := wr
  unfold Sg.val
  simp only at sb ⊢
  go_enter Try.func3, Try.ntmps3
  go_upto_region 1 with fail
  generalize w.alloc (.cells #[.int .u64 r0, .int .u64 r1] 24) = w0 at *
  generalize w.heap.size = F at *
  go_wp2_with fail
  refine (up_any _).mono ?_
  rintro e w1 ⟨rfl, k1⟩
  have hq := lkTable (sb.calm k1) 8 rfl
  clear k1 sb
  go_wp2_with fail
  refine hq.mono ?_
  rintro e w2 ⟨A, rfl, s2⟩
  clear hq
  unfold spp
  have hq := seats_st (cap := sc) s2 0 rfl (SSt.ok_zero (tbC 8) rfl 0) (by omega) rfl hf
  unfold spp at hq
  clear s2
  go_wp2_with (simp only [hq7])
  refine hq.mono ?_
  rintro e w3 ⟨rfl, v3, s3⟩
  clear hq
  have okz : (seatsZ (SSt.zero (tbC 8)) f (min sl 8)).ok (tbC 8) 45 := (seatsZ_ok (SSt.ok_zero (tbC 8) rfl 0) f (min sl 8)).more (by omega)
  have hwz : WsOk (seatsZ (SSt.zero (tbC 8)) f (min sl 8)).ws := seatsZ_wok (WsOk.rep _) f (min sl 8) HSW.out
  have s3' : St w [spI A (tbC 8) (seatsZ (SSt.zero (tbC 8)) f (min sl 8)) v3 (.slice none 0 0), boxI F #[.int .u64 r0, .int .u64 r1] 24] w3 := s3
  clear s3 HSW
  generalize seatsZ (SSt.zero (tbC 8)) f (min sl 8) = z0 at *
  have h80 : z0.hs.length = 8 := by have := okz.hl; simp [tbC] at this; exact_mod_cast this
  have hw16 : z0.ws.length = 16 := by rw [okz.wl, h80]
  have hq := lkNew_st s3' 0 rfl q ⟨r0, r1⟩ (by omega) (by omega)
  unfold spp Sg.val at hq
  simp only at hq
  have b0 : w3.cell? ⟨F, 0, none⟩ = some (.int .u64 r0) := s3'.cell 1 rfl 0
  have b1 : w3.cell? ⟨F, 1, none⟩ = some (.int .u64 r1) := s3'.cell 1 rfl 1
  clear s3'
  have H80 : Hid (z0.hs.length = 8) := h80
  have HW16 : Hid (z0.ws.length = 16) := hw16
  clear h80 hw16
  go_wp2_with fail
  refine hq.mono ?_
  rintro e w4 ⟨K, vl, rfl, s4⟩
  clear hq b0 b1
  have hq := spView s4 1 rfl okz.wl okz.h1 okz.h8
  unfold spp at hq
  clear s4
  go_wp2_with fail
  refine hq.mono ?_
  rintro e w6 ⟨va, vs0, rfl, s6⟩
  clear hq
  obtain ⟨g2, cap2, rfl⟩ := s6.form 1 rfl (by have := okz.h1; omega)
  obtain ⟨ga, capa, rfl⟩ := s6.form 0 rfl (by have := okz.c1; omega)
  have HX : ∃ XX, Hid (XX = ownI 2 1 (.slice (some ⟨ga, 0, none⟩) z0.xs.length capa) z0.xs.length (clCells z0.xs)) ∧ St w [XX, ownI 46 8 (.slice (some ⟨g2, 0, none⟩) z0.hs.length cap2) z0.hs.length (slCells (slots z0.hs z0.ws)), lkI K A.t (Lk.new ⟨r0, r1⟩ z0.hs.length q) vl (.slice none 0 0) (.slice none 0 0), spI A (tbC 8) z0 v3 (.slice none 0 0), boxI F #[.int .u64 r0, .int .u64 r1] 24] w6 := ⟨_, rfl, s6⟩
  obtain ⟨XX, _, s7⟩ := HX
  clear s6
  generalize z0.xs.length = nx at *
  rw [H80.out]
  have HSL : Hid (∀ W, Kept (fun _ => False) w6 W → ∀ p, p < 8 → ∃ x0 x1 : Nat, x0 < 18446744073709551616 ∧ x1 < 18446744073709551616 ∧ sgAt z0.hs z0.ws p = ⟨x0, x1⟩ ∧ nowAt z0.hs p = z0.hs.getD p Hd.zero ∧ (W.cell? ⟨g2, p * 8, none⟩ = some (.int .i64 (nowAt z0.hs p).gn) ∧ W.cell? ⟨g2, p * 8 + 1, none⟩ = some (.int .i64 (nowAt z0.hs p).sa) ∧ W.cell? ⟨g2, p * 8 + 2, none⟩ = some (.int .i64 (nowAt z0.hs p).sp) ∧ W.cell? ⟨g2, p * 8 + 3, none⟩ = some (.int .i64 (nowAt z0.hs p).th) ∧ W.cell? ⟨g2, p * 8 + 4, none⟩ = some (.bool (nowAt z0.hs p).dm) ∧ W.cell? ⟨g2, p * 8 + 5, none⟩ = some (.int .i64 (nowAt z0.hs p).wy) ∧ W.cell? ⟨g2, p * 8 + 6, none⟩ = some (.int .u64 (x0 : Nat)) ∧ W.cell? ⟨g2, p * 8 + 7, none⟩ = some (.int .u64 (x1 : Nat))) ∧ W.cell? ⟨F, 0, none⟩ = some (.int .u64 r0) ∧ W.cell? ⟨F, 1, none⟩ = some (.int .u64 r1)) := by
    intro W kk p hp
    have sW := s7.calm kk
    have hp' : p < z0.hs.length := by rw [H80.out]; exact hp
    obtain ⟨y0, y1⟩ := wordR_at (ws := z0.ws) hp'
    obtain ⟨x0, hx0, hx0'⟩ := hwz.word z0.hs.length p 0
    obtain ⟨x1, hx1, hx1'⟩ := hwz.word z0.hs.length p 1
    refine ⟨x0, x1, hx0', hx1', ?_, nowAt_in hp', ?_, sW.cell 4 rfl 0, sW.cell 4 rfl 1⟩
    · unfold sgAt; rw [hx0, hx1]; simp
    · rw [nowAt_in hp', ← hx0, ← hx1, y0, y1]
      exact slot_cells sW 1 rfl okz.wl hp'
  have HOB : Hid (∀ j, othersBelow q (j + 1) = othersBelow q j ++ (if j != q then [j] else [])) := othersBelow_succ q
  have HOL : Hid (∀ j, (othersBelow q j).length ≤ j) := othersBelow_le q
  have HSA : Hid (∀ a b, stepsOf z0.hs (a ++ b) = stepsOf z0.hs a + stepsOf z0.hs b) := stepsOf_append z0.hs
  have HWA : Hid (∀ a b, wantOf z0.hs z0.ws ⟨r0, r1⟩ (a ++ b) = wantOf z0.hs z0.ws ⟨r0, r1⟩ a ++ wantOf z0.hs z0.ws ⟨r0, r1⟩ b) := wantOf_append z0.hs z0.ws ⟨r0, r1⟩
  have HSE : Hid (∀ a, stepsOf z0.hs a ≤ 3 * a.length) := stepsOf_le z0.hs
  go_wp2_with (simp only [vField_slots])
  generalize hHH : w6.heap.size = HH at *
  have HHH : Hid (w6.heap.size = HH) := hHH
  clear hHH
  go_loopw [14, 15, 16] (fun st x i wr => ∃ j : Nat, st = .int .i64 ((stepsOf z0.hs (othersBelow q j) : Nat) : Int) ∧ i = .int .i64 j ∧ j ≤ 8 ∧ wr.ownsRow HH 48 4 x (wantOf z0.hs z0.ws ⟨r0, r1⟩ (othersBelow q j)).length (vtCells (wantOf z0.hs z0.ws ⟨r0, r1⟩ (othersBelow q j))) ∧ Kept (fun _ => False) w6 wr) (fun _ _ i _ => 8 - (intOf i).toNat)
  case atStart => exact ⟨0, rfl, rfl, Nat.zero_le _, World.ownsRow_nil _ _ _ _, Kept.refl _ _⟩
  case round =>
    obtain ⟨j, rfl, rfl, hj, ho, hK⟩ := hrel
    have e0 : (0 : Int) ≤ (j : Int) := by omega
    by_cases hlt : j < 8
    · have e1 : (j : Int) < 8 := by omega
      have hsl := HSE.out (othersBelow q j)
      have hol := HOL.out j
      have hob := HOB.out j
      have hs0 : (0 : Int) ≤ ((stepsOf z0.hs (othersBelow q j) : Nat) : Int) := by omega
      have hs1 : ((stepsOf z0.hs (othersBelow q j) : Nat) : Int) ≤ 24 := by omega
      obtain ⟨x0, x1, hx0, hx1, hsg, _, ⟨c0, c1, c2, c3, c4, c5, c6, c7⟩, f0, f1⟩ := HSL.out _ hK j hlt
      have hwl : (wantOf z0.hs z0.ws ⟨r0, r1⟩ (othersBelow q j)).length ≤ 8 := by
        have : (wantOf z0.hs z0.ws ⟨r0, r1⟩ (othersBelow q j)).length ≤ (othersBelow q j).length := by unfold wantOf; simpa using List.length_filter_le _ _
        omega
      have HS1 : Hid (j ≠ q → stepsOf z0.hs (othersBelow q (j + 1)) = stepsOf z0.hs (othersBelow q j) + costOf z0.hs j) := fun hne => by
        rw [hob, HSA.out, if_pos (by simpa using hne)]; simp [stepsOf]
      have HW1 : Hid (j ≠ q → wantOf z0.hs z0.ws ⟨r0, r1⟩ (othersBelow q (j + 1)) = wantOf z0.hs z0.ws ⟨r0, r1⟩ (othersBelow q j) ++ (if isVic z0.hs z0.ws ⟨r0, r1⟩ j then [vicOf z0.hs j] else [])) := fun hne => by
        rw [hob, HWA.out, if_pos (by simpa using hne)]
        congr 1
        unfold wantOf
        cases hv : isVic z0.hs z0.ws ⟨r0, r1⟩ j <;> simp [hv]
      have HOW : Hid (j = q → othersBelow q (j + 1) = othersBelow q j) := fun he => by rw [hob, he]; simp
      have HCO : Hid (costOf z0.hs j = if (nowAt z0.hs j).lives then 3 else 1) := rfl
      have HVI : Hid (isVic z0.hs z0.ws ⟨r0, r1⟩ j = ((nowAt z0.hs j).lives && (⟨x0, x1⟩ : Sg).meets ⟨r0, r1⟩)) := by show _ = _; unfold isVic; rw [hsg]
      have HVO : Hid (vicOf z0.hs j = ⟨j, (nowAt z0.hs j).gn, (nowAt z0.hs j).sp, (nowAt z0.hs j).th⟩) := rfl
      clear hob hsl hol hsg
      generalize nowAt z0.hs j = HD at *
      obtain ⟨hg, hsa, hp, ht, hdm, hb⟩ := HD
      simp only at c0 c1 c2 c3 c4 c5
      generalize hST : stepsOf z0.hs (othersBelow q j) = ST at *
      have HST : Hid (stepsOf z0.hs (othersBelow q j) = ST) := hST
      generalize hWN : wantOf z0.hs z0.ws ⟨r0, r1⟩ (othersBelow q j) = WN at *
      have HWN : Hid (wantOf z0.hs z0.ws ⟨r0, r1⟩ (othersBelow q j) = WN) := hWN
      generalize hNL : WN.length = NL at *
      have HNL : Hid (WN.length = NL) := hNL
      clear hST hWN hNL
      go_upto_region 17 with fail
      generalize hWW : wr.alloc (.cells #[.int .i64 hg, .int .i64 hsa, .int .i64 hp, .int .i64 ht, .bool hdm, .int .i64 hb] 44) = W at *
      have hmw : Hid (HH ≤ wr.heap.size) := by have := hK.size; rw [HHH.out] at this; exact this
      obtain ⟨m0, m1, m2, m3, m4, ho2, hK2, hsz⟩ := boxedH ho hK hg hsa hp ht hdm hb hWW
      have hmW : Hid (HH ≤ W.heap.size) := by have := hmw.out; show _ ≤ _; omega
      have d6 := cell_alloc c6 hWW
      have d7 := cell_alloc c7 hWW
      have g0 := cell_alloc f0 hWW
      have g1 := cell_alloc f1 hWW
      clear ho hK hWW hmw c0 c1 c2 c3 c4 c5 c6 c7 f0 f1 HSL hsz
      generalize wr.heap.size = M at *
      have hA0 : bits .and .u64 ((x0 : Nat) : Int) ((r0 : Nat) : Int) = ((x0 &&& r0 : Nat) : Int) := bits_and_u64_nat _ _ hx0 hwr.1
      have hA1 : bits .and .u64 ((x1 : Nat) : Int) ((r1 : Nat) : Int) = ((x1 &&& r1 : Nat) : Int) := bits_and_u64_nat _ _ hx1 hwr.2
      by_cases hne : j = q
      · as_aux_lemma =>
          have hjq : ((j : Int) == (q : Int)) = true := by simp [hne]
          have HOO : Hid _ := ho2
          have HKK : Hid _ := hK2
          clear ho2 hK2 hA0 hA1 d6 d7 g0 g1
          go_wp2
          go_roundw
          case rel =>
            refine ⟨j + 1, ?_, by go_num, by omega, ?_, HKK.out⟩
            · rw [HOW.out hne, HST.out]
            · rw [HOW.out hne, HWN.out, HNL.out]; exact HOO.out
          case measure => simp [intOf]; omega
      · have hjq : ((j : Int) == (q : Int)) = false := by simp; omega
        cases h2 : hsa == 2 with
        | false =>
          as_aux_lemma =>
            have hlv : Hd.lives ⟨hg, hsa, hp, ht, hdm, hb⟩ = false := by simp [Hd.lives, h2]
            have HOO : Hid _ := ho2
            have HKK : Hid _ := hK2
            clear ho2 hK2 hA0 hA1 d6 d7 g0 g1
            go_wp2
            go_roundw
            case rel =>
              refine ⟨j + 1, ?_, by go_num, by omega, ?_, HKK.out⟩
              · rw [HS1.out hne, HCO.out, hlv]; simp only [Bool.false_eq_true, if_false]; push_cast; rfl
              · rw [HW1.out hne, HVI.out, hlv]; simp only [Bool.false_and, Bool.false_eq_true, if_false, List.append_nil]
                rw [HNL.out]; exact HOO.out
            case measure => simp [intOf]; omega
        | true =>
          cases hdm with
          | true =>
            as_aux_lemma =>
              have hlv : Hd.lives ⟨hg, hsa, hp, ht, true, hb⟩ = false := by simp [Hd.lives]
              have HOO : Hid _ := ho2
              have HKK : Hid _ := hK2
              clear ho2 hK2 hA0 hA1 d6 d7 g0 g1
              go_wp2
              go_roundw
              case rel =>
                refine ⟨j + 1, ?_, by go_num, by omega, ?_, HKK.out⟩
                · rw [HS1.out hne, HCO.out, hlv]; simp only [Bool.false_eq_true, if_false]; push_cast; rfl
                · rw [HW1.out hne, HVI.out, hlv]; simp only [Bool.false_and, Bool.false_eq_true, if_false, List.append_nil]
                  rw [HNL.out]; exact HOO.out
              case measure => simp [intOf]; omega
          | false =>
            have hlv : Hd.lives ⟨hg, hsa, hp, ht, false, hb⟩ = true := by simp [Hd.lives, h2]
            by_cases hn0 : x0 &&& r0 = 0
            · rw [hn0] at hA0
              by_cases hn1 : x1 &&& r1 = 0
              · as_aux_lemma =>
                  rw [hn1] at hA1
                  have hmt : (⟨x0, x1⟩ : Sg).meets ⟨r0, r1⟩ = false := by rw [meets_eq]; simp [hn0, hn1]
                  have HOO : Hid (∀ n, (W.drewN n).ownsRow HH 48 4 _ NL (vtCells WN)) := fun n => own_drewN ho2 n
                  have HKK0 : Hid (∀ n, Kept (fun _ => False) w6 (W.drewN n)) := fun n => hK2.drewN n
                  clear ho2 hK2
                  go_upto_region 21 with fail
                  go_quiet (fail)
                  replace HOO : Hid _ := HOO.out nq
                  have HKK : Hid _ := HKK0.out nq
                  go_wp2
                  go_roundw
                  case rel =>
                    refine ⟨j + 1, ?_, by go_num, by omega, ?_, HKK.out⟩
                    · rw [HS1.out hne, HCO.out, hlv]; simp only [if_true]; push_cast; rfl
                    · rw [HW1.out hne, HVI.out, hlv]; simp only [Bool.true_and, hmt, Bool.false_eq_true, if_false, List.append_nil]
                      rw [HNL.out]; exact HOO.out
                  case measure => simp [intOf]; omega
              · have hN1 : (((x1 &&& r1 : Nat) : Int) != 0) = true := by simp; omega
                have hmt : (⟨x0, x1⟩ : Sg).meets ⟨r0, r1⟩ = true := by rw [meets_eq]; simp [hn1]
                generalize hgx1 : x1 &&& r1 = X1 at *
                as_aux_lemma =>
                  skip
                  go_upto_region 21 with fail
                  go_quiet (fail)
                  have ho3 := own_drewN ho2 nq
                  have hK3 := hK2.drewN nq
                  have p0 : (W.drewN nq).cell? ⟨M, 0, none⟩ = some (.int .i64 hg) := m0
                  have p2 : (W.drewN nq).cell? ⟨M, 2, none⟩ = some (.int .i64 hp) := m2
                  have p3 : (W.drewN nq).cell? ⟨M, 3, none⟩ = some (.int .i64 ht) := m3
                  have hmW2 : Hid (HH ≤ (W.drewN nq).heap.size) := hmW
                  clear m0 m1 m2 m3 m4 ho2 hK2 hmW
                  generalize W.drewN nq = W2 at *
                  have hbs := buildVt W2 j hg hp ht
                  go_wp2_with (first | simp only [hbs] | (at_builtin; refine wpList_append_lies _ rfl (.tmp 105) (.tmp 114) 42 rfl HH 48 i0 _ 4 32 Try.underlying42 hi0 hz0 hz1 hz2 rfl (by omega) _ NL (vtCells WN) rfl (ho3.alloc _) ⟨W2.heap.size, 0, none⟩ 1 1 [.int .i64 (j : Nat), .int .i64 hg, .int .i64 hp, .int .i64 ht] rfl rfl (World.news_of_block (cs := #[.int .i64 (j : Nat), .int .i64 hg, .int .i64 hp, .int .i64 ht]) (t := 48) (fr := (0, 0)) (heap_alloc_new W2 _)) (by simp [Value.oneCell']) (by omega) (by unfold maxLen; omega) (by omega) (by simp; have := hmW2.out; omega) (W2.heap.size + 1) (by simp) ?_; intro g5 cap5 w5 hown5 hgrow hat hlt5))
                  have HOO : Hid (w5.ownsRow HH 48 4 (.slice (some ⟨g5, 0, none⟩) (NL + 1) cap5) (NL + 1) (vtCells WN ++ [.int .i64 (j : Nat), .int .i64 hg, .int .i64 hp, .int .i64 ht])) := hown5
                  have HKK : Hid (Kept (fun _ => False) w6 w5) := (hK3.alloc _).grown hgrow (fun k e => .inr (by rw [HHH.out]; exact (ho3.lt k e).1))
                  clear hown5 hgrow hat hlt5 ho3 hK3
                  go_roundw
                  case rel =>
                    refine ⟨j + 1, ?_, by go_num, by omega, ?_, HKK.out⟩
                    · rw [HS1.out hne, HCO.out, hlv]; simp only [if_true]; push_cast; rfl
                    · rw [HW1.out hne, HVI.out, hlv]; simp only [Bool.true_and, hmt, if_true]
                      rw [HVO.out, List.length_append, HNL.out, vtCells_append]; exact HOO.out
                  case measure => simp [intOf]; omega
            · have hN0 : (((x0 &&& r0 : Nat) : Int) != 0) = true := by simp; omega
              have hmt : (⟨x0, x1⟩ : Sg).meets ⟨r0, r1⟩ = true := by rw [meets_eq]; simp [hn0]
              generalize hgx0 : x0 &&& r0 = X0 at *
              as_aux_lemma =>
                skip
                go_upto_region 21 with fail
                go_quiet (fail)
                have ho3 := own_drewN ho2 nq
                have hK3 := hK2.drewN nq
                have p0 : (W.drewN nq).cell? ⟨M, 0, none⟩ = some (.int .i64 hg) := m0
                have p2 : (W.drewN nq).cell? ⟨M, 2, none⟩ = some (.int .i64 hp) := m2
                have p3 : (W.drewN nq).cell? ⟨M, 3, none⟩ = some (.int .i64 ht) := m3
                have hmW2 : Hid (HH ≤ (W.drewN nq).heap.size) := hmW
                clear m0 m1 m2 m3 m4 ho2 hK2 hmW
                generalize W.drewN nq = W2 at *
                have hbs := buildVt W2 j hg hp ht
                go_wp2_with (first | simp only [hbs] | (at_builtin; refine wpList_append_lies _ rfl (.tmp 105) (.tmp 114) 42 rfl HH 48 i0 _ 4 32 Try.underlying42 hi0 hz0 hz1 hz2 rfl (by omega) _ NL (vtCells WN) rfl (ho3.alloc _) ⟨W2.heap.size, 0, none⟩ 1 1 [.int .i64 (j : Nat), .int .i64 hg, .int .i64 hp, .int .i64 ht] rfl rfl (World.news_of_block (cs := #[.int .i64 (j : Nat), .int .i64 hg, .int .i64 hp, .int .i64 ht]) (t := 48) (fr := (0, 0)) (heap_alloc_new W2 _)) (by simp [Value.oneCell']) (by omega) (by unfold maxLen; omega) (by omega) (by simp; have := hmW2.out; omega) (W2.heap.size + 1) (by simp) ?_; intro g5 cap5 w5 hown5 hgrow hat hlt5))
                have HOO : Hid (w5.ownsRow HH 48 4 (.slice (some ⟨g5, 0, none⟩) (NL + 1) cap5) (NL + 1) (vtCells WN ++ [.int .i64 (j : Nat), .int .i64 hg, .int .i64 hp, .int .i64 ht])) := hown5
                have HKK : Hid (Kept (fun _ => False) w6 w5) := (hK3.alloc _).grown hgrow (fun k e => .inr (by rw [HHH.out]; exact (ho3.lt k e).1))
                clear hown5 hgrow hat hlt5 ho3 hK3
                go_roundw
                case rel =>
                  refine ⟨j + 1, ?_, by go_num, by omega, ?_, HKK.out⟩
                  · rw [HS1.out hne, HCO.out, hlv]; simp only [if_true]; push_cast; rfl
                  · rw [HW1.out hne, HVI.out, hlv]; simp only [Bool.true_and, hmt, if_true]
                    rw [HVO.out, List.length_append, HNL.out, vtCells_append]; exact HOO.out
                case measure => simp [intOf]; omega
    · obtain rfl : j = 8 := by omega
      have e1 : ¬ ((8 : Nat) : Int) < 8 := by omega
      rw [← HHH.out] at ho
      have s8 := s7.own hK ho
      clear ho hK s7 HSL HOB HOL HSA HWA
      have hN24 : stepsOf z0.hs (othersBelow q 8) ≤ 24 := by have := HSE.out (othersBelow q 8); have := othersBelow_le q 8; omega
      clear HSE
      have hrun := kS_run (z := z0) (k := Lk.new ⟨r0, r1⟩ 8 q) (othersBelow q 8) 0 ⟨r0, r1⟩ [] rfl
      simp only [Nat.zero_add, List.nil_append] at hrun
      have HOK : Hid (∀ i, (kS z0 (Lk.new ⟨r0, r1⟩ 8 q) i).1.ok (tbC 8) (45 + i)) := fun i => kS_ok okz i
      have HFT : Hid (∀ i, (kS z0 (Lk.new ⟨r0, r1⟩ 8 q) i).2.fit) := fun i => kS_fit (Lk.fit_new hwr (by omega) q) hwz i
      have HHS : Hid (∀ i, (kS z0 (Lk.new ⟨r0, r1⟩ 8 q) i).1.hs = z0.hs ∧ (kS z0 (Lk.new ⟨r0, r1⟩ 8 q) i).1.ws = z0.ws) := fun i => kS_hs i
      have HWZ : Hid (WsOk z0.ws) := hwz
      have HSS : Hid (∀ i, (kS z0 (Lk.new ⟨r0, r1⟩ 8 q) (i + 1)).1 = (kS z0 (Lk.new ⟨r0, r1⟩ 8 q) i).1.looks (kS z0 (Lk.new ⟨r0, r1⟩ 8 q) i).2 ∧ (kS z0 (Lk.new ⟨r0, r1⟩ 8 q) (i + 1)).2 = (kS z0 (Lk.new ⟨r0, r1⟩ 8 q) i).2.next (kS z0 (Lk.new ⟨r0, r1⟩ 8 q) i).1) := fun i => ⟨rfl, rfl⟩
      have HRUN : Hid _ := hrun
      obtain ⟨la1, lc1, hv15, hV15, hN15⟩ := own_vin0 (ys := wantOf z0.hs z0.ws ⟨r0, r1⟩ (othersBelow q 8)) (s8.get 0 rfl)
      subst hv15
      have s8' : St w [ownI 48 4 (.slice la1 (wantOf z0.hs z0.ws ⟨r0, r1⟩ (othersBelow q 8)).length lc1) (wantOf z0.hs z0.ws ⟨r0, r1⟩ (othersBelow q 8)).length (vtCells (wantOf z0.hs z0.ws ⟨r0, r1⟩ (othersBelow q 8))), XX, ownI 46 8 (.slice (some ⟨g2, 0, none⟩) z0.hs.length cap2) z0.hs.length (slCells (slots z0.hs z0.ws)), lkI K A.t (kS z0 (Lk.new ⟨r0, r1⟩ 8 q) 0).2 vl (.slice none 0 0) (.slice none 0 0), spI A (tbC 8) (kS z0 (Lk.new ⟨r0, r1⟩ 8 q) 0).1 v3 (.slice none 0 0), boxI F #[.int .u64 r0, .int .u64 r1] 24] wr := by
        have e := H80.out
        have s8b := s8
        rw [show Lk.new ⟨r0, r1⟩ z0.hs.length q = Lk.new ⟨r0, r1⟩ 8 q by rw [e]] at s8b
        exact s8b
      clear s8 hrun hV15
      have hwl : (wantOf z0.hs z0.ws ⟨r0, r1⟩ (othersBelow q 8)).length ≤ 8 := by
        have h1 : (wantOf z0.hs z0.ws ⟨r0, r1⟩ (othersBelow q 8)).length ≤ (othersBelow q 8).length := by unfold wantOf; simpa using List.length_filter_le _ _
        have := othersBelow_le q 8
        omega
      have HWN : Hid (wantOf z0.hs z0.ws ⟨r0, r1⟩ (othersOf 8 q) = wantOf z0.hs z0.ws ⟨r0, r1⟩ (othersBelow q 8)) := rfl
      generalize hSS : kS z0 (Lk.new ⟨r0, r1⟩ 8 q) = S at *
      clear hSS
      generalize stepsOf z0.hs (othersBelow q 8) = NN at *
      generalize hWNN : wantOf z0.hs z0.ws ⟨r0, r1⟩ (othersBelow q 8) = WN at *
      clear hWNN
      go_wp2_with fail
      go_loopw [18] (fun i wr => ∃ (jj : Nat) (v vl vd vv : Value), i = .int .i64 jj ∧ jj ≤ NN ∧ St w [ownI 48 4 (.slice la1 WN.length lc1) WN.length (vtCells WN), XX, ownI 46 8 (.slice (some ⟨g2, 0, none⟩) z0.hs.length cap2) z0.hs.length (slCells (slots z0.hs z0.ws)), lkI K A.t (S jj).2 vl vd vv, spI A (tbC 8) (S jj).1 v (.slice none 0 0), boxI F #[.int .u64 r0, .int .u64 r1] 24] wr) (fun i _ => NN - (intOf i).toNat)
      case atStart => exact ⟨0, v3, vl, _, _, rfl, Nat.zero_le _, s8'⟩
      case round =>
        clear s8'
        obtain ⟨jj, v, vl, vd, vv, rfl, hjj, hS⟩ := hrel
        have ee0 : (0 : Int) ≤ (jj : Int) := by omega
        have hd := lkDone hS 3 rfl
        by_cases hlt2 : jj < NN
        · as_aux_lemma =>
            have ee1 : (jj : Int) < (NN : Int) := by omega
            have hne := HRUN.out.1 jj hlt2
            rw [decide_eq_false hne] at hd
            have hq := lkStep hS 4 3 (by omega) rfl rfl (HOK.out jj) (by omega) (HFT.out jj) (by rw [(HHS.out jj).2]; exact HWZ.out)
            rw [show (S jj).2.ans = 1 by unfold Lk.ans; rw [if_neg hne]] at hq
            clear hS
            go_wp2_with (go_at_call 11; refine hd.mono ?_; rintro e wq ⟨rfl, rfl⟩)
            refine hq.mono ?_
            rintro e w8 ⟨rfl, v8, vl8, vd8, vv8, s9⟩
            have HE : Hid _ := s9
            clear hq hd s9
            go_wp2
            go_roundw
            case rel => exact ⟨jj + 1, v8, vl8, vd8, vv8, by go_num, by omega, by rw [(HSS.out jj).1, (HSS.out jj).2]; exact HE.out⟩
            case measure => simp [intOf]; omega
        · obtain rfl : jj = NN := by omega
          have ee1 : ¬ (jj : Int) < (jj : Int) := by omega
          have hend := HRUN.out.2
          clear hd
          have hvs : (S jj).2.vs = WN := by rw [hend]
          have hlf : (S jj).2.left = [] := by rw [hend]
          obtain ⟨hhs, hws⟩ := HHS.out jj
          have hok := HOK.out jj
          have hb := lkVictims hS 3 rfl (by rw [hvs]; exact hwl)
          rw [hvs] at hb
          clear HRUN HSS HFT HHS HOK hend
          have HLF : Hid ((S jj).2.left = []) := hlf
          generalize (S jj).2 = kN at *
          generalize (S jj).1 = zN at *
          have hWN : WN = wantOf zN.hs zN.ws ⟨r0, r1⟩ (othersOf zN.hs.length q) := by rw [hhs, hws, H80.out]; exact HWN.out.symm
          have hall : allIn zN.hs.length WN := by
            intro p hp
            rw [hWN] at hp
            obtain ⟨s, s1, s2, _⟩ := want_at hp
            have : WN[p]'(by rw [hWN]; exact hp) = vicOf zN.hs s := by
              rw [← s2]
              congr 1
            rw [this]
            unfold inT vicOf
            simp only
            rw [decide_eq_true (by omega), decide_eq_true (by omega)]
            rfl
          have HWQ : Hid (WN = wantOf zN.hs zN.ws ⟨r0, r1⟩ (othersOf zN.hs.length q)) := hWN
          have HHZ : Hid (zN.hs = z0.hs ∧ zN.ws = z0.ws) := ⟨hhs, hws⟩
          clear hWN hhs hws hvs hlf
          go_wp2_with fail
          refine hb.mono ?_
          rintro e w8 ⟨v8, rfl, s9⟩
          clear hb hS
          obtain ⟨la8, lc8, e8, hV8, hN8⟩ := own_vin0 (ys := WN) (s9.get 0 rfl)
          subst e8
          have hq := dmNew_st (lc := lc8) s9 5 rfl 7 (by omega) (by omega) hV8 hN8 (by omega) hall
          unfold spp at hq
          clear s9 hV8
          go_wp2_with fail
          refine hq.mono ?_
          rintro e w9 ⟨D, dl, rfl, s10⟩
          clear hq hN8
          have hd := lkDone s10 5 rfl
          rw [decide_eq_true HLF.out] at hd
          obtain ⟨_, _, e1', hVa, _⟩ := own_vin0 (ys := WN) (s10.get 1 rfl)
          obtain ⟨_, _, e2', hVb, _⟩ := own_vin0 (ys := WN) (s10.get 2 rfl)
          simp only [Value.slice.injEq, true_and] at e1' e2'
          rw [← e1'.1] at hVa
          rw [← e2'.1] at hVb
          have hsm := sameVt w9 la8 la1 WN.length lc8 lc1 WN hVa hVb (by omega)
          have HS10 : Hid (∀ n, St w _ (w9.drewN n)) := fun n => s10.calm ((Kept.refl _ _).drewN n)
          clear s10 hVa hVb e1' e2'
          go_wp2_with (go_at_call 11; refine hd.mono ?_; rintro e wq ⟨rfl, rfl⟩)
          refine hsm.mono ?_
          rintro e w10 ⟨rfl, q10, hq10⟩
          have s11 := HS10.out q10
          rw [← hq10] at s11
          clear hq10 HS10 hsm hd
          have hth : isTh (7 : Int) = true := rfl
          have HDS : Hid (∀ p, p < WN.length → ∃ s : Nat, s < 8 ∧ (∃ hp : p < WN.length, WN[p].so = (s : Int)) ∧ (dzS zN ⟨7, WN, []⟩ p).2.left ≠ [] ∧ (dzS zN ⟨7, WN, []⟩ (p + 1)).1.hs = (dzS zN ⟨7, WN, []⟩ p).1.hs.set s (((dzS zN ⟨7, WN, []⟩ p).1.hs.getD s Hd.zero).doomed 7)) := by
            intro p hp
            have hh8 : zN.hs.length = 8 := by rw [HHZ.out.1]; exact H80.out
            obtain ⟨s, a, b, c, d⟩ := doom_roundW (z := zN) hok (wy := 7) hth HWQ.out hp
            exact ⟨s, by omega, ⟨hp, b⟩, c, d⟩
          have HDE : Hid ((dzS zN ⟨7, WN, []⟩ WN.length).2.dn = WN ∧ (dzS zN ⟨7, WN, []⟩ WN.length).2.left = []) := by
            refine ⟨doom_allW (z := zN) hok (wy := 7) hth HWQ.out, ?_⟩
            rw [(dzS_left (z := zN) (d := ⟨7, WN, []⟩) WN.length).1]
            exact List.drop_eq_nil_of_le (Nat.le_refl _)
          have HDO : Hid (∀ p, (dzS zN ⟨7, WN, []⟩ p).1.ok (tbC 8) (45 + jj + p) ∧ (dzS zN ⟨7, WN, []⟩ p).2.dn.length ≤ p ∧ (dzS zN ⟨7, WN, []⟩ p).1.hs.length = 8 ∧ (dzS zN ⟨7, WN, []⟩ p).1.ws = z0.ws) := fun p => by
            have h1 := dzS_ok (d := ⟨7, WN, []⟩) hok p
            refine ⟨h1, by simpa using (dzS_left (z := zN) (d := ⟨7, WN, []⟩) p).2.2, ?_, (dzS_ws p).trans HHZ.out.2⟩
            have := h1.hl
            simp [tbC] at this
            exact_mod_cast this
          have HDN : Hid (∀ p, (dzS zN ⟨7, WN, []⟩ (p + 1)).1 = (dzS zN ⟨7, WN, []⟩ p).1.dooms (dzS zN ⟨7, WN, []⟩ p).2 ∧ (dzS zN ⟨7, WN, []⟩ (p + 1)).2 = (dzS zN ⟨7, WN, []⟩ p).2.next (dzS zN ⟨7, WN, []⟩ p).1.hs) := fun p => ⟨rfl, rfl⟩
          have s12 : St w [dmI D A.t (dzS zN ⟨7, WN, []⟩ 0).2 dl (.slice none 0 0), ownI 48 4 (.slice la8 WN.length lc8) WN.length (vtCells WN), ownI 48 4 (.slice la1 WN.length lc1) WN.length (vtCells WN), XX, ownI 46 8 (.slice (some ⟨g2, 0, none⟩) 8 cap2) 8 (slCells (slots (dzS zN ⟨7, WN, []⟩ 0).1.hs z0.ws)), lkI K A.t kN vl vd vv, spI A (tbC 8) (dzS zN ⟨7, WN, []⟩ 0).1 v (.slice none 0 0), boxI F #[.int .u64 r0, .int .u64 r1] 24] w10 := by
            have e := H80.out
            have s11b := s11
            rw [e, ← HHZ.out.1] at s11b
            exact s11b
          clear s11 hok HWQ
          generalize hTT : dzS zN ⟨7, WN, []⟩ = T at *
          clear hTT
          have HMW : Hid (WN.length ≤ 8) := hwl
          have hwl' : (WN.length : Int) ≤ 8 := by omega
          go_wp2_with fail
          go_loopw [22] (fun i wr => ∃ (p : Nat) (v' dl dv : Value), i = .int .i64 p ∧ p ≤ WN.length ∧ St w [dmI D A.t (T p).2 dl dv, ownI 48 4 (.slice la8 WN.length lc8) WN.length (vtCells WN), ownI 48 4 (.slice la1 WN.length lc1) WN.length (vtCells WN), XX, ownI 46 8 (.slice (some ⟨g2, 0, none⟩) 8 cap2) 8 (slCells (slots (T p).1.hs z0.ws)), lkI K A.t kN vl vd vv, spI A (tbC 8) (T p).1 v' (.slice none 0 0), boxI F #[.int .u64 r0, .int .u64 r1] 24] wr) (fun i _ => WN.length - (intOf i).toNat)
          case atStart => exact ⟨0, v, dl, _, rfl, Nat.zero_le _, s12⟩
          case round =>
            clear s12
            obtain ⟨p, v', dl, dv, rfl, hp, hS⟩ := hrel
            have pp0 : (0 : Int) ≤ (p : Int) := by omega
            have hd := dmDone hS 0 rfl
            obtain ⟨hok, hdl, hh8, hws⟩ := HDO.out p
            by_cases hlt3 : p < WN.length
            · as_aux_lemma =>
                have pp1 : (p : Int) < (WN.length : Int) := by omega
                obtain ⟨s, hs8, ⟨hpl, hso⟩, hne, hset⟩ := HDS.out p hlt3
                rw [decide_eq_false hne] at hd
                have hq := dmStep hS 6 0 (by omega) rfl rfl hok (by omega) (by omega)
                rw [show (T p).2.ans = 1 by unfold Dm.ans; rw [if_neg hne]] at hq
                have hla : ∃ g1, la1 = some ⟨g1, 0, none⟩ := by
                  obtain ⟨g1, cap1, e1⟩ := hS.form 2 rfl (by omega)
                  simp only [Value.slice.injEq] at e1
                  exact ⟨g1, e1.1⟩
                obtain ⟨g1, rfl⟩ := hla
                obtain ⟨y0, _, _, _⟩ := vtCells_at WN p hpl
                rw [hso] at y0
                have HSET : Hid ((T (p + 1)).1.hs = (T p).1.hs.set s (((T p).1.hs.getD s Hd.zero).doomed 7)) := hset
                have H8 : Hid ((T p).1.hs.length = 8) := hh8
                have HY0 : Hid ((vtCells WN)[p * 4]? = some (.int .i64 (s : Nat))) := y0
                have ss0 : (0 : Int) ≤ (s : Int) := by omega
                have ss8 : (s : Int) < 8 := by omega
                clear hS hset hh8 hws hso y0 hne
                go_wp2_with (go_at_call 16; refine hd.mono ?_; rintro e wq ⟨rfl, rfl⟩)
                refine hq.mono ?_
                rintro e w11 ⟨rfl, v11, dl11, dv11, s13⟩
                clear hq hd
                have s14 : St w [dmI D A.t (T (p + 1)).2 dl11 dv11, ownI 48 4 (.slice la8 WN.length lc8) WN.length (vtCells WN), ownI 48 4 (.slice (some ⟨g1, 0, none⟩) WN.length lc1) WN.length (vtCells WN), XX, ownI 46 8 (.slice (some ⟨g2, 0, none⟩) (T p).1.hs.length cap2) (T p).1.hs.length (slCells (slots (T p).1.hs z0.ws)), lkI K A.t kN vl vd vv, spI A (tbC 8) (T (p + 1)).1 v11 (.slice none 0 0), boxI F #[.int .u64 r0, .int .u64 r1] 24] w11 := by
                  rw [H8.out, (HDN.out p).1, (HDN.out p).2]; exact s13
                clear s13
                have u0 : w11.cell? ⟨g1, p * 4, none⟩ = some (.int .i64 (s : Nat)) := (s14.ownCell 2 rfl _ (by omega)).trans HY0.out
                obtain ⟨_, _, _, _, x4, x5, _, _⟩ := slot_cells s14 4 rfl (by rw [HW16.out, H8.out]) (k := s) (by rw [H8.out]; omega)
                have y4 := s14.ownFrozen 4 rfl (s * 8 + 4)
                have y5 := s14.ownFrozen 4 rfl (s * 8 + 5)
                have a1 := s14.ownSet 4 rfl (s * 8 + 4) (by rw [H8.out]; omega) (.bool true)
                have HE : Hid (St w [dmI D A.t (T (p + 1)).2 dl11 dv11, ownI 48 4 (.slice la8 WN.length lc8) WN.length (vtCells WN), ownI 48 4 (.slice (some ⟨g1, 0, none⟩) WN.length lc1) WN.length (vtCells WN), XX, ownI 46 8 (.slice (some ⟨g2, 0, none⟩) 8 cap2) 8 (slCells (slots (T (p + 1)).1.hs z0.ws)), lkI K A.t kN vl vd vv, spI A (tbC 8) (T (p + 1)).1 v11 (.slice none 0 0), boxI F #[.int .u64 r0, .int .u64 r1] 24] ((w11.setCell ⟨g2, s * 8 + 4, none⟩ (.bool true)).setCell ⟨g2, s * 8 + 5, none⟩ (.int .i64 7))) := by
                  have a3 := St.slotDoom s14 4 rfl (by rw [HW16.out, H8.out]) (k := s) (by rw [H8.out]; omega) 7
                  rw [← HSET.out, H8.out] at a3
                  exact a3
                have u0' : (w11.setCell ⟨g2, s * 8 + 4, none⟩ (.bool true)).cell? ⟨g1, p * 4, none⟩ = some (.int .i64 (s : Nat)) := (a1.ownCell 2 rfl _ (by omega)).trans HY0.out
                have x5' : (w11.setCell ⟨g2, s * 8 + 4, none⟩ (.bool true)).frozen? ⟨g2, s * 8 + 5, none⟩ = false := a1.ownFrozen 4 rfl (s * 8 + 5)
                obtain ⟨X5, hX5⟩ : ∃ X5, (w11.setCell ⟨g2, s * 8 + 4, none⟩ (.bool true)).cell? ⟨g2, s * 8 + 5, none⟩ = some (.int .i64 X5) := ⟨_, by
                  rw [a1.ownCell 4 rfl (s * 8 + 5) (by rw [H8.out]; omega), List.getElem?_set_ne (by omega), ← s14.ownCell 4 rfl (s * 8 + 5) (by rw [H8.out]; omega)]; exact x5⟩
                clear s14 a1 x5 y5
                go_upto_region 38 with fail
                generalize w11.setCell ⟨g2, s * 8 + 4, none⟩ (.bool true) = w12 at *
                clear u0 x4 y4
                go_wp2
                go_roundw
                case rel => exact ⟨p + 1, v11, dl11, dv11, by go_num, by omega, HE.out⟩
                case measure => simp [intOf]; omega
            · obtain rfl : p = WN.length := by omega
              have pp1 : ¬ ((WN.length : Nat) : Int) < ((WN.length : Nat) : Int) := by omega
              have hq := spView hS 6 rfl hok.wl hok.h1 hok.h8
              unfold spp at hq
              rw [hws, hh8] at hq
              obtain ⟨hdn, hlf2⟩ := HDE.out
              have HXL : Hid (1 ≤ (T WN.length).1.xs.length) := hok.c1
              have hd2 : decide ((T WN.length).2.left = []) = true := decide_eq_true hlf2
              have HDNN : Hid ((T WN.length).2.dn = WN) := hdn
              have HH8 : Hid ((T WN.length).1.hs.length = 8) := hh8
              clear hS hd hws hh8 hdn hlf2 HDE HDS HDO HDN
              go_wp2_with fail
              refine hq.mono ?_
              rintro e w11 ⟨va2, vs2, rfl, s13⟩
              clear hq
              obtain ⟨g3, cap3, rfl⟩ := s13.form 1 rfl (by omega)
              obtain ⟨gb, capb, rfl⟩ := s13.form 0 rfl (by have := HXL.out; omega)
              have HC : Hid (∀ p, p < 8 → ∃ (a b c d : Int) (e : Bool) (f x y : Int), (w11.cell? ⟨g3, p * 8, none⟩ = some (.int .i64 a) ∧ w11.cell? ⟨g3, p * 8 + 1, none⟩ = some (.int .i64 b) ∧ w11.cell? ⟨g3, p * 8 + 2, none⟩ = some (.int .i64 c) ∧ w11.cell? ⟨g3, p * 8 + 3, none⟩ = some (.int .i64 d) ∧ w11.cell? ⟨g3, p * 8 + 4, none⟩ = some (.bool e) ∧ w11.cell? ⟨g3, p * 8 + 5, none⟩ = some (.int .i64 f) ∧ w11.cell? ⟨g3, p * 8 + 6, none⟩ = some (.int .u64 x) ∧ w11.cell? ⟨g3, p * 8 + 7, none⟩ = some (.int .u64 y)) ∧ (w11.cell? ⟨g2, p * 8, none⟩ = some (.int .i64 a) ∧ w11.cell? ⟨g2, p * 8 + 1, none⟩ = some (.int .i64 b) ∧ w11.cell? ⟨g2, p * 8 + 2, none⟩ = some (.int .i64 c) ∧ w11.cell? ⟨g2, p * 8 + 3, none⟩ = some (.int .i64 d) ∧ w11.cell? ⟨g2, p * 8 + 4, none⟩ = some (.bool e) ∧ w11.cell? ⟨g2, p * 8 + 5, none⟩ = some (.int .i64 f) ∧ w11.cell? ⟨g2, p * 8 + 6, none⟩ = some (.int .u64 x) ∧ w11.cell? ⟨g2, p * 8 + 7, none⟩ = some (.int .u64 y))) := by
                intro p hp
                have s6r : St w [ownI 2 1 (.slice (some ⟨gb, 0, none⟩) (T WN.length).1.xs.length capb) (T WN.length).1.xs.length (clCells (T WN.length).1.xs), ownI 46 8 (.slice (some ⟨g3, 0, none⟩) (T WN.length).1.hs.length cap3) (T WN.length).1.hs.length (slCells (slots (T WN.length).1.hs z0.ws)), dmI D A.t (T WN.length).2 dl dv, ownI 48 4 (.slice la8 WN.length lc8) WN.length (vtCells WN), ownI 48 4 (.slice la1 WN.length lc1) WN.length (vtCells WN), XX, ownI 46 8 (.slice (some ⟨g2, 0, none⟩) (T WN.length).1.hs.length cap2) (T WN.length).1.hs.length (slCells (slots (T WN.length).1.hs z0.ws)), lkI K A.t kN vl vd vv, spI A (tbC 8) (T WN.length).1 v' (.slice none 0 0), boxI F #[.int .u64 r0, .int .u64 r1] 24] w11 := by rw [HH8.out]; exact s13
                exact ⟨_, _, _, _, _, _, _, _, slot_cells s6r 1 rfl (by rw [HW16.out, HH8.out]) (k := p) (by rw [HH8.out]; omega), slot_cells s6r 6 rfl (by rw [HW16.out, HH8.out]) (k := p) (by rw [HH8.out]; omega)⟩
              have HS13 : Hid (∀ n, St w _ (w11.drewN n)) := fun n => s13.calm ((Kept.refl _ _).drewN n)
              clear s13
              generalize (T WN.length).1.xs.length = nx2 at *
              go_wp2_with (simp only [vField_slots])
              go_loopw [24] (fun i wr => ∃ (p nn : Nat), i = .int .i64 p ∧ p ≤ 8 ∧ wr = w11.drewN nn) (fun i _ => 8 - (intOf i).toNat)
              case atStart => exact ⟨0, 0, rfl, Nat.zero_le _, rfl⟩
              case round =>
                obtain ⟨p, nn, rfl, hp, rfl⟩ := hrel
                have pp0 : (0 : Int) ≤ (p : Int) := by omega
                by_cases hp8 : p < 8
                · as_aux_lemma =>
                    have pp1 : (p : Int) < 8 := by omega
                    obtain ⟨a, b, c, d, e, f, x, y, ⟨a0, a1, a2, a3, a4, a5, a6, a7⟩, b0, b1, b2, b3, b4, b5, b6, b7⟩ := HC.out p hp8
                    clear HC HS13
                    go_wp2_with fail
                    go_quiet (fail)
                    go_wp2
                    go_roundw
                    case rel => exact ⟨p + 1, _, by go_num, by omega, rfl⟩
                    case measure => simp [intOf]; omega
                · obtain rfl : p = 8 := by omega
                  have s14 := HS13.out nn
                  clear HS13 HC
                  generalize w11.drewN nn = w12 at *
                  have hd := dmDone s14 2 rfl
                  rw [hd2] at hd
                  have hq := dmDoomed s14 2 rfl (by rw [HDNN.out]; omega)
                  rw [HDNN.out] at hq
                  clear s14
                  go_wp2_with (go_at_call 16; refine hd.mono ?_; rintro e wq ⟨rfl, rfl⟩)
                  refine hq.mono ?_
                  rintro e w13 ⟨v13, rfl, s15⟩
                  clear hq hd
                  obtain ⟨la13, lc13, e13, hVa, _⟩ := own_vin0 (ys := WN) (s15.get 0 rfl)
                  subst e13
                  obtain ⟨_, _, e2', hVb, _⟩ := own_vin0 (ys := WN) (s15.get 5 rfl)
                  simp only [Value.slice.injEq, true_and] at e2'
                  rw [← e2'.1] at hVb
                  have hsm := sameVt w13 la13 la1 WN.length lc13 lc1 WN hVa hVb (by omega)
                  have HK : Hid (∀ n, Kept (fun _ => False) w (w13.drewN n)) := fun n => (s15.calm ((Kept.refl _ _).drewN n)).same
                  clear s15 hVa hVb e2'
                  go_wp2_with fail
                  refine hsm.mono ?_
                  rintro e w14 ⟨rfl, q14, hq14⟩
                  have HKK : Hid (Kept (fun _ => False) w w14) := by rw [hq14]; exact HK.out q14
                  clear hsm hq14 HK
                  go_wp2
                  go_ret
                  exact ⟨rfl, HKK.out⟩
end Go.Proofs.Ytpojkkdmlpjfeaa
