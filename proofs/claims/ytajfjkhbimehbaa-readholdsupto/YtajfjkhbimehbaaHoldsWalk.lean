/- The law ReadHolds, step by step. -/
import Derived.Test.YtajfjkhbimehbaaHoldD
import Derived.Test.YtajfjkhbimehbaaDeeds
import Derived.Test.YtajfjkhbimehbaaRest
import Derived.Deep.RegionHeld3
import Derived.Deep.CutBlock
import Derived.OrdersHeld
namespace Go.Proofs.Ytajfjkhbimehbaa
open Go.RowKit
set_option linter.unusedVariables false
set_option linter.unusedSimpArgs false
attribute [local go_sem ↓] Go.wp_at_zero Go.wp_at_succ
theorem vField_slots' (p q : Option Addr) (n m k l : Nat) (a b : Int) (w : World) : (Instr.field 54 (.agg #[.slice p n k, .int .i64 a, .int .i64 b, .slice q m l]) 2).run Try.prog w = .ok (.slice q m l) w := by kernel_rfl
theorem gField_owner (a b : Int) (w : World) : (Instr.field 51 (.agg #[.int .i64 a, .int .i64 b]) 1).run Try.prog w = .ok (.int .i64 b) w := by kernel_rfl
attribute [local go_sem ↓] vField_slots' gField_owner
theorem hid {p : Prop} (h : p) : Hid p := h
def cq (ts : List Int) (j : Nat) : Int := (ts.getD j 0) % 16

set_option maxRecDepth 100000 in
set_option maxHeartbeats 8000000 in
theorem holds_walk (bits_ : Int) (ta : Option Addr) (tl tc : Nat) (ts : List Int) (sa : Option Addr) (sl sc : Nat) (f : Nat → OpD) (w : World) (hT : IntsIn w ta tl ts) (htl : tl ≤ 17592186044416) (hS : ScriptAt w sa sl f) (hsl : sl ≤ 1048576) :
    Calls Try.prog 5 #[.int .i64 bits_, .slice ta tl tc, .slice sa sl sc] w fun e w' => e = .returned (.bool true) ∧ Kept (fun _ => False) w w' := by
  obtain ⟨b, hb, b1, b8⟩ : ∃ n : Int, 1 + bits .and .i64 bits_ 127 = n ∧ 1 ≤ n ∧ n ≤ 128 := ⟨1 + bits_ % 128, by rw [show bits .and .i64 bits_ 127 = bits_ % 128 from and_mask bits_ 7 (by decide)], by omega, by omega⟩
  have hfc : (rdC 16 b).fits = true := rdC_fits (by omega) ⟨b1, b8⟩
  have HSC : Hid (ScriptAt w sa sl f) := hS
  have HT : Hid (IntsIn w ta tl ts) := hT
  have hsl' : (sl : Int) ≤ 1048576 := by omega
  have htl' : (tl : Int) ≤ 17592186044416 := by omega
  clear hS hT
  go_enter Try.func5, Try.ntmps5
  go_wp2_with fail
  refine (up_any _).mono ?_
  rintro e w1 ⟨rfl, k1⟩
  have hq := reader_st ((St.nil w).calm k1) 16 b hfc
  clear k1
  go_wp2_with (simp only [hb])
  refine hq.mono ?_
  rintro e w2 ⟨A, v2, rfl, s2⟩
  clear hq
  unfold spp
  have s3 := s2.box #[.int .i64 0, .int .i64 1, .int .i64 1, .int .u64 0, .int .u64 0] 34
  go_upto_region 7 with fail
  generalize w2.alloc (.cells #[.int .i64 0, .int .i64 1, .int .i64 1, .int .u64 0, .int .u64 0] 34) = w4 at *
  generalize w2.heap.size = F at *
  have s4 := s3.box #[.slice none 0 0, .slice none 0 0] 82
  have H3 : Hid (HQ w b (cq ts 0) A w4.heap.size F (2 + 20 * 0) (rdZ 16 b) Sg.zero [] #[.int .i64 0, .int .i64 1, .int .i64 1, .int .u64 0, .int .u64 0] [] [] (.slice none 0 0) (.slice none 0 0) (.pointer none) (w4.alloc (.cells #[.slice none 0 0, .slice none 0 0] 82))) := by
    refine ⟨v2, rdZ_ok hfc, Sg.ok_zero, ⟨⟨_, rfl, rfl, rfl⟩, (by have := (rdZ_ok hfc).cl; simp [rdC] at this; exact_mod_cast this), rfl, fun x hx => by simp at hx, fun _ x hx => by simp at hx⟩, by simp, .inl ⟨rfl, rfl, 1, rfl⟩, ?_⟩
    refine St.own (e := 3) (z := 1) (v := .slice none 0 0) (n := 0) (xs := []) ?_ (Kept.refl _ _) (World.ownsRow_nil _ _ _ _)
    exact St.own (e := 2) (z := 1) (v := .slice none 0 0) (n := 0) (xs := []) s4 (Kept.refl _ _) (World.ownsRow_nil _ _ _ _)
  clear s2 s3 s4
  go_upto_region 8 with fail
  generalize w4.alloc (.cells #[.slice none 0 0, .slice none 0 0] 82) = w5 at *
  generalize w4.heap.size = PB at *
  go_wp2_with fail
  go_loopw [13, 14, 15, 16, 17, 18, 19, 20, 21, 22, 23, 24, 25] (fun xp nx a _ _ _ _ _ _ _ _ _ _ wr => ∃ (i j : Nat) (z : SSt) (sg : Sg) (p : List (Int × Int)) (fs : Array Value) (XS : List It) (vc vv : Value), a = .int .i64 i ∧ nx = .int .i64 j ∧ i ≤ sl ∧ j ≤ tl ∧ (xp = .pointer none ∨ j < tl) ∧ Hid (HQ w b (cq ts j) A PB F (2 + 20 * i) z sg p fs XS [] vc vv xp wr)) (fun _ _ a _ _ _ _ _ _ _ _ _ _ _ => sl - (intOf a).toNat)
  case atStart => exact ⟨0, 0, _, _, _, _, _, _, _, rfl, rfl, Nat.zero_le _, Nat.zero_le _, .inl rfl, H3⟩
  case round =>
    clear H3
    obtain ⟨i, j, z, sg, p, fs, XS, vc, vv, rfl, rfl, hi, hj, hxj, HS⟩ := hrel
    have hi0 : (0 : Int) ≤ (i : Int) := by omega
    have hj0 : (0 : Int) ≤ (j : Int) := by omega
    by_cases hlt : i < sl
    · have hi1 : (i : Int) < (sl : Int) := by omega
      obtain ⟨sb, so, rfl, hops⟩ := HSC.out.resolve_left (by omega)
      have HOP : Hid (∀ W, Kept (fun _ => False) w W → OpAt W sb (so + i * 4) (f i)) := fun W kk => (hops i hlt).kept kk
      clear hops
      generalize f i = d at *
      obtain ⟨o0, o1, o2, o3, _, _⟩ := HOP.out _ HS.out.same
      go_upto_region 14 with fail
      have HD : Hid (HQ w b (cq ts j) A PB F (2 + 20 * i) z sg p fs XS [boxI wr.heap.size #[.bool d.take, .bool d.give, .slice d.la_cells d.ll_cells d.lc_cells, .int .i64 d.x] 84] vc vv u13 (wr.alloc (.cells #[.bool d.take, .bool d.give, .slice d.la_cells d.ll_cells d.lc_cells, .int .i64 d.x] 84))) := by
        obtain ⟨v, ok, hs, hiv, hl, hx, h⟩ := HS.out
        refine ⟨v, ok, hs, hiv, hl, hx, ?_⟩
        rw [List.append_nil] at h
        exact (h.box #[.bool d.take, .bool d.give, .slice d.la_cells d.ll_cells d.lc_cells, .int .i64 d.x] 84).perm (List.perm_append_comm (l₁ := [boxI wr.heap.size #[.bool d.take, .bool d.give, .slice d.la_cells d.ll_cells d.lc_cells, .int .i64 d.x] 84]) (l₂ := _ :: _ :: _ :: _ :: _ :: XS))
      generalize wr.alloc (.cells #[.bool d.take, .bool d.give, .slice d.la_cells d.ll_cells d.lc_cells, .int .i64 d.x] 84) = wd at *
      generalize wr.heap.size = D at *
      clear o0 o1 o2 o3 HS
      have HDC : Hid (∀ {ce k z sg p fs XS vc vv xp W}, HQ w b ce A PB F k z sg p fs XS [boxI D #[.bool d.take, .bool d.give, .slice d.la_cells d.ll_cells d.lc_cells, .int .i64 d.x] 84] vc vv xp W → W.cell? ⟨D, 0, none⟩ = some (.bool d.take) ∧ W.cell? ⟨D, 1, none⟩ = some (.bool d.give) ∧ W.cell? ⟨D, 2, none⟩ = some (.slice d.la_cells d.ll_cells d.lc_cells) ∧ W.cell? ⟨D, 3, none⟩ = some (.int .i64 d.x)) := by
        intro ce k z sg p fs XS vc vv xp W h
        obtain ⟨v, ok, hs, hiv, hl, hx, h⟩ := h
        have e : (ownI 3 1 vc p.length (clCells (p.map (·.1))) :: ownI 2 1 vv p.length (clCells (p.map (·.2))) :: boxI PB #[vc, vv] 82 :: boxI F fs 34 :: spI A (rdC 16 b) z v (.slice none 0 0) :: (XS ++ [boxI D #[.bool d.take, .bool d.give, .slice d.la_cells d.ll_cells d.lc_cells, .int .i64 d.x] 84]))[5 + XS.length]? = some (boxI D #[.bool d.take, .bool d.give, .slice d.la_cells d.ll_cells d.lc_cells, .int .i64 d.x] 84) := by
          rw [Nat.add_comm]
          simp
        exact ⟨h.cell _ e 0, h.cell _ e 1, h.cell _ e 2, h.cell _ e 3⟩
      obtain ⟨a0, a1, a2, a3⟩ := HDC.out HD.out
      go_upto_if 53 with fail
      go_cut [14] from 42 to 201 (fun v wx => v = .int .i64 (j : Nat) ∧ ∃ z', Hid (HQ w b (cq ts j) A PB F (2 + 20 * i + 1) z' sg p fs XS [boxI D #[.bool d.take, .bool d.give, .slice d.la_cells d.ll_cells d.lc_cells, .int .i64 d.x] 84] vc vv u13 wx))
      case first =>
        have hg := HD.out.gate
        have ht := HD.out.take (by omega) 2
        unfold spp at hg
        cases htk : d.take with
        | true =>
          rw [htk] at *
          go_wp2_with (go_at_call 20; refine hg.mono ?_; rintro e wq ⟨rfl, rfl⟩)
          refine ht.mono ?_
          rintro e w5 ⟨rfl, h5⟩
          clear ht hg
          go_wp2
          go_meet
          exact ⟨rfl, _, h5⟩
        | false =>
          rw [htk] at *
          go_wp2
          go_meet
          obtain ⟨v, ok, hs, hiv, hl, hx, h⟩ := HD.out
          exact ⟨rfl, z, v, ok.more (by omega), hs, hiv, by omega, hx, h⟩
      case rest =>
        obtain ⟨rfl, z1, H1⟩ := hcut
        clear a0 a1 a2 a3 HD
        obtain ⟨a0, a1, a2, a3⟩ := HDC.out H1.out
        go_upto_region 16 with fail
        go_cut [14, 67] from 42 to 201 (fun v q wx => v = .int .i64 (j : Nat) ∧ ∃ t : Bool, q = .bool t ∧ (t = true → 0 < d.ll_cells) ∧ Hid (HQ w b (cq ts j) A PB F (2 + 20 * i + 1) z1 sg p fs XS [boxI D #[.bool d.take, .bool d.give, .slice d.la_cells d.ll_cells d.lc_cells, .int .i64 d.x] 84] vc vv u13 wx))
        case first =>
          as_aux_lemma =>
            have hg := H1.out.gate
            have hn := H1.out.now
            unfold spp at hg
            by_cases hc0 : d.ll_cells = 0
            · have hc1 : ¬ (0 : Int) < (d.ll_cells : Int) := by omega
              clear hg hn
              go_wp2
              go_meet
              exact ⟨rfl, false, rfl, by simp, H1⟩
            · have hc1 : (0 : Int) < (d.ll_cells : Int) := by omega
              go_wp2_with (go_at_call 20; refine hg.mono ?_; rintro e wq ⟨rfl, rfl⟩)
              refine hn.mono ?_
              rintro e w5 ⟨rfl, h5⟩
              have H5 : Hid _ := h5
              clear hg hn h5
              unfold Gt.val
              go_wp2
              go_meet
              exact ⟨rfl, (z1.x.o == 2), rfl, fun _ => by omega, H5⟩
        case rest =>
          obtain ⟨rfl, t, rfl, ht, H2⟩ := hcut
          clear a0 a1 a2 a3 H1
          go_upto_if 67 with fail
          go_cut [14, 17, 18, 19, 20, 21] from 42 to 201 (fun v _ _ _ _ _ wx => v = .int .i64 (j : Nat) ∧ ∃ z', Hid (HQ w b (cq ts j) A PB F (2 + 20 * i + 18) z' sg p fs XS [boxI D #[.bool d.take, .bool d.give, .slice d.la_cells d.ll_cells d.lc_cells, .int .i64 d.x] 84] vc vv u13 wx))
          case first =>
            cases t with
            | true =>
              focus
                have hl0 := ht rfl
                have HNI : Hid (∀ W, Kept (fun _ => False) w W → NumsIn W d.la_cells d.ll_cells d.zs_cells ∧ d.ll_cells ≤ 17592186044416) := fun W kk => ⟨(HOP.out W kk).list_cells, by have := (HOP.out W kk).reach_cells; omega⟩
                have hlb : (d.ll_cells : Int) ≤ 17592186044416 := by have := (HNI.out _ H2.out.same).2; omega
                have hlb0 : (0 : Int) ≤ (d.ll_cells : Int) := by omega
                have HL0 : Hid (HQ w b (cq ts j) A PB F (2 + 20 * i + 1) z1 sg p fs XS (ownI 3 1 (.slice none 0 0) 0 (clCells []) :: [boxI D #[.bool d.take, .bool d.give, .slice d.la_cells d.ll_cells d.lc_cells, .int .i64 d.x] 84]) vc vv u13 wc) := H2.out.push1 (fun _ h => h.own (Kept.refl _ _) (World.ownsRow_nil _ _ _ _))
                clear H2 ht
                go_wp2_with fail
                go_loopw [17, 18] (fun lv kv wx => ∃ (k : Nat) (l : List Int), kv = .int .i64 k ∧ k ≤ 16 ∧ k ≤ d.ll_cells ∧ Hid (l.length = k) ∧ Hid (∀ x ∈ l, 0 ≤ x ∧ x < 16) ∧ Hid (HQ w b (cq ts j) A PB F (2 + 20 * i + 1) z1 sg p fs XS (ownI 3 1 lv k (clCells l) :: [boxI D #[.bool d.take, .bool d.give, .slice d.la_cells d.ll_cells d.lc_cells, .int .i64 d.x] 84]) vc vv u13 wx)) (fun _ kv _ => 16 - (intOf kv).toNat)
                case atStart => exact ⟨0, [], rfl, Nat.zero_le _, Nat.zero_le _, rfl, fun x hx => by simp at hx, HL0⟩
                case round =>
                  clear HL0
                  obtain ⟨k, l, rfl, hk16, hkl, HLL, HR16, HS⟩ := hrel
                  have hk0 : (0 : Int) ≤ (k : Int) := by omega
                  obtain ⟨a0, a1, a2, a3⟩ := HDC.out HS.out.pop1
                  clear a0 a1 a3
                  obtain ⟨w20, hw20⟩ : ∃ y, y = wr := ⟨_, rfl⟩
                  subst hw20
                  go_upto_region 19 with fail
                  go_cut [76] from 68 to 87 (fun q wx => q = .bool (decide (k < d.ll_cells) && decide (k < 16)) ∧ wx = w20)
                  case first =>
                    by_cases h1 : k < d.ll_cells
                    · have h1' : (k : Int) < (d.ll_cells : Int) := by omega
                      have e1 : decide (k < d.ll_cells) = true := by simpa using h1
                      by_cases h2 : k < 16
                      · have h2' : (k : Int) < 16 := by omega
                        have e2 : decide (k < 16) = true := by simpa using h2
                        clear h1 h2
                        go_wp2_with fail
                        go_meet
                        exact ⟨by rw [e1, e2]; rfl, rfl⟩
                      · have h2' : ¬ (k : Int) < 16 := by omega
                        have e2 : decide (k < 16) = false := by simpa using h2
                        clear h1 h2
                        go_wp2_with fail
                        go_meet
                        exact ⟨by rw [e1, e2]; rfl, rfl⟩
                    · have h1' : ¬ (k : Int) < (d.ll_cells : Int) := by omega
                      have e1 : decide (k < d.ll_cells) = false := by simpa using h1
                      clear h1
                      go_wp2_with fail
                      go_meet
                      exact ⟨by rw [e1]; rfl, rfl⟩
                  case rest =>
                    obtain ⟨rfl, rfl⟩ := hcut
                    obtain ⟨w21, hw21⟩ : ∃ y, y = wc := ⟨_, rfl⟩
                    subst hw21
                    by_cases hgo : (decide (k < d.ll_cells) && decide (k < 16)) = true
                    · rw [hgo]
                      focus
                        obtain ⟨h1, h2⟩ : k < d.ll_cells ∧ k < 16 := by simpa using hgo
                        clear hgo
                        have h1' : (k : Int) < (d.ll_cells : Int) := by omega
                        obtain ⟨lb, lo, hla, hlc⟩ := (HNI.out _ HS.out.same).1.2 (by omega)
                        have x0 := hlc k h1
                        rw [hla] at a2
                        clear hla hlc
                        generalize d.zs_cells.getD k 0 = tx at *
                        obtain ⟨q, hq, hq16⟩ : ∃ q : Nat, bits .and .i64 tx 15 = (q : Int) ∧ q < 16 := ⟨(tx % 16).toNat, by rw [show bits .and .i64 tx 15 = tx % 16 from and_mask tx 4 (by decide)]; omega, by omega⟩
                        obtain ⟨its, hst⟩ := HS.out.get1
                        have ho : w21.ownsRow 0 3 1 u17 k (clCells l) := hst.get 0 rfl
                        clear hst its
                        have HG : Hid (∀ g cap w6, w6.ownsRow 0 3 1 (.slice (some ⟨g, 0, none⟩) (k + 1) cap) (k + 1) (clCells l ++ [.int .i64 (q : Int)]) → (w21.alloc (.cells #[.int .i64 (q : Int)] 3)).grownBy w6 u17.ownBlock → (u17.ownBlock = some g ∨ g = w21.heap.size + 1) → HQ w b (cq ts j) A PB F (2 + 20 * i + 1) z1 sg p fs XS (ownI 3 1 (.slice (some ⟨g, 0, none⟩) (k + 1) cap) (k + 1) (clCells (l ++ [(q : Int)])) :: [boxI D #[.bool d.take, .bool d.give, .slice d.la_cells d.ll_cells d.lc_cells, .int .i64 d.x] 84]) vc vv u13 w6) := by
                          intro g cap w6 p1 p2 p3
                          refine HS.out.turn1 (fun its h => ?_)
                          rw [clCells_append]
                          refine h.ownGrow 0 rfl p1 (((Kept.refl _ w21).alloc _).grown p2 (fun k e => .inl e)) ?_
                          rcases p3 with e | e
                          · exact .inl (by rw [e]; rfl)
                          · exact .inr ⟨g, rfl, by omega⟩
                        clear HS
                        obtain ⟨i0, hi0, hz0, hz1, hz2⟩ := info_parts Try.infoInt
                        obtain ⟨la, lc, rfl⟩ := own_form (w := w21) (t := 3) (z := 1) (v := u17) (n := k) (xs := clCells l) ho
                        go_wp2_with (first | simp only [hq] | (at_builtin; refine wpList_append_lies _ rfl (.tmp 79) (.tmp 86) 23 rfl 0 3 i0 _ 1 8 Try.underlying23 hi0 hz0 hz1 hz2 rfl (by omega) _ k (clCells l) rfl (ho.alloc _) ⟨w21.heap.size, 0, none⟩ 1 1 [.int .i64 (q : Int)] rfl (by simp) (World.news_of_block (cs := #[.int .i64 (q : Int)]) (t := 3) (fr := (0, 0)) (heap_alloc_new w21 _)) (by simp [Value.oneCell']) (by omega) (by unfold maxLen; omega) (by omega) (Nat.zero_le _) (w21.heap.size + 1) (by simp) ?_; intro g bc w6 hown6 hgrow6 hat6 hlt6; have HP0 := hid (HG.out g bc w6 hown6 hgrow6 hat6); clear HG hown6 hgrow6 hat6 hlt6))
                        go_roundw
                        case rel => exact ⟨k + 1, l ++ [(q : Int)], by go_num, by omega, by omega, by show _ = _; rw [List.length_append, HLL.out]; rfl, fun x hx => by
                          rcases List.mem_append.1 hx with hx | hx
                          · exact HR16.out x hx
                          · rw [List.mem_singleton.1 hx]; omega, HP0⟩
                        case measure => simp [intOf]; omega
                    · rw [show (decide (k < d.ll_cells) && decide (k < 16)) = false by simpa using hgo]
                      clear hgo a2
                      obtain rfl := HLL.out
                      obtain ⟨its, hst⟩ := HS.out.get1
                      obtain ⟨la, lc, rfl, hin⟩ := own_clInts (w := w21) (v := u17) (l := l) (hst.get 0 rfl)
                      clear hst its
                      have hfin : Fine b l := fun x hx => hashE_in ⟨b1, b8⟩ (HR16.out x hx)
                      have hof := of_any la l.length lc l b w21 hin (by omega)
                      rw [ofR_fine hfin ⟨b1, b8⟩] at hof
                      have HFIN : Hid (Fine b l) := hfin
                      clear hfin hin
                      obtain ⟨TT, HTE⟩ : ∃ TT, Hid ((ofR l b).1 = TT) := ⟨_, rfl⟩
                      rw [HTE.out] at hof
                      have HTOK : Hid TT.ok := by show TT.ok; rw [← HTE.out]; exact ofR_ok _ _
                      obtain ⟨T0, T1⟩ := TT
                      simp only [Sg.val] at hof
                      have HLK : Hid (∀ w10, Kept (fun _ => False) w21 w10 → HQ w b (cq ts j) A PB F (2 + 20 * i + 1) z1 sg p fs XS (boxI w10.heap.size #[.int .u64 T0, .int .u64 T1] 32 :: ownI 3 1 (.slice la l.length lc) l.length (clCells l) :: [boxI D #[.bool d.take, .bool d.give, .slice d.la_cells d.ll_cells d.lc_cells, .int .i64 d.x] 84]) vc vv u13 (w10.alloc (.cells #[.int .u64 T0, .int .u64 T1] 32))) := fun w10 kk => (HS.out.calm kk).box _ _
                      clear HS HLL
                      go_wp2_with fail
                      refine hof.mono ?_
                      rintro e w10 ⟨rfl, k10⟩
                      have H10 := hid (HLK.out w10 k10)
                      clear hof k10 HLK
                      go_upto_region 25 with fail
                      generalize w10.alloc (.cells #[.int .u64 T0, .int .u64 T1] 32) = w11 at *
                      generalize w10.heap.size = SB at *
                      obtain ⟨PP, hPd⟩ : ∃ PP : World → Prop, PP = fun W => HQ w b (cq ts j) A PB F (2 + 20 * i + 1) z1 sg p fs XS (boxI SB #[.int .u64 T0, .int .u64 T1] 32 :: ownI 3 1 (.slice la l.length lc) l.length (clCells l) :: [boxI D #[.bool d.take, .bool d.give, .slice d.la_cells d.ll_cells d.lc_cells, .int .i64 d.x] 84]) vc vv u13 W := ⟨_, rfl⟩
                      have HPP : Hid (∀ W, PP W → HQ w b (cq ts j) A PB F (2 + 20 * i + 1) z1 sg p fs XS (boxI SB #[.int .u64 T0, .int .u64 T1] 32 :: ownI 3 1 (.slice la l.length lc) l.length (clCells l) :: [boxI D #[.bool d.take, .bool d.give, .slice d.la_cells d.ll_cells d.lc_cells, .int .i64 d.x] 84]) vc vv u13 W) := fun W h => by rw [hPd] at h; exact h
                      have hD : PP w11.drew := by rw [hPd]; exact H10.out.drew
                      have HSB : Hid (∀ W, PP W → W.cell? ⟨SB, 0, none⟩ = some (.int .u64 T0) ∧ W.cell? ⟨SB, 1, none⟩ = some (.int .u64 T1)) := fun W h => by
                        obtain ⟨its, hst⟩ := (HPP.out W h).get1
                        exact ⟨hst.cell 0 rfl 0, hst.cell 0 rfl 1⟩
                      obtain ⟨s0, s1⟩ := HSB.out _ hD
                      have s0' : w11.cell? ⟨SB, 0, none⟩ = some (.int .u64 T0) := s0
                      have s1' : w11.cell? ⟨SB, 1, none⟩ = some (.int .u64 T1) := s1
                      obtain ⟨S0, S1⟩ := sg
                      obtain ⟨mt, HMT⟩ : ∃ mt, Hid ((!(((⟨T0, T1⟩ : Sg).meet ⟨S0, S1⟩).same Sg.zero)) = mt) := ⟨_, rfl⟩
                      have hv : Hid (∀ W, PP W → Calls Try.prog 19 #[.pointer (some ⟨A.sp, 0, none⟩)] W fun e w' => ∃ pa ca N O ps cs, e = .returned (.agg #[.slice pa 16 ca, .int .i64 N, .int .i64 O, .slice (some ⟨ps, 0, none⟩) 1 cs]) ∧ w'.cell? ⟨ps, 6, none⟩ = some (.int .u64 S0) ∧ w'.cell? ⟨ps, 7, none⟩ = some (.int .u64 S1) ∧ (w'.cell? ⟨SB, 0, none⟩ = some (.int .u64 T0) ∧ w'.cell? ⟨SB, 1, none⟩ = some (.int .u64 T1)) ∧ PP w') := fun W h => by
                        refine (HPP.out W h).view.mono ?_
                        rintro e w' ⟨pa, ca, N, O, ps, cs, rfl, l6, l7, h'⟩
                        have hp' : PP w' := by rw [hPd]; exact h'
                        exact ⟨pa, ca, N, O, ps, cs, rfl, l6, l7, HSB.out _ hp', hp'⟩
                      have hm : Hid (∀ W, PP W → Calls Try.prog 27 #[.agg #[.int .u64 T0, .int .u64 T1], .agg #[.int .u64 S0, .int .u64 S1]] W fun e w' => e = .returned (.bool mt) ∧ PP w') := fun W h => by
                        refine (sigMeets_any ⟨T0, T1⟩ ⟨S0, S1⟩ HTOK.out (HPP.out W h).sgok W).mono ?_
                        rintro e w' ⟨rfl, kk⟩
                        exact ⟨by rw [HMT.out], by rw [hPd]; exact (HPP.out W h).calm kk⟩
                      clear hPd H10
                      have hps : (0 : Int) < 1 := by omega
                      go_cut [103] from 42 to 201 (fun q wx => q = .bool mt ∧ Hid (PP wx))
                      case first =>
                        as_aux_lemma =>
                          go_region_with (first | (go_at_call 19; refine (hv.out _ hD).mono ?_; rintro e wx ⟨pa, ca, N, O, ps, cs, rfl, l6, l7, ⟨s0, s1⟩, hD⟩) | (go_at_call 27; refine (hm.out _ hD).mono ?_; rintro e wy ⟨rfl, hD⟩))
                          all_goals
                            go_wp2_with fail
                            go_meet
                            exact ⟨rfl, hD⟩
                      case rest =>
                        obtain ⟨rfl, HP⟩ := hcut
                        have H11 := hid (HPP.out _ HP.out)
                        clear HPP HP hv hm HSB hD s0 s1 s0' s1' hps
                        go_upto_if 103 with fail
                        go_cut [14] from 42 to 201 (fun v wx => v = .int .i64 (j : Nat) ∧ ∃ z2, Hid (z2.dmd = true ∨ mt = false) ∧ Hid (HQ w b (cq ts j) A PB F (2 + 20 * i + 2) z2 ⟨S0, S1⟩ p fs XS (boxI SB #[.int .u64 T0, .int .u64 T1] 32 :: ownI 3 1 (.slice la l.length lc) l.length (clCells l) :: [boxI D #[.bool d.take, .bool d.give, .slice d.la_cells d.ll_cells d.lc_cells, .int .i64 d.x] 84]) vc vv u13 wx))
                        case first =>
                          as_aux_lemma =>
                            have hs := H11.out.slots
                            have hd := H11.out.doom (by omega)
                            unfold spp at hs
                            cases mt with
                            | true =>
                              go_wp2_with (go_at_call 28; refine hs.mono ?_; rintro e wq ⟨rfl, rfl⟩)
                              refine hd.mono ?_
                              rintro e w5 ⟨rfl, h5, hdm⟩
                              clear hs hd
                              go_wp2
                              go_meet
                              exact ⟨rfl, _, .inl hdm, h5⟩
                            | false =>
                              clear hs hd
                              go_wp2
                              go_meet
                              exact ⟨rfl, z1, .inr (by first | rfl | trivial), H11.out.more (by omega)⟩
                        case rest =>
                          obtain ⟨rfl, z2, HM, H12⟩ := hcut
                          clear H11
                          have hl16 : (l.length : Int) ≤ 16 := by omega
                          go_wp2_with fail
                          go_loopw [21] (fun kv wx => ∃ (k : Nat) (z3 : SSt), kv = .int .i64 k ∧ k ≤ l.length ∧ Hid (z3.dmd = true ∨ mt = false) ∧ Hid (HQ w b (cq ts j) A PB F (2 + 20 * i + 2 + k) z3 ⟨S0, S1⟩ p fs XS (boxI SB #[.int .u64 T0, .int .u64 T1] 32 :: ownI 3 1 (.slice la l.length lc) l.length (clCells l) :: [boxI D #[.bool d.take, .bool d.give, .slice d.la_cells d.ll_cells d.lc_cells, .int .i64 d.x] 84]) vc vv u13 wx)) (fun kv _ => l.length - (intOf kv).toNat)
                          case atStart => exact ⟨0, z2, rfl, Nat.zero_le _, HM, H12⟩
                          case round =>
                            clear HM H12
                            obtain ⟨k, z3, rfl, hk, HM, HS⟩ := hrel
                            have hk0 : (0 : Int) ≤ (k : Int) := by omega
                            by_cases hlt2 : k < l.length
                            · focus
                                as_aux_lemma =>
                                  have h1' : (k : Int) < (l.length : Int) := by omega
                                  have HCE : Hid (∀ {kk z W}, HQ w b (cq ts j) A PB F (kk) z ⟨S0, S1⟩ p fs XS (boxI SB #[.int .u64 T0, .int .u64 T1] 32 :: ownI 3 1 (.slice la l.length lc) l.length (clCells l) :: [boxI D #[.bool d.take, .bool d.give, .slice d.la_cells d.ll_cells d.lc_cells, .int .i64 d.x] 84]) vc vv u13 W → W.cell? ⟨D, 3, none⟩ = some (.int .i64 d.x) ∧ ∃ g, la = some ⟨g, 0, none⟩ ∧ W.cell? ⟨g, k, none⟩ = some (.int .i64 l[k])) := by
                                    intro kk z W h
                                    obtain ⟨c0, c1, c2, c3⟩ := HDC.out h.pop1.pop1
                                    obtain ⟨its, hst⟩ := h.pop1.get1
                                    obtain ⟨g, cap, e1⟩ := hst.form 0 rfl (by omega)
                                    simp only [Value.slice.injEq] at e1
                                    obtain ⟨rfl, -, rfl⟩ := e1
                                    exact ⟨c3, g, rfl, (hst.ownCell 0 rfl k (by omega)).trans (clCells_at l k hlt2)⟩
                                  obtain ⟨-, g, rfl, -⟩ := HCE.out HS.out
                                  have hsto := HS.out.drew.store (by omega) ⟨b1, b8⟩ HFIN.out (List.getElem_mem hlt2) (by rw [HTE.out, HMT.out]; exact HM.out) (IntKind.i64.wrap (d.x + (k : Int)))
                                  have HSW : Hid (∀ W, HQ w b (cq ts j) A PB F (2 + 20 * i + 2 + k + 1) (z3.store l[k] (IntKind.i64.wrap (d.x + (k : Int)))) ⟨S0, S1⟩ p fs XS (boxI SB #[.int .u64 T0, .int .u64 T1] 32 :: ownI 3 1 (.slice (some ⟨g, 0, none⟩) l.length lc) l.length (clCells l) :: [boxI D #[.bool d.take, .bool d.give, .slice d.la_cells d.ll_cells d.lc_cells, .int .i64 d.x] 84]) vc vv u13 W → W.cell? ⟨g, k, none⟩ = some (.int .i64 l[k]) ∧ W.cell? ⟨D, 3, none⟩ = some (.int .i64 d.x)) := fun W h => by
                                    obtain ⟨c3, g', e, c⟩ := HCE.out h
                                    simp only [Option.some.injEq, Addr.mk.injEq, and_true] at e
                                    subst e
                                    exact ⟨c, c3⟩
                                  have hs1 : Calls Try.prog 30 #[.pointer (some ⟨A.sp, 0, none⟩), .int .i64 l[k], .int .i64 (IntKind.i64.wrap (d.x + (k : Int)))] wr.drew fun e w' => (∃ y, e = .returned y) ∧ (w'.cell? ⟨g, k, none⟩ = some (.int .i64 l[k]) ∧ w'.cell? ⟨D, 3, none⟩ = some (.int .i64 d.x)) ∧ Hid (HQ w b (cq ts j) A PB F (2 + 20 * i + 2 + k + 1) (z3.store l[k] (IntKind.i64.wrap (d.x + (k : Int)))) ⟨S0, S1⟩ p fs XS (boxI SB #[.int .u64 T0, .int .u64 T1] 32 :: ownI 3 1 (.slice (some ⟨g, 0, none⟩) l.length lc) l.length (clCells l) :: [boxI D #[.bool d.take, .bool d.give, .slice d.la_cells d.ll_cells d.lc_cells, .int .i64 d.x] 84]) vc vv u13 w') := by
                                    refine hsto.mono ?_
                                    rintro e w' ⟨he, h'⟩
                                    exact ⟨he, HSW.out _ h', h'⟩
                                  obtain ⟨c3, g', e, c0⟩ := HCE.out HS.out
                                  simp only [Option.some.injEq, Addr.mk.injEq, and_true] at e
                                  subst e
                                  have HM2 : Hid ((z3.store l[k] (IntKind.i64.wrap (d.x + (k : Int)))).dmd = true ∨ mt = false) := HM.out
                                  clear HCE HSW hsto HM HS
                                  generalize l[k] = lk at *
                                  generalize z3.store lk (IntKind.i64.wrap (d.x + (k : Int))) = z4 at *
                                  go_upto_region 30 with fail
                                  go_region_held3 (fun W => W.cell? ⟨g, k, none⟩ = some (.int .i64 lk) ∧ W.cell? ⟨D, 3, none⟩ = some (.int .i64 d.x)) (first | go_keep | exact rS)
                                    (first | (go_at_call 30; refine hs1.mono ?_; rintro e w5 ⟨⟨y, rfl⟩, rS, HS5⟩))
                                  clear hs1 c0 c3 rS
                                  go_wp2
                                  go_roundw
                                  case rel => exact ⟨k + 1, z4, by go_num, by omega, HM2, HS5⟩
                                  case measure => simp [intOf]; omega
                            · have h1' : ¬ (k : Int) < (l.length : Int) := by omega
                              clear HM
                              go_wp2
                              go_meet
                              exact ⟨rfl, z3, (HS.out.pop1.pop1).more (by omega)⟩
            | false =>
              go_wp2
              go_meet
              obtain ⟨v, ok, hs, hiv, hl, hx, h⟩ := H2.out
              exact ⟨rfl, z1, v, ok.more (by omega), hs, hiv, by omega, hx, h⟩
          case rest =>
            clear H2 ht
            obtain ⟨rfl, z2, H3⟩ := hcut
            obtain ⟨a0, a1, a2, a3⟩ := HDC.out H3.out
            go_upto_if 124 with fail
            go_cut [14] from 42 to 201 (fun v wx => v = .int .i64 (j : Nat) ∧ ∃ z', Hid (HQ w b (cq ts j) A PB F (2 + 20 * i + 19) z' sg p fs XS [boxI D #[.bool d.take, .bool d.give, .slice d.la_cells d.ll_cells d.lc_cells, .int .i64 d.x] 84] vc vv u13 wx))
            case first =>
              as_aux_lemma =>
                have hg := H3.out.gate
                have ht := H3.out.give (by omega) 2
                unfold spp at hg
                cases htk : d.give with
                | true =>
                  rw [htk] at *
                  go_wp2_with (go_at_call 20; refine hg.mono ?_; rintro e wq ⟨rfl, rfl⟩)
                  refine ht.mono ?_
                  rintro e w5 ⟨rfl, h5⟩
                  clear ht hg
                  go_wp2
                  go_meet
                  exact ⟨rfl, _, h5⟩
                | false =>
                  rw [htk] at *
                  go_wp2
                  go_meet
                  obtain ⟨v, ok, hs, hiv, hl, hx, h⟩ := H3.out
                  exact ⟨rfl, z2, v, ok.more (by omega), hs, hiv, by omega, hx, h⟩
            case rest =>
              obtain ⟨rfl, z3, H4⟩ := hcut
              clear a0 a1 a2 a3 H3
              go_upto_region 33 with fail
              go_cut [14, 135] from 42 to 201 (fun v q wx => v = .int .i64 (j : Nat) ∧ ∃ t : Bool, q = .bool t ∧ (t = true → u13 = .pointer none ∧ j < tl) ∧ (t = false → u13 = .pointer none → ¬ j < tl) ∧ Hid (HQ w b (cq ts j) A PB F (2 + 20 * i + 19) z3 sg p fs XS [boxI D #[.bool d.take, .bool d.give, .slice d.la_cells d.ll_cells d.lc_cells, .int .i64 d.x] 84] vc vv u13 wx))
              case first =>
                as_aux_lemma =>
                  obtain hx : u13 = .pointer none ∨ ∃ K, u13 = .pointer (some ⟨K, 0, none⟩) := by
                    obtain ⟨v, ok, hs, hiv, hl, hx, h⟩ := H4.out
                    rcases hx with ⟨_, h, _⟩ | ⟨K, r, _, h, _⟩
                    · exact .inl h
                    · exact .inr ⟨K, h⟩
                  rcases hx with rfl | ⟨K, rfl⟩
                  · by_cases hjt : j < tl
                    · have hj1 : (j : Int) < (tl : Int) := by omega
                      go_wp2
                      go_meet
                      exact ⟨rfl, true, rfl, fun _ => ⟨by first | rfl | trivial, hjt⟩, (fun h => by cases h), H4⟩
                    · have hj1 : ¬ (j : Int) < (tl : Int) := by omega
                      go_wp2
                      go_meet
                      exact ⟨rfl, false, rfl, (fun h => by cases h), fun _ _ => hjt, H4⟩
                  · go_wp2
                    go_meet
                    exact ⟨rfl, false, rfl, (fun h => by cases h), (fun _ h => by cases h), H4⟩
              case rest =>
                obtain ⟨rfl, t, rfl, t1, t2, H5⟩ := hcut
                clear H4
                go_upto_if 135 with fail
                go_cut [13, 14, 22, 23] from 42 to 201 (fun xp v _ _ wx => v = .int .i64 (j : Nat) ∧ (xp = .pointer none ∨ j < tl) ∧ ∃ (fs' : Array Value) (XS' : List It), Hid (HQ w b (cq ts j) A PB F (2 + 20 * i + 19) z3 sg p fs' XS' [boxI D #[.bool d.take, .bool d.give, .slice d.la_cells d.ll_cells d.lc_cells, .int .i64 d.x] 84] vc vv xp wx))
                case first =>
                  cases t with
                  | true =>
                    as_aux_lemma =>
                      obtain ⟨rfl, hjt⟩ := t1 rfl
                      clear t1 t2 hxj
                      have hj1 : (j : Int) < (tl : Int) := by omega
                      obtain ⟨tb, to_, rfl, htc⟩ := HT.out.2 (by omega)
                      have hTC := htc j hjt
                      have HTW : Hid (∀ W, Kept (fun _ => False) w W → W.cell? ⟨tb, to_ + j, none⟩ = some (.int .i64 (ts.getD j 0))) := fun W kk => by
                        rw [World.cell?_of_block (kk.block tb (World.block_lt_of_cell? w _ hTC) (fun f => f))]
                        exact hTC
                      clear htc hTC
                      obtain ⟨q, hq, hq16, HQC⟩ : ∃ q : Nat, bits .and .i64 (ts.getD j 0) 15 = (q : Int) ∧ q < 16 ∧ Hid (cq ts j = (q : Int)) := ⟨(ts.getD j 0 % 16).toNat, by rw [show bits .and .i64 (ts.getD j 0) 15 = ts.getD j 0 % 16 from and_mask _ 4 (by decide)]; omega, by omega, by show (ts.getD j 0) % 16 = _; omega⟩
                      generalize ts.getD j 0 = tx at *
                      have HR : HQ w b (cq ts j) A PB F (2 + 20 * i + 19) z3 sg p fs XS [boxI D #[.bool d.take, .bool d.give, .slice d.la_cells d.ll_cells d.lc_cells, .int .i64 d.x] 84] vc vv (.pointer none) wc.drew := by
                        obtain ⟨v, ok, hs, hiv, hl, hx, h⟩ := H5.out
                        exact ⟨v, ok, hs, hiv, hl, hx, h.drew⟩
                      obtain ⟨sn, rfl, hnew⟩ := HR.begin q hq16 ⟨b1, b8⟩
                      obtain ⟨S0, S1⟩ := sg
                      have HCF : Hid (∀ {XS xp} {W : World}, HQ w b (cq ts j) A PB F (2 + 20 * i + 19) z3 ⟨S0, S1⟩ p #[.int .i64 0, .int .i64 1, .int .i64 sn, .int .u64 S0, .int .u64 S1] XS [boxI D #[.bool d.take, .bool d.give, .slice d.la_cells d.ll_cells d.lc_cells, .int .i64 d.x] 84] vc vv xp W → W.cell? ⟨F, 0, none⟩ = some (.int .i64 0) ∧ W.cell? ⟨F, 1, none⟩ = some (.int .i64 1) ∧ W.cell? ⟨F, 2, none⟩ = some (.int .i64 sn) ∧ W.cell? ⟨F, 3, none⟩ = some (.int .u64 S0) ∧ W.cell? ⟨F, 4, none⟩ = some (.int .u64 S1) ∧ W.cell? ⟨tb, to_ + j, none⟩ = some (.int .i64 tx)) := by
                        intro XS xp W h
                        have hw := h.same
                        obtain ⟨v, ok, hs, hiv, hl, hx, h⟩ := h
                        exact ⟨h.cell 3 rfl 0, h.cell 3 rfl 1, h.cell 3 rfl 2, h.cell 3 rfl 3, h.cell 3 rfl 4, HTW.out _ hw⟩
                      have hn1 : Calls Try.prog 13 #[.pointer (some ⟨A.sp, 0, none⟩), .agg #[.int .i64 0, .int .i64 1, .int .i64 sn, .int .u64 S0, .int .u64 S1], .int .i64 (q : Nat)] wc.drew fun e w' => ∃ K, e = .returned (.tuple #[.pointer (some ⟨K, 0, none⟩), .int .i64 0]) ∧ (w'.cell? ⟨F, 0, none⟩ = some (.int .i64 0) ∧ w'.cell? ⟨F, 1, none⟩ = some (.int .i64 1) ∧ w'.cell? ⟨F, 2, none⟩ = some (.int .i64 sn) ∧ w'.cell? ⟨F, 3, none⟩ = some (.int .u64 S0) ∧ w'.cell? ⟨F, 4, none⟩ = some (.int .u64 S1) ∧ w'.cell? ⟨tb, to_ + j, none⟩ = some (.int .i64 tx)) ∧ ∃ XS', Hid (HQ w b (cq ts j) A PB F (2 + 20 * i + 19) z3 ⟨S0, S1⟩ p #[.int .i64 0, .int .i64 1, .int .i64 sn, .int .u64 S0, .int .u64 S1] XS' [boxI D #[.bool d.take, .bool d.give, .slice d.la_cells d.ll_cells d.lc_cells, .int .i64 d.x] 84] vc vv (.pointer (some ⟨K, 0, none⟩)) w') := by
                        refine hnew.mono ?_
                        rintro e w' ⟨K, he, h'⟩
                        rw [← HQC.out] at h'
                        exact ⟨K, he, HCF.out h', _, h'⟩
                      obtain ⟨c0, c1, c2, c3, c4, t0⟩ := HCF.out H5.out
                      clear HR hnew H5 HCF HTW
                      go_upto_region 34 with fail
                      go_region_held3 (fun W => W.cell? ⟨F, 0, none⟩ = some (.int .i64 0) ∧ W.cell? ⟨F, 1, none⟩ = some (.int .i64 1) ∧ W.cell? ⟨F, 2, none⟩ = some (.int .i64 sn) ∧ W.cell? ⟨F, 3, none⟩ = some (.int .u64 S0) ∧ W.cell? ⟨F, 4, none⟩ = some (.int .u64 S1) ∧ W.cell? ⟨tb, to_ + j, none⟩ = some (.int .i64 tx)) (first | go_keep | exact rS)
                        (first | (go_at_call 13; refine hn1.mono ?_; rintro e w5 ⟨K, rfl, rS, XS', HS5⟩))
                      clear hn1 c0 c1 c2 c3 c4 t0 rS
                      go_wp2
                      go_meet
                      exact ⟨rfl, .inr hjt, _, _, HS5⟩
                  | false =>
                    go_wp2
                    go_meet
                    exact ⟨rfl, hxj, _, _, H5⟩
                case rest =>
                  obtain ⟨rfl, hx6, fs6, XS6, H6⟩ := hcut
                  clear H5 t1 t2 hxj
                  obtain hx : u13 = .pointer none ∨ ∃ K, u13 = .pointer (some ⟨K, 0, none⟩) := by
                    obtain ⟨v, ok, hs, hiv, hl, hx, h⟩ := H6.out
                    rcases hx with ⟨_, h, _⟩ | ⟨K, r, _, h, _⟩
                    · exact .inl h
                    · exact .inr ⟨K, h⟩
                  rcases hx with rfl | ⟨K, rfl⟩
                  · focus
                      as_aux_lemma =>
                        go_wp2
                        go_roundw
                        case rel => exact ⟨i + 1, j, z3, sg, p, fs6, XS6, vc, vv, by go_num, rfl, by omega, hj, .inl rfl, (H6.out.pop1).more (by omega)⟩
                        case measure => simp [intOf]; omega
                  · have hjt : j < tl := hx6.resolve_left (by simp)
                    obtain ⟨r, hstp⟩ := H6.out.step (by omega)
                    clear hx6
                    go_wp2_with fail
                    refine hstp.mono ?_
                    rintro e w7 ⟨⟨an, rfl⟩, h7⟩
                    have H7 := hid (h7)
                    clear hstp h7 H6
                    generalize r.next z3 = r7 at *
                    generalize z3.reads r = z7 at *
                    have hdn := H7.out.isDone
                    go_wp2_with fail
                    refine hdn.mono ?_
                    rintro e wq ⟨rfl, rfl⟩
                    clear hdn
                    obtain ⟨w7, hw7⟩ : ∃ y, y = wq := ⟨_, rfl⟩
                    subst hw7
                    go_upto_if 159 with fail
                    by_cases h4 : r7.st = 4
                    · have t4 : (r7.st == 4) = true := by simp [h4]
                      rw [t4]
                      have hvl := H7.out.value
                      have hend := H7.out.ends h4
                      rcases hend with ⟨he, hdm⟩ | ⟨he, hdm⟩
                      · have HE : Hid (r7.e = 0) := he
                        have H4 : Hid (r7.st = 4) := h4
                        rw [he] at hvl
                        clear h4 he hdm t4
                        go_wp2_with fail
                        refine hvl.mono ?_
                        rintro e w8 ⟨rfl, h8⟩
                        obtain ⟨v8, ok8, hs8, hi8, hl8, ⟨fa, fc, fd, fx, fy, rfl⟩, hS, hsl8, hgn8⟩ := h8.parts H4.out HE.out ⟨b1, b8⟩
                        clear hvl h8 H7
                        have HOK : Hid (z7.ok (rdC 16 b) (2 + 20 * i + 19 + 1) ∧ r7.sg.ok ∧ HInv b z7 r7.sg (p ++ [(cq ts j, r7.valX)]) ∧ p.length + 1 ≤ 2 + 20 * i + 19 + 1 ∧ r7.sl = 0 ∧ r7.gn = 1) := ⟨ok8, hs8, hi8, hl8, hsl8, hgn8⟩
                        have hpl : p.length ≤ 21000000 := by omega
                        clear ok8 hs8 hi8 hl8 hsl8 hgn8
                        have hj1 : (j : Int) < (tl : Int) := by omega
                        obtain ⟨tb, to_, rfl, htc⟩ := HT.out.2 (by omega)
                        have hTC := htc j hjt
                        have HTW : Hid (∀ W, Kept (fun _ => False) w W → W.cell? ⟨tb, to_ + j, none⟩ = some (.int .i64 (ts.getD j 0))) := fun W kk => by
                          rw [World.cell?_of_block (kk.block tb (World.block_lt_of_cell? w _ hTC) (fun f => f))]
                          exact hTC
                        clear htc hTC
                        obtain ⟨q, hq, hq16, HQC⟩ : ∃ q : Nat, bits .and .i64 (ts.getD j 0) 15 = (q : Int) ∧ q < 16 ∧ Hid (cq ts j = (q : Int)) := ⟨(ts.getD j 0 % 16).toNat, by rw [show bits .and .i64 (ts.getD j 0) 15 = ts.getD j 0 % 16 from and_mask _ 4 (by decide)]; omega, by omega, by show (ts.getD j 0) % 16 = _; omega⟩
                        generalize ts.getD j 0 = tx at *
                        have ho : w8.ownsRow 0 3 1 vc p.length (clCells (p.map (·.1))) := hS.get 0 rfl
                        obtain ⟨ac, cc, rfl⟩ := own_form (hS.get 0 rfl)
                        obtain ⟨av, cv, rfl⟩ := own_form (hS.get 1 rfl)
                        have q0 : w8.cell? ⟨PB, 0, none⟩ = some (.slice ac p.length cc) := hS.cell 2 rfl 0
                        have q0' : w8.drew.cell? ⟨PB, 0, none⟩ = some (.slice ac p.length cc) := q0
                        have qa : (w8.alloc (.cells #[.int .i64 (q : Int)] 3)).cell? ⟨PB, 0, none⟩ = some (.slice ac p.length cc) := (hS.calm ((Kept.refl _ w8).alloc _)).cell 2 rfl 0
                        have qa' : (w8.alloc (.cells #[.int .i64 (q : Int)] 3)).drew.cell? ⟨PB, 0, none⟩ = some (.slice ac p.length cc) := qa
                        have x0 := HTW.out _ hS.same
                        have x0' : w8.drew.cell? ⟨tb, to_ + j, none⟩ = some (.int .i64 tx) := x0
                        have HA : Hid (∀ g cap w1, w1.ownsRow 0 3 1 (.slice (some ⟨g, 0, none⟩) (p.length + 1) cap) (p.length + 1) (clCells (p.map (·.1)) ++ [.int .i64 (q : Int)]) → ((w8.alloc (.cells #[.int .i64 (q : Int)] 3)).drew).grownBy w1 (Value.ownBlock (.slice ac p.length cc)) → (Value.ownBlock (.slice ac p.length cc) = some g ∨ g = w8.heap.size + 1) → St w (ownI 3 1 (.slice (some ⟨g, 0, none⟩) (p.length + 1) cap) (p.length + 1) (clCells (p.map (·.1)) ++ [.int .i64 (q : Int)]) :: ownI 2 1 (.slice av p.length cv) p.length (clCells (p.map (·.2))) :: boxI PB #[.slice ac p.length cc, .slice av p.length cv] 82 :: boxI F #[.int .i64 fa, .int .i64 fc, .int .i64 fd, .int .u64 fx, .int .u64 fy] 34 :: spI A (rdC 16 b) z7 v8 (.slice none 0 0) :: rdI K A.sp r7 :: [boxI D #[.bool d.take, .bool d.give, .slice d.la_cells d.ll_cells d.lc_cells, .int .i64 d.x] 84]) w1) := by
                          intro g cap w1 p1 p2 p3
                          refine hS.ownGrow 0 rfl p1 (((Kept.refl _ w8).alloc _).grown (⟨p2.os, p2.tape, p2.output, p2.size, p2.block⟩ : (w8.alloc (.cells #[.int .i64 (q : Int)] 3)).grownBy w1 _) (fun k e => .inl e)) ?_
                          rcases p3 with e | e
                          · exact .inl (by rw [e]; rfl)
                          · exact .inr ⟨g, rfl, by omega⟩
                        obtain ⟨i0, hi0, hz0, hz1, hz2⟩ := info_parts Try.infoInt
                        clear hS
                        go_upto_region 44 with fail
                        go_cut [14] from 42 to 201 (fun v wx => v = .int .i64 (j : Nat) ∧ ∃ g cap, Hid (St w (ownI 3 1 (.slice (some ⟨g, 0, none⟩) (p.length + 1) cap) (p.length + 1) (clCells (p.map (·.1)) ++ [.int .i64 (q : Int)]) :: ownI 2 1 (.slice av p.length cv) p.length (clCells (p.map (·.2))) :: boxI PB #[.slice (some ⟨g, 0, none⟩) (p.length + 1) cap, .slice av p.length cv] 82 :: boxI F #[.int .i64 fa, .int .i64 fc, .int .i64 fd, .int .u64 fx, .int .u64 fy] 34 :: spI A (rdC 16 b) z7 v8 (.slice none 0 0) :: rdI K A.sp r7 :: [boxI D #[.bool d.take, .bool d.give, .slice d.la_cells d.ll_cells d.lc_cells, .int .i64 d.x] 84]) wx))
                        case first =>
                          as_aux_lemma =>
                            obtain ⟨n, HN⟩ : ∃ n, Hid (p.length = n) := ⟨_, rfl⟩
                            obtain ⟨LV, HLV⟩ : ∃ LV, Hid (clCells (p.map (·.2)) = LV) := ⟨_, rfl⟩
                            obtain ⟨LC, HLC⟩ : ∃ LC, Hid (clCells (p.map (·.1)) = LC) := ⟨_, rfl⟩
                            rw [HN.out] at q0 q0' qa qa' ho hpl HA
                            rw [HLC.out] at ho HA
                            rw [HLV.out] at HA
                            go_region_law
                              ((refine step_append_lies _ (by rfl) _ _ _ (by rfl) 0 3 i0 _ 1 8 Try.underlying23 hi0 hz0 hz1 hz2 rfl (by omega) (.slice ac n cc) n LC (by rfl) ((ho.alloc _).drew)
                                  ⟨w8.heap.size, 0, none⟩ 1 1 [.int .i64 (q : Int)] (by rfl) (by rfl) (World.news_of_block (cs := #[.int .i64 (q : Int)]) (t := 3) (fr := (0, 0)) (heap_alloc_new w8 _)) (by simp [Value.oneCell'])
                                  (by omega) (by unfold maxLen; omega) (by omega) (Nat.zero_le _) (w8.heap.size + 1) (by simp) ?_; intro g cap w1 hown1 hgrow hat hlt1
                                have HB1 := hid (HA.out g cap w1 hown1 hgrow hat)
                                have e4 : w1.cell? ⟨PB, 0, none⟩ = some (.slice ac n cc) := HB1.out.cell 2 rfl 0
                                have ef4 : w1.frozen? ⟨PB, 0, none⟩ = false := HB1.out.frozen 2 rfl 0))
                            all_goals
                              have hb2 := HB1.out.write 2 rfl 0 (.slice (some ⟨g, 0, none⟩) (n + 1) cap)
                              have HB2 := hid hb2
                              clear hb2
                              go_wp2
                              go_meet
                              refine ⟨rfl, g, cap, ?_⟩
                              rw [HLC.out, HLV.out, HN.out]
                              exact HB2.out
                        case rest =>
                          obtain ⟨rfl, g, cap, HB⟩ := hcut
                          clear HA q0 q0' qa qa' x0 x0' ho hz0 hz1 hz2 hi0 i0
                          as_aux_lemma =>
                            obtain ⟨w9, hw9⟩ : ∃ y, y = wc := ⟨_, rfl⟩
                            subst hw9
                            obtain ⟨i2, hi2, hy0, hy1, hy2⟩ := info_parts Try.infoCl
                            have ho2 : w9.ownsRow 0 2 1 (.slice av p.length cv) p.length (clCells (p.map (·.2))) := HB.out.get 1 rfl
                            have q1 : w9.cell? ⟨PB, 1, none⟩ = some (.slice av p.length cv) := HB.out.cell 2 rfl 1
                            have HC : Hid (∀ g2 cap2 w1, w1.ownsRow 0 2 1 (.slice (some ⟨g2, 0, none⟩) (p.length + 1) cap2) (p.length + 1) (clCells (p.map (·.2)) ++ [.int .i64 r7.valX]) → (w9.alloc (.cells #[.int .i64 r7.valX] 2)).grownBy w1 (Value.ownBlock (.slice av p.length cv)) → (Value.ownBlock (.slice av p.length cv) = some g2 ∨ g2 = w9.heap.size + 1) → St w (ownI 3 1 (.slice (some ⟨g, 0, none⟩) (p.length + 1) cap) (p.length + 1) (clCells (p.map (·.1)) ++ [.int .i64 (q : Int)]) :: ownI 2 1 (.slice (some ⟨g2, 0, none⟩) (p.length + 1) cap2) (p.length + 1) (clCells (p.map (·.2)) ++ [.int .i64 r7.valX]) :: boxI PB #[.slice (some ⟨g, 0, none⟩) (p.length + 1) cap, .slice av p.length cv] 82 :: boxI F #[.int .i64 fa, .int .i64 fc, .int .i64 fd, .int .u64 fx, .int .u64 fy] 34 :: spI A (rdC 16 b) z7 v8 (.slice none 0 0) :: rdI K A.sp r7 :: [boxI D #[.bool d.take, .bool d.give, .slice d.la_cells d.ll_cells d.lc_cells, .int .i64 d.x] 84]) w1) := by
                              intro g2 cap2 w1 p1 p2 p3
                              refine HB.out.ownGrow 1 rfl p1 (((Kept.refl _ w9).alloc _).grown p2 (fun k e => .inl e)) ?_
                              rcases p3 with e | e
                              · exact .inl (by rw [e]; rfl)
                              · exact .inr ⟨g2, rfl, by omega⟩
                            clear HB
                            generalize hvx : r7.valX = vx at *
                            have HVX : Hid (r7.valX = vx) := hvx
                            clear hvx
                            obtain ⟨n, HN⟩ : ∃ n, Hid (p.length = n) := ⟨_, rfl⟩
                            rw [HN.out] at ho2 q1 hpl HC HOK
                            obtain ⟨LV, HLV⟩ : ∃ LV, Hid (clCells (p.map (·.2)) = LV) := ⟨_, rfl⟩
                            obtain ⟨LC, HLC⟩ : ∃ LC, Hid (clCells (p.map (·.1)) = LC) := ⟨_, rfl⟩
                            rw [HLV.out] at ho2 HC
                            rw [HLC.out] at HC
                            go_upto_region 46 with (first | (at_builtin; refine wpList_append_lies _ rfl (.tmp 189) (.tmp 191) 22 rfl 0 2 i2 _ 1 8 Try.underlying22 hi2 hy0 hy1 hy2 rfl (by omega) _ n LV rfl (ho2.alloc _) ⟨w9.heap.size, 0, none⟩ 1 1 [.int .i64 vx] rfl (by simp) (World.news_of_block (cs := #[.int .i64 vx]) (t := 2) (fr := (0, 0)) (heap_alloc_new w9 _)) (by simp [Value.oneCell']) (by omega) (by unfold maxLen; omega) (by omega) (Nat.zero_le _) (w9.heap.size + 1) (by simp) ?_; intro g2 cap2 w1 hown6 hgrow6 hat6 hlt6; have HC0 := hid (HC.out g2 cap2 w1 hown6 hgrow6 hat6); have e5 : w1.cell? ⟨PB, 1, none⟩ = some (.slice av n cv) := HC0.out.cell 2 rfl 1; have ef5 : w1.frozen? ⟨PB, 1, none⟩ = false := HC0.out.frozen 2 rfl 1; clear HC hown6 hgrow6 hat6 hlt6))
                            have h10 := HC0.out.write 2 rfl 1 (.slice (some ⟨g2, 0, none⟩) (n + 1) cap2)
                            clear HC0 e5 ef5 ho2 q1
                            generalize w1.setCell ⟨PB, 1, none⟩ (.slice (some ⟨g2, 0, none⟩) (n + 1) cap2) = w10 at *
                            have hfr := rdFrom_one h10 5 rfl HOK.out.2.2.2.2.1 HOK.out.2.2.2.2.2
                            clear h10
                            generalize hsn : r7.sn = sn at hfr
                            have HSN : Hid (r7.sn = sn) := hsn
                            clear hsn
                            go_wp2_with fail
                            refine hfr.mono ?_
                            rintro e w11 ⟨rfl, h11⟩
                            clear hfr
                            have c0 : w11.cell? ⟨F, 0, none⟩ = some (.int .i64 fa) := h11.cell 3 rfl 0
                            have c1 : w11.cell? ⟨F, 1, none⟩ = some (.int .i64 fc) := h11.cell 3 rfl 1
                            have c2 : w11.cell? ⟨F, 2, none⟩ = some (.int .i64 fd) := h11.cell 3 rfl 2
                            have c3 : w11.cell? ⟨F, 3, none⟩ = some (.int .u64 fx) := h11.cell 3 rfl 3
                            have c4 : w11.cell? ⟨F, 4, none⟩ = some (.int .u64 fy) := h11.cell 3 rfl 4
                            have f0 : w11.frozen? ⟨F, 0, none⟩ = false := h11.frozen 3 rfl 0
                            have f1 : w11.frozen? ⟨F, 1, none⟩ = false := h11.frozen 3 rfl 1
                            have f2 : w11.frozen? ⟨F, 2, none⟩ = false := h11.frozen 3 rfl 2
                            have f3 : w11.frozen? ⟨F, 3, none⟩ = false := h11.frozen 3 rfl 3
                            have f4 : w11.frozen? ⟨F, 4, none⟩ = false := h11.frozen 3 rfl 4
                            have h12 := ((((h11.write 3 rfl 0 (.int .i64 0)).write 3 rfl 1 (.int .i64 1)).write 3 rfl 2 (.int .i64 sn)).write 3 rfl 3 (.int .u64 r7.sg.lo)).write 3 rfl 4 (.int .u64 r7.sg.hi)
                            clear h11
                            have H13 : Hid (HQ w b (cq ts (j + 1)) A PB F (2 + 20 * i + 19 + 1) z7 r7.sg (p ++ [(cq ts j, vx)]) #[.int .i64 0, .int .i64 1, .int .i64 sn, .int .u64 r7.sg.lo, .int .u64 r7.sg.hi] [] [boxI D #[.bool d.take, .bool d.give, .slice d.la_cells d.ll_cells d.lc_cells, .int .i64 d.x] 84] (.slice (some ⟨g, 0, none⟩) (n + 1) cap) (.slice (some ⟨g2, 0, none⟩) (n + 1) cap2) (.pointer none) (((((w11.setCell ⟨F, 0, none⟩ (.int .i64 0)).setCell ⟨F, 1, none⟩ (.int .i64 1)).setCell ⟨F, 2, none⟩ (.int .i64 sn)).setCell ⟨F, 3, none⟩ (.int .u64 r7.sg.lo)).setCell ⟨F, 4, none⟩ (.int .u64 r7.sg.hi))) := by
                              obtain ⟨o1, o2, o3, o4, _, _⟩ := HOK.out
                              rw [← HN.out] at o4 h12 ⊢
                              refine HQ.of_more (v := v8) (K := K) o1 o2 o3 o4 ?_
                              rw [HLC.out, HLV.out, HQC.out]
                              exact h12
                            clear h12
                            go_upto_region 49 with fail
                            generalize ((((w11.setCell ⟨F, 0, none⟩ (.int .i64 0)).setCell ⟨F, 1, none⟩ (.int .i64 1)).setCell ⟨F, 2, none⟩ (.int .i64 sn)).setCell ⟨F, 3, none⟩ (.int .u64 r7.sg.lo)).setCell ⟨F, 4, none⟩ (.int .u64 r7.sg.hi) = w12 at *
                            clear c0 c1 c2 c3 c4 f0 f1 f2 f3 f4
                            have hho := H13.out.holds (by omega)
                            unfold spp at hho
                            obtain ⟨b0, b1'⟩ := H13.out.pairCells
                            have hj3 : (j : Int) ≤ 17592186044416 := by omega
                            go_wp2_with fail
                            refine hho.mono ?_
                            rintro e w13 ⟨rfl, h13⟩
                            have H14 := hid (h13)
                            clear hho h13 H13 b0 b1'
                            go_wp2
                            go_roundw
                            case rel => exact ⟨i + 1, j + 1, z7, r7.sg, p ++ [(cq ts j, vx)], _, [], _, _, by go_num, by go_num, by omega, by omega, .inl rfl, (H14.out.pop1).more (by omega)⟩
                            case measure => simp [intOf]; omega
                      · rw [he] at hvl
                        go_wp2_with fail
                        as_aux_lemma =>
                          refine hvl.mono ?_
                          rintro e w8 ⟨rfl, h8⟩
                          have hvw := h8.view
                          rw [hdm] at hvw
                          unfold spp at hvw
                          clear hvl h8 H7 he hdm t4 h4
                          have hps : (0 : Int) < 1 := by omega
                          go_wp2_with fail
                          refine hvw.mono ?_
                          rintro e w9 ⟨pa, ca, N, O, ps, cs, rfl, c4, kk⟩
                          clear hvw
                          have HKK := hid (kk)
                          clear kk
                          go_wp2
                          go_ret
                          exact ⟨rfl, HKK.out⟩
                    · have t4 : (r7.st == 4) = false := by simp [h4]
                      rw [t4]
                      as_aux_lemma =>
                        have H8 := hid (H7.out.goes h4)
                        clear H7 t4 h4
                        have hho := H8.out.holds (by omega)
                        unfold spp at hho
                        obtain ⟨b0, b1'⟩ := H8.out.pairCells
                        go_wp2_with fail
                        refine hho.mono ?_
                        rintro e w9 ⟨rfl, h9⟩
                        have H9 := hid (h9)
                        clear hho h9 H8
                        go_wp2
                        go_roundw
                        case rel => exact ⟨i + 1, j, z7, r7.sg, p, fs6, [rdI K A.sp r7], vc, vv, by go_num, rfl, by omega, hj, .inr hjt, (H9.out.pop1).more (by omega)⟩
                        case measure => simp [intOf]; omega
    · have hi1 : ¬ (i : Int) < (sl : Int) := by omega
      as_aux_lemma =>
        go_wp2
        go_ret
        exact ⟨rfl, HS.out.same⟩
end Go.Proofs.Ytajfjkhbimehbaa
