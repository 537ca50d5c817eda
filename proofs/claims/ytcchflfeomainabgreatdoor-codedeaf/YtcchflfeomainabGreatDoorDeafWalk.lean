/- CodeDeaf, walked. -/
import Derived.Test.YtcchflfeomainabGreatDoorDf
namespace Go.Proofs.YtcchflfeomainabGreatDoor
open Go.RowKit
set_option linter.unusedVariables false
set_option linter.unusedSimpArgs false
attribute [local go_sem ↓] Go.wp_at_zero Go.wp_at_succ

set_option maxRecDepth 100000 in
set_option maxHeartbeats 4000000 in
theorem deaf_walk (la : Option Addr) (n lc : Nat) (l : List Ins) (lb : Option Addr) (nb cb : Nat) (zs : List Int) (w : World) (hE : Env w) (hC : Came w la n lc l) (hI : CameI w lb nb cb zs) :
    Calls Tryz.prog 5 #[.slice la n lc, .slice lb nb cb] w fun e w' => e = .returned (.bool true) ∧ Kept (fun _ => False) w w' := by
  obtain ⟨i0, hi0, hz0, hz1, hz2⟩ := info_parts Tryz.infoIn
  have hA := awake_any w hE
  have HC := hid hC
  have HI := hid hI
  have HN : Hid (n = l.length) := hC.1.1
  clear hC hE hI
  go_enter Tryz.func5, Tryz.ntmps5
  go_wp2_with fail
  refine hA.mono ?_
  clear hA
  rintro e w1 ⟨rfl, k1⟩
  have hck := Check_any la n lc l w1 (HC.out.kept k1).1
  by_cases hc0 : (checkM l).1 = 0
  · obtain ⟨hn1, hn2, _⟩ := checkM_all hc0
    rw [hc0] at hck
    generalize (checkM l).2 = c2 at *
    by_cases hb0 : nb = 0
    · have tb : ((nb : Int) == 0) = true := by simp [hb0]
      clear hb0 hc0
      go_wp2_with (go_at_call 11; refine hck.mono ?_; rintro e w2 ⟨rfl, k2⟩)
      go_ret
      exact ⟨rfl, k1.trans k2 (fun _ _ f => f)⟩
    · have tb : ((nb : Int) == 0) = false := by simp; omega
      go_wp2_with (go_at_call 11; refine hck.mono ?_; rintro e w2 ⟨rfl, k2⟩)
      have K2 := k1.trans k2 (fun _ _ f => f)
      have hC2 := HC.out.kept K2
      have hI2 := HI.out.kept K2
      obtain ⟨g, o, rfl⟩ := hC2.1.addr (by have := HN.out; omega)
      obtain ⟨gb, ob, rfl, hcb⟩ := hI2.2.1 (by omega)
      have hbmax := hI2.2.2
      have HC2 := hid hC2
      have HI2 := hid hcb
      have HCK := hid hc0
      have hn4 : n ≤ 400 := by have := HN.out; omega
      have s0 : St w2 [ownI 34 2 (.slice none 0 0) ([] : List Ins).length (insCells [])] w2 := (St.nil w2).own (Kept.refl _ _) (World.ownsRow_nil _ _ _ _)
      have HS0 := hid s0
      clear hC2 hI2 hcb hck HC HI s0 k1 k2 hc0
      go_loopw [8, 9] (fun mv i wr => ∃ (j : Nat) (ms : List Ins), i = .int .i64 j ∧ j ≤ n ∧ ms.length = j ∧ (∀ q, q < j → Alt (l.getD q Ins.zero) (ms.getD q Ins.zero)) ∧ St w2 [ownI 34 2 mv ms.length (insCells ms)] wr) (fun _ i _ => n - (intOf i).toNat)
      case atStart => exact ⟨0, [], rfl, Nat.zero_le _, rfl, fun q hq => by omega, HS0.out⟩
      case round =>
        clear HS0
        obtain ⟨j, ms, rfl, hj, hml, hal, hst⟩ := hrel
        have HAL := hid hal
        clear hal
        by_cases hlt : j < n
        · have hz : j < l.length := by have := HN.out; omega
          have kr := hst.same
          obtain ⟨c0, c1⟩ := (HC2.out.kept kr).1.cells hz
          have hmod : j % nb < nb := Nat.mod_lt _ (by omega)
          have HX : Hid (∀ y, Alt (l.getD j Ins.zero) y → ∀ q, q < j + 1 → Alt (l.getD q Ins.zero) ((ms ++ [y]).getD q Ins.zero)) := fun y hy q hq => by
            by_cases e : q = j
            · subst e
              simp only [List.getD_eq_getElem?_getD] at hy ⊢
              rw [List.getElem?_append_right (by omega), hml]
              simpa using hy
            · have := HAL.out q (by omega)
              simp only [List.getD_eq_getElem?_getD] at this ⊢
              rw [List.getElem?_append_left (by omega)]
              exact this
          generalize l.getD j Ins.zero = x at *
          obtain ⟨xo, xa⟩ := x
          simp only at c0 c1
          have s1 := hst.box #[.int .i64 xo, .int .i64 xa] 34
          have htk := Takes_any xo (wr.alloc (.cells #[.int .i64 xo, .int .i64 xa] 34))
          have h0 : (0 : Int) ≤ (j : Int) := Int.natCast_nonneg _
          have h1 : (j : Int) < (n : Int) := by omega
          have HS1 : Hid (∀ W, Kept (fun _ => False) (wr.alloc (.cells #[.int .i64 xo, .int .i64 xa] 34)) W → St w2 [boxI wr.heap.size #[.int .i64 xo, .int .i64 xa] 34, ownI 34 2 u8 ms.length (insCells ms)] W ∧ Kept (fun _ => False) w2 W) := fun W k => ⟨s1.calm k, (s1.calm k).same⟩
          have HT : Hid (∀ y : Ins, y.op = xo → (takesM xo = 1 ∨ (takesM xo = 2 ∧ 0 ≤ y.a ∧ y.a < 8) ∨ y = ⟨xo, xa⟩) → Alt ⟨xo, xa⟩ y) := fun y h1 h2 => ⟨h1, h2⟩
          generalize takesM xo = tk at *
          clear s1 hst HAL kr
          go_wp2_with fail
          refine htk.mono ?_
          clear htk c0 c1
          rintro e w4 ⟨rfl, k4⟩
          obtain ⟨s4, K4⟩ := HS1.out _ k4
          have hcell : w4.cell? ⟨gb, ob + j % nb, none⟩ = some (.int .i64 (zs.getD (j % nb) 0)) := by
            have := HI2.out _ hmod
            rw [World.cell?_of_block (K4.block gb (World.block_lt_of_cell? w2 _ this) (fun f => f))]
            exact this
          generalize zs.getD (j % nb) 0 = kv at *
          clear HS1 k4 K4
          generalize wr.heap.size = M at *
          have e0 : w4.cell? ⟨M, 0, none⟩ = some (.int .i64 xo) := s4.cell 0 rfl 0
          have e1 : w4.cell? ⟨M, 1, none⟩ = some (.int .i64 xa) := s4.cell 0 rfl 1
          have ef : w4.frozen? ⟨M, 1, none⟩ = false := s4.frozen 0 rfl 1
          have hrem : (j : Int).tmod (nb : Int) = ((j % nb : Nat) : Int) := rfl
          have hnz : ¬ (nb : Int) = 0 := by omega
          have m0 : (0 : Int) ≤ ((j % nb : Nat) : Int) := Int.natCast_nonneg _
          have m1 : ((j % nb : Nat) : Int) < (nb : Int) := by omega
          have h7 := and7 kv
          have q0 : 0 ≤ kv % 8 := Int.emod_nonneg _ (by decide)
          have q1 : kv % 8 < 8 := Int.emod_lt_of_pos _ (by decide)
          have HG : Hid (∀ (W : World) (y : Ins), St w2 [boxI M #[.int .i64 y.op, .int .i64 y.a] 34, ownI 34 2 u8 ms.length (insCells ms)] W → ∀ g2 cap2 w1, w1.ownsRow 0 34 2 (.slice (some ⟨g2, 0, none⟩) (ms.length + 1) cap2) (ms.length + 1) (insCells ms ++ [.int .i64 y.op, .int .i64 y.a]) → (W.alloc (.cells #[.int .i64 y.op, .int .i64 y.a] 34)).grownBy w1 u8.ownBlock → (u8.ownBlock = some g2 ∨ g2 = W.heap.size + 1) → St w2 [ownI 34 2 (.slice (some ⟨g2, 0, none⟩) (ms.length + 1) cap2) (ms ++ [y]).length (insCells (ms ++ [y]))] w1) := by
            intro W y sW g2 cap2 w1 p1 p2 p3
            have a1 := sW.pop.growAt 0 rfl p1 p2 p3
            rw [insCells_append, show (ms ++ [y]).length = ms.length + 1 by simp]
            exact a1
          by_cases e1t : tk = 1
          · have t1 : (tk == 1) = true := by simp [e1t]
            have t2 : (tk == 2) = false := by simp [e1t]
            have HE1 := hid e1t
            clear e1t
            have s5 := s4.write 0 rfl 1 (.int .i64 kv)
            have HS4 := hid s5
            clear s4 s5
            go_upto_region 16 with (first | simp only [hrem] | simp only [h7])
            generalize w4.setCell ⟨M, 1, none⟩ (.int .i64 kv) = w5 at *
            have s5 : St w2 [boxI M #[.int .i64 xo, .int .i64 kv] 34, ownI 34 2 u8 ms.length (insCells ms)] w5 := HS4.out
            have f0 : w5.cell? ⟨M, 0, none⟩ = some (.int .i64 xo) := s5.cell 0 rfl 0
            have f1 : w5.cell? ⟨M, 1, none⟩ = some (.int .i64 kv) := s5.cell 0 rfl 1
            have hown : w5.ownsRow 0 34 2 u8 ms.length (insCells ms) := s5.get 1 rfl
            have hbs := buildIn w5 xo (kv)
            have HO := hid (HG.out w5 ⟨xo, kv⟩ s5)
            have HA := hid (HX.out ⟨xo, kv⟩ (HT.out ⟨xo, kv⟩ rfl (.inl HE1.out)))
            have hal2 : ms.length ≤ 400 := by omega
            clear s5 HG HX HT
            go_wp2_with (first | (at_builtin; refine wpList_append_lies _ rfl (.tmp 60) (.tmp 62) 24 rfl 0 34 i0 _ 2 16 Tryz.underlying24 hi0 hz0 hz1 hz2 rfl (by omega) u8 ms.length (insCells ms) rfl (hown.alloc _) ⟨w5.heap.size, 0, none⟩ 1 1 [.int .i64 xo, .int .i64 kv] rfl rfl (World.news_of_block (cs := #[.int .i64 xo, .int .i64 kv]) (t := 34) (fr := (0, 0)) (heap_alloc_new w5 _)) (by simp [Value.oneCell']) (by omega) (by unfold maxLen; omega) (by omega) (Nat.zero_le _) (w5.heap.size + 1) (by simp) ?_; intro g2 cap2 w8 ho8 hg8 ha8 hl8; replace ho8 := hid (HO.out _ _ _ ho8 hg8 ha8); clear hg8 ha8 hl8) | simp only [hbs])
            go_roundw
            case rel => exact ⟨j + 1, ms ++ [⟨xo, kv⟩], by simp, by omega, by simp [hml], HA.out, by have h9 := ho8.out; rw [hml] at h9; exact h9⟩
            case measure => simp [intOf]; omega
          · have t1 : (tk == 1) = false := by simp [e1t]
            by_cases e2t : tk = 2
            · have t2 : (tk == 2) = true := by simp [e2t]
              have HE2 := hid e2t
              clear e1t e2t
              have s5 := s4.write 0 rfl 1 (.int .i64 (kv % 8))
              have HS4 := hid s5
              clear s4 s5
              go_upto_region 16 with (first | simp only [hrem] | simp only [h7])
              generalize w4.setCell ⟨M, 1, none⟩ (.int .i64 (kv % 8)) = w5 at *
              have s5 : St w2 [boxI M #[.int .i64 xo, .int .i64 (kv % 8)] 34, ownI 34 2 u8 ms.length (insCells ms)] w5 := HS4.out
              have f0 : w5.cell? ⟨M, 0, none⟩ = some (.int .i64 xo) := s5.cell 0 rfl 0
              have f1 : w5.cell? ⟨M, 1, none⟩ = some (.int .i64 (kv % 8)) := s5.cell 0 rfl 1
              have hown : w5.ownsRow 0 34 2 u8 ms.length (insCells ms) := s5.get 1 rfl
              have hbs := buildIn w5 xo ((kv % 8))
              have HO := hid (HG.out w5 ⟨xo, (kv % 8)⟩ s5)
              have HA := hid (HX.out ⟨xo, (kv % 8)⟩ (HT.out ⟨xo, (kv % 8)⟩ rfl (.inr (.inl ⟨HE2.out, q0, q1⟩))))
              have hal2 : ms.length ≤ 400 := by omega
              clear s5 HG HX HT
              go_wp2_with (first | (at_builtin; refine wpList_append_lies _ rfl (.tmp 60) (.tmp 62) 24 rfl 0 34 i0 _ 2 16 Tryz.underlying24 hi0 hz0 hz1 hz2 rfl (by omega) u8 ms.length (insCells ms) rfl (hown.alloc _) ⟨w5.heap.size, 0, none⟩ 1 1 [.int .i64 xo, .int .i64 (kv % 8)] rfl rfl (World.news_of_block (cs := #[.int .i64 xo, .int .i64 (kv % 8)]) (t := 34) (fr := (0, 0)) (heap_alloc_new w5 _)) (by simp [Value.oneCell']) (by omega) (by unfold maxLen; omega) (by omega) (Nat.zero_le _) (w5.heap.size + 1) (by simp) ?_; intro g2 cap2 w8 ho8 hg8 ha8 hl8; replace ho8 := hid (HO.out _ _ _ ho8 hg8 ha8); clear hg8 ha8 hl8) | simp only [hbs])
              go_roundw
              case rel => exact ⟨j + 1, ms ++ [⟨xo, (kv % 8)⟩], by simp, by omega, by simp [hml], HA.out, by have h9 := ho8.out; rw [hml] at h9; exact h9⟩
              case measure => simp [intOf]; omega
            · have t2 : (tk == 2) = false := by simp [e2t]
              clear e1t e2t
              go_upto_region 16 with (first | simp only [hrem])
              have s5 := s4
              have f0 := e0
              have f1 := e1
              have hown : w4.ownsRow 0 34 2 u8 ms.length (insCells ms) := s5.get 1 rfl
              have hbs := buildIn w4 xo (xa)
              have HO := hid (HG.out w4 ⟨xo, xa⟩ s5)
              have HA := hid (HX.out ⟨xo, xa⟩ (HT.out ⟨xo, xa⟩ rfl (.inr (.inr rfl))))
              have hal2 : ms.length ≤ 400 := by omega
              clear s5 HG HX HT
              go_wp2_with (first | (at_builtin; refine wpList_append_lies _ rfl (.tmp 60) (.tmp 62) 24 rfl 0 34 i0 _ 2 16 Tryz.underlying24 hi0 hz0 hz1 hz2 rfl (by omega) u8 ms.length (insCells ms) rfl (hown.alloc _) ⟨w4.heap.size, 0, none⟩ 1 1 [.int .i64 xo, .int .i64 xa] rfl rfl (World.news_of_block (cs := #[.int .i64 xo, .int .i64 xa]) (t := 34) (fr := (0, 0)) (heap_alloc_new w4 _)) (by simp [Value.oneCell']) (by omega) (by unfold maxLen; omega) (by omega) (Nat.zero_le _) (w4.heap.size + 1) (by simp) ?_; intro g2 cap2 w8 ho8 hg8 ha8 hl8; replace ho8 := hid (HO.out _ _ _ ho8 hg8 ha8); clear hg8 ha8 hl8) | simp only [hbs])
              go_roundw
              case rel => exact ⟨j + 1, ms ++ [⟨xo, xa⟩], by simp, by omega, by simp [hml], HA.out, by have h9 := ho8.out; rw [hml] at h9; exact h9⟩
              case measure => simp [intOf]; omega
        · have h1 : ¬ (j : Int) < (n : Int) := by omega
          have hjn : j = n := by omega
          have hvl := Verify_any (some ⟨g, o, none⟩) n lc l wr (HC2.out.kept hst.same).1
          have hown : wr.ownsRow 0 34 2 u8 ms.length (insCells ms) := hst.get 0 rfl
          obtain ⟨ma, mc, rfl, hmi, _⟩ := own_iin hown
          have hav := alt_verify HCK.out (m := ms) (by rw [hml, hjn]; exact HN.out) (fun q hq => HAL.out q (by have := HN.out; omega))
          have hvm := fun W k => Verify_any ma ms.length mc ms W (hmi.kept (w' := W) k)
          rw [hav] at hvm
          generalize verifyM l = RR at *
          obtain ⟨r1, r2⟩ := RR
          simp only at hvl hvm
          have t1 : (r1 == r1) = true := by simp
          have t2 : (r2 == r2) = true := by simp
          have HK := hid (K2.trans hst.same (fun _ _ f => f))
          clear hst hown hmi HAL hav hml hjn
          go_wp2_with fail
          refine hvl.mono ?_
          clear hvl
          rintro e w5 ⟨rfl, k5⟩
          go_wp2_with fail
          refine (hvm _ k5).mono ?_
          clear hvm
          rintro e w6 ⟨rfl, k6⟩
          go_wp2
          go_ret
          exact ⟨rfl, (HK.out.trans k5 (fun _ _ f => f)).trans k6 (fun _ _ f => f)⟩
  · have tc : ((checkM l).1 != 0) = true := by simpa using hc0
    generalize (checkM l).1 = c1 at *
    generalize (checkM l).2 = c2 at *
    clear hc0
    go_wp2_with (go_at_call 11; refine hck.mono ?_; rintro e w2 ⟨rfl, k2⟩)
    go_ret
    exact ⟨rfl, k1.trans k2 (fun _ _ f => f)⟩
end Go.Proofs.YtcchflfeomainabGreatDoor
