/- The library's Clone, Grow and Concat at lists of int64. -/
import Derived.Test.YtahokdgodhhchaaGreatDoorLi
import Derived.Lib.AppendZerosOnto
namespace Go.Proofs.YtahokdgodhhchaaGreatDoor
open Go.RowKit
set_option linter.unusedVariables false
set_option linter.unusedSimpArgs false
attribute [local go_sem ↓] Go.wp_at_zero Go.wp_at_succ

set_option maxHeartbeats 1000000 in
theorem Clone_any (la : Option Addr) (n lc : Nat) (zs : List Int) (w : World) (hX : XIn w la n zs) (h0 : la = none → n = 0 ∧ lc = 0) (hb : n * 8 ≤ 140737488355328) :
    Calls Tryz.prog 53 #[.slice la n lc] w fun e w' => ∃ v, e = .returned v ∧ St w [ownI 2 1 v n (xC zs)] w' := by
  have q : ∀ (W : World) (a : Option Addr) (n c n' c' : Nat), (binOp .eql 24 (.slice a n c) (.slice none n' c')).run Tryz.prog W = .ok (.bool a.isNone) W := fun W a n c n' c' => Lib.run_eql_slice_nil W _ _ a n c n' c' Tryz.underlying24
  cases la with
  | none =>
    obtain ⟨rfl, rfl⟩ := h0 rfl
    obtain rfl : zs = [] := List.length_eq_zero_iff.1 hX.1.symm
    go_enter Tryz.func53, Tryz.ntmps53
    go_wp2
    go_ret
    exact ⟨_, rfl, (St.nil w).own (Kept.refl _ _) (World.ownsRow_nil _ _ _ _)⟩
  | some ad =>
    have hbs := buildX0 w
    have hown := owns_new w [] (Nat.zero_le _)
    have HX := hid (hX.kept (kept_alloc w (.cells #[] 2)))
    clear hX
    go_enter Tryz.func53, Tryz.ntmps53
    go_wp2_with (first | (at_builtin; refine wpList_append_x _ rfl (.tmp 5) (.tmp 6) rfl w.heap.size (.slice (some ⟨w.heap.size, 0, none⟩) 0 0) 0 [] rfl hown (some ad) n lc zs rfl HX.out h0 (by omega) (by simp) ?_; intro v' w' ho hg) | simp only [hbs])
    go_ret
    refine ⟨v', rfl, ?_⟩
    rw [Nat.zero_add, List.nil_append] at ho
    exact (St.nil w).own ((kept_alloc w _).grown hg (fun k hk => .inr (Nat.le_of_eq (Option.some.inj (show some w.heap.size = some k from hk))))) ho
/-- So many zeros behind nothing: a new row. -/
theorem zeros_new {w : World} {k : Nat} (hk : 0 < k) (hsm : k ≤ 1000) : ∃ C A, (∀ ty, (Builtin.append_ #[24, 3] ty #[.slice none 0 0, .int .i64 (k : Int)]).run Tryz.prog w = .ok (.slice (some ⟨w.heap.size, 0, none⟩) k C) (w.drew.alloc (.cells A 2))) ∧ k ≤ C ∧ C ≤ maxLen ∧ A.size = C := by
  obtain ⟨i0, hi0, hz0, hz1, hz2⟩ := info_parts Tryz.infoX
  refine ⟨_, _, fun ty => Lib.run_append_nil_zeros w 24 3 ty 2 i0 _ .i64 .i64 Tryz.underlying24 Tryz.underlying3 hi0 hz0 k hk (by omega) (by omega) (by rw [hz2]; omega), ?_, ?_, ?_⟩
  · exact grownCap_ge w _ _ _
  · exact grownCap_le_maxLen w _ _ _ (by unfold maxLen; omega)
  · have hge := grownCap_ge w k 0 2
    simp [Builtin.zeroCells, Value.cells]
    omega
theorem slice00 (W : World) : (Instr.slice 24 (.slice none 0 0) none (some (.int .i64 0)) none).run Tryz.prog W = .ok (.slice none 0 0) W := by
  simp only [Instr.slice, run_underlying Tryz.underlying24, Instr.sliceBounds, Instr.sliceBound, asIntOf, go_sem]
  simp [go_sem]
theorem slice_to0 (g k C : Nat) (h : 0 < C) (W : World) : (Instr.slice 24 (.slice (some ⟨g, 0, none⟩) k C) none (some (.int .i64 0)) none).run Tryz.prog W = .ok (.slice (some ⟨g, 0, none⟩) 0 C) W := by
  have e5 : ¬ C = 0 := by omega
  simp only [Instr.slice, run_underlying Tryz.underlying24, Instr.sliceBounds, Instr.sliceBound, asIntOf, go_sem]
  simp [go_sem, e5]
set_option maxHeartbeats 1000000 in
theorem Grow_any (k : Nat) (hk : k ≤ 1000) (w : World) : Calls Tryz.prog 68 #[.slice none 0 0, .int .i64 (k : Int)] w fun e w' => ∃ v, e = .returned v ∧ St w [lstI v []] w' := by
  by_cases h0 : k = 0
  · subst h0
    go_enter Tryz.func68, Tryz.ntmps68
    go_wp2
    go_ret
    exact ⟨_, rfl, lst_nil (St.nil w)⟩
  · obtain ⟨C, A, hap, hC1, hC2, hA⟩ := zeros_new (w := w) (k := k) (by omega) hk
    have hs0 := fun W => slice00 W
    have hs1 := fun W => slice_to0 w.heap.size k C (by omega) W
    have HS : Hid (St w [lstI (.slice (some ⟨w.heap.size, 0, none⟩) 0 C) []] (w.drew.alloc (.cells A 2))) := hid ((St.nil w).own ((kept_drew w).alloc _) ⟨rfl, .inr ⟨w.heap.size, C, A, rfl, Nat.le_refl _, heap_alloc_new w.drew _, Nat.zero_le _, hC2, by omega, by simp [xC]⟩⟩)
    have t1 : decide ((0 : Int) < (k : Int)) = true := by simp; omega
    have t2 : decide ((k : Int) < 0) = false := by simp
    have hk9 : (k : Int) ≤ 1000 := by omega
    have hk1 : (0 : Int) < (k : Int) := by omega
    clear hC1 hC2 hA h0
    go_enter Tryz.func68, Tryz.ntmps68
    go_wp2_with (first | (at_builtin; refine Lib.wpList_append_run _ rfl _ _ _ _ rfl _ _ rfl rfl _ _ (hap _) ?_) | simp only [hs0, hs1])
    go_ret
    exact ⟨_, rfl, HS.out⟩
/-- A list that is handed to Concat: where it is, and what it has. -/
structure Prt where
  la : Option Addr
  n : Nat
  lc : Nat
  zs : List Int
def Prt.val (p : Prt) : Value := .slice p.la p.n p.lc
def Prt.ok (w : World) (p : Prt) : Prop := XIn w p.la p.n p.zs ∧ (p.la = none → p.n = 0 ∧ p.lc = 0)
def joined : List Prt → List Int
  | [] => []
  | p :: ps => p.zs ++ joined ps
theorem joined_app : ∀ (a b : List Prt), joined (a ++ b) = joined a ++ joined b
  | [], b => rfl
  | p :: a, b => by simp [joined, joined_app a b]
theorem joined_step (ps : List Prt) {j : Nat} {p : Prt} (h : ps[j]? = some p) : joined (ps.take (j + 1)) = joined (ps.take j) ++ p.zs := by
  rw [List.take_add_one, joined_app, h]
  simp [joined]
theorem joined_le (ps : List Prt) (j : Nat) : (joined (ps.take j)).length ≤ (joined ps).length := by
  have h := joined_app (ps.take j) (ps.drop j)
  rw [List.take_append_drop] at h
  rw [h, List.length_append]
  omega
set_option maxHeartbeats 4000000 in
theorem Concat_any (w : World) (gp : Nat) (ps : List Prt) (hc : ∀ j p, ps[j]? = some p → w.cell? ⟨gp, j, none⟩ = some p.val) (hp : ∀ p ∈ ps, p.ok w) (hlen : ps.length ≤ 10) (hsum : (joined ps).length ≤ 1000) :
    Calls Tryz.prog 54 #[.slice (some ⟨gp, 0, none⟩) ps.length ps.length] w fun e w' => ∃ v, e = .returned v ∧ St w [lstI v (joined ps)] w' := by
  obtain ⟨m, hm⟩ : ∃ m, ps.length = m := ⟨_, rfl⟩
  have HM := hid hm
  have HC := hid hc
  have HP := hid hp
  have HSum := hid hsum
  rw [hm] at hlen ⊢
  have hG := hid (fun (k : Nat) (hk : k ≤ 1000) => Grow_any k hk w)
  clear hc hp hm hsum
  go_enter Tryz.func54, Tryz.ntmps54
  go_wp2
  go_loopw [3, 11] (fun s i wr => ∃ j : Nat, j ≤ m ∧ i = .int .i64 j ∧ s = .int .i64 (((joined (ps.take j)).length : Nat) : Int) ∧ wr = w) (fun _ i _ => m - (intOf i).toNat)
  case atStart => exact ⟨0, by omega, rfl, by simp [joined], rfl⟩
  case round =>
    obtain ⟨j, hj, rfl, rfl, hwr⟩ := hrel
    obtain rfl : w = wr := hwr.symm
    by_cases hlt : j < m
    · obtain ⟨p, hpj⟩ : ∃ p, ps[j]? = some p := ⟨_, List.getElem?_eq_getElem (by rw [HM.out]; exact hlt)⟩
      have c1 := HC.out j p hpj
      obtain ⟨la, n, lc, zs⟩ := p
      have hst := joined_step ps hpj
      have hn : n = zs.length := (HP.out _ (List.mem_of_getElem? hpj)).1.1
      have hle := joined_le ps (j + 1)
      have hs1 := HSum.out
      have he : ((joined (ps.take j)).length : Int) + (n : Int) = ((joined (ps.take (j + 1))).length : Int) := by rw [hst, List.length_append, hn]; push_cast; rfl
      have HE := hid he
      simp only [Prt.val] at c1
      have q1 : ((joined (ps.take j)).length : Int) + (n : Int) ≤ 1000 := by omega
      have q0 : (0 : Int) ≤ ((joined (ps.take j)).length : Int) := by omega
      have t1 : (j : Int) < (m : Int) := by omega
      have t0 : (0 : Int) ≤ (j : Int) := by omega
      have q2 : (0 : Int) ≤ (n : Int) := by omega
      have HJ := hid hlt
      clear hst hn hle hs1 he hpj hj hlt
      generalize (joined (ps.take j)).length = L at *
      go_wp2
      go_roundw
      case rel => exact ⟨j + 1, by have := HJ.out; omega, by push_cast; rfl, by rw [← HE.out], by first | exact trivial | rfl⟩
      case measure =>
        have := HJ.out
        simp [intOf]
        omega
    · obtain rfl : j = m := by omega
      have hall : ps.take j = ps := List.take_of_length_le (by rw [HM.out]; omega)
      rw [hall]
      have hG1 := hG.out (joined ps).length HSum.out
      clear hall hlt hj
      generalize hJ : joined ps = J at *
      have HJ := hid hJ
      clear hJ
      go_wp2_with (go_at_call 68; refine hG1.mono ?_; rintro e w1 ⟨v1, rfl, s1⟩)
      have HS1 := hid s1
      clear s1 hG1
      go_loopw [6, 27] (fun v i wr => ∃ q : Nat, q ≤ j ∧ i = .int .i64 q ∧ St w [lstI v (joined (ps.take q))] wr) (fun _ i _ => j - (intOf i).toNat)
      case atStart => exact ⟨0, by omega, rfl, HS1.out⟩
      case round =>
        obtain ⟨q, hq, rfl, hs⟩ := hrel
        by_cases hlt : q < j
        · obtain ⟨p, hpj⟩ : ∃ p, ps[q]? = some p := ⟨_, List.getElem?_eq_getElem (by rw [HM.out]; exact hlt)⟩
          have hok := HP.out _ (List.mem_of_getElem? hpj)
          have c1 : wr.cell? ⟨gp, q, none⟩ = some p.val := by
            have c0 := HC.out q p hpj
            rw [World.cell?_of_block (hs.same.block gp (World.block_lt_of_cell? w _ c0) (fun f => f))]
            exact c0
          obtain ⟨la, n, lc, zs⟩ := p
          have hst := joined_step ps hpj
          have hle := joined_le ps (q + 1)
          have hs1 := HSum.out
          rw [hst, List.length_append] at hle
          have hX : XIn wr la n zs := hok.1.kept hs.same
          have h0 : la = none → n = 0 ∧ lc = 0 := hok.2
          have hsm : ((joined (ps.take q)).length + zs.length) * 8 ≤ 140737488355328 := by rw [HJ.out] at *; simp only at hle; omega
          have HX := hid hX
          have H0 := hid h0
          have HS := hid hs
          have HST := hid hst
          have HSM := hid hsm
          simp only [Prt.val] at c1
          have t1 : (q : Int) < (j : Int) := by omega
          have t0 : (0 : Int) ≤ (q : Int) := by omega
          have HL := hid hlt
          clear hst hle hs1 hpj hq hlt hok hX h0 hs hsm
          go_wp2_with (at_builtin; refine wpList_app_st HS.out rfl _ _ rfl rfl la n lc rfl HX.out H0.out HSM.out ?_; intro v' w' s2; have HS2 := hid s2; clear s2)
          go_roundw
          case rel => exact ⟨q + 1, by have := HL.out; omega, by push_cast; rfl, by rw [HST.out]; exact HS2.out⟩
          case measure =>
            have := HL.out
            simp [intOf]
            omega
        · obtain rfl : q = j := by omega
          have hall : ps.take q = ps := List.take_of_length_le (by rw [HM.out]; omega)
          rw [hall, HJ.out] at hs
          have HS := hid hs
          clear hs hall hlt hq
          go_wp2
          go_ret
          exact ⟨_, rfl, by rw [HJ.out]; exact HS.out⟩
end Go.Proofs.YtahokdgodhhchaaGreatDoor
