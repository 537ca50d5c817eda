/- A space of one slot in which thread 1 lives; the document's first example. -/
import Derived.Test.YtajfjkhbimehbaaGreatRdF
import Derived.Test.YtajfjkhbimehbaaGreatSpB
import Derived.Test.YtajfjkhbimehbaaGreatEq
namespace Go.Proofs.YtajfjkhbimehbaaGreat
open Go.RowKit
set_option linter.unusedVariables false
set_option linter.unusedSimpArgs false
attribute [local go_sem ↓] Go.wp_at_zero Go.wp_at_succ

def rdC (n b : Int) : Cfg := ⟨n, 1, b, 1, 0, 0⟩
theorem rdC_fits {n b : Int} (h : 1 ≤ n ∧ n ≤ 256) (k : 1 ≤ b ∧ b ≤ 128) : (rdC n b).fits = true := by
  simp [Cfg.fits, rdC, inR, h.1, h.2, k.1, k.2]
def rdZ (n b : Int) : SSt := ((SSt.zero (rdC n b)).op (claimOp 1) 0).op (readyOp 1 1) 0
theorem rdZ_ok {n b : Int} (h : (rdC n b).fits = true) : (rdZ n b).ok (rdC n b) 2 := by
  have h0 := SSt.ok_zero (rdC n b) h 0
  have h1 := h0.op (claimOp 1) 0 (claim_keeps h0.hd _ _)
  exact h1.op (readyOp 1 1) 0 (ready_keeps h1.hd _ _ _)
theorem rdZ_hs (n b : Int) : (rdZ n b).hs = [⟨1, 2, 1, 1, false, 0⟩] := rfl
theorem rdZ_ws (n b : Int) : (rdZ n b).ws = [0, 0] := rfl
theorem rdZ_xs (n b : Int) : (rdZ n b).xs = List.replicate n.toNat 0 := rfl
theorem rdZ_x (n b : Int) : (rdZ n b).x = Gt.zero := rfl

set_option maxRecDepth 100000 in
set_option maxHeartbeats 1000000 in
theorem reader_st {o w : World} {its : List It} (h : St o its w) (n b : Int) (hf : (rdC n b).fits = true) :
    Calls Tryz.prog 19 #[.int .i64 n, .int .i64 b] w fun e w' => ∃ A v, e = .returned (.tuple #[spp A, .bool true]) ∧ St o (spI A (rdC n b) (rdZ n b) v (.slice none 0 0) :: its) w' := by
  have ok0 := SSt.ok_zero (rdC n b) hf 0
  have ok1 := ok0.op (claimOp 1) 0 (claim_keeps ok0.hd _ _)
  have hq : Calls Tryz.prog 5 #[.agg #[.int .i64 n, .int .i64 1, .int .i64 b, .int .i64 1, .int .i64 0, .int .i64 0]] w _ := spNew_st h (rdC n b) hf
  clear h
  go_enter Tryz.func19, Tryz.ntmps19
  go_wp2_with fail
  refine hq.mono ?_
  rintro e w2 ⟨A, rfl, s2⟩
  clear hq
  unfold spp
  have ht := spSlots s2 0 rfl
  have hg := spGate s2 0 rfl
  unfold spp at ht hg
  have hq := spClaim s2 0 rfl ok0 (by omega) 0 1
  rw [show claimR (SSt.zero (rdC n b)).hs 0 1 = 1 from rfl, show (claimOp 1).E (SSt.zero (rdC n b)).hs 0 = 0 from rfl] at hq
  clear s2
  go_wp2_with (first | (go_at_call 48; refine ht.mono ?_; rintro e wq ⟨rfl, rfl⟩) | (go_at_call 43; refine hg.mono ?_; rintro e wq ⟨rfl, rfl⟩))
  refine hq.mono ?_
  rintro e w3 ⟨rfl, v3, s3⟩
  clear hq ht hg
  have ht := spSlots s3 0 rfl
  unfold spp at ht
  have hq := spReady s3 0 rfl ok1 (by omega) 0 1 1
  rw [show (readyOp 1 1).E ((SSt.zero (rdC n b)).op (claimOp 1) 0).hs 0 = 0 from rfl] at hq
  clear s3
  go_wp2_with (go_at_call 48; refine ht.mono ?_; rintro e wq ⟨rfl, rfl⟩)
  refine hq.mono ?_
  rintro e w4 ⟨rfl, v4, s4⟩
  have H4 : Hid (St o (spI A (rdC n b) (rdZ n b) v4 (.slice none 0 0) :: its) w4) := s4
  clear hq ht s4 ok0 ok1
  go_wp2
  go_ret2
  exact ⟨A, v4, rfl, H4.out⟩

/-- What a read goes out from is the same as itself. -/
theorem eqFrom (a b c x y : Int) (w : World) : (binOp .eql 50 (.agg #[.int .i64 a, .int .i64 b, .int .i64 c, .int .u64 x, .int .u64 y]) (.agg #[.int .i64 a, .int .i64 b, .int .i64 c, .int .u64 x, .int .u64 y])).run Tryz.prog w = .ok (.bool true) w := by
  rw [run_eql_struct, run_equalIn_struct w 9999 50 _ _ (by kernel_rfl) (by kernel_rfl)]
  have hi0 : ∀ (x : Int) (w : World), (Op.equalIn 9999 3 (.int .i64 x) (.int .i64 x)).run Tryz.prog w = .ok (x == x) w := fun x w => run_equalIn_int w 9998 3 .i64 .i64 x x Tryz.underlying3
  have p0 : ∀ w, (part 3 #[.int .i64 a, .int .i64 b, .int .i64 c, .int .u64 x, .int .u64 y] 0).run Tryz.prog w = .ok (.int .i64 a) w := fun w => run_part_plain (P := Tryz.prog) w (by kernel_rfl) rfl
  have p1 : ∀ w, (part 3 #[.int .i64 a, .int .i64 b, .int .i64 c, .int .u64 x, .int .u64 y] 1).run Tryz.prog w = .ok (.int .i64 b) w := fun w => run_part_plain (P := Tryz.prog) w (by kernel_rfl) rfl
  have p2 : ∀ w, (part 3 #[.int .i64 a, .int .i64 b, .int .i64 c, .int .u64 x, .int .u64 y] 2).run Tryz.prog w = .ok (.int .i64 c) w := fun w => run_part_plain (P := Tryz.prog) w (by kernel_rfl) rfl
  have p3 : ∀ w, (part 48 #[.int .i64 a, .int .i64 b, .int .i64 c, .int .u64 x, .int .u64 y] 3).run Tryz.prog w = .ok (.agg #[.int .u64 x, .int .u64 y]) w := fun w => by kernel_rfl
  have h1 := eqWords 9997 x y
  simp [Program.fieldsOf, Tryz.underlying50, Op.eqFields, Sem.run_bind, p0, p1, p2, p3, hi0, h1]
theorem neFrom (a b c x y : Int) (w : World) : (binOp .neq 50 (.agg #[.int .i64 a, .int .i64 b, .int .i64 c, .int .u64 x, .int .u64 y]) (.agg #[.int .i64 a, .int .i64 b, .int .i64 c, .int .u64 x, .int .u64 y])).run Tryz.prog w = .ok (.bool false) w := by
  rw [run_neq_struct, run_equalIn_struct w 9999 50 _ _ (by kernel_rfl) (by kernel_rfl)]
  have hi0 : ∀ (x : Int) (w : World), (Op.equalIn 9999 3 (.int .i64 x) (.int .i64 x)).run Tryz.prog w = .ok (x == x) w := fun x w => run_equalIn_int w 9998 3 .i64 .i64 x x Tryz.underlying3
  have p0 : ∀ w, (part 3 #[.int .i64 a, .int .i64 b, .int .i64 c, .int .u64 x, .int .u64 y] 0).run Tryz.prog w = .ok (.int .i64 a) w := fun w => run_part_plain (P := Tryz.prog) w (by kernel_rfl) rfl
  have p1 : ∀ w, (part 3 #[.int .i64 a, .int .i64 b, .int .i64 c, .int .u64 x, .int .u64 y] 1).run Tryz.prog w = .ok (.int .i64 b) w := fun w => run_part_plain (P := Tryz.prog) w (by kernel_rfl) rfl
  have p2 : ∀ w, (part 3 #[.int .i64 a, .int .i64 b, .int .i64 c, .int .u64 x, .int .u64 y] 2).run Tryz.prog w = .ok (.int .i64 c) w := fun w => run_part_plain (P := Tryz.prog) w (by kernel_rfl) rfl
  have p3 : ∀ w, (part 48 #[.int .i64 a, .int .i64 b, .int .i64 c, .int .u64 x, .int .u64 y] 3).run Tryz.prog w = .ok (.agg #[.int .u64 x, .int .u64 y]) w := fun w => by kernel_rfl
  have h1 := eqWords 9997 x y
  simp [Program.fieldsOf, Tryz.underlying50, Op.eqFields, Sem.run_bind, p0, p1, p2, p3, hi0, h1]

/-- The example's states. -/
def upS : Nat → SSt × Rd
  | 0 => ((rdZ 1 128).fill [5], Rd.new 0 1 1 Sg.zero 0 (bitsOf 128 0))
  | j + 1 => ((upS j).1.reads (upS j).2, (upS j).2.next (upS j).1)
theorem up_ok (j : Nat) : (upS j).1.ok (rdC 1 128) (j + 3) := by
  induction j with
  | zero => exact (rdZ_ok (n := 1) (b := 128) rfl).fill [5]
  | succ j ih => exact ih.reads _
theorem up_fit (j : Nat) : (upS j).2.fit := by
  induction j with
  | zero => exact Rd.fit_on (r := ⟨0, 1, 1, Sg.zero, 0, bitsOf 128 0, 0, 0, 4⟩) Sg.ok_zero (bitsOf_ok _ _)
  | succ j ih => exact ih.next _
theorem up_facts (j : Nat) (h : j ≤ 7) : ((upS j).2.st == 4) = decide (j = 7) ∧ (upS j).2.ans (upS j).1 = (if j = 7 then 3 else 1) := by
  have : j = 0 ∨ j = 1 ∨ j = 2 ∨ j = 3 ∨ j = 4 ∨ j = 5 ∨ j = 6 ∨ j = 7 := by omega
  rcases this with rfl | rfl | rfl | rfl | rfl | rfl | rfl | rfl
  all_goals exact ⟨by decide +kernel, by decide +kernel⟩
theorem up_end : (upS 7).2.valX = 5 ∧ (upS 7).2.e = 0 ∧ (upS 7).2.sl = 0 ∧ (upS 7).2.gn = 1 ∧ (upS 7).2.sn = 0 ∧ (upS 7).2.sg.lo = 288230376151711744 ∧ (upS 7).2.sg.hi = 32768 := by decide +kernel

theorem guardFrE (x y : Operand) (xs ys : Array Value) (w : World) : (eqGuard .eql 50 x y (.agg xs) (.agg ys)).run Tryz.prog w = .ok () w := by kernel_rfl
theorem guardFrN (x y : Operand) (xs ys : Array Value) (w : World) : (eqGuard .neq 50 x y (.agg xs) (.agg ys)).run Tryz.prog w = .ok () w := by kernel_rfl
def eqFrOp (x y : Operand) (a b : Value) : Sem Next := do pure (.value (← (do eqGuard .eql 50 x y a b; binOp .eql 50 a b)))
def neFrOp (x y : Operand) (a b : Value) : Sem Next := do pure (.value (← (do eqGuard .neq 50 x y a b; binOp .neq 50 a b)))
theorem exec_eqFr (ρ : Operand → Value) (dst : Option Tmp) (x y : Operand) (ty : TypeId) (pos : String) (after : Array Edge) (guard : Option (Nat × Bool)) :
    execOp ρ { dst, op := .binOp .eql 50 x y 50, type := ty, pos, after, guard } = eqFrOp x y (ρ x) (ρ y) := rfl
theorem exec_neFr (ρ : Operand → Value) (dst : Option Tmp) (x y : Operand) (ty : TypeId) (pos : String) (after : Array Edge) (guard : Option (Nat × Bool)) :
    execOp ρ { dst, op := .binOp .neq 50 x y 50, type := ty, pos, after, guard } = neFrOp x y (ρ x) (ρ y) := rfl
theorem run_eqFr (x y : Operand) (a b c d e : Int) (w : World) : (eqFrOp x y (.agg #[.int .i64 a, .int .i64 b, .int .i64 c, .int .u64 d, .int .u64 e]) (.agg #[.int .i64 a, .int .i64 b, .int .i64 c, .int .u64 d, .int .u64 e])).run Tryz.prog w = .ok (.value (.bool true)) w := by
  simp only [eqFrOp, Sem.run_bind, Sem.run_pure, guardFrE, eqFrom, Result.andThen_ok]
theorem run_neFr (x y : Operand) (a b c d e : Int) (w : World) : (neFrOp x y (.agg #[.int .i64 a, .int .i64 b, .int .i64 c, .int .u64 d, .int .u64 e]) (.agg #[.int .i64 a, .int .i64 b, .int .i64 c, .int .u64 d, .int .u64 e])).run Tryz.prog w = .ok (.value (.bool false)) w := by
  simp only [neFrOp, Sem.run_bind, Sem.run_pure, guardFrN, neFrom, Result.andThen_ok]
attribute [local go_sem ↓] exec_eqFr run_eqFr

set_option maxRecDepth 100000 in
set_option maxHeartbeats 4000000 in
theorem up_any (w : World) : Calls Tryz.prog 4 #[] w fun e w' => e = .returned (.bool true) ∧ Kept (fun _ => False) w w' := by
  have hq := reader_st (St.nil w) 1 128 rfl
  go_enter Tryz.func4, Tryz.ntmps4
  go_wp2_with fail
  refine hq.mono ?_
  rintro e w1 ⟨A, v1, rfl, s1⟩
  clear hq
  unfold spp
  have s2 := s1.box #[.int .i64 5] 2
  have e0 : (w1.alloc (.cells #[.int .i64 5] 2)).cell? ⟨w1.heap.size, 0, none⟩ = some (.int .i64 5) := s2.cell 0 rfl 0
  have hq := spFill s2 1 rfl (rdZ_ok (n := 1) (b := 128) rfl) (by omega) (zs := [5]) (la := some ⟨w1.heap.size, 0, none⟩) (n := 1) (lc := 1) ⟨rfl, fun _ => ⟨_, 0, rfl, fun j hj => by
    obtain rfl : j = 0 := by omega
    exact e0⟩⟩ (by omega)
  unfold spp at hq
  clear s1 s2 e0
  go_wp2_with fail
  refine hq.mono ?_
  rintro e w2 ⟨rfl, s3⟩
  have s4 : St w [spI A (rdC 1 128) (upS 0).1 v1 (.slice none 0 0)] w2 := s3.pop
  clear hq s3
  have hq := rdNew_st s4 0 rfl 0 1 1 Sg.zero 0 Sg.ok_zero rfl rfl
  unfold spp at hq
  clear s4
  go_wp2_with fail
  refine hq.mono ?_
  rintro e w3 ⟨K, rfl, s5⟩
  clear hq
  have hq := rdNew_out s5 1 rfl 1 0 0 Sg.zero 0 (by decide)
  unfold spp at hq
  have S5 : Hid (∀ W, St w [rdI K A.sp (upS 0).2, spI A (rdC 1 128) (upS 0).1 v1 (.slice none 0 0)] W → True) := fun _ _ => trivial
  clear s5 S5
  go_wp2_with fail
  refine hq.mono ?_
  rintro e w4 ⟨rfl, s6⟩
  have s4 : St w [rdI K A.sp (upS 0).2, spI A (rdC 1 128) (upS 0).1 v1 (.slice none 0 0)] w4 := s6
  clear hq s6
  go_wp2
  go_loopw [7, 8] (fun a b wr => ∃ j v, a = .int .i64 (j : Nat) ∧ b = .int .i64 (j : Nat) ∧ j ≤ 7 ∧ St w [rdI K A.sp (upS j).2, spI A (rdC 1 128) (upS j).1 v (.slice none 0 0)] wr) (fun a _ _ => 7 - (intOf a).toNat)
  case atStart => exact ⟨0, v1, rfl, rfl, by omega, s4⟩
  case round =>
    clear s4
    obtain ⟨j, v, rfl, rfl, hj, hS⟩ := hrel
    obtain ⟨f2, f3⟩ := up_facts j hj
    have hd := rdDone hS 0 rfl (up_fit j).st
    rw [f2] at hd
    have hj9 : (j : Int) < 20 := by omega
    have hj0 : (0 : Int) ≤ (j : Int) := by omega
    by_cases h5 : j = 7
    · subst h5
      rw [show decide ((7 : Nat) = 7) = true from rfl] at hd
      obtain ⟨u1, u2, u3, u4, u5, u6, u7⟩ := up_end
      have hb := rdValue hS 0 rfl
      rw [u1, u2] at hb
      go_wp2_with (go_at_call 20; refine hd.mono ?_; rintro e wq ⟨rfl, rfl⟩)
      refine hb.mono ?_
      rintro e w6 ⟨rfl, q, rfl⟩
      have s6 := hS.calm ((Kept.refl _ _).drewN q)
      clear hS hd hb f2
      have hb := rdFrom s6 0 rfl
      unfold Rd.fromV at hb
      rw [u3, u4, u5, u6, u7] at hb
      generalize wq.drewN q = w6 at *
      clear s6
      go_wp2_with fail
      refine hb.mono ?_
      rintro e w7 ⟨rfl, s7⟩
      have s8 := s7.box #[.int .i64 0, .int .i64 1, .int .i64 0, .int .u64 288230376151711744, .int .u64 32768] 50
      clear hb s7
      go_upto_region 18 with fail
      generalize w7.alloc (.cells #[.int .i64 0, .int .i64 1, .int .i64 0, .int .u64 288230376151711744, .int .u64 32768] 50) = w8 at *
      generalize w7.heap.size = Y at *
      have d0 : w8.cell? ⟨Y, 0, none⟩ = some (.int .i64 0) := s8.cell 0 rfl 0
      have d1 : w8.cell? ⟨Y, 1, none⟩ = some (.int .i64 1) := s8.cell 0 rfl 1
      have d2 : w8.cell? ⟨Y, 2, none⟩ = some (.int .i64 0) := s8.cell 0 rfl 2
      have d3 : w8.cell? ⟨Y, 3, none⟩ = some (.int .u64 288230376151711744) := s8.cell 0 rfl 3
      have d4 : w8.cell? ⟨Y, 4, none⟩ = some (.int .u64 32768) := s8.cell 0 rfl 4
      have hq := rdStep s8 2 1 (by omega) rfl rfl (up_ok 7) (by omega) (up_fit 7)
      rw [f3] at hq
      simp only [if_true] at hq
      clear s8 f3
      go_wp2_with fail
      refine hq.mono ?_
      rintro e w9 ⟨rfl, v9, s9⟩
      have HK : Hid (Kept (fun _ => False) w w9) := s9.same
      clear hq s9
      go_wp2
      go_ret
      exact ⟨rfl, HK.out⟩
    · as_aux_lemma =>
        rw [show decide (j = 7) = false from by simpa using h5] at hd
        have hq := rdStep hS 1 0 (by omega) rfl rfl (up_ok j) (by omega) (up_fit j)
        rw [f3, if_neg h5] at hq
        clear hS f2 f3
        go_wp2_with (go_at_call 20; refine hd.mono ?_; rintro e wq ⟨rfl, rfl⟩)
        refine hq.mono ?_
        rintro e w6 ⟨rfl, v6, s6⟩
        have H6 : Hid (St w [rdI K A.sp (upS (j + 1)).2, spI A (rdC 1 128) (upS (j + 1)).1 v6 (.slice none 0 0)] w6) := s6
        clear hq hd s6
        go_wp2
        go_roundw
        case rel => exact ⟨j + 1, v6, by go_num, by go_num, by omega, H6.out⟩
        case measure => simp [intOf]; omega
end Go.Proofs.YtajfjkhbimehbaaGreat
