/- Reads: a new one. -/
import Derived.Test.YtajfjkhbimehbaaRdE
namespace Go.Proofs.Ytajfjkhbimehbaa
open Go.RowKit
set_option linter.unusedVariables false
set_option linter.unusedSimpArgs false
attribute [local go_sem ↓] Go.wp_at_zero Go.wp_at_succ

/-- The bits of a cell. -/
def bitsOf (n ce : Int) : Sg := (ofR [ce] n).1
theorem ofGo_ok (n : Int) : ∀ (l : List Int) (s : Sg), s.ok → (ofGo n l s).1.ok
  | [], s, h => h
  | c :: l, s, h => by
    unfold ofGo
    split
    · rename_i he
      obtain ⟨x1, x2, _, _, l1, l2, t1, t2⟩ := hash_in he
      rw [t1, t2]
      exact ofGo_ok n l _ (Sg.ok_put (Sg.ok_put h l1) l2)
    · exact Sg.ok_zero
theorem ofR_ok (l : List Int) (n : Int) : (ofR l n).1.ok := by
  unfold ofR
  split
  · exact ofGo_ok n l _ Sg.ok_zero
  · exact Sg.ok_zero
theorem bitsOf_ok (n ce : Int) : (bitsOf n ce).ok := ofR_ok _ _

def inN (n i : Int) : Bool := decide (0 ≤ i) && decide (i < n)
theorem rdHas (n i : Int) (w : World) : Calls Try.prog 43 #[.int .i64 n, .int .i64 i] w fun e w' => e = .returned (.bool (inN n i)) ∧ w' = w := by
  unfold inN
  by_cases h : 0 ≤ i
  · go_enter Try.func43, Try.ntmps43
    go_wp2
    go_ret
    exact ⟨by simp [h], rfl⟩
  · go_enter Try.func43, Try.ntmps43
    go_wp2
    go_ret
    exact ⟨by rw [decide_eq_false (p := 0 ≤ i) (by omega)]; rfl, rfl⟩

theorem buildRd (p : Option Addr) (a b c : Int) (d e : Int) (f : Int) (g h : Int) (W : World) : (Instr.build 104 #[(0, .pointer p), (1, .agg #[.int .i64 a, .int .i64 b, .int .i64 c, .int .u64 d, .int .u64 e]), (2, .int .i64 f), (3, .agg #[.int .u64 g, .int .u64 h]), (6, .int .i64 4)]).run Try.prog W = .ok (.agg #[.pointer p, .int .i64 a, .int .i64 b, .int .i64 c, .int .u64 d, .int .u64 e, .int .i64 f, .int .u64 g, .int .u64 h, .nilFunc, .int .i64 0, .int .i64 4]) W := by kernel_rfl
def buildOpR (t : TypeId) (ps : Array (Nat × Value)) : Sem Next := do pure (.value (← Instr.build t ps))
theorem exec_buildRd (ρ : Operand → Value) (dst : Option Tmp) (x y z t e : Operand) (ty : TypeId) (pos : String) (after : Array Edge) (guard : Option (Nat × Bool)) :
    execOp ρ { dst, op := .build 104 #[(0, x), (1, y), (2, z), (3, t), (6, e)], type := ty, pos, after, guard } = buildOpR 104 #[(0, ρ x), (1, ρ y), (2, ρ z), (3, ρ t), (6, ρ e)] := by simp [execOp, buildOpR]
theorem run_buildRd (p : Option Addr) (a b c : Int) (d e : Int) (f : Int) (g h : Int) (W : World) : (buildOpR 104 #[(0, .pointer p), (1, .agg #[.int .i64 a, .int .i64 b, .int .i64 c, .int .u64 d, .int .u64 e]), (2, .int .i64 f), (3, .agg #[.int .u64 g, .int .u64 h]), (6, .int .i64 4)]).run Try.prog W = .ok (.value (.agg #[.pointer p, .int .i64 a, .int .i64 b, .int .i64 c, .int .u64 d, .int .u64 e, .int .i64 f, .int .u64 g, .int .u64 h, .nilFunc, .int .i64 0, .int .i64 4])) W := by
  simp only [buildOpR, Sem.run_bind, Sem.run_pure, buildRd, Result.andThen_ok]
attribute [local go_sem ↓] exec_buildRd run_buildRd

section
variable {o w : World} {its : List It} {A : Ad} {c : Cfg} {z : SSt} {v u : Value} {k s : Nat} {r : Rd}
set_option maxRecDepth 100000 in
set_option maxHeartbeats 1000000 in
theorem rdNew_out (h : St o its w) (i : Nat) (hi : its[i]? = some (spI A c z v u)) (sl gn sn : Int) (sg : Sg) (ce : Int) (hn : ¬ (inN c.ce ce = true ∧ inN c.sl sl = true)) :
    Calls Try.prog 13 #[spp A, .agg #[.int .i64 sl, .int .i64 gn, .int .i64 sn, .int .u64 sg.lo, .int .u64 sg.hi], .int .i64 ce] w fun e w' => e = .returned (.tuple #[.pointer none, .int .i64 2]) ∧ St o its w' := by
  have h0 := h.box #[.int .i64 sl, .int .i64 gn, .int .i64 sn, .int .u64 sg.lo, .int .u64 sg.hi] 34
  have hq := spConfig h0 (i + 1) hi
  have hx := fun n i w => rdHas n i w
  obtain ⟨g0, g1⟩ := sg
  obtain ⟨xe, xl, xb, xt, xa, xd⟩ := c
  unfold spp Cfg.val at *
  simp only at *
  clear h
  go_enter Try.func13, Try.ntmps13
  go_upto_region 1 with fail
  generalize w.alloc (.cells #[.int .i64 sl, .int .i64 gn, .int .i64 sn, .int .u64 g0, .int .u64 g1] 34) = W0 at *
  generalize w.heap.size = F at *
  go_wp2_with fail
  refine hq.mono ?_
  rintro e w1 ⟨rfl, h1⟩
  have h2 := h1.box #[.int .i64 xe, .int .i64 xl, .int .i64 xb, .int .i64 xt, .int .i64 xa, .int .i64 xd] 71
  clear hq h0 h1
  go_upto_region 2 with fail
  generalize w1.alloc (.cells #[.int .i64 xe, .int .i64 xl, .int .i64 xb, .int .i64 xt, .int .i64 xa, .int .i64 xd] 71) = w2 at *
  generalize w1.heap.size = C at *
  have c0 : w2.cell? ⟨C, 0, none⟩ = some (.int .i64 xe) := h2.cell 0 rfl 0
  have c1 : w2.cell? ⟨C, 1, none⟩ = some (.int .i64 xl) := h2.cell 0 rfl 1
  have d0 : w2.cell? ⟨F, 0, none⟩ = some (.int .i64 sl) := h2.cell 1 rfl 0
  have HS : Hid (St o its w2) := h2.pop.pop
  clear h2 hi
  cases hb1 : inN xe ce with
  | false =>
    have k1 := hx xe ce w2
    rw [hb1] at k1
    clear hx hn
    go_wp2_with (go_at_call 43; refine k1.mono ?_; rintro e wq ⟨rfl, rfl⟩)
    go_ret2
    exact ⟨rfl, HS.out⟩
  | true =>
    have hb2 : inN xl sl = false := by
      cases hb : inN xl sl with
      | false => rfl
      | true => exact absurd ⟨hb1, hb⟩ hn
    have k1 := hx xe ce w2
    have k2 := hx xl sl w2
    rw [hb1] at k1
    rw [hb2] at k2
    clear hx hn
    go_wp2_with fail
    refine k1.mono ?_
    rintro e wq ⟨rfl, rfl⟩
    clear k1
    go_wp2_with fail
    refine k2.mono ?_
    rintro e wq2 ⟨rfl, rfl⟩
    clear k2
    go_wp2
    go_ret2
    exact ⟨rfl, HS.out⟩

set_option maxRecDepth 100000 in
set_option maxHeartbeats 1000000 in
theorem rdNew_st (h : St o its w) (i : Nat) (hi : its[i]? = some (spI A c z v u)) (sl gn sn : Int) (sg : Sg) (ce : Int) (hsg : sg.ok) (hb1 : inN c.ce ce = true) (hb2 : inN c.sl sl = true) :
    Calls Try.prog 13 #[spp A, .agg #[.int .i64 sl, .int .i64 gn, .int .i64 sn, .int .u64 sg.lo, .int .u64 sg.hi], .int .i64 ce] w fun e w' => ∃ k, e = .returned (.tuple #[.pointer (some ⟨k, 0, none⟩), .int .i64 0]) ∧ St o (rdI k A.sp (Rd.new sl gn sn sg ce (bitsOf c.bi ce)) :: its) w' := by
  have h0 := h.box #[.int .i64 sl, .int .i64 gn, .int .i64 sn, .int .u64 sg.lo, .int .u64 sg.hi] 34
  have hq := spConfig h0 (i + 1) hi
  have k1 := fun w => rdHas c.ce ce w
  have k2 := fun w => rdHas c.sl sl w
  rw [hb1] at k1
  rw [hb2] at k2
  have hof := fun (W : World) (H : Nat) (hW : IntsIn W (some ⟨H, 0, none⟩) 1 [ce]) => of_any (some ⟨H, 0, none⟩) 1 1 [ce] c.bi W hW (by omega)
  have hok := bitsOf_ok c.bi ce
  have HON : Hid (∀ (k : Nat) (its : List It) (W : World), St o (rdI k A.sp ⟨sl, gn, sn, sg, ce, bitsOf c.bi ce, 4, 0, 4⟩ :: its) W → Calls Try.prog 44 #[.pointer (some ⟨k, 0, none⟩)] W fun e w' => e = .returned (.tuple #[]) ∧ St o (rdI k A.sp (Rd.new sl gn sn sg ce (bitsOf c.bi ce)) :: its) w') := fun k its W hW => rdGoOn (r := ⟨sl, gn, sn, sg, ce, bitsOf c.bi ce, 4, 0, 4⟩) hW 0 rfl hsg hok
  have HBO : Hid (∀ W, Sem.run Try.prog (pure ()) W = .ok () W) := fun W => rfl
  change ∀ (W : World) (H : Nat) (hW : IntsIn W (some ⟨H, 0, none⟩) 1 [ce]), Calls Try.prog 11 #[.slice (some ⟨H, 0, none⟩) 1 1, .int .i64 c.bi] W fun e w' => e = .returned (.tuple #[(bitsOf c.bi ce).val, .int .i64 (ofR [ce] c.bi).2]) ∧ Kept (fun _ => False) W w' at hof
  clear hsg hok h hb1 hb2 HBO
  generalize Rd.new sl gn sn sg ce (bitsOf c.bi ce) = R at *
  generalize bitsOf c.bi ce = B at *
  generalize (ofR [ce] c.bi).2 = OE at *
  obtain ⟨g0, g1⟩ := sg
  obtain ⟨B0, B1⟩ := B
  obtain ⟨xe, xl, xb, xt, xa, xd⟩ := c
  simp only [spp, Cfg.val, Sg.val] at *
  go_enter Try.func13, Try.ntmps13
  go_upto_region 1 with fail
  generalize w.alloc (.cells #[.int .i64 sl, .int .i64 gn, .int .i64 sn, .int .u64 g0, .int .u64 g1] 34) = W0 at *
  generalize w.heap.size = F at *
  go_wp2_with fail
  refine hq.mono ?_
  rintro e w1 ⟨rfl, h1⟩
  have h2 := h1.box #[.int .i64 xe, .int .i64 xl, .int .i64 xb, .int .i64 xt, .int .i64 xa, .int .i64 xd] 71
  clear hq h0 h1
  go_upto_region 2 with fail
  generalize w1.alloc (.cells #[.int .i64 xe, .int .i64 xl, .int .i64 xb, .int .i64 xt, .int .i64 xa, .int .i64 xd] 71) = w2 at *
  generalize w1.heap.size = C at *
  have c0 : w2.cell? ⟨C, 0, none⟩ = some (.int .i64 xe) := h2.cell 0 rfl 0
  have c1 : w2.cell? ⟨C, 1, none⟩ = some (.int .i64 xl) := h2.cell 0 rfl 1
  have d0 : w2.cell? ⟨F, 0, none⟩ = some (.int .i64 sl) := h2.cell 1 rfl 0
  go_wp2_with fail
  refine (k1 _).mono ?_
  rintro e wq ⟨rfl, rfl⟩
  go_wp2_with fail
  refine (k2 _).mono ?_
  rintro e wq2 ⟨rfl, rfl⟩
  clear k1 k2 c0 c1 d0
  have h3 := h2.box #[.int .i64 ce] 3
  have c2 : (wq2.alloc (.cells #[.int .i64 ce] 3)).cell? ⟨C, 2, none⟩ = some (.int .i64 xb) := h3.cell 1 rfl 2
  have e0 : (wq2.alloc (.cells #[.int .i64 ce] 3)).cell? ⟨wq2.heap.size, 0, none⟩ = some (.int .i64 ce) := h3.cell 0 rfl 0
  have hof1 := hof _ wq2.heap.size ⟨rfl, fun _ => ⟨_, 0, rfl, fun j hj => by
    obtain rfl : j = 0 := by omega
    exact e0⟩⟩
  clear h2 hof
  go_wp2_with fail
  refine hof1.mono ?_
  rintro e w4 ⟨rfl, hk4⟩
  have h4 := (h3.calm hk4).box #[.int .u64 B0, .int .u64 B1] 32
  clear hof1 h3 hk4 c2 e0
  go_upto_region 5 with fail
  generalize w4.alloc (.cells #[.int .u64 B0, .int .u64 B1] 32) = w5 at *
  generalize w4.heap.size = G at *
  have d0 : w5.cell? ⟨F, 0, none⟩ = some (.int .i64 sl) := h4.cell 3 rfl 0
  have d1 : w5.cell? ⟨F, 1, none⟩ = some (.int .i64 gn) := h4.cell 3 rfl 1
  have d2 : w5.cell? ⟨F, 2, none⟩ = some (.int .i64 sn) := h4.cell 3 rfl 2
  have d3 : w5.cell? ⟨F, 3, none⟩ = some (.int .u64 g0) := h4.cell 3 rfl 3
  have d4 : w5.cell? ⟨F, 4, none⟩ = some (.int .u64 g1) := h4.cell 3 rfl 4
  have b0 : w5.cell? ⟨G, 0, none⟩ = some (.int .u64 B0) := h4.cell 0 rfl 0
  have b1 : w5.cell? ⟨G, 1, none⟩ = some (.int .u64 B1) := h4.cell 0 rfl 1
  have h5 : St o (rdI w5.heap.size A.sp ⟨sl, gn, sn, ⟨g0, g1⟩, ce, ⟨B0, B1⟩, 4, 0, 4⟩ :: its) (w5.alloc (.cells #[.pointer (some ⟨A.sp, 0, none⟩), .int .i64 sl, .int .i64 gn, .int .i64 sn, .int .u64 g0, .int .u64 g1, .int .i64 ce, .int .u64 B0, .int .u64 B1, .nilFunc, .int .i64 0, .int .i64 4] 104)) := h4.pop.pop.pop.pop.box _ _
  have hon := HON.out _ _ _ h5
  clear h4 h5 HON
  go_wp2_with fail
  refine hon.mono ?_
  rintro e w6 ⟨rfl, h6⟩
  have H6 : Hid _ := h6
  clear hon h6 d0 d1 d2 d3 d4 b0 b1
  go_wp2
  go_ret2
  exact ⟨_, rfl, H6.out⟩
end
end Go.Proofs.Ytajfjkhbimehbaa
