/- The law SpaceKeeps, step by step. -/
import Derived.Test.YtjffkgolpdoegaaUp
import Derived.Test.YtjffkgolpdoegaaEqS
import Derived.Test.YtjffkgolpdoegaaRest
import Derived.Test.YtjffkgolpdoegaaSame
import Derived.BigQuiet
namespace Go.Proofs.Ytjffkgolpdoegaa
open Go.RowKit
set_option linter.unusedVariables false
set_option linter.unusedSimpArgs false
attribute [local go_sem ↓] Go.wp_at_zero Go.wp_at_succ

theorem buildEv0 (W : World) : (Instr.buildSlice 45 1 #[(0, .agg #[.int .i64 0, .int .i64 0, .int .i64 0, .int .i64 0, .int .i64 0, .int .i64 0, .bool false, .int .i64 0, .int .i64 0, .int .i64 0])]).run Try.prog W = .ok (.slice (some ⟨W.heap.size, 0, none⟩) 1 1) (W.alloc (.cells #[.int .i64 0, .int .i64 0, .int .i64 0, .int .i64 0, .int .i64 0, .int .i64 0, .bool false, .int .i64 0, .int .i64 0, .int .i64 0] 51)) := buildEv W 0 0 0 0 0 0 false 0 0 0
/-- A list of one event that is nothing yet. -/
theorem wpList_buildEv0 {ops : Array Oper} {rest : List Oper} {o : Oper} {a : Act} {Q : Exit → Act → World → Prop} {w : World} (hgd : o.guard = none) (x : Operand) (ho : o.op = .buildSlice 45 1 #[(0, x)]) (hx : a.eval x = .agg #[.int .i64 0, .int .i64 0, .int .i64 0, .int .i64 0, .int .i64 0, .int .i64 0, .bool false, .int .i64 0, .int .i64 0, .int .i64 0])
    (h : wpList Try.prog ops Q rest (a.put o.dst (.slice (some ⟨w.heap.size, 0, none⟩) 1 1)) (w.alloc (.cells #[.int .i64 0, .int .i64 0, .int .i64 0, .int .i64 0, .int .i64 0, .int .i64 0, .bool false, .int .i64 0, .int .i64 0, .int .i64 0] 51))) : wpList Try.prog ops Q (o :: rest) a w := by
  refine wpList_plain hgd fun K hK => ?_
  unfold Oper.wp execOp
  simp only [ho, Sem.run_bind, Sem.run_pure, Result.andThen_ok, List.map_toArray, List.map_cons, List.map_nil, hx, buildEv0]
  exact hK _ _ h
theorem buildAcc0 (W : World) : (Instr.buildSlice 39 1 #[(0, .agg #[.int .i64 0, .int .i64 0, .int .i64 0, .int .i64 0, .int .i64 0, .bool false])]).run Try.prog W = .ok (.slice (some ⟨W.heap.size, 0, none⟩) 1 1) (W.alloc (.cells #[.int .i64 0, .int .i64 0, .int .i64 0, .int .i64 0, .int .i64 0, .bool false] 65)) := by kernel_rfl
/-- A list of one access that is nothing yet. -/
theorem wpList_buildAcc0 {ops : Array Oper} {rest : List Oper} {o : Oper} {a : Act} {Q : Exit → Act → World → Prop} {w : World} (hgd : o.guard = none) (x : Operand) (ho : o.op = .buildSlice 39 1 #[(0, x)]) (hx : a.eval x = .agg #[.int .i64 0, .int .i64 0, .int .i64 0, .int .i64 0, .int .i64 0, .bool false])
    (h : wpList Try.prog ops Q rest (a.put o.dst (.slice (some ⟨w.heap.size, 0, none⟩) 1 1)) (w.alloc (.cells #[.int .i64 0, .int .i64 0, .int .i64 0, .int .i64 0, .int .i64 0, .bool false] 65))) : wpList Try.prog ops Q (o :: rest) a w := by
  refine wpList_plain hgd fun K hK => ?_
  unfold Oper.wp execOp
  simp only [ho, Sem.run_bind, Sem.run_pure, Result.andThen_ok, List.map_toArray, List.map_cons, List.map_nil, hx, buildAcc0]
  exact hK _ _ h
theorem St.drop0 {o w : World} {A : It} {its : List It} (h : St o (A :: its) w) : St o its w := h.pop

/-- What is left of a space made of c when l was filled in, cell 0 was loaded in step 1, and x was noted. -/
def keptZ (c : Cfg) (zs : List Int) (x : Ev) : SSt := (((((SSt.zero c).fill zs).turn 1).load 0).noted x)
theorem keptZ_ok (c : Cfg) (hc : c.fits = true) (zs : List Int) (x : Ev) : (keptZ c zs x).ok c 4 := ((((SSt.ok_zero c hc 0).fill zs).turn 1).load 0).noted x
theorem keptZ_cin (c : Cfg) (hc : c.fits = true) (zs : List Int) : cin (((SSt.zero c).fill zs).turn 1).xs 0 = true := by
  have h := ((SSt.ok_zero c hc 0).fill zs).turn 1
  have := h.c1
  simp only [cin, Bool.and_eq_true, decide_eq_true_eq]
  omega
theorem keptZ_s (c : Cfg) (hc : c.fits = true) (zs : List Int) (x : Ev) : (keptZ c zs x).s = ⟨1, 1, 1, 1, [⟨1, 1, 1, 0, 1, true⟩]⟩ := by
  show loadS (((SSt.zero c).fill zs).turn 1).s (((SSt.zero c).fill zs).turn 1).xs 0 = _
  rw [loadS, keptZ_cin c hc zs]
  rfl
theorem keptZ_ev (c : Cfg) (hc : c.fits = true) (zs : List Int) (x : Ev) : (keptZ c zs x).ev = [x.at_ 1] := by
  show [x.at_ (loadS (((SSt.zero c).fill zs).turn 1).s (((SSt.zero c).fill zs).turn 1).xs 0).st] = _
  rw [loadS, keptZ_cin c hc zs]
  rfl
theorem keptZ_xs (c : Cfg) (zs : List Int) (x : Ev) : (keptZ c zs x).xs = fillRow (List.replicate c.ce.toNat 0) zs := rfl
theorem keptZ_hs (c : Cfg) (zs : List Int) (x : Ev) : slots (keptZ c zs x).hs (keptZ c zs x).ws = List.replicate c.sl.toNat Sl.zero := slots_zero _

theorem keep_val {n : Nat} {zs xs : List Int} (h : xs = fillRow (List.replicate n 0) zs) (j : Nat) (hj : j < n) : (fillErr (List.replicate n 0) zs = 0 → j < zs.length → xs[j]? = some (zs.getD j 0)) ∧ (¬ (fillErr (List.replicate n 0) zs = 0 ∧ j < zs.length) → xs[j]? = some 0) := by
  subst h
  unfold fillErr fillRow
  by_cases hz : n < zs.length
  · have hz' : (List.replicate n (0 : Int)).length < zs.length := by simpa using hz
    rw [if_pos hz', if_pos hz']
    exact ⟨fun h => by omega, fun _ => by simp [hj]⟩
  · have hz' : ¬ (List.replicate n (0 : Int)).length < zs.length := by simpa using hz
    rw [if_neg hz', if_neg hz']
    constructor
    · intro _ h
      rw [List.getElem?_append_left h]
      simp [h]
    · intro h
      have h2 : zs.length ≤ j := by
        apply Nat.le_of_not_lt
        intro h3
        exact h ⟨rfl, h3⟩
      rw [List.getElem?_append_right h2, List.drop_replicate, List.getElem?_replicate, if_pos (by omega)]
theorem keep_err (n : Nat) (zs : List Int) : (fillErr (List.replicate n 0) zs == 0) = decide (zs.length ≤ n) := by
  unfold fillErr
  by_cases hz : n < zs.length
  · simp [hz]
  · simp [hz]; omega
theorem zero_slot (n k q : Nat) (hk : k < n) (hq : q < 8) : (slCells (List.replicate n Sl.zero))[k * 8 + q]? = Sl.zero.cells[q]? := by
  rw [slCells_rep Sl.zero n (k * 8 + q) (by omega)]
  congr 1
  omega

set_option maxRecDepth 100000 in
set_option maxHeartbeats 8000000 in
theorem keeps_walk (c : Cfg) (la : Option Addr) (ll lc0 : Nat) (zs : List Int) (x : Ev) (w : World) (hL : NumsIn w la ll zs) (hll : ll ≤ lc0) (hlc : lc0 * 8 ≤ 140737488351232) :
    Calls Try.prog 4 #[c.val, .slice la ll lc0, x.val] w fun e w' => e = .returned (.bool true) ∧ Kept (fun _ => False) w w' := by
  have HL : Hid (NumsIn w la ll zs) := hL
  have HLL : Hid (ll ≤ 17592186044416) := (by show _ ≤ _; omega)
  have hl1 : (ll : Int) ≤ 17592186044416 := by omega
  clear hL hll hlc
  have h0 := ((St.nil w).box #[.int .i64 c.ce, .int .i64 c.sl, .int .i64 c.bi, .int .i64 c.ta, .int .i64 c.ba, .int .i64 c.de] 23).box #[.int .i64 x.kd, .int .i64 x.st, .int .i64 x.th, .int .i64 x.sp, .int .i64 x.ce, .int .i64 x.x, .bool x.ow, .int .i64 x.ga, .int .i64 x.er, .int .i64 x.by_] 51
  obtain ⟨E, hE⟩ : ∃ E, E = (w.alloc (.cells #[.int .i64 c.ce, .int .i64 c.sl, .int .i64 c.bi, .int .i64 c.ta, .int .i64 c.ba, .int .i64 c.de] 23)).heap.size := ⟨_, rfl⟩
  obtain ⟨B, hB⟩ : ∃ B, B = w.heap.size := ⟨_, rfl⟩
  rw [← hE, ← hB] at h0
  have HC : Hid (∀ W, St w [boxI E #[.int .i64 x.kd, .int .i64 x.st, .int .i64 x.th, .int .i64 x.sp, .int .i64 x.ce, .int .i64 x.x, .bool x.ow, .int .i64 x.ga, .int .i64 x.er, .int .i64 x.by_] 51, boxI B #[.int .i64 c.ce, .int .i64 c.sl, .int .i64 c.bi, .int .i64 c.ta, .int .i64 c.ba, .int .i64 c.de] 23] W → W.cell? ⟨B, 0, none⟩ = some (.int .i64 c.ce) ∧ W.cell? ⟨B, 1, none⟩ = some (.int .i64 c.sl) ∧ W.cell? ⟨B, 2, none⟩ = some (.int .i64 c.bi) ∧ W.cell? ⟨B, 3, none⟩ = some (.int .i64 c.ta) ∧ W.cell? ⟨B, 4, none⟩ = some (.int .i64 c.ba) ∧ W.cell? ⟨B, 5, none⟩ = some (.int .i64 c.de)) := fun W h => ⟨h.cell 1 rfl 0, h.cell 1 rfl 1, h.cell 1 rfl 2, h.cell 1 rfl 3, h.cell 1 rfl 4, h.cell 1 rfl 5⟩
  unfold Cfg.val Ev.val
  go_enter Try.func4, Try.ntmps4
  go_upto_region 1 with fail
  generalize hW0 : (w.alloc (.cells #[.int .i64 c.ce, .int .i64 c.sl, .int .i64 c.bi, .int .i64 c.ta, .int .i64 c.ba, .int .i64 c.de] 23)).alloc (.cells #[.int .i64 x.kd, .int .i64 x.st, .int .i64 x.th, .int .i64 x.sp, .int .i64 x.ce, .int .i64 x.x, .bool x.ow, .int .i64 x.ga, .int .i64 x.er, .int .i64 x.by_] 51) = W0 at *
  rw [alloc_size, ← hB] at hE
  try rw [← hB]
  try rw [← hE]
  clear hE hB hW0
  go_wp2_with fail
  refine (up_any _).mono ?_
  rintro e w1 ⟨rfl, k1⟩
  have h1 := h0.calm k1
  clear h0 k1
  obtain ⟨c0, c1, c2, c3, c4, c5⟩ := HC.out _ h1
  by_cases hf' : c.fits = false
  · have hq : Calls Try.prog 7 #[.agg #[.int .i64 c.ce, .int .i64 c.sl, .int .i64 c.bi, .int .i64 c.ta, .int .i64 c.ba, .int .i64 c.de]] w1 _ := spNew_out c hf' w1
    clear hf'
    go_wp2_with fail
    refine hq.mono ?_
    rintro e w3 ⟨rfl, k3⟩
    have HK : Hid (Kept (fun _ => False) w w3) := (h1.calm k3).same
    clear hq c0 c1 c2 c3 c4 c5 h1 k3 HC HL
    go_wp2
    go_ret
    exact ⟨rfl, HK.out⟩
  have hf : c.fits = true := by simpa using hf'
  clear hf'
  have hq : Calls Try.prog 7 #[.agg #[.int .i64 c.ce, .int .i64 c.sl, .int .i64 c.bi, .int .i64 c.ta, .int .i64 c.ba, .int .i64 c.de]] w1 _ := spNew_st h1 c hf
  have HO : Hid (c.fits = true) := hf
  clear h1 hf
  go_wp2_with fail
  refine hq.mono ?_
  rintro e w2 ⟨A, rfl, h2⟩
  clear hq c0 c1 c2 c3 c4 c5
  unfold spp
  have hq := spFill (lc := lc0) h2 0 rfl (SSt.ok_zero c HO.out 0) (by omega) (HL.out.kept h2.same) HLL.out
  clear h2
  unfold spp at hq
  generalize hge : fillErr (SSt.zero c).xs zs = ge at *
  have HGE : Hid (fillErr (SSt.zero c).xs zs = ge) := hge
  clear hge
  go_wp2_with fail
  refine hq.mono ?_
  rintro e w3 ⟨rfl, h3⟩
  clear hq
  have hq := spTurn (its := [spI A c ((SSt.zero c).fill zs) (.slice none 0 0) (.slice none 0 0), boxI E #[.int .i64 x.kd, .int .i64 x.st, .int .i64 x.th, .int .i64 x.sp, .int .i64 x.ce, .int .i64 x.x, .bool x.ow, .int .i64 x.ga, .int .i64 x.er, .int .i64 x.by_] 51, boxI B #[.int .i64 c.ce, .int .i64 c.sl, .int .i64 c.bi, .int .i64 c.ta, .int .i64 c.ba, .int .i64 c.de] 23]) h3 0 rfl ((SSt.ok_zero c HO.out 0).fill zs) (by omega) 1
  clear h3
  unfold spp at hq
  go_wp2_with fail
  refine hq.mono ?_
  rintro e w4 ⟨rfl, h4⟩
  clear hq
  have hq := spLoad (its := [spI A c (((SSt.zero c).fill zs).turn 1) (.slice none 0 0) (.slice none 0 0), boxI E #[.int .i64 x.kd, .int .i64 x.st, .int .i64 x.th, .int .i64 x.sp, .int .i64 x.ce, .int .i64 x.x, .bool x.ow, .int .i64 x.ga, .int .i64 x.er, .int .i64 x.by_] 51, boxI B #[.int .i64 c.ce, .int .i64 c.sl, .int .i64 c.bi, .int .i64 c.ta, .int .i64 c.ba, .int .i64 c.de] 23]) h4 0 rfl (((SSt.ok_zero c HO.out 0).fill zs).turn 1) (by omega) 0
  clear h4
  unfold spp at hq
  go_wp2_with fail
  refine hq.mono ?_
  rintro e w5 ⟨rfl, v, h5'⟩
  clear hq
  have h5 : St w [spI A c ((((SSt.zero c).fill zs).turn 1).load 0) v (.slice none 0 0), boxI E #[.int .i64 x.kd, .int .i64 x.st, .int .i64 x.th, .int .i64 x.sp, .int .i64 x.ce, .int .i64 x.x, .bool x.ow, .int .i64 x.ga, .int .i64 x.er, .int .i64 x.by_] 51, boxI B #[.int .i64 c.ce, .int .i64 c.sl, .int .i64 c.bi, .int .i64 c.ta, .int .i64 c.ba, .int .i64 c.de] 23] w5 := h5'
  clear h5'

  have e0 : w5.cell? ⟨E, 0, none⟩ = some (.int .i64 x.kd) := h5.cell 1 rfl 0
  have e1 : w5.cell? ⟨E, 1, none⟩ = some (.int .i64 x.st) := h5.cell 1 rfl 1
  have e2 : w5.cell? ⟨E, 2, none⟩ = some (.int .i64 x.th) := h5.cell 1 rfl 2
  have e3 : w5.cell? ⟨E, 3, none⟩ = some (.int .i64 x.sp) := h5.cell 1 rfl 3
  have e4 : w5.cell? ⟨E, 4, none⟩ = some (.int .i64 x.ce) := h5.cell 1 rfl 4
  have e5 : w5.cell? ⟨E, 5, none⟩ = some (.int .i64 x.x) := h5.cell 1 rfl 5
  have e6 : w5.cell? ⟨E, 6, none⟩ = some (.bool x.ow) := h5.cell 1 rfl 6
  have e7 : w5.cell? ⟨E, 7, none⟩ = some (.int .i64 x.ga) := h5.cell 1 rfl 7
  have e8 : w5.cell? ⟨E, 8, none⟩ = some (.int .i64 x.er) := h5.cell 1 rfl 8
  have e9 : w5.cell? ⟨E, 9, none⟩ = some (.int .i64 x.by_) := h5.cell 1 rfl 9
  have hq : Calls Try.prog 17 #[.pointer (some ⟨A.sp, 0, none⟩), .agg #[.int .i64 x.kd, .int .i64 x.st, .int .i64 x.th, .int .i64 x.sp, .int .i64 x.ce, .int .i64 x.x, .bool x.ow, .int .i64 x.ga, .int .i64 x.er, .int .i64 x.by_]] w5 _ := spNote h5 0 rfl (show (0 + 1) * 80 ≤ 140737488355328 by omega) x
  clear h5
  go_wp2_with fail
  refine hq.mono ?_
  rintro e w6 ⟨rfl, u, h6'⟩
  clear hq e0 e1 e2 e3 e4 e5 e6 e7 e8 e9
  have h6 : St w [spI A c (keptZ c zs x) v u, boxI E #[.int .i64 x.kd, .int .i64 x.st, .int .i64 x.th, .int .i64 x.sp, .int .i64 x.ce, .int .i64 x.x, .bool x.ow, .int .i64 x.ga, .int .i64 x.er, .int .i64 x.by_] 51, boxI B #[.int .i64 c.ce, .int .i64 c.sl, .int .i64 c.bi, .int .i64 c.ta, .int .i64 c.ba, .int .i64 c.de] 23] w6 := h6'
  clear h6'
  have OK := keptZ_ok c HO.out zs x
  have HZs := keptZ_s c HO.out zs x
  have HZe := keptZ_ev c HO.out zs x
  have HZx : Hid ((keptZ c zs x).xs = fillRow (List.replicate c.ce.toNat 0) zs) := keptZ_xs c zs x
  have HZh : Hid (slots (keptZ c zs x).hs (keptZ c zs x).ws = List.replicate c.sl.toNat Sl.zero) := keptZ_hs c zs x
  have HZg : (keptZ c zs x).x = ⟨0, 0⟩ := rfl
  have HGE' : Hid (fillErr (List.replicate c.ce.toNat 0) zs = ge) := HGE.out
  clear HGE
  have HCF := Cfg.fits_cells HO.out
  generalize keptZ c zs x = Z at *
  obtain ⟨zs0, zxs, zx, zhs, zws, zev⟩ := Z
  simp only at HZs HZe HZg
  subst HZs HZe HZg
  obtain ⟨Z, hZ⟩ : ∃ Z : SSt, Z = ⟨⟨1, 1, 1, 1, [⟨1, 1, 1, 0, 1, true⟩]⟩, zxs, ⟨0, 0⟩, zhs, zws, [x.at_ 1]⟩ := ⟨_, rfl⟩
  rw [← hZ] at h6 OK
  have ZX : Hid (Z.xs = fillRow (List.replicate c.ce.toNat 0) zs) := (by rw [hZ]; exact HZx.out)
  have ZH : Hid (slots Z.hs Z.ws = List.replicate c.sl.toNat Sl.zero) := (by rw [hZ]; exact HZh.out)
  have ZL : Hid (logCells Z.s.l = [.int .i64 1, .int .i64 1, .int .i64 1, .int .i64 0, .int .i64 1, .bool true]) := (by rw [hZ]; rfl)
  have ZL1 : Hid (Z.s.l.length = 1) := (by rw [hZ]; rfl)
  have ZE : Hid (evCells Z.ev = [.int .i64 x.kd, .int .i64 1, .int .i64 x.th, .int .i64 x.sp, .int .i64 x.ce, .int .i64 x.x, .bool x.ow, .int .i64 x.ga, .int .i64 x.er, .int .i64 x.by_]) := (by rw [hZ]; rfl)
  have ZE1 : Hid (Z.ev.length = 1) := (by rw [hZ]; rfl)
  have ZN : Z.x.n = 0 := by rw [hZ]
  have ZO : Z.x.o = 0 := by rw [hZ]
  clear HZx HZh hZ
  obtain ⟨nx, hnx⟩ : ∃ nx, Z.xs.length = nx := ⟨_, rfl⟩
  obtain ⟨nh, hnh⟩ : ∃ nh, Z.hs.length = nh := ⟨_, rfl⟩
  have n1 : 1 ≤ nx := by have := OK.c1; omega
  have n2 : nx ≤ 256 := by have := OK.c2; omega
  have m1 : 1 ≤ nh := by have := OK.h1; omega
  have m2 : nh ≤ 8 := by have := OK.h8; omega
  have hcx : c.ce = (nx : Int) := by have := OK.cl; omega
  have hch : c.sl = (nh : Int) := by have := OK.hl; omega
  have HVW : Hid (∀ (W : World) (its : List It), St w its W → ∀ i : Nat, its[i]? = some (spI A c Z v u) → Calls Try.prog 9 #[.pointer (some ⟨A.sp, 0, none⟩)] W fun e w' => ∃ pa ca ps cs, e = .returned (.agg #[.slice (some ⟨pa, 0, none⟩) nx ca, .int .i64 0, .int .i64 0, .slice (some ⟨ps, 0, none⟩) nh cs]) ∧ St w (ownI 2 1 (.slice (some ⟨pa, 0, none⟩) nx ca) nx (clCells Z.xs) :: ownI 63 8 (.slice (some ⟨ps, 0, none⟩) nh cs) nh (slCells (slots Z.hs Z.ws)) :: its) w') := by
    intro W its h i hi
    refine (spView h i hi OK.wl OK.h1 OK.h8).mono ?_
    rintro e w' ⟨va, vs, he, h'⟩
    rw [hnx, hnh] at h'
    obtain ⟨pa, ca, rfl⟩ := h'.form 0 rfl n1
    obtain ⟨ps, cs, rfl⟩ := h'.form 1 rfl m1
    rw [ZN, ZO] at he
    exact ⟨pa, ca, ps, cs, he, h'⟩
  have HVE : Hid (∀ (W : World) (its : List It), St w its W → ∀ i : Nat, its[i]? = some (spI A c Z v u) → Calls Try.prog 13 #[.pointer (some ⟨A.sp, 0, none⟩)] W fun e w' => ∃ pa ca, e = .returned (.slice (some ⟨pa, 0, none⟩) 1 ca) ∧ St w (ownI 51 10 (.slice (some ⟨pa, 0, none⟩) 1 ca) 1 [.int .i64 x.kd, .int .i64 1, .int .i64 x.th, .int .i64 x.sp, .int .i64 x.ce, .int .i64 x.x, .bool x.ow, .int .i64 x.ga, .int .i64 x.er, .int .i64 x.by_] :: its) w') := by
    intro W its h i hi
    refine (spEvents h i hi (by rw [ZE1.out]; omega)).mono ?_
    rintro e w' ⟨va, he, h'⟩
    rw [ZE.out, ZE1.out] at h'
    obtain ⟨pa, ca, rfl⟩ := h'.form 0 rfl (by omega)
    exact ⟨pa, ca, he, h'⟩
  have HVL : Hid (∀ (W : World) (its : List It), St w its W → ∀ i : Nat, its[i]? = some (spI A c Z v u) → Calls Try.prog 12 #[.pointer (some ⟨A.m, 0, none⟩)] W fun e w' => ∃ pa ca, e = .returned (.slice (some ⟨pa, 0, none⟩) 1 ca) ∧ St w (ownI 65 6 (.slice (some ⟨pa, 0, none⟩) 1 ca) 1 [.int .i64 1, .int .i64 1, .int .i64 1, .int .i64 0, .int .i64 1, .bool true] :: its) w') := by
    intro W its h i hi
    refine (spLog h i hi OK (by omega)).mono ?_
    rintro e w' ⟨va, he, h'⟩
    rw [ZL.out, ZL1.out] at h'
    obtain ⟨pa, ca, rfl⟩ := h'.form 0 rfl (by omega)
    exact ⟨pa, ca, he, h'⟩
  clear ZN ZO OK
  go_wp2_with fail
  refine (HVW.out _ _ h6 0 rfl).mono ?_
  rintro e w7 ⟨va, ca, vs, cs, rfl, h7⟩
  clear h6
  have h8 := h7.box #[.slice (some ⟨va, 0, none⟩) nx ca, .int .i64 0, .int .i64 0, .slice (some ⟨vs, 0, none⟩) nh cs] 35
  clear h7
  go_upto_region 10 with fail
  generalize w7.alloc (.cells #[.slice (some ⟨va, 0, none⟩) nx ca, .int .i64 0, .int .i64 0, .slice (some ⟨vs, 0, none⟩) nh cs] 35) = w8 at *
  generalize w7.heap.size = V at *
  go_wp2_with fail
  refine (HVW.out _ _ h8 3 rfl).mono ?_
  rintro e w9 ⟨wa, da, ws, ds, rfl, h9⟩
  clear h8
  have h10 := h9.box #[.slice (some ⟨wa, 0, none⟩) nx da, .int .i64 0, .int .i64 0, .slice (some ⟨ws, 0, none⟩) nh ds] 35
  clear h9
  go_upto_region 11 with fail
  generalize w9.alloc (.cells #[.slice (some ⟨wa, 0, none⟩) nx da, .int .i64 0, .int .i64 0, .slice (some ⟨ws, 0, none⟩) nh ds] 35) = w10 at *
  generalize w9.heap.size = U at *
  go_wp2_with fail
  refine (HVE.out _ _ h10 6 rfl).mono ?_
  rintro e w11 ⟨ea, ec, rfl, h11⟩
  clear h10
  have mm : w11.cell? ⟨A.sp, 0, none⟩ = some (.pointer (some ⟨A.m, 0, none⟩)) := spCell h11 7 rfl 0
  go_wp2_with fail
  refine (HVL.out _ _ h11 7 rfl).mono ?_
  rintro e w12 ⟨lb, lc, rfl, h12'⟩
  clear h11 mm
  have h12 : St w [ownI 65 6 (.slice (some ⟨lb, 0, none⟩) 1 lc) 1 ([.int .i64 1, .int .i64 1, .int .i64 1, .int .i64 0, .int .i64 1, .bool true]), ownI 51 10 (.slice (some ⟨ea, 0, none⟩) 1 ec) 1 ([.int .i64 x.kd, .int .i64 1, .int .i64 x.th, .int .i64 x.sp, .int .i64 x.ce, .int .i64 x.x, .bool x.ow, .int .i64 x.ga, .int .i64 x.er, .int .i64 x.by_]), boxI U #[.slice (some ⟨wa, 0, none⟩) nx da, .int .i64 0, .int .i64 0, .slice (some ⟨ws, 0, none⟩) nh ds] 35, ownI 2 1 (.slice (some ⟨wa, 0, none⟩) nx da) nx (clCells Z.xs), ownI 63 8 (.slice (some ⟨ws, 0, none⟩) nh ds) nh (slCells (slots Z.hs Z.ws)), boxI V #[.slice (some ⟨va, 0, none⟩) nx ca, .int .i64 0, .int .i64 0, .slice (some ⟨vs, 0, none⟩) nh cs] 35, ownI 2 1 (.slice (some ⟨va, 0, none⟩) nx ca) nx (clCells Z.xs), ownI 63 8 (.slice (some ⟨vs, 0, none⟩) nh cs) nh (slCells (slots Z.hs Z.ws)), spI A c Z v u, boxI E #[.int .i64 x.kd, .int .i64 x.st, .int .i64 x.th, .int .i64 x.sp, .int .i64 x.ce, .int .i64 x.x, .bool x.ow, .int .i64 x.ga, .int .i64 x.er, .int .i64 x.by_] 51, boxI B #[.int .i64 c.ce, .int .i64 c.sl, .int .i64 c.bi, .int .i64 c.ta, .int .i64 c.ba, .int .i64 c.de] 23] w12 := h12'
  clear h12'

  go_wp2_with fail
  go_loopw [15] (fun i wr => ∃ (j : Nat) (ys : List Int), i = .int .i64 j ∧ j ≤ nx ∧ ys.length = nx ∧ St w [ownI 65 6 (.slice (some ⟨lb, 0, none⟩) 1 lc) 1 ([.int .i64 1, .int .i64 1, .int .i64 1, .int .i64 0, .int .i64 1, .bool true]), ownI 51 10 (.slice (some ⟨ea, 0, none⟩) 1 ec) 1 ([.int .i64 x.kd, .int .i64 1, .int .i64 x.th, .int .i64 x.sp, .int .i64 x.ce, .int .i64 x.x, .bool x.ow, .int .i64 x.ga, .int .i64 x.er, .int .i64 x.by_]), boxI U #[.slice (some ⟨wa, 0, none⟩) nx da, .int .i64 0, .int .i64 0, .slice (some ⟨ws, 0, none⟩) nh ds] 35, ownI 2 1 (.slice (some ⟨wa, 0, none⟩) nx da) nx (clCells Z.xs), ownI 63 8 (.slice (some ⟨ws, 0, none⟩) nh ds) nh (slCells (slots Z.hs Z.ws)), boxI V #[.slice (some ⟨va, 0, none⟩) nx ca, .int .i64 0, .int .i64 0, .slice (some ⟨vs, 0, none⟩) nh cs] 35, ownI 2 1 (.slice (some ⟨va, 0, none⟩) nx ca) nx (clCells ys), ownI 63 8 (.slice (some ⟨vs, 0, none⟩) nh cs) nh (slCells (slots Z.hs Z.ws)), spI A c Z v u, boxI E #[.int .i64 x.kd, .int .i64 x.st, .int .i64 x.th, .int .i64 x.sp, .int .i64 x.ce, .int .i64 x.x, .bool x.ow, .int .i64 x.ga, .int .i64 x.er, .int .i64 x.by_] 51, boxI B #[.int .i64 c.ce, .int .i64 c.sl, .int .i64 c.bi, .int .i64 c.ta, .int .i64 c.ba, .int .i64 c.de] 23] wr) (fun i _ => nx - (intOf i).toNat)
  case atStart => exact ⟨0, Z.xs, rfl, Nat.zero_le _, hnx, h12⟩
  case round =>
    clear h12
    obtain ⟨j, ys, rfl, hj, hys, hS⟩ := hrel
    have vc : wr.cell? ⟨V, 0, none⟩ = some (.slice (some ⟨va, 0, none⟩) nx ca) := hS.cell 5 rfl 0
    have hj0 : (0 : Int) ≤ (j : Int) := Int.natCast_nonneg _
    by_cases hlt : j < nx
    · have hlt' : (j : Int) < (nx : Int) := by omega
      have cj : wr.cell? ⟨va, j, none⟩ = some (.int .i64 (ys[j]'(by omega))) := (hS.ownCell 6 rfl j (by omega)).trans (clCells_at ys j (by omega))
      have fj : wr.frozen? ⟨va, j, none⟩ = false := hS.ownFrozen 6 rfl j
      generalize ys[j]'(by omega) = y at cj
      have vcd : wr.drew.cell? ⟨V, 0, none⟩ = some (.slice (some ⟨va, 0, none⟩) nx ca) := vc
      have cjd : wr.drew.cell? ⟨va, j, none⟩ = some (.int .i64 y) := cj
      have fjd : wr.drew.frozen? ⟨va, j, none⟩ = false := fj
      have HO2 : Hid (∀ X, St w [ownI 65 6 (.slice (some ⟨lb, 0, none⟩) 1 lc) 1 ([.int .i64 1, .int .i64 1, .int .i64 1, .int .i64 0, .int .i64 1, .bool true]), ownI 51 10 (.slice (some ⟨ea, 0, none⟩) 1 ec) 1 ([.int .i64 x.kd, .int .i64 1, .int .i64 x.th, .int .i64 x.sp, .int .i64 x.ce, .int .i64 x.x, .bool x.ow, .int .i64 x.ga, .int .i64 x.er, .int .i64 x.by_]), boxI U #[.slice (some ⟨wa, 0, none⟩) nx da, .int .i64 0, .int .i64 0, .slice (some ⟨ws, 0, none⟩) nh ds] 35, ownI 2 1 (.slice (some ⟨wa, 0, none⟩) nx da) nx (clCells Z.xs), ownI 63 8 (.slice (some ⟨ws, 0, none⟩) nh ds) nh (slCells (slots Z.hs Z.ws)), boxI V #[.slice (some ⟨va, 0, none⟩) nx ca, .int .i64 0, .int .i64 0, .slice (some ⟨vs, 0, none⟩) nh cs] 35, ownI 2 1 (.slice (some ⟨va, 0, none⟩) nx ca) nx (clCells (ys.set j X)), ownI 63 8 (.slice (some ⟨vs, 0, none⟩) nh cs) nh (slCells (slots Z.hs Z.ws)), spI A c Z v u, boxI E #[.int .i64 x.kd, .int .i64 x.st, .int .i64 x.th, .int .i64 x.sp, .int .i64 x.ce, .int .i64 x.x, .bool x.ow, .int .i64 x.ga, .int .i64 x.er, .int .i64 x.by_] 51, boxI B #[.int .i64 c.ce, .int .i64 c.sl, .int .i64 c.bi, .int .i64 c.ta, .int .i64 c.ba, .int .i64 c.de] 23] (wr.drew.setCell ⟨va, j, none⟩ (.int .i64 X)) ∧ (ys.set j X).length = nx) := fun X => ⟨by
        have := hS.drew.ownSet 6 rfl j (by omega) (.int .i64 X)
        rw [clCells_set] at this
        exact this, by simpa using hys⟩
      clear hS
      go_wp2_with fail
      go_region
      all_goals
        go_wp2
        go_roundw
        case rel => exact ⟨j + 1, _, by go_num, by omega, (HO2.out _).2, (HO2.out _).1⟩
        case measure => simp [intOf]; omega
    · have hlt' : ¬ (j : Int) < (nx : Int) := by omega
      go_wp2_with fail
      obtain ⟨wz, hwz⟩ : ∃ y, y = wr := ⟨_, rfl⟩
      subst hwz
      clear vc hlt hlt' hj0 hj
      go_loopw [16] (fun i wr => ∃ (k : Nat) (ts : List Value), i = .int .i64 k ∧ k ≤ nh ∧ ts.length = nh * 8 ∧ St w [ownI 65 6 (.slice (some ⟨lb, 0, none⟩) 1 lc) 1 ([.int .i64 1, .int .i64 1, .int .i64 1, .int .i64 0, .int .i64 1, .bool true]), ownI 51 10 (.slice (some ⟨ea, 0, none⟩) 1 ec) 1 ([.int .i64 x.kd, .int .i64 1, .int .i64 x.th, .int .i64 x.sp, .int .i64 x.ce, .int .i64 x.x, .bool x.ow, .int .i64 x.ga, .int .i64 x.er, .int .i64 x.by_]), boxI U #[.slice (some ⟨wa, 0, none⟩) nx da, .int .i64 0, .int .i64 0, .slice (some ⟨ws, 0, none⟩) nh ds] 35, ownI 2 1 (.slice (some ⟨wa, 0, none⟩) nx da) nx (clCells Z.xs), ownI 63 8 (.slice (some ⟨ws, 0, none⟩) nh ds) nh (slCells (slots Z.hs Z.ws)), boxI V #[.slice (some ⟨va, 0, none⟩) nx ca, .int .i64 0, .int .i64 0, .slice (some ⟨vs, 0, none⟩) nh cs] 35, ownI 2 1 (.slice (some ⟨va, 0, none⟩) nx ca) nx (clCells ys), ownI 63 8 (.slice (some ⟨vs, 0, none⟩) nh cs) nh (ts), spI A c Z v u, boxI E #[.int .i64 x.kd, .int .i64 x.st, .int .i64 x.th, .int .i64 x.sp, .int .i64 x.ce, .int .i64 x.x, .bool x.ow, .int .i64 x.ga, .int .i64 x.er, .int .i64 x.by_] 51, boxI B #[.int .i64 c.ce, .int .i64 c.sl, .int .i64 c.bi, .int .i64 c.ta, .int .i64 c.ba, .int .i64 c.de] 23] wr) (fun i _ => nh - (intOf i).toNat)
      case atStart => exact ⟨0, slCells (slots Z.hs Z.ws), rfl, Nat.zero_le _, hS.ownCap 7 rfl, hS⟩
      case round =>
        clear hS
        obtain ⟨k, ts, rfl, hk, hts, hS⟩ := hrel
        have vc : wr.cell? ⟨V, 3, none⟩ = some (.slice (some ⟨vs, 0, none⟩) nh cs) := hS.cell 5 rfl 3
        have hk0 : (0 : Int) ≤ (k : Int) := Int.natCast_nonneg _
        by_cases hlt : k < nh
        · have hlt' : (k : Int) < (nh : Int) := by omega
          have c0 : wr.cell? ⟨vs, k * 8, none⟩ = some (ts[k * 8]'(by omega)) := (hS.ownCell 7 rfl (k * 8) (by omega)).trans (List.getElem?_eq_getElem _)
          have f0 : wr.frozen? ⟨vs, k * 8, none⟩ = false := hS.ownFrozen 7 rfl (k * 8)
          have c1 : wr.cell? ⟨vs, k * 8 + 1, none⟩ = some (ts[k * 8 + 1]'(by omega)) := (hS.ownCell 7 rfl (k * 8 + 1) (by omega)).trans (List.getElem?_eq_getElem _)
          have f1 : wr.frozen? ⟨vs, k * 8 + 1, none⟩ = false := hS.ownFrozen 7 rfl (k * 8 + 1)
          have c2 : wr.cell? ⟨vs, k * 8 + 2, none⟩ = some (ts[k * 8 + 2]'(by omega)) := (hS.ownCell 7 rfl (k * 8 + 2) (by omega)).trans (List.getElem?_eq_getElem _)
          have f2 : wr.frozen? ⟨vs, k * 8 + 2, none⟩ = false := hS.ownFrozen 7 rfl (k * 8 + 2)
          have c3 : wr.cell? ⟨vs, k * 8 + 3, none⟩ = some (ts[k * 8 + 3]'(by omega)) := (hS.ownCell 7 rfl (k * 8 + 3) (by omega)).trans (List.getElem?_eq_getElem _)
          have f3 : wr.frozen? ⟨vs, k * 8 + 3, none⟩ = false := hS.ownFrozen 7 rfl (k * 8 + 3)
          have c4 : wr.cell? ⟨vs, k * 8 + 4, none⟩ = some (ts[k * 8 + 4]'(by omega)) := (hS.ownCell 7 rfl (k * 8 + 4) (by omega)).trans (List.getElem?_eq_getElem _)
          have f4 : wr.frozen? ⟨vs, k * 8 + 4, none⟩ = false := hS.ownFrozen 7 rfl (k * 8 + 4)
          have c5 : wr.cell? ⟨vs, k * 8 + 5, none⟩ = some (ts[k * 8 + 5]'(by omega)) := (hS.ownCell 7 rfl (k * 8 + 5) (by omega)).trans (List.getElem?_eq_getElem _)
          have f5 : wr.frozen? ⟨vs, k * 8 + 5, none⟩ = false := hS.ownFrozen 7 rfl (k * 8 + 5)
          have c6 : wr.cell? ⟨vs, k * 8 + 6, none⟩ = some (ts[k * 8 + 6]'(by omega)) := (hS.ownCell 7 rfl (k * 8 + 6) (by omega)).trans (List.getElem?_eq_getElem _)
          have f6 : wr.frozen? ⟨vs, k * 8 + 6, none⟩ = false := hS.ownFrozen 7 rfl (k * 8 + 6)
          have c7 : wr.cell? ⟨vs, k * 8 + 7, none⟩ = some (ts[k * 8 + 7]'(by omega)) := (hS.ownCell 7 rfl (k * 8 + 7) (by omega)).trans (List.getElem?_eq_getElem _)
          have f7 : wr.frozen? ⟨vs, k * 8 + 7, none⟩ = false := hS.ownFrozen 7 rfl (k * 8 + 7)
          generalize ts[k * 8]'(by omega) = y0 at c0
          generalize ts[k * 8 + 1]'(by omega) = y1 at c1
          generalize ts[k * 8 + 2]'(by omega) = y2 at c2
          generalize ts[k * 8 + 3]'(by omega) = y3 at c3
          generalize ts[k * 8 + 4]'(by omega) = y4 at c4
          generalize ts[k * 8 + 5]'(by omega) = y5 at c5
          generalize ts[k * 8 + 6]'(by omega) = y6 at c6
          generalize ts[k * 8 + 7]'(by omega) = y7 at c7
          have HO2 : Hid (St w [ownI 65 6 (.slice (some ⟨lb, 0, none⟩) 1 lc) 1 ([.int .i64 1, .int .i64 1, .int .i64 1, .int .i64 0, .int .i64 1, .bool true]), ownI 51 10 (.slice (some ⟨ea, 0, none⟩) 1 ec) 1 ([.int .i64 x.kd, .int .i64 1, .int .i64 x.th, .int .i64 x.sp, .int .i64 x.ce, .int .i64 x.x, .bool x.ow, .int .i64 x.ga, .int .i64 x.er, .int .i64 x.by_]), boxI U #[.slice (some ⟨wa, 0, none⟩) nx da, .int .i64 0, .int .i64 0, .slice (some ⟨ws, 0, none⟩) nh ds] 35, ownI 2 1 (.slice (some ⟨wa, 0, none⟩) nx da) nx (clCells Z.xs), ownI 63 8 (.slice (some ⟨ws, 0, none⟩) nh ds) nh (slCells (slots Z.hs Z.ws)), boxI V #[.slice (some ⟨va, 0, none⟩) nx ca, .int .i64 0, .int .i64 0, .slice (some ⟨vs, 0, none⟩) nh cs] 35, ownI 2 1 (.slice (some ⟨va, 0, none⟩) nx ca) nx (clCells ys), ownI 63 8 (.slice (some ⟨vs, 0, none⟩) nh cs) nh (((((((((ts.set (k * 8) (.int .i64 (-1))).set (k * 8 + 1) (.int .i64 0)).set (k * 8 + 2) (.int .i64 0)).set (k * 8 + 3) (.int .i64 0)).set (k * 8 + 4) (.bool false)).set (k * 8 + 5) (.int .i64 0)).set (k * 8 + 6) (.int .u64 0)).set (k * 8 + 7) (.int .u64 0))), spI A c Z v u, boxI E #[.int .i64 x.kd, .int .i64 x.st, .int .i64 x.th, .int .i64 x.sp, .int .i64 x.ce, .int .i64 x.x, .bool x.ow, .int .i64 x.ga, .int .i64 x.er, .int .i64 x.by_] 51, boxI B #[.int .i64 c.ce, .int .i64 c.sl, .int .i64 c.bi, .int .i64 c.ta, .int .i64 c.ba, .int .i64 c.de] 23] ((((((((wr.setCell ⟨vs, k * 8, none⟩ (.int .i64 (-1))).setCell ⟨vs, k * 8 + 1, none⟩ (.int .i64 0)).setCell ⟨vs, k * 8 + 2, none⟩ (.int .i64 0)).setCell ⟨vs, k * 8 + 3, none⟩ (.int .i64 0)).setCell ⟨vs, k * 8 + 4, none⟩ (.bool false)).setCell ⟨vs, k * 8 + 5, none⟩ (.int .i64 0)).setCell ⟨vs, k * 8 + 6, none⟩ (.int .u64 0)).setCell ⟨vs, k * 8 + 7, none⟩ (.int .u64 0)) ∧ ((((((((ts.set (k * 8) (.int .i64 (-1))).set (k * 8 + 1) (.int .i64 0)).set (k * 8 + 2) (.int .i64 0)).set (k * 8 + 3) (.int .i64 0)).set (k * 8 + 4) (.bool false)).set (k * 8 + 5) (.int .i64 0)).set (k * 8 + 6) (.int .u64 0)).set (k * 8 + 7) (.int .u64 0)).length = nh * 8) := ⟨((((((((hS.ownSet 7 rfl (k * 8) (by omega) (.int .i64 (-1))).ownSet 7 rfl (k * 8 + 1) (by omega) (.int .i64 0)).ownSet 7 rfl (k * 8 + 2) (by omega) (.int .i64 0)).ownSet 7 rfl (k * 8 + 3) (by omega) (.int .i64 0)).ownSet 7 rfl (k * 8 + 4) (by omega) (.bool false)).ownSet 7 rfl (k * 8 + 5) (by omega) (.int .i64 0)).ownSet 7 rfl (k * 8 + 6) (by omega) (.int .u64 0)).ownSet 7 rfl (k * 8 + 7) (by omega) (.int .u64 0)), by simpa using hts⟩
          clear hS
          go_wp2
          go_roundw
          case rel => exact ⟨k + 1, _, by go_num, by omega, HO2.out.2, HO2.out.1⟩
          case measure => simp [intOf]; omega
        · have hlt' : ¬ (k : Int) < (nh : Int) := by omega
          go_upto_region 21 with fail
          obtain ⟨wy, hwy⟩ : ∃ y, y = wr := ⟨_, rfl⟩
          subst hwy
          clear vc hlt hlt' hk0 hk
          have a0 : wy.cell? ⟨ea, 0, none⟩ = some (.int .i64 x.kd) := hS.ownCell 1 rfl 0 (by omega)
          have g0 : wy.frozen? ⟨ea, 0, none⟩ = false := hS.ownFrozen 1 rfl 0
          have a1 : wy.cell? ⟨ea, 1, none⟩ = some (.int .i64 1) := hS.ownCell 1 rfl 1 (by omega)
          have g1 : wy.frozen? ⟨ea, 1, none⟩ = false := hS.ownFrozen 1 rfl 1
          have a2 : wy.cell? ⟨ea, 2, none⟩ = some (.int .i64 x.th) := hS.ownCell 1 rfl 2 (by omega)
          have g2 : wy.frozen? ⟨ea, 2, none⟩ = false := hS.ownFrozen 1 rfl 2
          have a3 : wy.cell? ⟨ea, 3, none⟩ = some (.int .i64 x.sp) := hS.ownCell 1 rfl 3 (by omega)
          have g3 : wy.frozen? ⟨ea, 3, none⟩ = false := hS.ownFrozen 1 rfl 3
          have a4 : wy.cell? ⟨ea, 4, none⟩ = some (.int .i64 x.ce) := hS.ownCell 1 rfl 4 (by omega)
          have g4 : wy.frozen? ⟨ea, 4, none⟩ = false := hS.ownFrozen 1 rfl 4
          have a5 : wy.cell? ⟨ea, 5, none⟩ = some (.int .i64 x.x) := hS.ownCell 1 rfl 5 (by omega)
          have g5 : wy.frozen? ⟨ea, 5, none⟩ = false := hS.ownFrozen 1 rfl 5
          have a6 : wy.cell? ⟨ea, 6, none⟩ = some (.bool x.ow) := hS.ownCell 1 rfl 6 (by omega)
          have g6 : wy.frozen? ⟨ea, 6, none⟩ = false := hS.ownFrozen 1 rfl 6
          have a7 : wy.cell? ⟨ea, 7, none⟩ = some (.int .i64 x.ga) := hS.ownCell 1 rfl 7 (by omega)
          have g7 : wy.frozen? ⟨ea, 7, none⟩ = false := hS.ownFrozen 1 rfl 7
          have a8 : wy.cell? ⟨ea, 8, none⟩ = some (.int .i64 x.er) := hS.ownCell 1 rfl 8 (by omega)
          have g8 : wy.frozen? ⟨ea, 8, none⟩ = false := hS.ownFrozen 1 rfl 8
          have a9 : wy.cell? ⟨ea, 9, none⟩ = some (.int .i64 x.by_) := hS.ownCell 1 rfl 9 (by omega)
          have g9 : wy.frozen? ⟨ea, 9, none⟩ = false := hS.ownFrozen 1 rfl 9
          have HS1 : Hid (∃ xs : List Value, St w [ownI 65 6 (.slice (some ⟨lb, 0, none⟩) 1 lc) 1 ([.int .i64 1, .int .i64 1, .int .i64 1, .int .i64 0, .int .i64 1, .bool true]), ownI 51 10 (.slice (some ⟨ea, 0, none⟩) 1 ec) 1 (xs), boxI U #[.slice (some ⟨wa, 0, none⟩) nx da, .int .i64 0, .int .i64 0, .slice (some ⟨ws, 0, none⟩) nh ds] 35, ownI 2 1 (.slice (some ⟨wa, 0, none⟩) nx da) nx (clCells Z.xs), ownI 63 8 (.slice (some ⟨ws, 0, none⟩) nh ds) nh (slCells (slots Z.hs Z.ws)), boxI V #[.slice (some ⟨va, 0, none⟩) nx ca, .int .i64 0, .int .i64 0, .slice (some ⟨vs, 0, none⟩) nh cs] 35, ownI 2 1 (.slice (some ⟨va, 0, none⟩) nx ca) nx (clCells ys), ownI 63 8 (.slice (some ⟨vs, 0, none⟩) nh cs) nh (ts), spI A c Z v u, boxI E #[.int .i64 x.kd, .int .i64 x.st, .int .i64 x.th, .int .i64 x.sp, .int .i64 x.ce, .int .i64 x.x, .bool x.ow, .int .i64 x.ga, .int .i64 x.er, .int .i64 x.by_] 51, boxI B #[.int .i64 c.ce, .int .i64 c.sl, .int .i64 c.bi, .int .i64 c.ta, .int .i64 c.ba, .int .i64 c.de] 23] ((((((((((wy.setCell ⟨ea, 0, none⟩ (.int .i64 (-1))).setCell ⟨ea, 1, none⟩ (.int .i64 0)).setCell ⟨ea, 2, none⟩ (.int .i64 0)).setCell ⟨ea, 3, none⟩ (.int .i64 0)).setCell ⟨ea, 4, none⟩ (.int .i64 0)).setCell ⟨ea, 5, none⟩ (.int .i64 0)).setCell ⟨ea, 6, none⟩ (.bool false)).setCell ⟨ea, 7, none⟩ (.int .i64 0)).setCell ⟨ea, 8, none⟩ (.int .i64 0)).setCell ⟨ea, 9, none⟩ (.int .i64 0))) := ⟨_, ((((((((((hS.ownSet 1 rfl 0 (by omega) (.int .i64 (-1))).ownSet 1 rfl 1 (by omega) (.int .i64 0)).ownSet 1 rfl 2 (by omega) (.int .i64 0)).ownSet 1 rfl 3 (by omega) (.int .i64 0)).ownSet 1 rfl 4 (by omega) (.int .i64 0)).ownSet 1 rfl 5 (by omega) (.int .i64 0)).ownSet 1 rfl 6 (by omega) (.bool false)).ownSet 1 rfl 7 (by omega) (.int .i64 0)).ownSet 1 rfl 8 (by omega) (.int .i64 0)).ownSet 1 rfl 9 (by omega) (.int .i64 0))⟩
          clear hS
          go_upto_region 24 with fail
          clear a0 g0 a1 g1 a2 g2 a3 g3 a4 g4 a5 g5 a6 g6 a7 g7 a8 g8 a9 g9
          generalize ((((((((((wy.setCell ⟨ea, 0, none⟩ (.int .i64 (-1))).setCell ⟨ea, 1, none⟩ (.int .i64 0)).setCell ⟨ea, 2, none⟩ (.int .i64 0)).setCell ⟨ea, 3, none⟩ (.int .i64 0)).setCell ⟨ea, 4, none⟩ (.int .i64 0)).setCell ⟨ea, 5, none⟩ (.int .i64 0)).setCell ⟨ea, 6, none⟩ (.bool false)).setCell ⟨ea, 7, none⟩ (.int .i64 0)).setCell ⟨ea, 8, none⟩ (.int .i64 0)).setCell ⟨ea, 9, none⟩ (.int .i64 0)) = wx at *
          obtain ⟨xs, hS⟩ := HS1.out
          clear HS1
          have a0 : wx.cell? ⟨lb, 0, none⟩ = some (.int .i64 1) := hS.ownCell 0 rfl 0 (by omega)
          have g0 : wx.frozen? ⟨lb, 0, none⟩ = false := hS.ownFrozen 0 rfl 0
          have a1 : wx.cell? ⟨lb, 1, none⟩ = some (.int .i64 1) := hS.ownCell 0 rfl 1 (by omega)
          have g1 : wx.frozen? ⟨lb, 1, none⟩ = false := hS.ownFrozen 0 rfl 1
          have a2 : wx.cell? ⟨lb, 2, none⟩ = some (.int .i64 1) := hS.ownCell 0 rfl 2 (by omega)
          have g2 : wx.frozen? ⟨lb, 2, none⟩ = false := hS.ownFrozen 0 rfl 2
          have a3 : wx.cell? ⟨lb, 3, none⟩ = some (.int .i64 0) := hS.ownCell 0 rfl 3 (by omega)
          have g3 : wx.frozen? ⟨lb, 3, none⟩ = false := hS.ownFrozen 0 rfl 3
          have a4 : wx.cell? ⟨lb, 4, none⟩ = some (.int .i64 1) := hS.ownCell 0 rfl 4 (by omega)
          have g4 : wx.frozen? ⟨lb, 4, none⟩ = false := hS.ownFrozen 0 rfl 4
          have a5 : wx.cell? ⟨lb, 5, none⟩ = some (.bool true) := hS.ownCell 0 rfl 5 (by omega)
          have g5 : wx.frozen? ⟨lb, 5, none⟩ = false := hS.ownFrozen 0 rfl 5
          have HS1 : Hid (∃ qs : List Value, St w [ownI 65 6 (.slice (some ⟨lb, 0, none⟩) 1 lc) 1 (qs), ownI 51 10 (.slice (some ⟨ea, 0, none⟩) 1 ec) 1 (xs), boxI U #[.slice (some ⟨wa, 0, none⟩) nx da, .int .i64 0, .int .i64 0, .slice (some ⟨ws, 0, none⟩) nh ds] 35, ownI 2 1 (.slice (some ⟨wa, 0, none⟩) nx da) nx (clCells Z.xs), ownI 63 8 (.slice (some ⟨ws, 0, none⟩) nh ds) nh (slCells (slots Z.hs Z.ws)), boxI V #[.slice (some ⟨va, 0, none⟩) nx ca, .int .i64 0, .int .i64 0, .slice (some ⟨vs, 0, none⟩) nh cs] 35, ownI 2 1 (.slice (some ⟨va, 0, none⟩) nx ca) nx (clCells ys), ownI 63 8 (.slice (some ⟨vs, 0, none⟩) nh cs) nh (ts), spI A c Z v u, boxI E #[.int .i64 x.kd, .int .i64 x.st, .int .i64 x.th, .int .i64 x.sp, .int .i64 x.ce, .int .i64 x.x, .bool x.ow, .int .i64 x.ga, .int .i64 x.er, .int .i64 x.by_] 51, boxI B #[.int .i64 c.ce, .int .i64 c.sl, .int .i64 c.bi, .int .i64 c.ta, .int .i64 c.ba, .int .i64 c.de] 23] ((((((wx.setCell ⟨lb, 0, none⟩ (.int .i64 (-1))).setCell ⟨lb, 1, none⟩ (.int .i64 0)).setCell ⟨lb, 2, none⟩ (.int .i64 0)).setCell ⟨lb, 3, none⟩ (.int .i64 0)).setCell ⟨lb, 4, none⟩ (.int .i64 0)).setCell ⟨lb, 5, none⟩ (.bool false))) := ⟨_, ((((((hS.ownSet 0 rfl 0 (by omega) (.int .i64 (-1))).ownSet 0 rfl 1 (by omega) (.int .i64 0)).ownSet 0 rfl 2 (by omega) (.int .i64 0)).ownSet 0 rfl 3 (by omega) (.int .i64 0)).ownSet 0 rfl 4 (by omega) (.int .i64 0)).ownSet 0 rfl 5 (by omega) (.bool false))⟩
          clear hS
          go_upto_region 25 with fail
          clear a0 g0 a1 g1 a2 g2 a3 g3 a4 g4 a5 g5
          generalize ((((((wx.setCell ⟨lb, 0, none⟩ (.int .i64 (-1))).setCell ⟨lb, 1, none⟩ (.int .i64 0)).setCell ⟨lb, 2, none⟩ (.int .i64 0)).setCell ⟨lb, 3, none⟩ (.int .i64 0)).setCell ⟨lb, 4, none⟩ (.int .i64 0)).setCell ⟨lb, 5, none⟩ (.bool false)) = wv at *
          obtain ⟨qs, hS⟩ := HS1.out
          clear HS1
          obtain ⟨i0, hi0, hz0, hz1, hz2⟩ := info_parts Try.infoEv
          have hoA : (wv.alloc (.cells #[.int .i64 0, .int .i64 0, .int .i64 0, .int .i64 0, .int .i64 0, .int .i64 0, .bool false, .int .i64 0, .int .i64 0, .int .i64 0] 51)).ownsRow 0 51 10 (.slice (some ⟨ea, 0, none⟩) 1 ec) 1 xs := (show wv.ownsRow 0 51 10 (.slice (some ⟨ea, 0, none⟩) 1 ec) 1 xs from hS.get 1 rfl).alloc _
          go_upto_region 26 with (first | (refine wpList_buildEv0 (by rfl) (.tmp 110) (by rfl) (by rfl) ?_) | (at_builtin; refine wpList_append_own_at _ rfl (.tmp 109) (.tmp 111) 45 rfl 0 51 i0 _ 10 80 Try.underlying45 hi0 hz0 hz1 hz2 rfl (by omega) (.slice (some ⟨ea, 0, none⟩) 1 ec) 1 xs rfl hoA ⟨wv.heap.size, 0, none⟩ 1 1 [.int .i64 0, .int .i64 0, .int .i64 0, .int .i64 0, .int .i64 0, .int .i64 0, .bool false, .int .i64 0, .int .i64 0, .int .i64 0] rfl rfl (World.news_of_block (cs := #[.int .i64 0, .int .i64 0, .int .i64 0, .int .i64 0, .int .i64 0, .int .i64 0, .bool false, .int .i64 0, .int .i64 0, .int .i64 0]) (t := 51) (fr := (0, 0)) (heap_alloc_new wv _)) (by simp [Value.oneCell']) (by unfold maxLen; omega) (by omega) (Nat.zero_le _) ?_; intro vl wu hown' hgrow hnil hat))
          have hS2 := (hS.alloc (.cells #[.int .i64 0, .int .i64 0, .int .i64 0, .int .i64 0, .int .i64 0, .int .i64 0, .bool false, .int .i64 0, .int .i64 0, .int .i64 0] 51)).ownGrow 1 rfl hown' ⟨hgrow.os, hgrow.tape, hgrow.output, hgrow.size, fun b hb hne => hgrow.block b hb (fun e => hne e.symm)⟩ (by
            rcases hat with hat | hat
            · exact .inl hat
            · exact .inr ⟨_, hat, Nat.le_refl _⟩)
          clear hS hoA hown' hgrow hnil hat i0 hi0 hz0 hz1 hz2
          obtain ⟨i0, hi0, hz0, hz1, hz2⟩ := info_parts Try.infoAcc
          have hoA : (wu.alloc (.cells #[.int .i64 0, .int .i64 0, .int .i64 0, .int .i64 0, .int .i64 0, .bool false] 65)).ownsRow 0 65 6 (.slice (some ⟨lb, 0, none⟩) 1 lc) 1 qs := (show wu.ownsRow 0 65 6 (.slice (some ⟨lb, 0, none⟩) 1 lc) 1 qs from hS2.get 0 rfl).alloc _
          go_upto_region 27 with (first | (refine wpList_buildAcc0 (by rfl) (.tmp 114) (by rfl) (by rfl) ?_) | (at_builtin; refine wpList_append_own_at _ rfl (.tmp 113) (.tmp 115) 39 rfl 0 65 i0 _ 6 48 Try.underlying39 hi0 hz0 hz1 hz2 rfl (by omega) (.slice (some ⟨lb, 0, none⟩) 1 lc) 1 qs rfl hoA ⟨wu.heap.size, 0, none⟩ 1 1 [.int .i64 0, .int .i64 0, .int .i64 0, .int .i64 0, .int .i64 0, .bool false] rfl rfl (World.news_of_block (cs := #[.int .i64 0, .int .i64 0, .int .i64 0, .int .i64 0, .int .i64 0, .bool false]) (t := 65) (fr := (0, 0)) (heap_alloc_new wu _)) (by simp [Value.oneCell']) (by unfold maxLen; omega) (by omega) (Nat.zero_le _) ?_; intro vm wt hown' hgrow hnil hat))
          have hS3 := (hS2.alloc (.cells #[.int .i64 0, .int .i64 0, .int .i64 0, .int .i64 0, .int .i64 0, .bool false] 65)).ownGrow 0 rfl hown' ⟨hgrow.os, hgrow.tape, hgrow.output, hgrow.size, fun b hb hne => hgrow.block b hb (fun e => hne e.symm)⟩ (by
            rcases hat with hat | hat
            · exact .inl hat
            · exact .inr ⟨_, hat, Nat.le_refl _⟩)
          clear hS2 hoA hown' hgrow hnil hat i0 hi0 hz0 hz1 hz2
          have hS4 : St w [boxI U #[.slice (some ⟨wa, 0, none⟩) nx da, .int .i64 0, .int .i64 0, .slice (some ⟨ws, 0, none⟩) nh ds] 35, ownI 2 1 (.slice (some ⟨wa, 0, none⟩) nx da) nx (clCells Z.xs), ownI 63 8 (.slice (some ⟨ws, 0, none⟩) nh ds) nh (slCells (slots Z.hs Z.ws)), boxI V #[.slice (some ⟨va, 0, none⟩) nx ca, .int .i64 0, .int .i64 0, .slice (some ⟨vs, 0, none⟩) nh cs] 35, ownI 2 1 (.slice (some ⟨va, 0, none⟩) nx ca) nx (clCells ys), ownI 63 8 (.slice (some ⟨vs, 0, none⟩) nh cs) nh (ts), spI A c Z v u, boxI E #[.int .i64 x.kd, .int .i64 x.st, .int .i64 x.th, .int .i64 x.sp, .int .i64 x.ce, .int .i64 x.x, .bool x.ow, .int .i64 x.ga, .int .i64 x.er, .int .i64 x.by_] 51, boxI B #[.int .i64 c.ce, .int .i64 c.sl, .int .i64 c.bi, .int .i64 c.ta, .int .i64 c.ba, .int .i64 c.de] 23] wt := St.tail [_, _] hS3
          clear hS3
          have e1 : wt.cell? ⟨E, 1, none⟩ = some (.int .i64 x.st) := hS4.cell 7 rfl 1
          have f1 : wt.frozen? ⟨E, 1, none⟩ = false := hS4.frozen 7 rfl 1
          have hS5 : St w [boxI U #[.slice (some ⟨wa, 0, none⟩) nx da, .int .i64 0, .int .i64 0, .slice (some ⟨ws, 0, none⟩) nh ds] 35, ownI 2 1 (.slice (some ⟨wa, 0, none⟩) nx da) nx (clCells Z.xs), ownI 63 8 (.slice (some ⟨ws, 0, none⟩) nh ds) nh (slCells (slots Z.hs Z.ws)), boxI V #[.slice (some ⟨va, 0, none⟩) nx ca, .int .i64 0, .int .i64 0, .slice (some ⟨vs, 0, none⟩) nh cs] 35, ownI 2 1 (.slice (some ⟨va, 0, none⟩) nx ca) nx (clCells ys), ownI 63 8 (.slice (some ⟨vs, 0, none⟩) nh cs) nh (ts), spI A c Z v u, boxI E #[.int .i64 x.kd, .int .i64 1, .int .i64 x.th, .int .i64 x.sp, .int .i64 x.ce, .int .i64 x.x, .bool x.ow, .int .i64 x.ga, .int .i64 x.er, .int .i64 x.by_] 51, boxI B #[.int .i64 c.ce, .int .i64 c.sl, .int .i64 c.bi, .int .i64 c.ta, .int .i64 c.ba, .int .i64 c.de] 23] (wt.setCell ⟨E, 1, none⟩ (.int .i64 1)) := hS4.write 7 rfl 1 (.int .i64 1)
          clear hS4
          go_upto_region 28 with fail
          generalize wt.setCell ⟨E, 1, none⟩ (.int .i64 1) = ws1 at *
          clear e1 f1
          go_wp2_with fail
          refine (HVE.out _ _ hS5 6 rfl).mono ?_
          rintro e ws2 ⟨mp, mc, rfl, hS6⟩
          clear hS5
          have mm : ws2.cell? ⟨A.sp, 0, none⟩ = some (.pointer (some ⟨A.m, 0, none⟩)) := spCell hS6 7 rfl 0
          go_wp2_with fail
          refine (HVL.out _ _ hS6 7 rfl).mono ?_
          rintro e ws3 ⟨np, nc, rfl, hS7⟩
          clear hS6 mm
          go_wp2_with fail
          refine (HVW.out _ _ hS7 8 rfl).mono ?_
          rintro e ws4 ⟨ua, uc, us, ud, rfl, hS8⟩
          clear hS7
          have hS9 := hS8.box #[.slice (some ⟨ua, 0, none⟩) nx uc, .int .i64 0, .int .i64 0, .slice (some ⟨us, 0, none⟩) nh ud] 35
          clear hS8
          go_upto_region 31 with fail
          generalize ws4.alloc (.cells #[.slice (some ⟨ua, 0, none⟩) nx uc, .int .i64 0, .int .i64 0, .slice (some ⟨us, 0, none⟩) nh ud] 35) = wf at *
          generalize ws4.heap.size = T at *
          have t0 : wf.cell? ⟨T, 0, none⟩ = some (.slice (some ⟨ua, 0, none⟩) nx uc) := hS9.cell 0 rfl 0
          have t3 : wf.cell? ⟨T, 3, none⟩ = some (.slice (some ⟨us, 0, none⟩) nh ud) := hS9.cell 0 rfl 3
          have u0 : wf.cell? ⟨U, 0, none⟩ = some (.slice (some ⟨wa, 0, none⟩) nx da) := hS9.cell 5 rfl 0
          have u3 : wf.cell? ⟨U, 3, none⟩ = some (.slice (some ⟨ws, 0, none⟩) nh ds) := hS9.cell 5 rfl 3
          have b0 : wf.cell? ⟨B, 0, none⟩ = some (.int .i64 nx) := (hS9.cell 13 rfl 0).trans (by rw [hcx]; rfl)
          have b1 : wf.cell? ⟨B, 1, none⟩ = some (.int .i64 nh) := (hS9.cell 13 rfl 1).trans (by rw [hch]; rfl)
          have n0' : wf.cell? ⟨np, 0, none⟩ = some (.int .i64 1) := hS9.ownCell 3 rfl 0 (by omega)
          have n1' : wf.cell? ⟨np, 1, none⟩ = some (.int .i64 1) := hS9.ownCell 3 rfl 1 (by omega)
          have n2' : wf.cell? ⟨np, 2, none⟩ = some (.int .i64 1) := hS9.ownCell 3 rfl 2 (by omega)
          have n3' : wf.cell? ⟨np, 3, none⟩ = some (.int .i64 0) := hS9.ownCell 3 rfl 3 (by omega)
          have n4' : wf.cell? ⟨np, 4, none⟩ = some (.int .i64 1) := hS9.ownCell 3 rfl 4 (by omega)
          have n5' : wf.cell? ⟨np, 5, none⟩ = some (.bool true) := hS9.ownCell 3 rfl 5 (by omega)
          have m0' : wf.cell? ⟨mp, 0, none⟩ = some (.int .i64 x.kd) := hS9.ownCell 4 rfl 0 (by omega)
          have m1' : wf.cell? ⟨mp, 1, none⟩ = some (.int .i64 1) := hS9.ownCell 4 rfl 1 (by omega)
          have m2' : wf.cell? ⟨mp, 2, none⟩ = some (.int .i64 x.th) := hS9.ownCell 4 rfl 2 (by omega)
          have m3' : wf.cell? ⟨mp, 3, none⟩ = some (.int .i64 x.sp) := hS9.ownCell 4 rfl 3 (by omega)
          have m4' : wf.cell? ⟨mp, 4, none⟩ = some (.int .i64 x.ce) := hS9.ownCell 4 rfl 4 (by omega)
          have m5' : wf.cell? ⟨mp, 5, none⟩ = some (.int .i64 x.x) := hS9.ownCell 4 rfl 5 (by omega)
          have m6' : wf.cell? ⟨mp, 6, none⟩ = some (.bool x.ow) := hS9.ownCell 4 rfl 6 (by omega)
          have m7' : wf.cell? ⟨mp, 7, none⟩ = some (.int .i64 x.ga) := hS9.ownCell 4 rfl 7 (by omega)
          have m8' : wf.cell? ⟨mp, 8, none⟩ = some (.int .i64 x.er) := hS9.ownCell 4 rfl 8 (by omega)
          have m9' : wf.cell? ⟨mp, 9, none⟩ = some (.int .i64 x.by_) := hS9.ownCell 4 rfl 9 (by omega)
          have x0' : wf.cell? ⟨E, 0, none⟩ = some (.int .i64 x.kd) := hS9.cell 12 rfl 0
          have x1' : wf.cell? ⟨E, 1, none⟩ = some (.int .i64 1) := hS9.cell 12 rfl 1
          have x2' : wf.cell? ⟨E, 2, none⟩ = some (.int .i64 x.th) := hS9.cell 12 rfl 2
          have x3' : wf.cell? ⟨E, 3, none⟩ = some (.int .i64 x.sp) := hS9.cell 12 rfl 3
          have x4' : wf.cell? ⟨E, 4, none⟩ = some (.int .i64 x.ce) := hS9.cell 12 rfl 4
          have x5' : wf.cell? ⟨E, 5, none⟩ = some (.int .i64 x.x) := hS9.cell 12 rfl 5
          have x6' : wf.cell? ⟨E, 6, none⟩ = some (.bool x.ow) := hS9.cell 12 rfl 6
          have x7' : wf.cell? ⟨E, 7, none⟩ = some (.int .i64 x.ga) := hS9.cell 12 rfl 7
          have x8' : wf.cell? ⟨E, 8, none⟩ = some (.int .i64 x.er) := hS9.cell 12 rfl 8
          have x9' : wf.cell? ⟨E, 9, none⟩ = some (.int .i64 x.by_) := hS9.cell 12 rfl 9
          have hev := neEv x.kd 1 x.th x.sp x.ce x.x x.ow x.ga x.er x.by_
          have hac : ∀ W, (binOp .neq 65 (.agg #[.int .i64 1, .int .i64 1, .int .i64 1, .int .i64 0, .int .i64 1, .bool true]) (.agg #[.int .i64 1, .int .i64 1, .int .i64 1, .int .i64 0, .int .i64 1, .bool true])).run Try.prog W = .ok (.bool false) W := fun W => by kernel_rfl
          have HK : Hid (Kept (fun _ => False) w wf) := hS9.same
          have HCW : Hid (∀ j, j < nx → wf.cell? ⟨wa, j, none⟩ = (clCells Z.xs)[j]? ∧ wf.cell? ⟨ua, j, none⟩ = (clCells Z.xs)[j]?) := fun j hj => ⟨hS9.ownCell 6 rfl j (by omega), hS9.ownCell 1 rfl j (by omega)⟩
          have HSW : Hid (∀ j, j < nh * 8 → wf.cell? ⟨ws, j, none⟩ = (slCells (slots Z.hs Z.ws))[j]? ∧ wf.cell? ⟨us, j, none⟩ = (slCells (slots Z.hs Z.ws))[j]?) := fun j hj => ⟨hS9.ownCell 7 rfl j (by omega), hS9.ownCell 2 rfl j (by omega)⟩
          have HLW : Hid (NumsIn wf la ll zs) := HL.out.kept hS9.same
          have hzl : zs.length = ll := HL.out.1.symm
          have ecn : c.ce.toNat = nx := by omega
          have esn : c.sl.toNat = nh := by omega
          have HGB : (ge == 0) = decide ((ll : Int) ≤ (nx : Int)) := by
            have h1 := HGE'.out
            rw [ecn] at h1
            rw [← h1, keep_err, hzl]
            simp
          clear hS9 HVW HVE HVL HL
          have HVX : Hid (∀ j, j < nx → (ge = 0 → j < ll → (clCells Z.xs)[j]? = some (.int .i64 (zs.getD j 0))) ∧ (¬ (ge = 0 ∧ j < ll) → (clCells Z.xs)[j]? = some (.int .i64 0))) := by
            intro j hj
            have h1 := HGE'.out
            have h2 := ZX.out
            rw [ecn] at h1 h2
            have h3 := keep_val h2 j hj
            rw [h1, hzl] at h3
            refine ⟨fun a b => ?_, fun a => ?_⟩
            · have h4 := h3.1 a b
              simp only [clCells, List.getElem?_map, h4, Option.map_some]
            · have h4 := h3.2 a
              simp only [clCells, List.getElem?_map, h4, Option.map_some]
          have HZ0 : Hid (∀ k q, k < nh → q < 8 → (slCells (slots Z.hs Z.ws))[k * 8 + q]? = Sl.zero.cells[q]?) := by
            intro k q hk hq
            have h2 := ZH.out
            rw [esn] at h2
            rw [h2]
            exact zero_slot nh k q hk hq
          clear HGE' ZX ZH hzl ecn esn ZL ZL1 ZE ZE1 HC HCF HO hnx hnh
          by_cases hle : ll ≤ nx
          · have hge : ge = 0 := by
              have : (ge == 0) = true := by rw [HGB]; simp; omega
              simpa using this
            subst hge
            clear HGB
            have hle' : (ll : Int) ≤ (nx : Int) := by omega
            simp only [List.append]
            go_quiet (fail)
            clear n0' n1' n2' n3' n4' n5' m0' m1' m2' m3' m4' m5' m6' m7' m8' m9' x0' x1' x2' x3' x4' x5' x6' x7' x8' x9' hev hac
            go_wp2_with fail
            go_loopw [20, 21] (fun i _ wr => ∃ j : Nat, i = .int .i64 j ∧ j ≤ nx ∧ ∃ n, wr = wf.drewN n) (fun i _ _ => nx - (intOf i).toNat)
            case atStart => exact ⟨0, rfl, Nat.zero_le _, _, rfl⟩
            case round =>
              obtain ⟨j, rfl, hj, nn, rfl⟩ := hrel
              have t0' : (wf.drewN nn).cell? ⟨T, 0, none⟩ = some (.slice (some ⟨ua, 0, none⟩) nx uc) := t0
              have u0' : (wf.drewN nn).cell? ⟨U, 0, none⟩ = some (.slice (some ⟨wa, 0, none⟩) nx da) := u0
              have b0' : (wf.drewN nn).cell? ⟨B, 0, none⟩ = some (.int .i64 nx) := b0
              have hj0 : (0 : Int) ≤ (j : Int) := Int.natCast_nonneg _
              by_cases hlt : j < nx
              · have hlt' : (j : Int) < (nx : Int) := by omega
                by_cases hjl : j < ll
                · have hjl' : (j : Int) < (ll : Int) := by omega
                  obtain ⟨lg, lo, hla, hlz⟩ := HLW.out.2 (by omega)
                  have ez : (wf.drewN nn).cell? ⟨lg, lo + j, none⟩ = some (.int .i64 (zs.getD j 0)) := hlz j hjl
                  have hv1 := (HVX.out j hlt).1 (by trivial) hjl
                  clear hlz
                  subst hla
                  have cw : (wf.drewN nn).cell? ⟨wa, j, none⟩ = some (.int .i64 (zs.getD j 0)) := (HCW.out j hlt).1.trans hv1
                  have cu : (wf.drewN nn).cell? ⟨ua, j, none⟩ = some (.int .i64 (zs.getD j 0)) := (HCW.out j hlt).2.trans hv1
                  generalize zs.getD j 0 = y at *
                  go_wp2
                  go_roundw
                  case rel => exact ⟨j + 1, by go_num, by omega, _, rfl⟩
                  case measure => simp [intOf]; omega
                · have hjl' : ¬ (j : Int) < (ll : Int) := by omega
                  have hv1 := (HVX.out j hlt).2 (fun h => hjl h.2)
                  have cw : (wf.drewN nn).cell? ⟨wa, j, none⟩ = some (.int .i64 0) := (HCW.out j hlt).1.trans hv1
                  have cu : (wf.drewN nn).cell? ⟨ua, j, none⟩ = some (.int .i64 0) := (HCW.out j hlt).2.trans hv1
                  go_wp2
                  go_roundw
                  case rel => exact ⟨j + 1, by go_num, by omega, _, rfl⟩
                  case measure => simp [intOf]; omega
              · have hlt' : ¬ (j : Int) < (nx : Int) := by omega
                go_wp2_with fail
                clear t0' u0' b0' hlt hlt' hj0 hj
                go_loopw [22] (fun i wr => ∃ k : Nat, i = .int .i64 k ∧ k ≤ nh ∧ ∃ n, wr = wf.drewN n) (fun i _ => nh - (intOf i).toNat)
                case atStart => exact ⟨0, rfl, Nat.zero_le _, _, rfl⟩
                case round =>
                  obtain ⟨k, rfl, hk, n2, rfl⟩ := hrel
                  have t3' : (wf.drewN n2).cell? ⟨T, 3, none⟩ = some (.slice (some ⟨us, 0, none⟩) nh ud) := t3
                  have u3' : (wf.drewN n2).cell? ⟨U, 3, none⟩ = some (.slice (some ⟨ws, 0, none⟩) nh ds) := u3
                  have b1' : (wf.drewN n2).cell? ⟨B, 1, none⟩ = some (.int .i64 nh) := b1
                  have hk0 : (0 : Int) ≤ (k : Int) := Int.natCast_nonneg _
                  by_cases hlt : k < nh
                  · have hlt' : (k : Int) < (nh : Int) := by omega
                    have cw0 : (wf.drewN n2).cell? ⟨ws, k * 8, none⟩ = some (.int .i64 0) := (HSW.out (k * 8) (by omega)).1.trans (HZ0.out k 0 hlt (by omega))
                    have cu0 : (wf.drewN n2).cell? ⟨us, k * 8, none⟩ = some (.int .i64 0) := (HSW.out (k * 8) (by omega)).2.trans (HZ0.out k 0 hlt (by omega))
                    have cw1 : (wf.drewN n2).cell? ⟨ws, k * 8 + 1, none⟩ = some (.int .i64 0) := (HSW.out (k * 8 + 1) (by omega)).1.trans (HZ0.out k 1 hlt (by omega))
                    have cu1 : (wf.drewN n2).cell? ⟨us, k * 8 + 1, none⟩ = some (.int .i64 0) := (HSW.out (k * 8 + 1) (by omega)).2.trans (HZ0.out k 1 hlt (by omega))
                    have cw2 : (wf.drewN n2).cell? ⟨ws, k * 8 + 2, none⟩ = some (.int .i64 0) := (HSW.out (k * 8 + 2) (by omega)).1.trans (HZ0.out k 2 hlt (by omega))
                    have cu2 : (wf.drewN n2).cell? ⟨us, k * 8 + 2, none⟩ = some (.int .i64 0) := (HSW.out (k * 8 + 2) (by omega)).2.trans (HZ0.out k 2 hlt (by omega))
                    have cw3 : (wf.drewN n2).cell? ⟨ws, k * 8 + 3, none⟩ = some (.int .i64 0) := (HSW.out (k * 8 + 3) (by omega)).1.trans (HZ0.out k 3 hlt (by omega))
                    have cu3 : (wf.drewN n2).cell? ⟨us, k * 8 + 3, none⟩ = some (.int .i64 0) := (HSW.out (k * 8 + 3) (by omega)).2.trans (HZ0.out k 3 hlt (by omega))
                    have cw4 : (wf.drewN n2).cell? ⟨ws, k * 8 + 4, none⟩ = some (.bool false) := (HSW.out (k * 8 + 4) (by omega)).1.trans (HZ0.out k 4 hlt (by omega))
                    have cu4 : (wf.drewN n2).cell? ⟨us, k * 8 + 4, none⟩ = some (.bool false) := (HSW.out (k * 8 + 4) (by omega)).2.trans (HZ0.out k 4 hlt (by omega))
                    have cw5 : (wf.drewN n2).cell? ⟨ws, k * 8 + 5, none⟩ = some (.int .i64 0) := (HSW.out (k * 8 + 5) (by omega)).1.trans (HZ0.out k 5 hlt (by omega))
                    have cu5 : (wf.drewN n2).cell? ⟨us, k * 8 + 5, none⟩ = some (.int .i64 0) := (HSW.out (k * 8 + 5) (by omega)).2.trans (HZ0.out k 5 hlt (by omega))
                    have cw6 : (wf.drewN n2).cell? ⟨ws, k * 8 + 6, none⟩ = some (.int .u64 0) := (HSW.out (k * 8 + 6) (by omega)).1.trans (HZ0.out k 6 hlt (by omega))
                    have cu6 : (wf.drewN n2).cell? ⟨us, k * 8 + 6, none⟩ = some (.int .u64 0) := (HSW.out (k * 8 + 6) (by omega)).2.trans (HZ0.out k 6 hlt (by omega))
                    have cw7 : (wf.drewN n2).cell? ⟨ws, k * 8 + 7, none⟩ = some (.int .u64 0) := (HSW.out (k * 8 + 7) (by omega)).1.trans (HZ0.out k 7 hlt (by omega))
                    have cu7 : (wf.drewN n2).cell? ⟨us, k * 8 + 7, none⟩ = some (.int .u64 0) := (HSW.out (k * 8 + 7) (by omega)).2.trans (HZ0.out k 7 hlt (by omega))
                    have hes := eqSlot 0 0 0 0 false 0 0 0
                    go_wp2
                    go_roundw
                    case rel => exact ⟨k + 1, by go_num, by omega, _, rfl⟩
                    case measure => simp [intOf]; omega
                  · have hlt' : ¬ (k : Int) < (nh : Int) := by omega
                    go_wp2
                    go_ret
                    exact ⟨rfl, HK.out.drewN _⟩
          · have hge : (ge == 0) = false := by rw [HGB]; simp; omega
            have hgz : ¬ ge = 0 := by simpa using hge
            clear HGB
            have hle' : ¬ (ll : Int) ≤ (nx : Int) := by omega
            simp only [List.append]
            go_quiet (fail)
            clear n0' n1' n2' n3' n4' n5' m0' m1' m2' m3' m4' m5' m6' m7' m8' m9' x0' x1' x2' x3' x4' x5' x6' x7' x8' x9' hev hac
            go_wp2_with fail
            go_loopw [20, 21] (fun i _ wr => ∃ j : Nat, i = .int .i64 j ∧ j ≤ nx ∧ ∃ n, wr = wf.drewN n) (fun i _ _ => nx - (intOf i).toNat)
            case atStart => exact ⟨0, rfl, Nat.zero_le _, _, rfl⟩
            case round =>
              obtain ⟨j, rfl, hj, nn, rfl⟩ := hrel
              have t0' : (wf.drewN nn).cell? ⟨T, 0, none⟩ = some (.slice (some ⟨ua, 0, none⟩) nx uc) := t0
              have u0' : (wf.drewN nn).cell? ⟨U, 0, none⟩ = some (.slice (some ⟨wa, 0, none⟩) nx da) := u0
              have b0' : (wf.drewN nn).cell? ⟨B, 0, none⟩ = some (.int .i64 nx) := b0
              have hj0 : (0 : Int) ≤ (j : Int) := Int.natCast_nonneg _
              by_cases hlt : j < nx
              · have hlt' : (j : Int) < (nx : Int) := by omega
                have hv1 := (HVX.out j hlt).2 (fun h => hgz h.1)
                have cw : (wf.drewN nn).cell? ⟨wa, j, none⟩ = some (.int .i64 0) := (HCW.out j hlt).1.trans hv1
                have cu : (wf.drewN nn).cell? ⟨ua, j, none⟩ = some (.int .i64 0) := (HCW.out j hlt).2.trans hv1
                go_wp2
                go_roundw
                case rel => exact ⟨j + 1, by go_num, by omega, _, rfl⟩
                case measure => simp [intOf]; omega
              · have hlt' : ¬ (j : Int) < (nx : Int) := by omega
                go_wp2_with fail
                clear t0' u0' b0' hlt hlt' hj0 hj
                go_loopw [22] (fun i wr => ∃ k : Nat, i = .int .i64 k ∧ k ≤ nh ∧ ∃ n, wr = wf.drewN n) (fun i _ => nh - (intOf i).toNat)
                case atStart => exact ⟨0, rfl, Nat.zero_le _, _, rfl⟩
                case round =>
                  obtain ⟨k, rfl, hk, n2, rfl⟩ := hrel
                  have t3' : (wf.drewN n2).cell? ⟨T, 3, none⟩ = some (.slice (some ⟨us, 0, none⟩) nh ud) := t3
                  have u3' : (wf.drewN n2).cell? ⟨U, 3, none⟩ = some (.slice (some ⟨ws, 0, none⟩) nh ds) := u3
                  have b1' : (wf.drewN n2).cell? ⟨B, 1, none⟩ = some (.int .i64 nh) := b1
                  have hk0 : (0 : Int) ≤ (k : Int) := Int.natCast_nonneg _
                  by_cases hlt : k < nh
                  · have hlt' : (k : Int) < (nh : Int) := by omega
                    have cw0 : (wf.drewN n2).cell? ⟨ws, k * 8, none⟩ = some (.int .i64 0) := (HSW.out (k * 8) (by omega)).1.trans (HZ0.out k 0 hlt (by omega))
                    have cu0 : (wf.drewN n2).cell? ⟨us, k * 8, none⟩ = some (.int .i64 0) := (HSW.out (k * 8) (by omega)).2.trans (HZ0.out k 0 hlt (by omega))
                    have cw1 : (wf.drewN n2).cell? ⟨ws, k * 8 + 1, none⟩ = some (.int .i64 0) := (HSW.out (k * 8 + 1) (by omega)).1.trans (HZ0.out k 1 hlt (by omega))
                    have cu1 : (wf.drewN n2).cell? ⟨us, k * 8 + 1, none⟩ = some (.int .i64 0) := (HSW.out (k * 8 + 1) (by omega)).2.trans (HZ0.out k 1 hlt (by omega))
                    have cw2 : (wf.drewN n2).cell? ⟨ws, k * 8 + 2, none⟩ = some (.int .i64 0) := (HSW.out (k * 8 + 2) (by omega)).1.trans (HZ0.out k 2 hlt (by omega))
                    have cu2 : (wf.drewN n2).cell? ⟨us, k * 8 + 2, none⟩ = some (.int .i64 0) := (HSW.out (k * 8 + 2) (by omega)).2.trans (HZ0.out k 2 hlt (by omega))
                    have cw3 : (wf.drewN n2).cell? ⟨ws, k * 8 + 3, none⟩ = some (.int .i64 0) := (HSW.out (k * 8 + 3) (by omega)).1.trans (HZ0.out k 3 hlt (by omega))
                    have cu3 : (wf.drewN n2).cell? ⟨us, k * 8 + 3, none⟩ = some (.int .i64 0) := (HSW.out (k * 8 + 3) (by omega)).2.trans (HZ0.out k 3 hlt (by omega))
                    have cw4 : (wf.drewN n2).cell? ⟨ws, k * 8 + 4, none⟩ = some (.bool false) := (HSW.out (k * 8 + 4) (by omega)).1.trans (HZ0.out k 4 hlt (by omega))
                    have cu4 : (wf.drewN n2).cell? ⟨us, k * 8 + 4, none⟩ = some (.bool false) := (HSW.out (k * 8 + 4) (by omega)).2.trans (HZ0.out k 4 hlt (by omega))
                    have cw5 : (wf.drewN n2).cell? ⟨ws, k * 8 + 5, none⟩ = some (.int .i64 0) := (HSW.out (k * 8 + 5) (by omega)).1.trans (HZ0.out k 5 hlt (by omega))
                    have cu5 : (wf.drewN n2).cell? ⟨us, k * 8 + 5, none⟩ = some (.int .i64 0) := (HSW.out (k * 8 + 5) (by omega)).2.trans (HZ0.out k 5 hlt (by omega))
                    have cw6 : (wf.drewN n2).cell? ⟨ws, k * 8 + 6, none⟩ = some (.int .u64 0) := (HSW.out (k * 8 + 6) (by omega)).1.trans (HZ0.out k 6 hlt (by omega))
                    have cu6 : (wf.drewN n2).cell? ⟨us, k * 8 + 6, none⟩ = some (.int .u64 0) := (HSW.out (k * 8 + 6) (by omega)).2.trans (HZ0.out k 6 hlt (by omega))
                    have cw7 : (wf.drewN n2).cell? ⟨ws, k * 8 + 7, none⟩ = some (.int .u64 0) := (HSW.out (k * 8 + 7) (by omega)).1.trans (HZ0.out k 7 hlt (by omega))
                    have cu7 : (wf.drewN n2).cell? ⟨us, k * 8 + 7, none⟩ = some (.int .u64 0) := (HSW.out (k * 8 + 7) (by omega)).2.trans (HZ0.out k 7 hlt (by omega))
                    have hes := eqSlot 0 0 0 0 false 0 0 0
                    go_wp2
                    go_roundw
                    case rel => exact ⟨k + 1, by go_num, by omega, _, rfl⟩
                    case measure => simp [intOf]; omega
                  · have hlt' : ¬ (k : Int) < (nh : Int) := by omega
                    go_wp2
                    go_ret
                    exact ⟨rfl, HK.out.drewN _⟩
end Go.Proofs.Ytjffkgolpdoegaa
