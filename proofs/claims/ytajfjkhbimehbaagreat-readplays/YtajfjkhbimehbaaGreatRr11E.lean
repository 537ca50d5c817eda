/- The document's read: how it lies in memory; Done, Value. The document's read: a new one; what it asks of the document's space. The document's read: the signature of its cell. The document's read: its first stage, its step. The document's read: its step. -/
import Derived.Test.YtajfjkhbimehbaaGreatRdF
import Derived.Test.YtajfjkhbimehbaaGreatRSp
import Derived.Test.YtajfjkhbimehbaaGreatSigR
import Derived.BigQuiet
import Derived.Deep.CutBlock
import Derived.Deep.RegionHeld3
namespace Go.Proofs.YtajfjkhbimehbaaGreat
open Go.RowKit
set_option linter.unusedVariables false
set_option linter.unusedSimpArgs false
attribute [local go_sem ↓] Go.wp_at_zero Go.wp_at_succ

/-- The document's read is told by the code's: its stage, and its error, which is there only when it is done. -/
def Rd.stage (r : Rd) : Int := if r.st ≤ 1 then 0 else (r.st : Int) - 1
def Rd.err (r : Rd) : Int := if r.st = 4 then r.e else 0
def Rd.cellsR (r : Rd) (s : Nat) : Array Value := #[.pointer (some ⟨s, 0, none⟩), .int .i64 r.sl, .int .i64 r.gn, .int .i64 r.sn, .int .u64 r.sg.lo, .int .u64 r.sg.hi, .int .i64 r.ce, .int .i64 r.va, .int .i64 r.stage, .int .i64 r.err]
def rrI (k s : Nat) (r : Rd) : It := boxI k (r.cellsR s) 102
section
variable {o w : World} {its : List It} {B : Bd} {c : Cfg} {z : SSt} {v u : Value} {k s : Nat} {r : Rd}
theorem rrCell (h : St o its w) (j : Nat) (hj : its[j]? = some (rrI k s r)) (n : Nat) : w.cell? ⟨k, n, none⟩ = (r.cellsR s)[n]? := h.cell j hj n
theorem rrFrozen (h : St o its w) (j : Nat) (hj : its[j]? = some (rrI k s r)) (n : Nat) : w.frozen? ⟨k, n, none⟩ = false := h.frozen j hj n

theorem rrDone (h : St o its w) (j : Nat) (hj : its[j]? = some (rrI k s r)) (hs : r.st ≤ 4) :
    Calls Tryz.prog 60 #[.pointer (some ⟨k, 0, none⟩)] w fun e w' => e = .returned (.bool (r.st == 4)) ∧ w' = w := by
  have c8 : w.cell? ⟨k, 8, none⟩ = some (.int .i64 r.stage) := rrCell h j hj 8
  have he : (r.stage == 3) = (r.st == 4) := by
    rcases (show r.st = 0 ∨ r.st = 1 ∨ r.st = 2 ∨ r.st = 3 ∨ r.st = 4 by omega) with h | h | h | h | h <;> simp [Rd.stage, h]
  clear h hj
  rw [← he]
  clear he hs
  generalize r.stage = sg at *
  go_enter Tryz.func60, Tryz.ntmps60
  go_wp2
  go_ret
  exact ⟨rfl, rfl⟩

set_option maxRecDepth 100000 in
theorem rrValue (h : St o its w) (j : Nat) (hj : its[j]? = some (rrI k s r)) (hs : r.st ≤ 4) (he : r.st ≠ 4 → r.e = 4) :
    Calls Tryz.prog 59 #[.pointer (some ⟨k, 0, none⟩)] w fun e w' => e = .returned (.tuple #[.int .i64 r.valX, .int .i64 r.e]) ∧ ∃ q, w' = w.drewN q := by
  have c8 : w.cell? ⟨k, 8, none⟩ = some (.int .i64 r.stage) := rrCell h j hj 8
  have c9 : w.cell? ⟨k, 9, none⟩ = some (.int .i64 r.err) := rrCell h j hj 9
  have c7 : w.cell? ⟨k, 7, none⟩ = some (.int .i64 r.va) := rrCell h j hj 7
  clear h hj
  unfold Rd.valX
  by_cases h4 : r.st = 4
  · have e3 : r.stage = 3 := by simp [Rd.stage, h4]
    have e9 : r.err = r.e := by simp [Rd.err, h4]
    rw [e3] at c8
    rw [e9] at c9
    clear e3 e9 he hs h4
    by_cases h0 : r.e = 0
    · rw [if_pos h0, h0]
      rw [h0] at c9
      generalize r.va = va at *
      clear h0
      go_enter Tryz.func59, Tryz.ntmps59
      go_wp2
      go_ret2
      exact ⟨rfl, 0, rfl⟩
    · rw [if_neg h0]
      have h0' : (r.e != 0) = true := by simpa using h0
      generalize r.e = er at *
      clear h0 c7
      go_enter Tryz.func59, Tryz.ntmps59
      go_upto_region 4 with fail
      go_quiet (fail)
      go_wp2
      go_ret2
      exact ⟨rfl, nq, rfl⟩
  · have e3 : (r.stage != 3) = true := by
      rcases (show r.st = 0 ∨ r.st = 1 ∨ r.st = 2 ∨ r.st = 3 by omega) with h | h | h | h <;> simp [Rd.stage, h]
    rw [he h4, if_neg (by decide)]
    generalize r.stage = sg at *
    clear he hs h4 c9 c7
    go_enter Tryz.func59, Tryz.ntmps59
    go_wp2
    go_ret2
    exact ⟨rfl, 0, rfl⟩
end
end Go.Proofs.YtajfjkhbimehbaaGreat

namespace Go.Proofs.YtajfjkhbimehbaaGreat
open Go.RowKit
set_option linter.unusedVariables false
set_option linter.unusedSimpArgs false
attribute [local go_sem ↓] Go.wp_at_zero Go.wp_at_succ

section
variable {o w : World} {its : List It} {B : Bd} {c : Cfg} {z : SSt} {v u : Value} {k s : Nat} {r : Rd}
theorem rpGlook (h : St o its w) (i : Nat) (hi : its[i]? = some (rpI B c z v u)) {k : Nat} (ok : z.ok c k) (hk : k ≤ 4611686018427) : Calls Tryz.prog 39 #[.pointer (some ⟨B.g, 0, none⟩)] w fun e w' => e = .returned z.x.val ∧ ∃ v', St o (its.set i (rpI B c z.glook v' u)) w' := by
  refine (refGlook_st (h.open i hi) 4 1 rpAt4 rpAt1 (by omega) ok.met hk).mono ?_
  rintro e w' ⟨he, v', h'⟩
  exact ⟨he, v', St.shut (l := rpL B c z.glook v' u) hi h'⟩
theorem rpLook (h : St o its w) (i : Nat) (hi : its[i]? = some (rpI B c z v u)) {k : Nat} (ok : z.ok c k) (hk : k ≤ 4611686018427) (j : Int) : Calls Tryz.prog 40 #[.pointer (some ⟨B.y, 0, none⟩), .int .i64 j] w fun e w' => e = .returned (.tuple #[(nowAt z.hs j).val, .int .i64 (lookE z.hs j)]) ∧ ∃ v', St o (its.set i (rpI B c (z.look j) v' u)) w' := by
  refine (refLook_st (h.open i hi) 4 3 rpAt4 rpAt3 (by omega) ok.met hk j).mono ?_
  rintro e w' ⟨he, v', h'⟩
  exact ⟨he, v', St.shut (l := rpL B c (z.look j) v' u) hi h'⟩
set_option maxRecDepth 100000 in
theorem rpThere (h : St o its w) (i : Nat) (hi : its[i]? = some (rpI B c z v u)) (ce : Int) : Calls Tryz.prog 37 #[rpp B, .int .i64 ce] w fun e w' => e = .returned (.bool (inN c.ce ce)) ∧ w' = w := by
  have c0 : w.cell? ⟨B.sp, 0, none⟩ = some (.int .i64 c.ce) := rpCell h i hi 0
  clear h hi
  unfold rpp inN
  by_cases h : 0 ≤ ce
  · have h' : decide (ce ≥ 0) = true := by simpa using h
    go_enter Tryz.func37, Tryz.ntmps37
    go_wp2
    go_ret
    exact ⟨by simp [h], rfl⟩
  · have h' : decide (ce ≥ 0) = false := by simpa using h
    go_enter Tryz.func37, Tryz.ntmps37
    go_wp2
    go_ret
    exact ⟨by first | rfl | (rw [decide_eq_false (p := 0 ≤ ce) (by omega)]; rfl), rfl⟩

set_option maxRecDepth 100000 in
set_option maxHeartbeats 1000000 in
theorem rqNew_out (h : St o its w) (i : Nat) (hi : its[i]? = some (rpI B c z v u)) (sl gn sn : Int) (sg : Sg) (ce : Int) (hn : ¬ (inN c.ce ce = true ∧ inN c.sl sl = true)) :
    Calls Tryz.prog 12 #[rpp B, .int .i64 sl, .int .i64 gn, .int .i64 sn, .agg #[.int .u64 sg.lo, .int .u64 sg.hi], .int .i64 ce] w fun e w' => e = .returned (.tuple #[.pointer none, .int .i64 2]) ∧ St o its w' := by
  have h0 := h.box #[.int .u64 sg.lo, .int .u64 sg.hi] 48
  have ht := rpThere h0 (i + 1) hi ce
  have c1 := rpCell h0 (i + 1) hi 1
  replace c1 : (w.alloc (.cells #[.int .u64 sg.lo, .int .u64 sg.hi] 48)).cell? ⟨B.sp, 1, none⟩ = some (.int .i64 c.sl) := c1
  have HS : Hid (St o its (w.alloc (.cells #[.int .u64 sg.lo, .int .u64 sg.hi] 48))) := h0.pop
  clear h0 h hi
  unfold rpp at *
  obtain ⟨g0, g1⟩ := sg
  simp only at *
  cases hb1 : inN c.ce ce with
  | false =>
    rw [hb1] at ht
    clear hn
    go_enter Tryz.func12, Tryz.ntmps12
    go_wp2_with (go_at_call 37; refine ht.mono ?_; rintro e w' ⟨rfl, rfl⟩)
    go_ret2
    exact ⟨rfl, HS.out⟩
  | true =>
    rw [hb1] at ht
    have hb2 : inN c.sl sl = false := by
      cases hb : inN c.sl sl
      · rfl
      · exact absurd ⟨hb1, hb⟩ hn
    clear hn hb1
    by_cases hs : sl < 0
    · have hs' : decide (sl < 0) = true := by simpa using hs
      clear hb2
      go_enter Tryz.func12, Tryz.ntmps12
      go_wp2_with (go_at_call 37; refine ht.mono ?_; rintro e w' ⟨rfl, rfl⟩)
      go_ret2
      exact ⟨rfl, HS.out⟩
    · have hs' : decide (sl < 0) = false := by simpa using hs
      have hs2 : sl ≥ c.sl := by
        unfold inN at hb2
        rw [decide_eq_true (p := 0 ≤ sl) (by omega)] at hb2
        simpa using hb2
      clear hb2
      go_enter Tryz.func12, Tryz.ntmps12
      go_wp2_with (go_at_call 37; refine ht.mono ?_; rintro e w' ⟨rfl, rfl⟩)
      go_ret2
      exact ⟨rfl, HS.out⟩

theorem buildRr (p : Option Addr) (a b c : Int) (d e : Int) (f : Int) (W : World) : (Instr.build 102 #[(0, .pointer p), (1, .int .i64 a), (2, .int .i64 b), (3, .int .i64 c), (4, .agg #[.int .u64 d, .int .u64 e]), (5, .int .i64 f)]).run Tryz.prog W = .ok (.agg #[.pointer p, .int .i64 a, .int .i64 b, .int .i64 c, .int .u64 d, .int .u64 e, .int .i64 f, .int .i64 0, .int .i64 0, .int .i64 0]) W := by kernel_rfl
set_option maxRecDepth 100000 in
set_option maxHeartbeats 1000000 in
theorem rqNew_st (h : St o its w) (i : Nat) (hi : its[i]? = some (rpI B c z v u)) (sl gn sn : Int) (sg : Sg) (ce : Int) (bi : Sg) (hb1 : inN c.ce ce = true) (hb2 : inN c.sl sl = true) :
    Calls Tryz.prog 12 #[rpp B, .int .i64 sl, .int .i64 gn, .int .i64 sn, .agg #[.int .u64 sg.lo, .int .u64 sg.hi], .int .i64 ce] w fun e w' => ∃ k, e = .returned (.tuple #[.pointer (some ⟨k, 0, none⟩), .int .i64 0]) ∧ St o (rrI k B.sp (Rd.new sl gn sn sg ce bi) :: its) w' := by
  have h0 := h.box #[.int .u64 sg.lo, .int .u64 sg.hi] 48
  have ht := rpThere h0 (i + 1) hi ce
  rw [hb1] at ht
  have c1 := rpCell h0 (i + 1) hi 1
  replace c1 : (w.alloc (.cells #[.int .u64 sg.lo, .int .u64 sg.hi] 48)).cell? ⟨B.sp, 1, none⟩ = some (.int .i64 c.sl) := c1
  have b0 : (w.alloc (.cells #[.int .u64 sg.lo, .int .u64 sg.hi] 48)).cell? ⟨w.heap.size, 0, none⟩ = some (.int .u64 sg.lo) := h0.cell 0 rfl 0
  have b1 : (w.alloc (.cells #[.int .u64 sg.lo, .int .u64 sg.hi] 48)).cell? ⟨w.heap.size, 1, none⟩ = some (.int .u64 sg.hi) := h0.cell 0 rfl 1
  have hR : ∀ k, rrI k B.sp (Rd.new sl gn sn sg ce bi) = boxI k #[.pointer (some ⟨B.sp, 0, none⟩), .int .i64 sl, .int .i64 gn, .int .i64 sn, .int .u64 sg.lo, .int .u64 sg.hi, .int .i64 ce, .int .i64 0, .int .i64 0, .int .i64 0] 102 := by
    intro k
    have e1 : (Rd.new sl gn sn sg ce bi).stage = 0 := by
      unfold Rd.stage Rd.new Rd.on
      simp only
      split <;> rfl
    have e2 : (Rd.new sl gn sn sg ce bi).err = 0 := by
      unfold Rd.err Rd.new Rd.on
      simp only
      split <;> rfl
    unfold rrI Rd.cellsR
    rw [e1, e2]
    rfl
  have HS : Hid (∀ W, Kept (fun _ => False) w W → St o (rrI W.heap.size B.sp (Rd.new sl gn sn sg ce bi) :: its) (W.alloc (.cells #[.pointer (some ⟨B.sp, 0, none⟩), .int .i64 sl, .int .i64 gn, .int .i64 sn, .int .u64 sg.lo, .int .u64 sg.hi, .int .i64 ce, .int .i64 0, .int .i64 0, .int .i64 0] 102))) := fun W kk => by
    rw [hR]
    exact (h.calm kk).box _ _
  have HK : Hid (Kept (fun _ => False) w (w.alloc (.cells #[.int .u64 sg.lo, .int .u64 sg.hi] 48))) := (Kept.refl _ w).alloc _
  obtain ⟨x1, x2⟩ : 0 ≤ sl ∧ sl < c.sl := by simpa [inN] using hb2
  have hs' : decide (sl < 0) = false := by simp; omega
  have hs2 : ¬ sl ≥ c.sl := by omega
  have hbR := buildRr
  clear h0 h hi hb1 hb2 hR
  unfold rpp at *
  obtain ⟨g0, g1⟩ := sg
  simp only at *
  go_enter Tryz.func12, Tryz.ntmps12
  go_upto_region 1 with fail
  generalize w.alloc (.cells #[.int .u64 g0, .int .u64 g1] 48) = W0 at *
  generalize w.heap.size = Fb at *
  go_wp2_with (first | simp only [hbR] | (go_at_call 37; refine ht.mono ?_; rintro e w' ⟨rfl, rfl⟩))
  go_ret2
  exact ⟨_, rfl, HS.out _ HK.out⟩
end
end Go.Proofs.YtajfjkhbimehbaaGreat

namespace Go.Proofs.YtajfjkhbimehbaaGreat
open Go.RowKit
set_option linter.unusedVariables false
set_option linter.unusedSimpArgs false
attribute [local go_sem ↓] Go.wp_at_zero Go.wp_at_succ

section
variable {o w : World} {its : List It} {B : Bd} {c : Cfg} {z : SSt} {v u : Value} {k s : Nat} {r : Rd}
set_option maxRecDepth 100000 in
set_option maxHeartbeats 2000000 in
theorem rrWants (h : St o its w) (i j : Nat) (hi : its[i]? = some (rpI B c z v u)) (hj : its[j]? = some (rrI k B.sp r)) :
    Calls Tryz.prog 78 #[.pointer (some ⟨k, 0, none⟩)] w fun e w' => e = .returned (bitsOf c.bi r.ce).val ∧ St o its w' := by
  have h0 := h.box #[.int .u64 0, .int .u64 0] 48
  have HCL : Hid (∀ L W, St o (L ++ its) W → W.cell? ⟨k, 6, none⟩ = some (.int .i64 r.ce) ∧ W.cell? ⟨k, 0, none⟩ = some (.pointer (some ⟨B.sp, 0, none⟩)) ∧ W.cell? ⟨B.sp, 2, none⟩ = some (.int .i64 c.bi)) := fun L W hW => by
    have hi' : (L ++ its)[L.length + i]? = some (rpI B c z v u) := by rw [List.getElem?_append_right (by omega)]; simpa using hi
    have hj' : (L ++ its)[L.length + j]? = some (rrI k B.sp r) := by rw [List.getElem?_append_right (by omega)]; simpa using hj
    exact ⟨rrCell hW _ hj' 6, rrCell hW _ hj' 0, rpCell hW _ hi' 2⟩
  have hof := fun (W : World) (H : Nat) (hW : IntsIn W (some ⟨H, 0, none⟩) 1 [r.ce]) => refOf_any (some ⟨H, 0, none⟩) 1 1 [r.ce] c.bi W hW (by omega)
  change ∀ (W : World) (H : Nat) (hW : IntsIn W (some ⟨H, 0, none⟩) 1 [r.ce]), Calls Tryz.prog 107 #[.slice (some ⟨H, 0, none⟩) 1 1, .int .i64 c.bi] W fun e w' => e = .returned (.tuple #[(bitsOf c.bi r.ce).val, .int .i64 (ofR [r.ce] c.bi).2]) ∧ Kept (fun _ => False) W w' at hof
  have HOF : Hid (∀ (L : List It) (m H : Nat) (W : World), L[m]? = some (boxI H #[.int .i64 r.ce] 3) → St o (L ++ its) W → Calls Tryz.prog 107 #[.slice (some ⟨H, 0, none⟩) 1 1, .int .i64 c.bi] W fun e w' => e = .returned (.tuple #[(bitsOf c.bi r.ce).val, .int .i64 (ofR [r.ce] c.bi).2]) ∧ (w'.cell? ⟨k, 6, none⟩ = some (.int .i64 r.ce) ∧ w'.cell? ⟨k, 0, none⟩ = some (.pointer (some ⟨B.sp, 0, none⟩)) ∧ w'.cell? ⟨B.sp, 2, none⟩ = some (.int .i64 c.bi)) ∧ Hid (St o (L ++ its) w')) := fun L m H W hm hW => by
    have hm' : (L ++ its)[m]? = some (boxI H #[.int .i64 r.ce] 3) := by rw [List.getElem?_append_left (List.getElem?_eq_some_iff.1 hm).1]; exact hm
    refine (hof W H ⟨rfl, fun _ => ⟨H, 0, rfl, fun q hq => by
      obtain rfl : q = 0 := by simp at hq; omega
      exact hW.cell m hm' 0⟩⟩).mono ?_
    rintro e w' ⟨he, hk⟩
    exact ⟨he, HCL.out L w' (hW.calm hk), hW.calm hk⟩
  obtain ⟨y6, y0, y2⟩ := HCL.out [_] _ h0
  clear h hi hj hof
  generalize bitsOf c.bi r.ce = S at *
  generalize (ofR [r.ce] c.bi).2 = OE at *
  generalize r.ce = ce at *
  generalize c.bi = bi at *
  obtain ⟨S0, S1⟩ := S
  simp only [Sg.val] at *
  go_enter Tryz.func78, Tryz.ntmps78
  go_upto_region 1 with fail
  generalize w.alloc (.cells #[.int .u64 0, .int .u64 0] 48) = W0 at *
  generalize w.heap.size = R0 at *
  have x6 : W0.drew.cell? ⟨k, 6, none⟩ = some (.int .i64 ce) := y6
  have x0 : W0.drew.cell? ⟨k, 0, none⟩ = some (.pointer (some ⟨B.sp, 0, none⟩)) := y0
  have q2 : W0.drew.cell? ⟨B.sp, 2, none⟩ = some (.int .i64 bi) := y2
  have hA : St o ([boxI W0.heap.size #[.int .i64 ce] 3, boxI R0 #[.int .u64 0, .int .u64 0] 48] ++ its) (W0.alloc (.cells #[.int .i64 ce] 3)).drew := (h0.box _ _).drew
  have hB : St o ([boxI (W0.heap.size + 1) #[.int .i64 ce] 3, boxI W0.heap.size #[.int .u64 0, .int .u64 0] 48, boxI R0 #[.int .u64 0, .int .u64 0] 48] ++ its) ((W0.alloc (.cells #[.int .u64 0, .int .u64 0] 48)).alloc (.cells #[.int .i64 ce] 3)).drew := by
    have := ((h0.box #[.int .u64 0, .int .u64 0] 48).box #[.int .i64 ce] 3).drew
    rw [alloc_size] at this
    exact this
  have hC : St o ([boxI (W0.heap.size + 1) #[.int .u64 0, .int .u64 0] 48, boxI W0.heap.size #[.int .i64 ce] 3, boxI R0 #[.int .u64 0, .int .u64 0] 48] ++ its) ((W0.alloc (.cells #[.int .i64 ce] 3)).alloc (.cells #[.int .u64 0, .int .u64 0] 48)).drew := by
    have := ((h0.box #[.int .i64 ce] 3).box #[.int .u64 0, .int .u64 0] 48).drew
    rw [alloc_size] at this
    exact this
  have kA := HOF.out _ 0 _ _ rfl hA
  have kB := HOF.out _ 0 _ _ rfl hB
  have kC := HOF.out _ 1 _ _ rfl hC
  have lk : k < W0.heap.size := World.block_lt_of_cell? W0 _ y0
  have ls : B.sp < W0.heap.size := World.block_lt_of_cell? W0 _ y2
  have n1 : ¬ k = W0.heap.size := by omega
  have n2 : ¬ W0.heap.size = k := by omega
  have n3 : ¬ k = W0.heap.size + 1 := by omega
  have n4 : ¬ W0.heap.size + 1 = k := by omega
  have n5 : ¬ B.sp = W0.heap.size := by omega
  have n6 : ¬ W0.heap.size = B.sp := by omega
  have n7 : ¬ B.sp = W0.heap.size + 1 := by omega
  have n8 : ¬ W0.heap.size + 1 = B.sp := by omega
  clear hA hB hC h0 HOF HCL lk ls
  go_cut [3] from 4 (fun b wx => ∃ X, b = .pointer (some ⟨X, 0, none⟩) ∧ Hid (St o (boxI X #[.int .u64 S0, .int .u64 S1] 48 :: boxI R0 #[.int .u64 0, .int .u64 0] 48 :: its) wx))
  case first =>
    go_region_held3 (fun W => W.cell? ⟨k, 6, none⟩ = some (.int .i64 ce) ∧ W.cell? ⟨k, 0, none⟩ = some (.pointer (some ⟨B.sp, 0, none⟩)) ∧ W.cell? ⟨B.sp, 2, none⟩ = some (.int .i64 bi)) (first | go_keep | exact rS | (obtain ⟨z6, z0, z2⟩ := rS; exact ⟨by go_simp, by go_simp, by go_simp⟩))
      (first | (go_at_call 107; first
        | (with_reducible refine kA.mono ?_; rintro e w1 ⟨rfl, rS, HA⟩)
        | (with_reducible refine kB.mono ?_; rintro e w1 ⟨rfl, rS, HB⟩; have b0 : w1.cell? ⟨W0.heap.size, 0, none⟩ = some (.int .u64 0) := HB.out.cell 1 rfl 0; have b1 : w1.cell? ⟨W0.heap.size, 1, none⟩ = some (.int .u64 0) := HB.out.cell 1 rfl 1; have f0 : w1.frozen? ⟨W0.heap.size, 0, none⟩ = false := HB.out.frozen 1 rfl 0; have f1 : w1.frozen? ⟨W0.heap.size, 1, none⟩ = false := HB.out.frozen 1 rfl 1)
        | (with_reducible refine kC.mono ?_; rintro e w1 ⟨rfl, rS, HC⟩; have b0 : w1.cell? ⟨W0.heap.size + 1, 0, none⟩ = some (.int .u64 0) := HC.out.cell 0 rfl 0; have b1 : w1.cell? ⟨W0.heap.size + 1, 1, none⟩ = some (.int .u64 0) := HC.out.cell 0 rfl 1; have f0 : w1.frozen? ⟨W0.heap.size + 1, 0, none⟩ = false := HC.out.frozen 0 rfl 0; have f1 : w1.frozen? ⟨W0.heap.size + 1, 1, none⟩ = false := HC.out.frozen 0 rfl 1)))
    all_goals
      go_wp2_with fail
      go_meet
      first
        | exact ⟨_, rfl, HA.out.pop.box _ _⟩
        | exact ⟨_, rfl, (HB.out.pop.write 0 rfl 0 _).write 0 rfl 1 _⟩
        | exact ⟨_, rfl, ((HC.out.write 0 rfl 0 _).write 0 rfl 1 _).swap.pop⟩
  case rest =>
    obtain ⟨X, rfl, HX⟩ := hcut
    clear kA kB kC x6 x0 q2 y6 y0 y2 n1 n2 n3 n4 n5 n6 n7 n8
    have b0 : wc.cell? ⟨X, 0, none⟩ = some (.int .u64 S0) := HX.out.cell 0 rfl 0
    have b1 : wc.cell? ⟨X, 1, none⟩ = some (.int .u64 S1) := HX.out.cell 0 rfl 1
    have r0 : wc.cell? ⟨R0, 0, none⟩ = some (.int .u64 0) := HX.out.cell 1 rfl 0
    have r1 : wc.cell? ⟨R0, 1, none⟩ = some (.int .u64 0) := HX.out.cell 1 rfl 1
    have f0 : wc.frozen? ⟨R0, 0, none⟩ = false := HX.out.frozen 1 rfl 0
    have f1 : wc.frozen? ⟨R0, 1, none⟩ = false := HX.out.frozen 1 rfl 1
    have HS : Hid (St o its ((wc.setCell ⟨R0, 0, none⟩ (.int .u64 S0)).setCell ⟨R0, 1, none⟩ (.int .u64 S1))) := ((HX.out.write 1 rfl 0 (.int .u64 S0)).write 1 rfl 1 (.int .u64 S1)).pop.pop
    clear HX
    go_wp2
    exact bodyPost_ret (v := .agg #[.int .u64 S0, .int .u64 S1]) (by simp [results, Tryz.results78, go_sem, r0, r1]) rfl ⟨rfl, HS.out⟩
end
end Go.Proofs.YtajfjkhbimehbaaGreat

namespace Go.Proofs.YtajfjkhbimehbaaGreat
open Go.RowKit
set_option linter.unusedVariables false
set_option linter.unusedSimpArgs false
attribute [local go_sem ↓] Go.wp_at_zero Go.wp_at_succ

/-- What a read may be, told by the code's and by the document's. -/
structure RFit (c : Cfg) (r : Rd) : Prop where
  fit : r.fit
  full : r.st ≠ 0 → r.miss = []
  bi : r.bi = bitsOf c.bi r.ce
  er : r.st ≠ 4 → r.e = 4
theorem RFit.new {c : Cfg} {sl gn sn : Int} {sg : Sg} {ce : Int} (h : sg.ok) : RFit c (Rd.new sl gn sn sg ce (bitsOf c.bi ce)) := by
  refine ⟨Rd.fit_on h (bitsOf_ok _ _), fun h0 => ?_, rfl, fun _ => rfl⟩
  by_cases hm : (⟨sl, gn, sn, sg, ce, bitsOf c.bi ce, 0, 0, 4⟩ : Rd).miss = []
  · exact hm
  · exfalso
    apply h0
    show (if _ then _ else _) = 0
    rw [if_neg hm]
theorem Rd.next_parts (r : Rd) (z : SSt) : (r.next z).ce = r.ce ∧ (r.next z).bi = r.bi := by
  unfold Rd.next Rd.pub Rd.on
  split
  · exact ⟨rfl, rfl⟩
  · split
    · exact ⟨rfl, rfl⟩
    · split
      · split
        · split <;> exact ⟨rfl, rfl⟩
        · exact ⟨rfl, rfl⟩
      · split <;> exact ⟨rfl, rfl⟩
theorem RFit.next {c : Cfg} {r : Rd} (h : RFit c r) (z : SSt) : RFit c (r.next z) := by
  obtain ⟨p1, p2⟩ := r.next_parts z
  refine ⟨h.fit.next z, ?_, by rw [p1, p2]; exact h.bi, ?_⟩
  · by_cases h0 : r.st = 0
    · have en : r.next z = r.pub := by unfold Rd.next; rw [if_pos h0]
      rw [en]
      intro hs
      by_cases hm : ({ r with sg := r.sg.setW (r.miss.headD 0) (r.both (r.miss.headD 0)) } : Rd).miss = []
      · exact hm
      · exfalso
        apply hs
        show (if _ then _ else _) = 0
        rw [if_neg hm]
    · have hm := h.full h0
      have em : (r.next z).miss = r.miss := by
        unfold Rd.next
        rw [if_neg h0]
        split
        · rfl
        · split
          · split
            · split <;> rfl
            · rfl
          · split <;> rfl
      intro _
      rw [em]
      exact hm
  · unfold Rd.next
    split
    · rename_i h0
      intro _
      exact h.er (by omega)
    · split
      · intro _
        exact h.er (by omega)
      · split
        · split
          · split
            · intro _; exact h.er (by omega)
            · intro _; exact h.er (by omega)
          · intro _; exact h.er (by omega)
        · split
          · intro hf; exact absurd rfl hf
          · exact h.er
theorem join_minus (s t : Sg) : ((s.join t).minus s).words = (t.minus s).words := by
  have key : ∀ x y : Nat, less (x ||| y) x = less y x := fun x y => by
    refine Nat.eq_of_testBit_eq fun i => ?_
    rw [testBit_less, testBit_less, Nat.testBit_or]
    cases x.testBit i <;> cases y.testBit i <;> rfl
  unfold Sg.join Sg.minus
  simp only [key]

section
variable {o w : World} {its : List It} {B : Bd} {c : Cfg} {z : SSt} {v u : Value} {k s : Nat} {r : Rd}
/-- Both signatures as one, in a block of its own. -/
theorem rrBoth (h : St o its w) (i j : Nat) (hi : its[i]? = some (rpI B c z v u)) (hj : its[j]? = some (rrI k B.sp r)) (hr : RFit c r) :
    (∀ L W, St o (L ++ its) W → Calls Tryz.prog 78 #[.pointer (some ⟨k, 0, none⟩)] W fun e w' => e = .returned r.bi.val ∧ St o (L ++ its) w') ∧
    (∀ L W, St o (L ++ its) W → Calls Tryz.prog 77 #[r.sg.val, r.bi.val] W fun e w' => e = .returned (r.sg.join r.bi).val ∧ St o (L ++ its) w') := by
  refine ⟨fun L W hW => ?_, fun L W hW => ?_⟩
  · refine (rrWants hW (L.length + i) (L.length + j) (by rw [List.getElem?_append_right (by omega)]; simpa using hi) (by rw [List.getElem?_append_right (by omega)]; simpa using hj)).mono ?_
    rintro e w' ⟨he, hk⟩
    exact ⟨by rw [he, hr.bi], hk⟩
  · refine (refJoin_any r.sg r.bi hr.fit.sg hr.fit.bi W).mono ?_
    rintro e w' ⟨he, hk⟩
    exact ⟨he, hW.calm hk⟩

set_option maxRecDepth 100000 in
set_option maxHeartbeats 2000000 in
theorem rrFirst0 (h : St o its w) (i j : Nat) (hij : i ≠ j) (hi : its[i]? = some (rpI B c z v u)) (hj : its[j]? = some (rrI k B.sp r)) {n : Nat} (ok : z.ok c n) (hn : n ≤ 4611686018427) (hr : RFit c r) (h0 : r.st = 0) (hq : r.miss.headD 0 = 0) :
    Calls Tryz.prog 38 #[.pointer (some ⟨k, 0, none⟩)] w fun e w' => e = .returned (.tuple #[]) ∧ ∃ v', St o ((its.set i (rpI B c (z.reads r) v' u)).set j (rrI k B.sp (r.next z))) w' := by
  have en : r.next z = r.pub := by unfold Rd.next; rw [if_pos h0]
  have ez : z.reads r = z.put r.sl 0 (r.sg.join r.bi).lo := by unfold SSt.reads; rw [if_pos h0, hq]; rfl
  have HCR : Hid (∀ t, boxI k ((r.cellsR t).setIfInBounds 4 (.int .u64 (r.sg.join r.bi).lo)) 102 = rrI k t r.pub) := by
    intro t
    have e1 : r.pub.stage = r.stage := by
      have : r.pub.st ≤ 1 := by unfold Rd.pub Rd.on; simp only; split <;> omega
      unfold Rd.stage
      rw [if_pos this, if_pos (by omega)]
    have e2 : r.pub.err = r.err := by
      have : r.pub.st ≤ 1 := by unfold Rd.pub Rd.on; simp only; split <;> omega
      unfold Rd.err
      rw [if_neg (by omega), if_neg (by omega)]
    have e3 : r.pub.sg = ⟨(r.sg.join r.bi).lo, r.sg.hi⟩ := by show r.sg.setW (r.miss.headD 0) (r.both (r.miss.headD 0)) = _; rw [hq]; rfl
    unfold rrI Rd.cellsR
    rw [e1, e2, e3]
    rfl
  rw [en, ez]
  have hmn : 0 < r.miss.length := List.length_pos_iff.2 (hr.fit.pub h0)
  have HM0 : Hid ((cellsOf r.miss)[0]? = some (.int .i64 0)) := by
    obtain ⟨i0, l, em, -, eh⟩ := miss_head (hr.fit.pub h0)
    rw [em] at hq
    show (cellsOf r.miss)[0]? = _
    rw [em]
    simp only [List.headD_cons] at hq
    subst hq
    rfl
  clear en ez
  have c4 : w.cell? ⟨k, 4, none⟩ = some (.int .u64 r.sg.lo) := rrCell h j hj 4
  have c5 : w.cell? ⟨k, 5, none⟩ = some (.int .u64 r.sg.hi) := rrCell h j hj 5
  have x4 : w.drew.cell? ⟨k, 4, none⟩ = some (.int .u64 r.sg.lo) := c4
  have x5 : w.drew.cell? ⟨k, 5, none⟩ = some (.int .u64 r.sg.hi) := c5
  have hw := (rrBoth h i j hi hj hr).1
  have hJ := (rrBoth h i j hi hj hr).2
  have hT := fun W => refTouched_any r.sg (r.sg.join r.bi) hr.fit.sg (Sg.ok_join hr.fit.sg hr.fit.bi) W
  rw [join_minus] at hT
  change ∀ W, Calls Tryz.prog 79 #[r.sg.val, (r.sg.join r.bi).val] W fun e w' => ∃ v, e = .returned v ∧ w'.ownsRow W.heap.size 3 1 v r.miss.length (cellsOf r.miss) ∧ Kept (fun _ => False) W w' at hT
  simp only [Sg.val] at hw hJ hT
  have HC : Hid (∀ L W, St o (L ++ its) W → W.cell? ⟨k, 4, none⟩ = some (.int .u64 r.sg.lo) ∧ W.cell? ⟨k, 5, none⟩ = some (.int .u64 r.sg.hi)) := fun L W hW => by
    have hj' : (L ++ its)[L.length + j]? = some (rrI k B.sp r) := by rw [List.getElem?_append_right (by omega)]; simpa using hj
    exact ⟨rrCell hW _ hj' 4, rrCell hW _ hj' 5⟩
  have HW : Hid (∀ L W, St o (L ++ its) W → Calls Tryz.prog 78 #[.pointer (some ⟨k, 0, none⟩)] W fun e w' => e = .returned (.agg #[.int .u64 r.bi.lo, .int .u64 r.bi.hi]) ∧ (w'.cell? ⟨k, 4, none⟩ = some (.int .u64 r.sg.lo) ∧ w'.cell? ⟨k, 5, none⟩ = some (.int .u64 r.sg.hi)) ∧ St o (L ++ its) w') := fun L W hW => by
    refine (hw L W hW).mono ?_
    rintro e w' ⟨he, h'⟩
    exact ⟨he, HC.out L w' h', h'⟩
  have HJN : Hid (∀ L W, St o (L ++ its) W → Calls Tryz.prog 77 #[.agg #[.int .u64 r.sg.lo, .int .u64 r.sg.hi], .agg #[.int .u64 r.bi.lo, .int .u64 r.bi.hi]] W fun e w' => e = .returned (.agg #[.int .u64 (r.sg.join r.bi).lo, .int .u64 (r.sg.join r.bi).hi]) ∧ (w'.cell? ⟨k, 4, none⟩ = some (.int .u64 r.sg.lo) ∧ w'.cell? ⟨k, 5, none⟩ = some (.int .u64 r.sg.hi)) ∧ St o (L ++ its) w') := fun L W hW => by
    refine (hJ L W hW).mono ?_
    rintro e w' ⟨he, h'⟩
    exact ⟨he, HC.out L w' h', h'⟩
  have HT : Hid (∀ W, Calls Tryz.prog 79 #[.agg #[.int .u64 r.sg.lo, .int .u64 r.sg.hi], .agg #[.int .u64 (r.sg.join r.bi).lo, .int .u64 (r.sg.join r.bi).hi]] W fun e w' => ∃ v, e = .returned v ∧ w'.ownsRow W.heap.size 3 1 v r.miss.length (cellsOf r.miss) ∧ Kept (fun _ => False) W w') := hT
  have kA := HW.out [] _ h.drew
  have kB := HW.out [boxI w.heap.size #[.int .u64 0, .int .u64 0] 48] _ (h.box #[.int .u64 0, .int .u64 0] 48).drew
  have lk : k < w.heap.size := World.block_lt_of_cell? w _ c4
  have n1 : ¬ k = w.heap.size := by omega
  have n2 : ¬ w.heap.size = k := by omega
  clear hw hJ hT lk
  go_enter Tryz.func38, Tryz.ntmps38
  go_upto_region 0 with fail
  go_cut [2] from 7 (fun b wx => ∃ X, b = .pointer (some ⟨X, 0, none⟩) ∧ Hid (St o (boxI X #[.int .u64 (r.sg.join r.bi).lo, .int .u64 (r.sg.join r.bi).hi] 48 :: its) wx))
  case first =>
    go_region_held3 (fun W => W.cell? ⟨k, 4, none⟩ = some (.int .u64 r.sg.lo) ∧ W.cell? ⟨k, 5, none⟩ = some (.int .u64 r.sg.hi)) (first | go_keep | exact rS | (obtain ⟨z4, z5⟩ := rS; exact ⟨by go_simp, by go_simp⟩))
     (first
      | (go_at_call 78; first
          | ((with_reducible refine kA.mono ?_); rintro e w1 ⟨rfl, rS, hA1⟩; have jA := HJN.out [] _ hA1; have jC := HJN.out [boxI w1.heap.size #[.int .u64 0, .int .u64 0] 48] _ (St.box hA1 #[.int .u64 0, .int .u64 0] 48); have lk1 : k < w1.heap.size := World.block_lt_of_cell? w1 _ rS.1; have n3 : ¬ k = w1.heap.size := (by omega); have n4 : ¬ w1.heap.size = k := (by omega))
          | ((with_reducible refine kB.mono ?_); rintro e w1 ⟨rfl, rS, hB1⟩; have jB := HJN.out [_] _ hB1))
      | (go_at_call 77; first
          | ((with_reducible refine jA.mono ?_); rintro e w2 ⟨rfl, rS, hA2⟩)
          | ((with_reducible refine jB.mono ?_); rintro e w2 ⟨rfl, rS, hB2⟩; have b0 : w2.cell? ⟨w.heap.size, 0, none⟩ = some (.int .u64 0) := hB2.cell 0 rfl 0; have b1 : w2.cell? ⟨w.heap.size, 1, none⟩ = some (.int .u64 0) := hB2.cell 0 rfl 1; have f0 : w2.frozen? ⟨w.heap.size, 0, none⟩ = false := hB2.frozen 0 rfl 0; have f1 : w2.frozen? ⟨w.heap.size, 1, none⟩ = false := hB2.frozen 0 rfl 1)
          | ((with_reducible refine jC.mono ?_); rintro e w2 ⟨rfl, rS, hC2⟩; have b0 : w2.cell? ⟨w1.heap.size, 0, none⟩ = some (.int .u64 0) := hC2.cell 0 rfl 0; have b1 : w2.cell? ⟨w1.heap.size, 1, none⟩ = some (.int .u64 0) := hC2.cell 0 rfl 1; have f0 : w2.frozen? ⟨w1.heap.size, 0, none⟩ = false := hC2.frozen 0 rfl 0; have f1 : w2.frozen? ⟨w1.heap.size, 1, none⟩ = false := hC2.frozen 0 rfl 1)))
    all_goals
      go_wp2_with fail
      go_meet
      first
        | exact ⟨_, rfl, St.box hA2 _ _⟩
        | exact ⟨_, rfl, (hB2.write 0 rfl 0 _).write 0 rfl 1 _⟩
        | exact ⟨_, rfl, (hC2.write 0 rfl 0 _).write 0 rfl 1 _⟩
  case rest =>
    obtain ⟨X, rfl, HX⟩ := hcut
    clear kA kB c4 c5 x4 x5 HW HJN HC n1 n2
    have hj1 : (boxI X #[.int .u64 (r.sg.join r.bi).lo, .int .u64 (r.sg.join r.bi).hi] 48 :: its)[j + 1]? = some (rrI k B.sp r) := hj
    have c4 : wc.cell? ⟨k, 4, none⟩ = some (.int .u64 r.sg.lo) := rrCell HX.out (j + 1) hj1 4
    have c5 : wc.cell? ⟨k, 5, none⟩ = some (.int .u64 r.sg.hi) := rrCell HX.out (j + 1) hj1 5
    have b0 : wc.cell? ⟨X, 0, none⟩ = some (.int .u64 (r.sg.join r.bi).lo) := HX.out.cell 0 rfl 0
    have b1 : wc.cell? ⟨X, 1, none⟩ = some (.int .u64 (r.sg.join r.bi).hi) := HX.out.cell 0 rfl 1
    have hT1 : Calls Tryz.prog 79 #[.agg #[.int .u64 r.sg.lo, .int .u64 r.sg.hi], .agg #[.int .u64 (r.sg.join r.bi).lo, .int .u64 (r.sg.join r.bi).hi]] wc.drew fun e w' => ∃ v, e = .returned v ∧ (w'.cell? ⟨k, 4, none⟩ = some (.int .u64 r.sg.lo) ∧ w'.cell? ⟨k, 5, none⟩ = some (.int .u64 r.sg.hi) ∧ w'.cell? ⟨X, 0, none⟩ = some (.int .u64 (r.sg.join r.bi).lo) ∧ w'.cell? ⟨X, 1, none⟩ = some (.int .u64 (r.sg.join r.bi).hi)) ∧ Hid (St o (ownI 3 1 v r.miss.length (cellsOf r.miss) :: boxI X #[.int .u64 (r.sg.join r.bi).lo, .int .u64 (r.sg.join r.bi).hi] 48 :: its) w') := by
      refine (HT.out wc.drew).mono ?_
      rintro e w3 ⟨vw, he, hown, hk3⟩
      have h3 := HX.out.drew.own hk3 hown
      exact ⟨vw, he, ⟨rrCell h3 (j + 2) hj 4, rrCell h3 (j + 2) hj 5, h3.cell 1 rfl 0, h3.cell 1 rfl 1⟩, h3⟩
    clear HT
    go_upto_region 1 with fail
    go_region_held3 (fun W => W.cell? ⟨k, 4, none⟩ = some (.int .u64 r.sg.lo) ∧ W.cell? ⟨k, 5, none⟩ = some (.int .u64 r.sg.hi) ∧ W.cell? ⟨X, 0, none⟩ = some (.int .u64 (r.sg.join r.bi).lo) ∧ W.cell? ⟨X, 1, none⟩ = some (.int .u64 (r.sg.join r.bi).hi)) (first | go_keep | exact rS)
      (first | (go_at_call 79; (with_reducible refine hT1.mono ?_); rintro e w3 ⟨vw, rfl, rS, H3⟩))
    have h3 := H3.out
    clear hT1 HX c4 c5 b0 b1 rS H3
    obtain ⟨gw, cw, rfl⟩ := h3.form 0 rfl hmn
    have m0 : w3.cell? ⟨gw, 0, none⟩ = some (.int .i64 0) := (h3.ownCell 0 rfl 0 (by omega)).trans HM0.out
    have hmi : (0 : Int) < (r.miss.length : Int) := by omega
    have hj2 : (ownI 3 1 (.slice (some ⟨gw, 0, none⟩) r.miss.length cw) r.miss.length (cellsOf r.miss) :: boxI X #[.int .u64 (r.sg.join r.bi).lo, .int .u64 (r.sg.join r.bi).hi] 48 :: its)[j + 2]? = some (rrI k B.sp r) := hj
    have cq : w3.cell? ⟨k, 4, none⟩ = some (.int .u64 r.sg.lo) := rrCell h3 (j + 2) hj2 4
    have fq : w3.frozen? ⟨k, 4, none⟩ = false := rrFrozen h3 (j + 2) hj2 4
    have bq : w3.cell? ⟨X, 0, none⟩ = some (.int .u64 (r.sg.join r.bi).lo) := h3.cell 1 rfl 0
    have cq' : w3.drew.cell? ⟨k, 4, none⟩ = some (.int .u64 r.sg.lo) := cq
    have fq' : w3.drew.frozen? ⟨k, 4, none⟩ = false := fq
    have bq' : w3.drew.cell? ⟨X, 0, none⟩ = some (.int .u64 (r.sg.join r.bi).lo) := bq
    have h4 := h3.write (j + 2) hj2 4 (.int .u64 (r.sg.join r.bi).lo)
    rw [HCR.out] at h4
    simp only [List.set_cons_succ] at h4
    have HS4 : Hid _ := h4
    clear h3 h4
    go_upto_region 4 with fail
    go_region
    go_upto_region 5 with fail
    have h5 := HS4.out.drew
    clear HS4 cq fq bq cq' fq' bq' m0
    generalize (w3.setCell ⟨k, 4, none⟩ (.int .u64 (r.sg.join r.bi).lo)).drew = w4 at *
    have hj5 : (ownI 3 1 (.slice (some ⟨gw, 0, none⟩) r.miss.length cw) r.miss.length (cellsOf r.miss) :: boxI X #[.int .u64 (r.sg.join r.bi).lo, .int .u64 (r.sg.join r.bi).hi] 48 :: its.set j (rrI k B.sp r.pub))[j + 2]? = some (rrI k B.sp r.pub) := set_self hj
    have hi5 : (ownI 3 1 (.slice (some ⟨gw, 0, none⟩) r.miss.length cw) r.miss.length (cellsOf r.miss) :: boxI X #[.int .u64 (r.sg.join r.bi).lo, .int .u64 (r.sg.join r.bi).hi] 48 :: its.set j (rrI k B.sp r.pub))[i + 2]? = some (rpI B c z v u) := set_other hi (Ne.symm hij)
    have hps : r.pub.sl = r.sl := rfl
    have HCC : Hid (∀ {its' W z' v'}, its'[j + 2]? = some (rrI k B.sp r.pub) → its'[i + 2]? = some (rpI B c z' v' u) → its'[1]? = some (boxI X #[.int .u64 (r.sg.join r.bi).lo, .int .u64 (r.sg.join r.bi).hi] 48) → St o its' W → W.cell? ⟨k, 0, none⟩ = some (.pointer (some ⟨B.sp, 0, none⟩)) ∧ W.cell? ⟨B.sp, 9, none⟩ = some (.pointer (some ⟨B.y, 0, none⟩)) ∧ W.cell? ⟨k, 1, none⟩ = some (.int .i64 r.sl) ∧ W.cell? ⟨X, 0, none⟩ = some (.int .u64 (r.sg.join r.bi).lo)) := fun e1 e2 e3 hW => ⟨rrCell hW _ e1 0, rpCell hW _ e2 9, rrCell hW _ e1 1, hW.cell 1 e3 0⟩
    obtain ⟨g0, g9, g1, gx⟩ := HCC.out hj5 hi5 rfl h5
    have hq : Calls Tryz.prog 58 #[.pointer (some ⟨B.y, 0, none⟩), .int .i64 r.sl, .int .i64 0, .int .u64 (r.sg.join r.bi).lo] w4.drew fun e w' => (∃ y, e = .returned y) ∧ (w'.cell? ⟨k, 0, none⟩ = some (.pointer (some ⟨B.sp, 0, none⟩)) ∧ w'.cell? ⟨B.sp, 9, none⟩ = some (.pointer (some ⟨B.y, 0, none⟩)) ∧ w'.cell? ⟨k, 1, none⟩ = some (.int .i64 r.sl) ∧ w'.cell? ⟨X, 0, none⟩ = some (.int .u64 (r.sg.join r.bi).lo)) ∧ ∃ v', Hid (St o ((its.set j (rrI k B.sp r.pub)).set i (rpI B c (z.put r.sl 0 (r.sg.join r.bi).lo) v' u)) w') := by
      refine (rpPut h5.drew (i + 2) hi5 ok hn r.sl 0 (r.sg.join r.bi).lo).mono ?_
      rintro e w' ⟨he, v', h'⟩
      exact ⟨⟨_, he⟩, HCC.out (set_other hj5 (by omega)) (set_self hi5) rfl h', v', h'.pop.pop⟩
    clear h5 hj5 hi5 HCC hj1 hj2
    go_region_held3 (fun W => W.cell? ⟨k, 0, none⟩ = some (.pointer (some ⟨B.sp, 0, none⟩)) ∧ W.cell? ⟨B.sp, 9, none⟩ = some (.pointer (some ⟨B.y, 0, none⟩)) ∧ W.cell? ⟨k, 1, none⟩ = some (.int .i64 r.sl) ∧ W.cell? ⟨X, 0, none⟩ = some (.int .u64 (r.sg.join r.bi).lo)) (first | go_keep | exact rS)
      (first | (go_at_call 58; (with_reducible refine hq.mono ?_); rintro e w5 ⟨⟨y, rfl⟩, rS, v', H5⟩))
    clear hq rS g0 g9 g1 gx
    go_wp2
    first | go_end0 | go_ret | (refine bodyPost_ret (results_none rfl _ _ _) rfl ?_) | (simp only [Exit.inBlock, Exit.then]; refine bodyPost_ret (results_none rfl _ _ _) rfl ?_)
    refine ⟨rfl, v', ?_⟩
    rw [List.set_comm _ _ hij]
    exact H5.out

set_option maxRecDepth 100000 in
set_option maxHeartbeats 2000000 in
theorem rrFirst1 (h : St o its w) (i j : Nat) (hij : i ≠ j) (hi : its[i]? = some (rpI B c z v u)) (hj : its[j]? = some (rrI k B.sp r)) {n : Nat} (ok : z.ok c n) (hn : n ≤ 4611686018427) (hr : RFit c r) (h0 : r.st = 0) (hq : r.miss.headD 0 = 1) :
    Calls Tryz.prog 38 #[.pointer (some ⟨k, 0, none⟩)] w fun e w' => e = .returned (.tuple #[]) ∧ ∃ v', St o ((its.set i (rpI B c (z.reads r) v' u)).set j (rrI k B.sp (r.next z))) w' := by
  have en : r.next z = r.pub := by unfold Rd.next; rw [if_pos h0]
  have ez : z.reads r = z.put r.sl 1 (r.sg.join r.bi).hi := by unfold SSt.reads; rw [if_pos h0, hq]; rfl
  have HCR : Hid (∀ t, boxI k ((r.cellsR t).setIfInBounds 5 (.int .u64 (r.sg.join r.bi).hi)) 102 = rrI k t r.pub) := by
    intro t
    have e1 : r.pub.stage = r.stage := by
      have : r.pub.st ≤ 1 := by unfold Rd.pub Rd.on; simp only; split <;> omega
      unfold Rd.stage
      rw [if_pos this, if_pos (by omega)]
    have e2 : r.pub.err = r.err := by
      have : r.pub.st ≤ 1 := by unfold Rd.pub Rd.on; simp only; split <;> omega
      unfold Rd.err
      rw [if_neg (by omega), if_neg (by omega)]
    have e3 : r.pub.sg = ⟨r.sg.lo, (r.sg.join r.bi).hi⟩ := by show r.sg.setW (r.miss.headD 0) (r.both (r.miss.headD 0)) = _; rw [hq]; rfl
    unfold rrI Rd.cellsR
    rw [e1, e2, e3]
    rfl
  rw [en, ez]
  have hmn : 0 < r.miss.length := List.length_pos_iff.2 (hr.fit.pub h0)
  have HM0 : Hid ((cellsOf r.miss)[0]? = some (.int .i64 1)) := by
    obtain ⟨i0, l, em, -, eh⟩ := miss_head (hr.fit.pub h0)
    rw [em] at hq
    show (cellsOf r.miss)[0]? = _
    rw [em]
    simp only [List.headD_cons] at hq
    subst hq
    rfl
  clear en ez
  have c4 : w.cell? ⟨k, 4, none⟩ = some (.int .u64 r.sg.lo) := rrCell h j hj 4
  have c5 : w.cell? ⟨k, 5, none⟩ = some (.int .u64 r.sg.hi) := rrCell h j hj 5
  have x4 : w.drew.cell? ⟨k, 4, none⟩ = some (.int .u64 r.sg.lo) := c4
  have x5 : w.drew.cell? ⟨k, 5, none⟩ = some (.int .u64 r.sg.hi) := c5
  have hw := (rrBoth h i j hi hj hr).1
  have hJ := (rrBoth h i j hi hj hr).2
  have hT := fun W => refTouched_any r.sg (r.sg.join r.bi) hr.fit.sg (Sg.ok_join hr.fit.sg hr.fit.bi) W
  rw [join_minus] at hT
  change ∀ W, Calls Tryz.prog 79 #[r.sg.val, (r.sg.join r.bi).val] W fun e w' => ∃ v, e = .returned v ∧ w'.ownsRow W.heap.size 3 1 v r.miss.length (cellsOf r.miss) ∧ Kept (fun _ => False) W w' at hT
  simp only [Sg.val] at hw hJ hT
  have HC : Hid (∀ L W, St o (L ++ its) W → W.cell? ⟨k, 4, none⟩ = some (.int .u64 r.sg.lo) ∧ W.cell? ⟨k, 5, none⟩ = some (.int .u64 r.sg.hi)) := fun L W hW => by
    have hj' : (L ++ its)[L.length + j]? = some (rrI k B.sp r) := by rw [List.getElem?_append_right (by omega)]; simpa using hj
    exact ⟨rrCell hW _ hj' 4, rrCell hW _ hj' 5⟩
  have HW : Hid (∀ L W, St o (L ++ its) W → Calls Tryz.prog 78 #[.pointer (some ⟨k, 0, none⟩)] W fun e w' => e = .returned (.agg #[.int .u64 r.bi.lo, .int .u64 r.bi.hi]) ∧ (w'.cell? ⟨k, 4, none⟩ = some (.int .u64 r.sg.lo) ∧ w'.cell? ⟨k, 5, none⟩ = some (.int .u64 r.sg.hi)) ∧ St o (L ++ its) w') := fun L W hW => by
    refine (hw L W hW).mono ?_
    rintro e w' ⟨he, h'⟩
    exact ⟨he, HC.out L w' h', h'⟩
  have HJN : Hid (∀ L W, St o (L ++ its) W → Calls Tryz.prog 77 #[.agg #[.int .u64 r.sg.lo, .int .u64 r.sg.hi], .agg #[.int .u64 r.bi.lo, .int .u64 r.bi.hi]] W fun e w' => e = .returned (.agg #[.int .u64 (r.sg.join r.bi).lo, .int .u64 (r.sg.join r.bi).hi]) ∧ (w'.cell? ⟨k, 4, none⟩ = some (.int .u64 r.sg.lo) ∧ w'.cell? ⟨k, 5, none⟩ = some (.int .u64 r.sg.hi)) ∧ St o (L ++ its) w') := fun L W hW => by
    refine (hJ L W hW).mono ?_
    rintro e w' ⟨he, h'⟩
    exact ⟨he, HC.out L w' h', h'⟩
  have HT : Hid (∀ W, Calls Tryz.prog 79 #[.agg #[.int .u64 r.sg.lo, .int .u64 r.sg.hi], .agg #[.int .u64 (r.sg.join r.bi).lo, .int .u64 (r.sg.join r.bi).hi]] W fun e w' => ∃ v, e = .returned v ∧ w'.ownsRow W.heap.size 3 1 v r.miss.length (cellsOf r.miss) ∧ Kept (fun _ => False) W w') := hT
  have kA := HW.out [] _ h.drew
  have kB := HW.out [boxI w.heap.size #[.int .u64 0, .int .u64 0] 48] _ (h.box #[.int .u64 0, .int .u64 0] 48).drew
  have lk : k < w.heap.size := World.block_lt_of_cell? w _ c4
  have n1 : ¬ k = w.heap.size := by omega
  have n2 : ¬ w.heap.size = k := by omega
  clear hw hJ hT lk
  go_enter Tryz.func38, Tryz.ntmps38
  go_upto_region 0 with fail
  go_cut [2] from 7 (fun b wx => ∃ X, b = .pointer (some ⟨X, 0, none⟩) ∧ Hid (St o (boxI X #[.int .u64 (r.sg.join r.bi).lo, .int .u64 (r.sg.join r.bi).hi] 48 :: its) wx))
  case first =>
    go_region_held3 (fun W => W.cell? ⟨k, 4, none⟩ = some (.int .u64 r.sg.lo) ∧ W.cell? ⟨k, 5, none⟩ = some (.int .u64 r.sg.hi)) (first | go_keep | exact rS | (obtain ⟨z4, z5⟩ := rS; exact ⟨by go_simp, by go_simp⟩))
     (first
      | (go_at_call 78; first
          | ((with_reducible refine kA.mono ?_); rintro e w1 ⟨rfl, rS, hA1⟩; have jA := HJN.out [] _ hA1; have jC := HJN.out [boxI w1.heap.size #[.int .u64 0, .int .u64 0] 48] _ (St.box hA1 #[.int .u64 0, .int .u64 0] 48); have lk1 : k < w1.heap.size := World.block_lt_of_cell? w1 _ rS.1; have n3 : ¬ k = w1.heap.size := (by omega); have n4 : ¬ w1.heap.size = k := (by omega))
          | ((with_reducible refine kB.mono ?_); rintro e w1 ⟨rfl, rS, hB1⟩; have jB := HJN.out [_] _ hB1))
      | (go_at_call 77; first
          | ((with_reducible refine jA.mono ?_); rintro e w2 ⟨rfl, rS, hA2⟩)
          | ((with_reducible refine jB.mono ?_); rintro e w2 ⟨rfl, rS, hB2⟩; have b0 : w2.cell? ⟨w.heap.size, 0, none⟩ = some (.int .u64 0) := hB2.cell 0 rfl 0; have b1 : w2.cell? ⟨w.heap.size, 1, none⟩ = some (.int .u64 0) := hB2.cell 0 rfl 1; have f0 : w2.frozen? ⟨w.heap.size, 0, none⟩ = false := hB2.frozen 0 rfl 0; have f1 : w2.frozen? ⟨w.heap.size, 1, none⟩ = false := hB2.frozen 0 rfl 1)
          | ((with_reducible refine jC.mono ?_); rintro e w2 ⟨rfl, rS, hC2⟩; have b0 : w2.cell? ⟨w1.heap.size, 0, none⟩ = some (.int .u64 0) := hC2.cell 0 rfl 0; have b1 : w2.cell? ⟨w1.heap.size, 1, none⟩ = some (.int .u64 0) := hC2.cell 0 rfl 1; have f0 : w2.frozen? ⟨w1.heap.size, 0, none⟩ = false := hC2.frozen 0 rfl 0; have f1 : w2.frozen? ⟨w1.heap.size, 1, none⟩ = false := hC2.frozen 0 rfl 1)))
    all_goals
      go_wp2_with fail
      go_meet
      first
        | exact ⟨_, rfl, St.box hA2 _ _⟩
        | exact ⟨_, rfl, (hB2.write 0 rfl 0 _).write 0 rfl 1 _⟩
        | exact ⟨_, rfl, (hC2.write 0 rfl 0 _).write 0 rfl 1 _⟩
  case rest =>
    obtain ⟨X, rfl, HX⟩ := hcut
    clear kA kB c4 c5 x4 x5 HW HJN HC n1 n2
    have hj1 : (boxI X #[.int .u64 (r.sg.join r.bi).lo, .int .u64 (r.sg.join r.bi).hi] 48 :: its)[j + 1]? = some (rrI k B.sp r) := hj
    have c4 : wc.cell? ⟨k, 4, none⟩ = some (.int .u64 r.sg.lo) := rrCell HX.out (j + 1) hj1 4
    have c5 : wc.cell? ⟨k, 5, none⟩ = some (.int .u64 r.sg.hi) := rrCell HX.out (j + 1) hj1 5
    have b0 : wc.cell? ⟨X, 0, none⟩ = some (.int .u64 (r.sg.join r.bi).lo) := HX.out.cell 0 rfl 0
    have b1 : wc.cell? ⟨X, 1, none⟩ = some (.int .u64 (r.sg.join r.bi).hi) := HX.out.cell 0 rfl 1
    have hT1 : Calls Tryz.prog 79 #[.agg #[.int .u64 r.sg.lo, .int .u64 r.sg.hi], .agg #[.int .u64 (r.sg.join r.bi).lo, .int .u64 (r.sg.join r.bi).hi]] wc.drew fun e w' => ∃ v, e = .returned v ∧ (w'.cell? ⟨k, 4, none⟩ = some (.int .u64 r.sg.lo) ∧ w'.cell? ⟨k, 5, none⟩ = some (.int .u64 r.sg.hi) ∧ w'.cell? ⟨X, 0, none⟩ = some (.int .u64 (r.sg.join r.bi).lo) ∧ w'.cell? ⟨X, 1, none⟩ = some (.int .u64 (r.sg.join r.bi).hi)) ∧ Hid (St o (ownI 3 1 v r.miss.length (cellsOf r.miss) :: boxI X #[.int .u64 (r.sg.join r.bi).lo, .int .u64 (r.sg.join r.bi).hi] 48 :: its) w') := by
      refine (HT.out wc.drew).mono ?_
      rintro e w3 ⟨vw, he, hown, hk3⟩
      have h3 := HX.out.drew.own hk3 hown
      exact ⟨vw, he, ⟨rrCell h3 (j + 2) hj 4, rrCell h3 (j + 2) hj 5, h3.cell 1 rfl 0, h3.cell 1 rfl 1⟩, h3⟩
    clear HT
    go_upto_region 1 with fail
    go_region_held3 (fun W => W.cell? ⟨k, 4, none⟩ = some (.int .u64 r.sg.lo) ∧ W.cell? ⟨k, 5, none⟩ = some (.int .u64 r.sg.hi) ∧ W.cell? ⟨X, 0, none⟩ = some (.int .u64 (r.sg.join r.bi).lo) ∧ W.cell? ⟨X, 1, none⟩ = some (.int .u64 (r.sg.join r.bi).hi)) (first | go_keep | exact rS)
      (first | (go_at_call 79; (with_reducible refine hT1.mono ?_); rintro e w3 ⟨vw, rfl, rS, H3⟩))
    have h3 := H3.out
    clear hT1 HX c4 c5 b0 b1 rS H3
    obtain ⟨gw, cw, rfl⟩ := h3.form 0 rfl hmn
    have m0 : w3.cell? ⟨gw, 0, none⟩ = some (.int .i64 1) := (h3.ownCell 0 rfl 0 (by omega)).trans HM0.out
    have hmi : (0 : Int) < (r.miss.length : Int) := by omega
    have hj2 : (ownI 3 1 (.slice (some ⟨gw, 0, none⟩) r.miss.length cw) r.miss.length (cellsOf r.miss) :: boxI X #[.int .u64 (r.sg.join r.bi).lo, .int .u64 (r.sg.join r.bi).hi] 48 :: its)[j + 2]? = some (rrI k B.sp r) := hj
    have cq : w3.cell? ⟨k, 5, none⟩ = some (.int .u64 r.sg.hi) := rrCell h3 (j + 2) hj2 5
    have fq : w3.frozen? ⟨k, 5, none⟩ = false := rrFrozen h3 (j + 2) hj2 5
    have bq : w3.cell? ⟨X, 1, none⟩ = some (.int .u64 (r.sg.join r.bi).hi) := h3.cell 1 rfl 1
    have cq' : w3.drew.cell? ⟨k, 5, none⟩ = some (.int .u64 r.sg.hi) := cq
    have fq' : w3.drew.frozen? ⟨k, 5, none⟩ = false := fq
    have bq' : w3.drew.cell? ⟨X, 1, none⟩ = some (.int .u64 (r.sg.join r.bi).hi) := bq
    have h4 := h3.write (j + 2) hj2 5 (.int .u64 (r.sg.join r.bi).hi)
    rw [HCR.out] at h4
    simp only [List.set_cons_succ] at h4
    have HS4 : Hid _ := h4
    clear h3 h4
    go_upto_region 4 with fail
    go_region
    go_upto_region 5 with fail
    have h5 := HS4.out.drew
    clear HS4 cq fq bq cq' fq' bq' m0
    generalize (w3.setCell ⟨k, 5, none⟩ (.int .u64 (r.sg.join r.bi).hi)).drew = w4 at *
    have hj5 : (ownI 3 1 (.slice (some ⟨gw, 0, none⟩) r.miss.length cw) r.miss.length (cellsOf r.miss) :: boxI X #[.int .u64 (r.sg.join r.bi).lo, .int .u64 (r.sg.join r.bi).hi] 48 :: its.set j (rrI k B.sp r.pub))[j + 2]? = some (rrI k B.sp r.pub) := set_self hj
    have hi5 : (ownI 3 1 (.slice (some ⟨gw, 0, none⟩) r.miss.length cw) r.miss.length (cellsOf r.miss) :: boxI X #[.int .u64 (r.sg.join r.bi).lo, .int .u64 (r.sg.join r.bi).hi] 48 :: its.set j (rrI k B.sp r.pub))[i + 2]? = some (rpI B c z v u) := set_other hi (Ne.symm hij)
    have hps : r.pub.sl = r.sl := rfl
    have HCC : Hid (∀ {its' W z' v'}, its'[j + 2]? = some (rrI k B.sp r.pub) → its'[i + 2]? = some (rpI B c z' v' u) → its'[1]? = some (boxI X #[.int .u64 (r.sg.join r.bi).lo, .int .u64 (r.sg.join r.bi).hi] 48) → St o its' W → W.cell? ⟨k, 0, none⟩ = some (.pointer (some ⟨B.sp, 0, none⟩)) ∧ W.cell? ⟨B.sp, 9, none⟩ = some (.pointer (some ⟨B.y, 0, none⟩)) ∧ W.cell? ⟨k, 1, none⟩ = some (.int .i64 r.sl) ∧ W.cell? ⟨X, 1, none⟩ = some (.int .u64 (r.sg.join r.bi).hi)) := fun e1 e2 e3 hW => ⟨rrCell hW _ e1 0, rpCell hW _ e2 9, rrCell hW _ e1 1, hW.cell 1 e3 1⟩
    obtain ⟨g0, g9, g1, gx⟩ := HCC.out hj5 hi5 rfl h5
    have hq : Calls Tryz.prog 58 #[.pointer (some ⟨B.y, 0, none⟩), .int .i64 r.sl, .int .i64 1, .int .u64 (r.sg.join r.bi).hi] w4.drew fun e w' => (∃ y, e = .returned y) ∧ (w'.cell? ⟨k, 0, none⟩ = some (.pointer (some ⟨B.sp, 0, none⟩)) ∧ w'.cell? ⟨B.sp, 9, none⟩ = some (.pointer (some ⟨B.y, 0, none⟩)) ∧ w'.cell? ⟨k, 1, none⟩ = some (.int .i64 r.sl) ∧ w'.cell? ⟨X, 1, none⟩ = some (.int .u64 (r.sg.join r.bi).hi)) ∧ ∃ v', Hid (St o ((its.set j (rrI k B.sp r.pub)).set i (rpI B c (z.put r.sl 1 (r.sg.join r.bi).hi) v' u)) w') := by
      refine (rpPut h5.drew (i + 2) hi5 ok hn r.sl 1 (r.sg.join r.bi).hi).mono ?_
      rintro e w' ⟨he, v', h'⟩
      exact ⟨⟨_, he⟩, HCC.out (set_other hj5 (by omega)) (set_self hi5) rfl h', v', h'.pop.pop⟩
    clear h5 hj5 hi5 HCC hj1 hj2
    go_region_held3 (fun W => W.cell? ⟨k, 0, none⟩ = some (.pointer (some ⟨B.sp, 0, none⟩)) ∧ W.cell? ⟨B.sp, 9, none⟩ = some (.pointer (some ⟨B.y, 0, none⟩)) ∧ W.cell? ⟨k, 1, none⟩ = some (.int .i64 r.sl) ∧ W.cell? ⟨X, 1, none⟩ = some (.int .u64 (r.sg.join r.bi).hi)) (first | go_keep | exact rS)
      (first | (go_at_call 58; (with_reducible refine hq.mono ?_); rintro e w5 ⟨⟨y, rfl⟩, rS, v', H5⟩))
    clear hq rS g0 g9 g1 gx
    go_wp2
    first | go_end0 | go_ret | (refine bodyPost_ret (results_none rfl _ _ _) rfl ?_) | (simp only [Exit.inBlock, Exit.then]; refine bodyPost_ret (results_none rfl _ _ _) rfl ?_)
    refine ⟨rfl, v', ?_⟩
    rw [List.set_comm _ _ hij]
    exact H5.out

set_option maxRecDepth 100000 in
set_option maxHeartbeats 2000000 in
theorem rrFirstL (h : St o its w) (i j : Nat) (hij : i ≠ j) (hi : its[i]? = some (rpI B c z v u)) (hj : its[j]? = some (rrI k B.sp r)) {n : Nat} (ok : z.ok c n) (hn : n ≤ 4611686018427) (hr : RFit c r) (h1 : r.st = 1) :
    Calls Tryz.prog 38 #[.pointer (some ⟨k, 0, none⟩)] w fun e w' => e = .returned (.tuple #[]) ∧ ∃ v', St o ((its.set i (rpI B c (z.reads r) v' u)).set j (rrI k B.sp (r.next z))) w' := by
  have en : r.next z = { r with va := loadR z.xs r.ce, st := 2 } := by unfold Rd.next; rw [if_neg (by omega), if_pos h1]
  have ez : z.reads r = z.load r.ce := by unfold SSt.reads; rw [if_neg (by omega), if_pos h1]
  have HCR : Hid (∀ t x, boxI k (((r.cellsR t).setIfInBounds 7 (.int .i64 x)).setIfInBounds 8 (.int .i64 1)) 102 = rrI k t { r with va := x, st := 2 }) := by
    intro t x
    have e2 : r.err = 0 := by unfold Rd.err; rw [if_neg (by omega)]
    unfold rrI Rd.cellsR
    rw [e2]
    rfl
  rw [en, ez]
  have hm : r.miss = [] := hr.full (by omega)
  clear en ez
  have c4 : w.cell? ⟨k, 4, none⟩ = some (.int .u64 r.sg.lo) := rrCell h j hj 4
  have c5 : w.cell? ⟨k, 5, none⟩ = some (.int .u64 r.sg.hi) := rrCell h j hj 5
  have x4 : w.drew.cell? ⟨k, 4, none⟩ = some (.int .u64 r.sg.lo) := c4
  have x5 : w.drew.cell? ⟨k, 5, none⟩ = some (.int .u64 r.sg.hi) := c5
  have hw := (rrBoth h i j hi hj hr).1
  have hJ := (rrBoth h i j hi hj hr).2
  have hT := fun W => refTouched_any r.sg (r.sg.join r.bi) hr.fit.sg (Sg.ok_join hr.fit.sg hr.fit.bi) W
  rw [join_minus] at hT
  change ∀ W, Calls Tryz.prog 79 #[r.sg.val, (r.sg.join r.bi).val] W fun e w' => ∃ v, e = .returned v ∧ w'.ownsRow W.heap.size 3 1 v r.miss.length (cellsOf r.miss) ∧ Kept (fun _ => False) W w' at hT
  simp only [Sg.val] at hw hJ hT
  have HC : Hid (∀ L W, St o (L ++ its) W → W.cell? ⟨k, 4, none⟩ = some (.int .u64 r.sg.lo) ∧ W.cell? ⟨k, 5, none⟩ = some (.int .u64 r.sg.hi)) := fun L W hW => by
    have hj' : (L ++ its)[L.length + j]? = some (rrI k B.sp r) := by rw [List.getElem?_append_right (by omega)]; simpa using hj
    exact ⟨rrCell hW _ hj' 4, rrCell hW _ hj' 5⟩
  have HW : Hid (∀ L W, St o (L ++ its) W → Calls Tryz.prog 78 #[.pointer (some ⟨k, 0, none⟩)] W fun e w' => e = .returned (.agg #[.int .u64 r.bi.lo, .int .u64 r.bi.hi]) ∧ (w'.cell? ⟨k, 4, none⟩ = some (.int .u64 r.sg.lo) ∧ w'.cell? ⟨k, 5, none⟩ = some (.int .u64 r.sg.hi)) ∧ St o (L ++ its) w') := fun L W hW => by
    refine (hw L W hW).mono ?_
    rintro e w' ⟨he, h'⟩
    exact ⟨he, HC.out L w' h', h'⟩
  have HJN : Hid (∀ L W, St o (L ++ its) W → Calls Tryz.prog 77 #[.agg #[.int .u64 r.sg.lo, .int .u64 r.sg.hi], .agg #[.int .u64 r.bi.lo, .int .u64 r.bi.hi]] W fun e w' => e = .returned (.agg #[.int .u64 (r.sg.join r.bi).lo, .int .u64 (r.sg.join r.bi).hi]) ∧ (w'.cell? ⟨k, 4, none⟩ = some (.int .u64 r.sg.lo) ∧ w'.cell? ⟨k, 5, none⟩ = some (.int .u64 r.sg.hi)) ∧ St o (L ++ its) w') := fun L W hW => by
    refine (hJ L W hW).mono ?_
    rintro e w' ⟨he, h'⟩
    exact ⟨he, HC.out L w' h', h'⟩
  have HT : Hid (∀ W, Calls Tryz.prog 79 #[.agg #[.int .u64 r.sg.lo, .int .u64 r.sg.hi], .agg #[.int .u64 (r.sg.join r.bi).lo, .int .u64 (r.sg.join r.bi).hi]] W fun e w' => ∃ v, e = .returned v ∧ w'.ownsRow W.heap.size 3 1 v r.miss.length (cellsOf r.miss) ∧ Kept (fun _ => False) W w') := hT
  have kA := HW.out [] _ h.drew
  have kB := HW.out [boxI w.heap.size #[.int .u64 0, .int .u64 0] 48] _ (h.box #[.int .u64 0, .int .u64 0] 48).drew
  have lk : k < w.heap.size := World.block_lt_of_cell? w _ c4
  have n1 : ¬ k = w.heap.size := by omega
  have n2 : ¬ w.heap.size = k := by omega
  clear hw hJ hT lk
  go_enter Tryz.func38, Tryz.ntmps38
  go_upto_region 0 with fail
  go_cut [2] from 7 (fun b wx => ∃ X, b = .pointer (some ⟨X, 0, none⟩) ∧ Hid (St o (boxI X #[.int .u64 (r.sg.join r.bi).lo, .int .u64 (r.sg.join r.bi).hi] 48 :: its) wx))
  case first =>
    go_region_held3 (fun W => W.cell? ⟨k, 4, none⟩ = some (.int .u64 r.sg.lo) ∧ W.cell? ⟨k, 5, none⟩ = some (.int .u64 r.sg.hi)) (first | go_keep | exact rS | (obtain ⟨z4, z5⟩ := rS; exact ⟨by go_simp, by go_simp⟩))
     (first
      | (go_at_call 78; first
          | ((with_reducible refine kA.mono ?_); rintro e w1 ⟨rfl, rS, hA1⟩; have jA := HJN.out [] _ hA1; have jC := HJN.out [boxI w1.heap.size #[.int .u64 0, .int .u64 0] 48] _ (St.box hA1 #[.int .u64 0, .int .u64 0] 48); have lk1 : k < w1.heap.size := World.block_lt_of_cell? w1 _ rS.1; have n3 : ¬ k = w1.heap.size := (by omega); have n4 : ¬ w1.heap.size = k := (by omega))
          | ((with_reducible refine kB.mono ?_); rintro e w1 ⟨rfl, rS, hB1⟩; have jB := HJN.out [_] _ hB1))
      | (go_at_call 77; first
          | ((with_reducible refine jA.mono ?_); rintro e w2 ⟨rfl, rS, hA2⟩)
          | ((with_reducible refine jB.mono ?_); rintro e w2 ⟨rfl, rS, hB2⟩; have b0 : w2.cell? ⟨w.heap.size, 0, none⟩ = some (.int .u64 0) := hB2.cell 0 rfl 0; have b1 : w2.cell? ⟨w.heap.size, 1, none⟩ = some (.int .u64 0) := hB2.cell 0 rfl 1; have f0 : w2.frozen? ⟨w.heap.size, 0, none⟩ = false := hB2.frozen 0 rfl 0; have f1 : w2.frozen? ⟨w.heap.size, 1, none⟩ = false := hB2.frozen 0 rfl 1)
          | ((with_reducible refine jC.mono ?_); rintro e w2 ⟨rfl, rS, hC2⟩; have b0 : w2.cell? ⟨w1.heap.size, 0, none⟩ = some (.int .u64 0) := hC2.cell 0 rfl 0; have b1 : w2.cell? ⟨w1.heap.size, 1, none⟩ = some (.int .u64 0) := hC2.cell 0 rfl 1; have f0 : w2.frozen? ⟨w1.heap.size, 0, none⟩ = false := hC2.frozen 0 rfl 0; have f1 : w2.frozen? ⟨w1.heap.size, 1, none⟩ = false := hC2.frozen 0 rfl 1)))
    all_goals
      go_wp2_with fail
      go_meet
      first
        | exact ⟨_, rfl, St.box hA2 _ _⟩
        | exact ⟨_, rfl, (hB2.write 0 rfl 0 _).write 0 rfl 1 _⟩
        | exact ⟨_, rfl, (hC2.write 0 rfl 0 _).write 0 rfl 1 _⟩
  case rest =>
    obtain ⟨X, rfl, HX⟩ := hcut
    clear kA kB c4 c5 x4 x5 HW HJN HC n1 n2
    have hj1 : (boxI X #[.int .u64 (r.sg.join r.bi).lo, .int .u64 (r.sg.join r.bi).hi] 48 :: its)[j + 1]? = some (rrI k B.sp r) := hj
    have c4 : wc.cell? ⟨k, 4, none⟩ = some (.int .u64 r.sg.lo) := rrCell HX.out (j + 1) hj1 4
    have c5 : wc.cell? ⟨k, 5, none⟩ = some (.int .u64 r.sg.hi) := rrCell HX.out (j + 1) hj1 5
    have b0 : wc.cell? ⟨X, 0, none⟩ = some (.int .u64 (r.sg.join r.bi).lo) := HX.out.cell 0 rfl 0
    have b1 : wc.cell? ⟨X, 1, none⟩ = some (.int .u64 (r.sg.join r.bi).hi) := HX.out.cell 0 rfl 1
    have hT1 : Calls Tryz.prog 79 #[.agg #[.int .u64 r.sg.lo, .int .u64 r.sg.hi], .agg #[.int .u64 (r.sg.join r.bi).lo, .int .u64 (r.sg.join r.bi).hi]] wc.drew fun e w' => ∃ v, e = .returned v ∧ (w'.cell? ⟨k, 4, none⟩ = some (.int .u64 r.sg.lo) ∧ w'.cell? ⟨k, 5, none⟩ = some (.int .u64 r.sg.hi) ∧ w'.cell? ⟨X, 0, none⟩ = some (.int .u64 (r.sg.join r.bi).lo) ∧ w'.cell? ⟨X, 1, none⟩ = some (.int .u64 (r.sg.join r.bi).hi)) ∧ Hid (St o (ownI 3 1 v r.miss.length (cellsOf r.miss) :: boxI X #[.int .u64 (r.sg.join r.bi).lo, .int .u64 (r.sg.join r.bi).hi] 48 :: its) w') := by
      refine (HT.out wc.drew).mono ?_
      rintro e w3 ⟨vw, he, hown, hk3⟩
      have h3 := HX.out.drew.own hk3 hown
      exact ⟨vw, he, ⟨rrCell h3 (j + 2) hj 4, rrCell h3 (j + 2) hj 5, h3.cell 1 rfl 0, h3.cell 1 rfl 1⟩, h3⟩
    clear HT
    go_upto_region 1 with fail
    go_region_held3 (fun W => W.cell? ⟨k, 4, none⟩ = some (.int .u64 r.sg.lo) ∧ W.cell? ⟨k, 5, none⟩ = some (.int .u64 r.sg.hi) ∧ W.cell? ⟨X, 0, none⟩ = some (.int .u64 (r.sg.join r.bi).lo) ∧ W.cell? ⟨X, 1, none⟩ = some (.int .u64 (r.sg.join r.bi).hi)) (first | go_keep | exact rS)
      (first | (go_at_call 79; (with_reducible refine hT1.mono ?_); rintro e w3 ⟨vw, rfl, rS, H3⟩))
    have h3 := H3.out
    clear hT1 HX c4 c5 b0 b1 rS H3
    rw [hm] at h3
    obtain ⟨gw, cw, rfl⟩ := own_form (h3.get 0 rfl)
    have h4 := h3.pop.pop
    clear h3 hj1
    have HCC : Hid (∀ {its' W z' v'}, its'[j]? = some (rrI k B.sp r) → its'[i]? = some (rpI B c z' v' u) → St o its' W → W.cell? ⟨k, 0, none⟩ = some (.pointer (some ⟨B.sp, 0, none⟩)) ∧ W.cell? ⟨B.sp, 7, none⟩ = some (.pointer (some ⟨B.r, 0, none⟩)) ∧ W.cell? ⟨k, 6, none⟩ = some (.int .i64 r.ce)) := fun e1 e2 hW => ⟨rrCell hW _ e1 0, rpCell hW _ e2 7, rrCell hW _ e1 6⟩
    obtain ⟨g0, g7, g6⟩ := HCC.out hj hi h4
    have hq : Calls Tryz.prog 80 #[.pointer (some ⟨B.r, 0, none⟩), .int .i64 r.ce] w3.drew fun e w' => e = .returned (.tuple #[.int .i64 (loadR z.xs r.ce), .int .i64 (loadE z.xs r.ce)]) ∧ (w'.cell? ⟨k, 0, none⟩ = some (.pointer (some ⟨B.sp, 0, none⟩)) ∧ w'.cell? ⟨B.sp, 7, none⟩ = some (.pointer (some ⟨B.r, 0, none⟩)) ∧ w'.cell? ⟨k, 6, none⟩ = some (.int .i64 r.ce)) ∧ ∃ v', Hid (St o (its.set i (rpI B c (z.load r.ce) v' u)) w') := by
      refine (rpLoad h4.drew i hi ok hn r.ce).mono ?_
      rintro e w' ⟨he, v', h'⟩
      exact ⟨he, HCC.out (set_other hj hij) (set_self hi) h', v', h'⟩
    have HJJ : Hid (∀ v', (its.set i (rpI B c (z.load r.ce) v' u))[j]? = some (rrI k B.sp r)) := fun v' => set_other hj hij
    clear h4 HCC
    go_upto_region 6 with fail
    go_region_held3 (fun W => W.cell? ⟨k, 0, none⟩ = some (.pointer (some ⟨B.sp, 0, none⟩)) ∧ W.cell? ⟨B.sp, 7, none⟩ = some (.pointer (some ⟨B.r, 0, none⟩)) ∧ W.cell? ⟨k, 6, none⟩ = some (.int .i64 r.ce)) (first | go_keep | exact rS)
      (first | (go_at_call 80; (with_reducible refine hq.mono ?_); rintro e w5 ⟨rfl, rS, v', H5⟩))
    clear hq rS g0 g7 g6
    have c7 : w5.cell? ⟨k, 7, none⟩ = some (.int .i64 r.va) := rrCell H5.out j (HJJ.out v') 7
    have c8 : w5.cell? ⟨k, 8, none⟩ = some (.int .i64 r.stage) := rrCell H5.out j (HJJ.out v') 8
    have f7 : w5.frozen? ⟨k, 7, none⟩ = false := rrFrozen H5.out j (HJJ.out v') 7
    have f8 : w5.frozen? ⟨k, 8, none⟩ = false := rrFrozen H5.out j (HJJ.out v') 8
    have h6 := (H5.out.write j (HJJ.out v') 7 (.int .i64 (loadR z.xs r.ce))).write j (set_self (HJJ.out v')) 8 (.int .i64 1)
    rw [set_same, HCR.out] at h6
    have H6 : Hid _ := h6
    clear h6 H5 HJJ
    go_wp2
    first | go_end0 | go_ret | (refine bodyPost_ret (results_none rfl _ _ _) rfl ?_)
    exact ⟨rfl, v', H6.out⟩

theorem rrFirst_any (h : St o its w) (i j : Nat) (hij : i ≠ j) (hi : its[i]? = some (rpI B c z v u)) (hj : its[j]? = some (rrI k B.sp r)) {n : Nat} (ok : z.ok c n) (hn : n ≤ 4611686018427) (hr : RFit c r) (h1 : r.st ≤ 1) :
    Calls Tryz.prog 38 #[.pointer (some ⟨k, 0, none⟩)] w fun e w' => e = .returned (.tuple #[]) ∧ ∃ v', St o ((its.set i (rpI B c (z.reads r) v' u)).set j (rrI k B.sp (r.next z))) w' := by
  by_cases h0 : r.st = 0
  · obtain ⟨i0, l, em, hlt, eh⟩ := miss_head (hr.fit.pub h0)
    rcases (show i0 = 0 ∨ i0 = 1 by omega) with rfl | rfl
    · exact rrFirst0 h i j hij hi hj ok hn hr h0 eh
    · exact rrFirst1 h i j hij hi hj ok hn hr h0 eh
  · exact rrFirstL h i j hij hi hj ok hn hr (by omega)
end
end Go.Proofs.YtajfjkhbimehbaaGreat

namespace Go.Proofs.YtajfjkhbimehbaaGreat
open Go.RowKit
set_option linter.unusedVariables false
set_option linter.unusedSimpArgs false
attribute [local go_sem ↓] Go.wp_at_zero Go.wp_at_succ

theorem odd_cases (n : Int) (h : 0 ≤ n) : (n % 2 = 0 ∧ (n % 2 == 1) = false) ∨ (n % 2 ≠ 0 ∧ (n % 2 == 1) = true) := by
  by_cases e : n % 2 = 0
  · exact .inl ⟨e, by simp [e]⟩
  · exact .inr ⟨e, by simp; omega⟩
section
variable {o w : World} {its : List It} {B : Bd} {c : Cfg} {z : SSt} {v u : Value} {k s : Nat} {r : Rd}

set_option maxRecDepth 100000 in
set_option maxHeartbeats 2000000 in
theorem rrStep01 (h : St o its w) (i j : Nat) (hij : i ≠ j) (hi : its[i]? = some (rpI B c z v u)) (hj : its[j]? = some (rrI k B.sp r)) {n : Nat} (ok : z.ok c n) (hn : n ≤ 4611686018427) (hr : RFit c r) (h1 : r.st ≤ 1) :
    Calls Tryz.prog 14 #[.pointer (some ⟨k, 0, none⟩)] w fun e w' => e = .returned (.int .i64 (r.ans z)) ∧ ∃ v', St o ((its.set i (rpI B c (z.reads r) v' u)).set j (rrI k B.sp (r.next z))) w' := by
  have c8 : w.cell? ⟨k, 8, none⟩ = some (.int .i64 r.stage) := rrCell h j hj 8
  have hf := rrFirst_any h i j hij hi hj ok hn hr h1
  have e8 : r.stage = 0 := by unfold Rd.stage; rw [if_pos h1]
  have ea : r.ans z = 1 := by unfold Rd.ans; rw [if_neg (by omega), if_neg (by omega)]
  rw [e8] at c8
  rw [ea]
  clear h hi hj ok hr e8 ea
  go_enter Tryz.func14, Tryz.ntmps14
  go_wp2_with (go_at_call 38; refine hf.mono ?_; rintro e w1 ⟨rfl, v', HS⟩)
  go_ret
  exact ⟨rfl, v', HS⟩

set_option maxRecDepth 100000 in
set_option maxHeartbeats 2000000 in
theorem rrStep4 (h : St o its w) (i j : Nat) (hij : i ≠ j) (hi : its[i]? = some (rpI B c z v u)) (hj : its[j]? = some (rrI k B.sp r)) {n : Nat} (ok : z.ok c n) (hn : n ≤ 4611686018427) (hr : RFit c r) (h1 : r.st = 4) :
    Calls Tryz.prog 14 #[.pointer (some ⟨k, 0, none⟩)] w fun e w' => e = .returned (.int .i64 (r.ans z)) ∧ ∃ v', St o ((its.set i (rpI B c (z.reads r) v' u)).set j (rrI k B.sp (r.next z))) w' := by
  have c8 : w.cell? ⟨k, 8, none⟩ = some (.int .i64 r.stage) := rrCell h j hj 8
  have e8 : r.stage = 3 := by unfold Rd.stage; rw [if_neg (by omega), h1]; rfl
  have ea : r.ans z = 3 := by unfold Rd.ans; rw [if_pos h1]
  have en : r.next z = r := by unfold Rd.next; rw [if_neg (by omega), if_neg (by omega), if_neg (by omega), if_neg (by omega)]
  have ez : z.reads r = z := by unfold SSt.reads; rw [if_neg (by omega), if_neg (by omega), if_neg (by omega), if_neg (by omega)]
  have HS : Hid (∃ v', St o ((its.set i (rpI B c z v' u)).set j (rrI k B.sp r)) w) := ⟨v, by rw [set_back hi, set_back hj]; exact h⟩
  rw [e8] at c8
  rw [ea, en, ez]
  clear h hi hj ok hr e8 ea en ez
  go_enter Tryz.func14, Tryz.ntmps14
  go_wp2
  go_ret
  exact ⟨rfl, HS.out⟩

set_option maxRecDepth 100000 in
set_option maxHeartbeats 2000000 in
theorem rrStep2 (h : St o its w) (i j : Nat) (hij : i ≠ j) (hi : its[i]? = some (rpI B c z v u)) (hj : its[j]? = some (rrI k B.sp r)) {n : Nat} (ok : z.ok c n) (hn : n ≤ 4611686018427) (hr : RFit c r) (h1 : r.st = 2) :
    Calls Tryz.prog 14 #[.pointer (some ⟨k, 0, none⟩)] w fun e w' => e = .returned (.int .i64 (r.ans z)) ∧ ∃ v', St o ((its.set i (rpI B c (z.reads r) v' u)).set j (rrI k B.sp (r.next z))) w' := by
  have c8 : w.cell? ⟨k, 8, none⟩ = some (.int .i64 r.stage) := rrCell h j hj 8
  have e8 : r.stage = 1 := by unfold Rd.stage; rw [if_neg (by omega), h1]; rfl
  have e9 : r.err = 0 := by unfold Rd.err; rw [if_neg (by omega)]
  have ea : r.ans z = if z.x.n % 2 = 0 then 1 else 2 := by
    unfold Rd.ans
    rw [if_neg (by omega)]
    by_cases hp : z.x.n % 2 = 0
    · rw [if_pos hp, if_neg (fun x => x.2 hp)]
    · rw [if_neg hp, if_pos ⟨h1, hp⟩]
  have en : r.next z = (if z.x.n % 2 = 0 then (if z.x.n = r.sn then { r with st := 3 } else { r with sn := z.x.n, st := 1 }) else r) := by
    unfold Rd.next
    rw [if_neg (by omega), if_neg (by omega), if_pos h1]
  have ez : z.reads r = z.glook := by unfold SSt.reads; rw [if_neg (by omega), if_neg (by omega), if_pos h1]
  have HC1 : Hid (∀ t, boxI k ((r.cellsR t).setIfInBounds 8 (.int .i64 2)) 102 = rrI k t { r with st := 3 }) := fun t => by
    unfold rrI Rd.cellsR
    rw [e9]
    rfl
  have HC2 : Hid (∀ t x, boxI k (((r.cellsR t).setIfInBounds 3 (.int .i64 x)).setIfInBounds 8 (.int .i64 0)) 102 = rrI k t { r with sn := x, st := 1 }) := fun t x => by
    unfold rrI Rd.cellsR
    rw [e9]
    rfl
  have c0 : w.cell? ⟨k, 0, none⟩ = some (.pointer (some ⟨B.sp, 0, none⟩)) := rrCell h j hj 0
  have p8 : w.cell? ⟨B.sp, 8, none⟩ = some (.pointer (some ⟨B.g, 0, none⟩)) := rpCell h i hi 8
  have hq : Calls Tryz.prog 39 #[.pointer (some ⟨B.g, 0, none⟩)] w fun e w' => e = .returned (.agg #[.int .i64 z.x.n, .int .i64 z.x.o]) ∧ ∃ v', Hid (St o (its.set i (rpI B c z.glook v' u)) w') := rpGlook h i hi ok hn
  have HJ : Hid (∀ v', (its.set i (rpI B c z.glook v' u))[j]? = some (rrI k B.sp r)) := fun v' => set_other hj hij
  have n0 : 0 ≤ z.x.n := ok.g0
  have n1 : z.x.n ≤ 4611686018427 := by have := ok.g1; omega
  rw [e8] at c8
  rw [ea, en, ez]
  clear h hi hj ok hr e8 e9 ea en ez
  generalize z.glook = z' at *
  generalize z.x.n = N at *
  generalize z.x.o = O at *
  rcases odd_cases N n0 with ⟨e1, e2⟩ | ⟨e1, e2⟩
  · rw [if_pos e1, if_pos e1]
    have e1' : Hid (N % 2 = 0) := e1
    clear e1
    by_cases hs : N = r.sn
    · rw [if_pos hs]
      have e3 : (N != r.sn) = false := by simp [hs]
      clear hs
      go_enter Tryz.func14, Tryz.ntmps14
      go_wp2_with fail
      refine hq.mono ?_
      rintro e w2 ⟨rfl, v', HS⟩
      have h3 := HS.out.box #[.int .i64 N, .int .i64 O] 88
      have HJ3 : Hid ((boxI w2.heap.size #[.int .i64 N, .int .i64 O] 88 :: its.set i (rpI B c z' v' u))[j + 1]? = some (rrI k B.sp r)) := HJ.out v'
      clear HS hq c0 c8 p8
      go_upto_region 8 with fail
      generalize w2.alloc (.cells #[.int .i64 N, .int .i64 O] 88) = w3 at *
      generalize w2.heap.size = G at *
      have g0 : w3.cell? ⟨G, 0, none⟩ = some (.int .i64 N) := h3.cell 0 rfl 0
      have d3 : w3.cell? ⟨k, 3, none⟩ = some (.int .i64 r.sn) := rrCell h3 (j + 1) HJ3.out 3
      have HQ : Hid (∀ q, St o (boxI G #[.int .i64 N, .int .i64 O] 88 :: its.set i (rpI B c z' v' u)) (w3.drewN q)) := fun q => h3.calm ((Kept.refl _ w3).drewN q)
      clear h3
      have c8' : ∀ q, (w3.drewN q).cell? ⟨k, 8, none⟩ = some (.int .i64 r.stage) := fun q => rrCell (HQ.out q) (j + 1) HJ3.out 8
      have f8 : ∀ q, (w3.drewN q).frozen? ⟨k, 8, none⟩ = false := fun q => rrFrozen (HQ.out q) (j + 1) HJ3.out 8
      have HT : Hid (∀ q, St o ((its.set i (rpI B c z' v' u)).set j (rrI k B.sp { r with st := 3 })) ((w3.drewN q).setCell ⟨k, 8, none⟩ (.int .i64 2))) := fun q => by
        have h4 := (HQ.out q).write (j + 1) HJ3.out 8 (.int .i64 2)
        rw [HC1.out] at h4
        exact h4.pop
      clear HQ HJ3 HC1 HC2
      generalize r.stage = sg at *
      go_upto_region 10 with fail
      go_quiet (fail)
      go_wp2
      go_ret
      exact ⟨rfl, v', HT.out _⟩
    · rw [if_neg hs]
      have e3 : (N != r.sn) = true := by simpa using hs
      clear hs
      go_enter Tryz.func14, Tryz.ntmps14
      go_wp2_with fail
      refine hq.mono ?_
      rintro e w2 ⟨rfl, v', HS⟩
      have h3 := HS.out.box #[.int .i64 N, .int .i64 O] 88
      have HJ3 : Hid ((boxI w2.heap.size #[.int .i64 N, .int .i64 O] 88 :: its.set i (rpI B c z' v' u))[j + 1]? = some (rrI k B.sp r)) := HJ.out v'
      clear HS hq c0 c8 p8
      go_upto_region 8 with fail
      generalize w2.alloc (.cells #[.int .i64 N, .int .i64 O] 88) = w3 at *
      generalize w2.heap.size = G at *
      have g0 : w3.cell? ⟨G, 0, none⟩ = some (.int .i64 N) := h3.cell 0 rfl 0
      have d3 : w3.cell? ⟨k, 3, none⟩ = some (.int .i64 r.sn) := rrCell h3 (j + 1) HJ3.out 3
      have HQ : Hid (∀ q, St o (boxI G #[.int .i64 N, .int .i64 O] 88 :: its.set i (rpI B c z' v' u)) (w3.drewN q)) := fun q => h3.calm ((Kept.refl _ w3).drewN q)
      clear h3
      have d3' : ∀ q, (w3.drewN q).cell? ⟨k, 3, none⟩ = some (.int .i64 r.sn) := fun q => rrCell (HQ.out q) (j + 1) HJ3.out 3
      have f3 : ∀ q, (w3.drewN q).frozen? ⟨k, 3, none⟩ = false := fun q => rrFrozen (HQ.out q) (j + 1) HJ3.out 3
      have g0' : ∀ q, (w3.drewN q).cell? ⟨G, 0, none⟩ = some (.int .i64 N) := fun q => (HQ.out q).cell 0 rfl 0
      have c8' : ∀ q, (w3.drewN q).cell? ⟨k, 8, none⟩ = some (.int .i64 r.stage) := fun q => rrCell (HQ.out q) (j + 1) HJ3.out 8
      have f8 : ∀ q, (w3.drewN q).frozen? ⟨k, 8, none⟩ = false := fun q => rrFrozen (HQ.out q) (j + 1) HJ3.out 8
      have HT : Hid (∀ q, St o ((its.set i (rpI B c z' v' u)).set j (rrI k B.sp { r with sn := N, st := 1 })) (((w3.drewN q).setCell ⟨k, 3, none⟩ (.int .i64 N)).setCell ⟨k, 8, none⟩ (.int .i64 0))) := fun q => by
        have h4 := ((HQ.out q).write (j + 1) HJ3.out 3 (.int .i64 N)).write (j + 1) (set_self HJ3.out) 8 (.int .i64 0)
        rw [set_same, HC2.out] at h4
        exact h4.pop
      clear HQ HJ3 HC1 HC2
      generalize r.stage = sg at *
      go_upto_region 10 with fail
      go_quiet (fail)
      go_wp2
      go_ret
      exact ⟨rfl, v', HT.out _⟩
  · rw [if_neg e1, if_neg e1]
    have e1' : Hid (N % 2 ≠ 0) := e1
    clear e1
    go_enter Tryz.func14, Tryz.ntmps14
    go_wp2_with fail
    refine hq.mono ?_
    rintro e w2 ⟨rfl, v', HS⟩
    have h3 := HS.out.box #[.int .i64 N, .int .i64 O] 88
    have HJ3 : Hid ((boxI w2.heap.size #[.int .i64 N, .int .i64 O] 88 :: its.set i (rpI B c z' v' u))[j + 1]? = some (rrI k B.sp r)) := HJ.out v'
    clear HS hq c0 c8 p8
    go_upto_region 8 with fail
    generalize w2.alloc (.cells #[.int .i64 N, .int .i64 O] 88) = w3 at *
    generalize w2.heap.size = G at *
    have g0 : w3.cell? ⟨G, 0, none⟩ = some (.int .i64 N) := h3.cell 0 rfl 0
    have d3 : w3.cell? ⟨k, 3, none⟩ = some (.int .i64 r.sn) := rrCell h3 (j + 1) HJ3.out 3
    have HQ : Hid (∀ q, St o (boxI G #[.int .i64 N, .int .i64 O] 88 :: its.set i (rpI B c z' v' u)) (w3.drewN q)) := fun q => h3.calm ((Kept.refl _ w3).drewN q)
    clear h3
    have HT : Hid (St o ((its.set i (rpI B c z' v' u)).set j (rrI k B.sp r)) w3) := by
      have h4 := (HQ.out 0).pop
      have e : (its.set i (rpI B c z' v' u)).set j (rrI k B.sp r) = its.set i (rpI B c z' v' u) := set_back (HJ.out v')
      show St o _ w3
      rw [e]
      exact h4
    clear HQ HJ3 HC1 HC2
    go_wp2
    go_ret
    exact ⟨rfl, v', HT.out⟩

set_option maxRecDepth 100000 in
set_option maxHeartbeats 2000000 in
theorem rrStep3 (h : St o its w) (i j : Nat) (hij : i ≠ j) (hi : its[i]? = some (rpI B c z v u)) (hj : its[j]? = some (rrI k B.sp r)) {n : Nat} (ok : z.ok c n) (hn : n ≤ 4611686018427) (hr : RFit c r) (h1 : r.st = 3) :
    Calls Tryz.prog 14 #[.pointer (some ⟨k, 0, none⟩)] w fun e w' => e = .returned (.int .i64 (r.ans z)) ∧ ∃ v', St o ((its.set i (rpI B c (z.reads r) v' u)).set j (rrI k B.sp (r.next z))) w' := by
  have c8 : w.cell? ⟨k, 8, none⟩ = some (.int .i64 r.stage) := rrCell h j hj 8
  have e8 : r.stage = 2 := by unfold Rd.stage; rw [if_neg (by omega), h1]; rfl
  have e9 : r.err = 0 := by unfold Rd.err; rw [if_neg (by omega)]
  have ea : r.ans z = 1 := by unfold Rd.ans; rw [if_neg (by omega), if_neg (by omega)]
  have en : r.next z = { r with st := 4, e := if r.fair (nowAt z.hs r.sl) then 0 else 7 } := by
    unfold Rd.next
    rw [if_neg (by omega), if_neg (by omega), if_neg (by omega), if_pos h1]
  have ez : z.reads r = z.look r.sl := by unfold SSt.reads; rw [if_neg (by omega), if_neg (by omega), if_neg (by omega), if_pos h1]
  have HC0 : Hid (∀ t, boxI k ((r.cellsR t).setIfInBounds 8 (.int .i64 3)) 102 = rrI k t { r with st := 4, e := 0 }) := fun t => by
    unfold rrI Rd.cellsR
    rw [e9]
    rfl
  have HC7 : Hid (∀ t, boxI k (((r.cellsR t).setIfInBounds 9 (.int .i64 7)).setIfInBounds 8 (.int .i64 3)) 102 = rrI k t { r with st := 4, e := 7 }) := fun t => rfl
  have HCC : Hid (∀ {its' W z' v' a b}, its'[a]? = some (rrI k B.sp r) → its'[b]? = some (rpI B c z' v' u) → St o its' W → W.cell? ⟨k, 0, none⟩ = some (.pointer (some ⟨B.sp, 0, none⟩)) ∧ W.cell? ⟨B.sp, 9, none⟩ = some (.pointer (some ⟨B.y, 0, none⟩)) ∧ W.cell? ⟨k, 1, none⟩ = some (.int .i64 r.sl)) := fun e1 e2 hW => ⟨rrCell hW _ e1 0, rpCell hW _ e2 9, rrCell hW _ e1 1⟩
  obtain ⟨c0, p9, c1⟩ := HCC.out hj hi h
  obtain ⟨H, hH⟩ : ∃ H, nowAt z.hs r.sl = H := ⟨_, rfl⟩
  have kA : Calls Tryz.prog 40 #[.pointer (some ⟨B.y, 0, none⟩), .int .i64 r.sl] w.drew fun e w' => e = .returned (.tuple #[H.val, .int .i64 (lookE z.hs r.sl)]) ∧ (w'.cell? ⟨k, 0, none⟩ = some (.pointer (some ⟨B.sp, 0, none⟩)) ∧ w'.cell? ⟨B.sp, 9, none⟩ = some (.pointer (some ⟨B.y, 0, none⟩)) ∧ w'.cell? ⟨k, 1, none⟩ = some (.int .i64 r.sl)) ∧ ∃ v', Hid (St o (its.set i (rpI B c (z.look r.sl) v' u)) w') := by
    refine (rpLook h.drew i hi ok hn r.sl).mono ?_
    rintro e w' ⟨he, v', h'⟩
    exact ⟨by rw [he, hH], HCC.out (set_other hj hij) (set_self hi) h', v', h'⟩
  have kB : Calls Tryz.prog 40 #[.pointer (some ⟨B.y, 0, none⟩), .int .i64 r.sl] (w.alloc (.cells #[.int .i64 0, .int .i64 0, .int .i64 0, .int .i64 0, .bool false, .int .i64 0] 105)).drew fun e w' => e = .returned (.tuple #[H.val, .int .i64 (lookE z.hs r.sl)]) ∧ (w'.cell? ⟨k, 0, none⟩ = some (.pointer (some ⟨B.sp, 0, none⟩)) ∧ w'.cell? ⟨B.sp, 9, none⟩ = some (.pointer (some ⟨B.y, 0, none⟩)) ∧ w'.cell? ⟨k, 1, none⟩ = some (.int .i64 r.sl)) ∧ ∃ v', Hid (St o (boxI w.heap.size #[.int .i64 0, .int .i64 0, .int .i64 0, .int .i64 0, .bool false, .int .i64 0] 105 :: its.set i (rpI B c (z.look r.sl) v' u)) w') := by
    refine (rpLook (h.box #[.int .i64 0, .int .i64 0, .int .i64 0, .int .i64 0, .bool false, .int .i64 0] 105).drew (i + 1) hi ok hn r.sl).mono ?_
    rintro e w' ⟨he, v', h'⟩
    exact ⟨by rw [he, hH], HCC.out (a := j + 1) (b := i + 1) (show (boxI w.heap.size #[.int .i64 0, .int .i64 0, .int .i64 0, .int .i64 0, .bool false, .int .i64 0] 105 :: its.set i (rpI B c (z.look r.sl) v' u))[j + 1]? = some (rrI k B.sp r) from set_other hj hij) (show (boxI w.heap.size #[.int .i64 0, .int .i64 0, .int .i64 0, .int .i64 0, .bool false, .int .i64 0] 105 :: its.set i (rpI B c (z.look r.sl) v' u))[i + 1]? = some (rpI B c (z.look r.sl) v' u) from set_self hi) h', v', h'⟩
  have HJ : Hid (∀ v', (its.set i (rpI B c (z.look r.sl) v' u))[j]? = some (rrI k B.sp r)) := fun v' => set_other hj hij
  have lk : k < w.heap.size := World.block_lt_of_cell? w _ c0
  have ls : B.sp < w.heap.size := World.block_lt_of_cell? w _ p9
  have n1 : ¬ k = w.heap.size := by omega
  have n2 : ¬ w.heap.size = k := by omega
  have n3 : ¬ B.sp = w.heap.size := by omega
  have n4 : ¬ w.heap.size = B.sp := by omega
  rw [e8] at c8
  rw [ea, en, ez, hH]
  clear h hi hj ok hr e8 e9 ea en ez HCC lk ls
  generalize z.look r.sl = z' at *
  generalize lookE z.hs r.sl = LE at *
  clear hH
  obtain ⟨hg, ha, hp, ht, hm, hy⟩ := H
  simp only [Hd.val] at kA kB
  obtain ⟨E, HE⟩ : ∃ E : Int, Hid ((if r.fair ⟨hg, ha, hp, ht, hm, hy⟩ then (0 : Int) else 7) = E) := ⟨_, rfl⟩
  rw [HE.out]
  have HE2 : Hid (E = if ((ha == 2) && (hg == r.gn) && !hm) then 0 else 7) := HE.out.symm
  clear HE
  go_enter Tryz.func14, Tryz.ntmps14
  go_upto_region 14 with fail
  go_cut [4] from 10 (fun b wx => ∃ X v', b = .pointer (some ⟨X, 0, none⟩) ∧ Hid (St o (boxI X #[.int .i64 hg, .int .i64 ha, .int .i64 hp, .int .i64 ht, .bool hm, .int .i64 hy] 105 :: its.set i (rpI B c z' v' u)) wx))
  case first =>
    go_region_held3 (fun W => W.cell? ⟨k, 0, none⟩ = some (.pointer (some ⟨B.sp, 0, none⟩)) ∧ W.cell? ⟨B.sp, 9, none⟩ = some (.pointer (some ⟨B.y, 0, none⟩)) ∧ W.cell? ⟨k, 1, none⟩ = some (.int .i64 r.sl)) (first | go_keep | exact rS | (obtain ⟨z0, z9, z1⟩ := rS; exact ⟨by go_simp, by go_simp, by go_simp⟩))
      (first | (go_at_call 40; first
        | ((with_reducible refine kA.mono ?_); rintro e w1 ⟨rfl, rS, v', HA⟩)
        | ((with_reducible refine kB.mono ?_); rintro e w1 ⟨rfl, rS, v', HB⟩; have b0 : w1.cell? ⟨w.heap.size, 0, none⟩ = some (.int .i64 0) := HB.out.cell 0 rfl 0; have f0 : w1.frozen? ⟨w.heap.size, 0, none⟩ = false := HB.out.frozen 0 rfl 0; have b1 : w1.cell? ⟨w.heap.size, 1, none⟩ = some (.int .i64 0) := HB.out.cell 0 rfl 1; have f1 : w1.frozen? ⟨w.heap.size, 1, none⟩ = false := HB.out.frozen 0 rfl 1; have b2 : w1.cell? ⟨w.heap.size, 2, none⟩ = some (.int .i64 0) := HB.out.cell 0 rfl 2; have f2 : w1.frozen? ⟨w.heap.size, 2, none⟩ = false := HB.out.frozen 0 rfl 2; have b3 : w1.cell? ⟨w.heap.size, 3, none⟩ = some (.int .i64 0) := HB.out.cell 0 rfl 3; have f3 : w1.frozen? ⟨w.heap.size, 3, none⟩ = false := HB.out.frozen 0 rfl 3; have b4 : w1.cell? ⟨w.heap.size, 4, none⟩ = some (.bool false) := HB.out.cell 0 rfl 4; have f4 : w1.frozen? ⟨w.heap.size, 4, none⟩ = false := HB.out.frozen 0 rfl 4; have b5 : w1.cell? ⟨w.heap.size, 5, none⟩ = some (.int .i64 0) := HB.out.cell 0 rfl 5; have f5 : w1.frozen? ⟨w.heap.size, 5, none⟩ = false := HB.out.frozen 0 rfl 5)))
    all_goals
      go_wp2_with fail
      go_meet
      first
        | exact ⟨_, v', rfl, HA.out.box _ _⟩
        | exact ⟨_, v', rfl, (((((HB.out.write 0 rfl 0 _).write 0 rfl 1 _).write 0 rfl 2 _).write 0 rfl 3 _).write 0 rfl 4 _).write 0 rfl 5 _⟩
  case rest =>
    obtain ⟨X, v', rfl, HX⟩ := hcut
    clear kA kB n1 n2 n3 n4 c0 c1 p9 c8
    have hj1 : (boxI X #[.int .i64 hg, .int .i64 ha, .int .i64 hp, .int .i64 ht, .bool hm, .int .i64 hy] 105 :: its.set i (rpI B c z' v' u))[j + 1]? = some (rrI k B.sp r) := HJ.out v'
    have x0 : wc.cell? ⟨X, 0, none⟩ = some (.int .i64 hg) := HX.out.cell 0 rfl 0
    have x1 : wc.cell? ⟨X, 1, none⟩ = some (.int .i64 ha) := HX.out.cell 0 rfl 1
    have x4 : wc.cell? ⟨X, 4, none⟩ = some (.bool hm) := HX.out.cell 0 rfl 4
    have d2 : wc.cell? ⟨k, 2, none⟩ = some (.int .i64 r.gn) := rrCell HX.out (j + 1) hj1 2
    have HQ : Hid (∀ q, St o (boxI X #[.int .i64 hg, .int .i64 ha, .int .i64 hp, .int .i64 ht, .bool hm, .int .i64 hy] 105 :: its.set i (rpI B c z' v' u)) (wc.drewN q)) := fun q => HX.out.calm ((Kept.refl _ wc).drewN q)
    have c8' : ∀ q, (wc.drewN q).cell? ⟨k, 8, none⟩ = some (.int .i64 r.stage) := fun q => rrCell (HQ.out q) (j + 1) hj1 8
    have f8 : ∀ q, (wc.drewN q).frozen? ⟨k, 8, none⟩ = false := fun q => rrFrozen (HQ.out q) (j + 1) hj1 8
    have c9' : ∀ q, (wc.drewN q).cell? ⟨k, 9, none⟩ = some (.int .i64 r.err) := fun q => rrCell (HQ.out q) (j + 1) hj1 9
    have f9 : ∀ q, (wc.drewN q).frozen? ⟨k, 9, none⟩ = false := fun q => rrFrozen (HQ.out q) (j + 1) hj1 9
    have HT0 : Hid (∀ q, St o ((its.set i (rpI B c z' v' u)).set j (rrI k B.sp { r with st := 4, e := 0 })) ((wc.drewN q).setCell ⟨k, 8, none⟩ (.int .i64 3))) := fun q => by
      have h4 := (HQ.out q).write (j + 1) hj1 8 (.int .i64 3)
      rw [HC0.out] at h4
      exact h4.pop
    have HT7 : Hid (∀ q, St o ((its.set i (rpI B c z' v' u)).set j (rrI k B.sp { r with st := 4, e := 7 })) (((wc.drewN q).setCell ⟨k, 9, none⟩ (.int .i64 7)).setCell ⟨k, 8, none⟩ (.int .i64 3))) := fun q => by
      have h4 := ((HQ.out q).write (j + 1) hj1 9 (.int .i64 7)).write (j + 1) (set_self hj1) 8 (.int .i64 3)
      rw [set_same, HC7.out] at h4
      exact h4.pop
    clear HQ HX HC0 HC7 hj1 HJ
    generalize r.stage = sg at *
    generalize r.err = er at *
    go_upto_region 15 with fail
    by_cases a1 : ha = 2
    · have a1t : (ha != 2) = false := by simp [a1]
      have B1 : Hid ((ha == 2) = true) := by simp [Hid, a1]
      clear a1
      by_cases a2 : hg = r.gn
      · have a2t : (hg != r.gn) = false := by simp [a2]
        have B2 : Hid ((hg == r.gn) = true) := by simp [Hid, a2]
        clear a2
        cases hm with
        | true =>
          have HE7 : Hid (E = 7) := by show E = _; rw [HE2.out, B1.out, B2.out]; rfl
          have HT : Hid _ := HT7.out
          clear HT0 HT7 HE2
          go_quiet (fail)
          go_wp2
          go_ret
          refine ⟨rfl, v', ?_⟩
          rw [HE7.out]
          exact HT.out _
        | false =>
          have HE7 : Hid (E = 0) := by show E = _; rw [HE2.out, B1.out, B2.out]; rfl
          have HT : Hid _ := HT0.out
          clear HT0 HT7 HE2
          go_quiet (fail)
          go_wp2
          go_ret
          refine ⟨rfl, v', ?_⟩
          rw [HE7.out]
          exact HT.out _
      · have a2t : (hg != r.gn) = true := by simpa using a2
        have B2 : Hid ((hg == r.gn) = false) := by simpa [Hid] using a2
        clear a2
        have HE7 : Hid (E = 7) := by show E = _; rw [HE2.out, B1.out, B2.out]; rfl
        have HT : Hid _ := HT7.out
        clear HT0 HT7 HE2
        go_quiet (fail)
        go_wp2
        go_ret
        refine ⟨rfl, v', ?_⟩
        rw [HE7.out]
        exact HT.out _
    · have a1t : (ha != 2) = true := by simpa using a1
      have B1 : Hid ((ha == 2) = false) := by simpa [Hid] using a1
      clear a1
      have HE7 : Hid (E = 7) := by show E = _; rw [HE2.out, B1.out]; rfl
      have HT : Hid _ := HT7.out
      clear HT0 HT7 HE2
      go_quiet (fail)
      go_wp2
      go_ret
      refine ⟨rfl, v', ?_⟩
      rw [HE7.out]
      exact HT.out _

/-- A step of the document's read. -/
theorem rrStep (h : St o its w) (i j : Nat) (hij : i ≠ j) (hi : its[i]? = some (rpI B c z v u)) (hj : its[j]? = some (rrI k B.sp r)) {n : Nat} (ok : z.ok c n) (hn : n ≤ 4611686018427) (hr : RFit c r) :
    Calls Tryz.prog 14 #[.pointer (some ⟨k, 0, none⟩)] w fun e w' => e = .returned (.int .i64 (r.ans z)) ∧ ∃ v', St o ((its.set i (rpI B c (z.reads r) v' u)).set j (rrI k B.sp (r.next z))) w' := by
  have hs := hr.fit.st
  rcases (show r.st ≤ 1 ∨ r.st = 2 ∨ r.st = 3 ∨ r.st = 4 by omega) with h1 | h1 | h1 | h1
  · exact rrStep01 h i j hij hi hj ok hn hr h1
  · exact rrStep2 h i j hij hi hj ok hn hr h1
  · exact rrStep3 h i j hij hi hj ok hn hr h1
  · exact rrStep4 h i j hij hi hj ok hn hr h1
end
end Go.Proofs.YtajfjkhbimehbaaGreat
