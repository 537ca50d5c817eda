/- A read with nobody else at work. No program is named here. The law ReadAlone, step by step. -/
import Derived.Test.YtajfjkhbimehbaaRdI
import Derived.Test.YtajfjkhbimehbaaUp
import Derived.Test.YtajfjkhbimehbaaLists
import Derived.Test.YtajfjkhbimehbaaArgs
import Derived.Deep.RegionHeld3
namespace Go.Proofs.Ytajfjkhbimehbaa
open Go.RowKit
set_option linter.unusedVariables false
set_option linter.unusedSimpArgs false

/-- How many steps are left. -/
def rest (r : Rd) : Nat :=
  if r.st = 0 then r.miss.length + 3 + (if r.sn = 0 then 0 else 2) else if r.st = 1 then 3 + (if r.sn = 0 then 0 else 2) else if r.st = 2 then 2 + (if r.sn = 0 then 0 else 2) else if r.st = 3 then 1 else 0
/-- The read, and the space of one reader; X: what the cells hold; J: all bits that it will have. -/
structure AInv (b : Int) (X : List Int) (J : Sg) (z : SSt) (r : Rd) : Prop where
  inv : RInv b z r
  gate : z.x.n = 0
  xs : z.xs = X
  hs : z.hs = [⟨1, 2, 1, 1, false, 0⟩]
  jo : r.sg.join r.bi = J
  va : 2 ≤ r.st → r.va = loadR X r.ce
  s3 : 3 ≤ r.st → r.sn = 0
  s4 : r.st = 4 → r.e = 0
theorem AInv.step {b : Int} {X : List Int} {J : Sg} {z : SSt} {r : Rd} (h : AInv b X J z r) (h4 : r.st ≠ 4) :
    AInv b X J (z.reads r) (r.next z) ∧ r.ans z = 1 ∧ rest (r.next z) + 1 = rest r := by
  obtain ⟨f1, f2, f3, f4⟩ := z.reads_frame r
  obtain ⟨n1, n2, n3, n4⟩ := r.next_frame z
  have h5 := h.inv.fit.st
  have hans : r.ans z = 1 := by
    unfold Rd.ans
    rw [if_neg h4, if_neg (fun x => x.2 (by rw [h.gate]; rfl))]
  have base : ∀ (jo : (r.next z).sg.join (r.next z).bi = J) (va : 2 ≤ (r.next z).st → (r.next z).va = loadR X (r.next z).ce) (s3 : 3 ≤ (r.next z).st → (r.next z).sn = 0) (s4 : (r.next z).st = 4 → (r.next z).e = 0), AInv b X J (z.reads r) (r.next z) :=
    fun jo va s3 s4 => ⟨h.inv.next, by rw [f2]; exact h.gate, by rw [f1]; exact h.xs, by rw [f3]; exact h.hs, jo, va, s3, s4⟩
  by_cases h0 : r.st = 0
  · have en : r.next z = r.pub := by unfold Rd.next; rw [if_pos h0]
    obtain ⟨_, p2, p3⟩ := Rd.pub_ways (h.inv.fit.pub h0)
    have est : r.pub.st = if r.pub.miss = [] then 1 else 0 := rfl
    have esn : r.pub.sn = r.sn := rfl
    refine ⟨base (by rw [en]; exact p2.trans h.jo) ?_ ?_ ?_, hans, ?_⟩
    · rw [en, est]; intro hx; split at hx <;> omega
    · rw [en, est]; intro hx; split at hx <;> omega
    · rw [en, est]; intro hx; split at hx <;> omega
    · rw [en]
      by_cases hm : r.pub.miss = []
      · rw [if_pos hm] at est
        have hl : r.miss.length = 1 := by rw [hm] at p3; simpa using p3.symm
        simp [rest, h0, est, esn, hl]
        omega
      · rw [if_neg hm] at est
        simp [rest, h0, est, esn]
        omega
  · by_cases h1 : r.st = 1
    · have en : r.next z = { r with va := loadR z.xs r.ce, st := 2 } := by unfold Rd.next; rw [if_neg h0, if_pos h1]
      refine ⟨base (by rw [en]; exact h.jo) (by rw [en]; intro _; rw [h.xs]) (by rw [en]; intro hx; simp at hx) (by rw [en]; intro hx; simp at hx), hans, ?_⟩
      rw [en]
      simp [rest, h1]
      omega
    · by_cases h2 : r.st = 2
      · by_cases hs : r.sn = 0
        · have en : r.next z = { r with st := 3 } := by unfold Rd.next; rw [if_neg h0, if_neg h1, if_pos h2, h.gate, if_pos (show (0 : Int) % 2 = 0 from rfl), if_pos hs.symm]
          refine ⟨base (by rw [en]; exact h.jo) (by rw [en]; intro _; exact h.va (by omega)) (by rw [en]; intro _; exact hs) (by rw [en]; intro hx; simp at hx), hans, ?_⟩
          rw [en]
          simp [rest, h2, hs]
        · have en : r.next z = { r with sn := 0, st := 1 } := by unfold Rd.next; rw [if_neg h0, if_neg h1, if_pos h2, h.gate, if_pos (show (0 : Int) % 2 = 0 from rfl), if_neg (fun x => hs x.symm)]
          refine ⟨base (by rw [en]; exact h.jo) (by rw [en]; intro hx; simp at hx) (by rw [en]; intro hx; simp at hx) (by rw [en]; intro hx; simp at hx), hans, ?_⟩
          rw [en]
          simp [rest, h2, hs]
      · have h3 : r.st = 3 := by omega
        have hfair : r.fair (nowAt z.hs r.sl) = true := by
          rw [h.hs, h.inv.sl]
          simp [Rd.fair, nowAt, headAt, h.inv.gn]
        have en : r.next z = { r with st := 4, e := 0 } := by unfold Rd.next; rw [if_neg h0, if_neg h1, if_neg h2, if_pos h3, hfair, if_pos rfl]
        refine ⟨base (by rw [en]; exact h.jo) (by rw [en]; intro _; exact h.va (by omega)) (by rw [en]; intro _; exact h.s3 (by omega)) (by rw [en]; intro _; rfl), hans, ?_⟩
        rw [en]
        simp [rest, h3]
theorem AInv.new {b : Int} {X : List Int} {z : SSt} {sg : Sg} {sn ce : Int} (hs : sg.ok) (hc : 0 ≤ ce ∧ ce < z.xs.length) (hw : z.ws = [(sg.lo : Int), (sg.hi : Int)]) (hg : z.x.n = 0) (hx : z.xs = X) (hh : z.hs = [⟨1, 2, 1, 1, false, 0⟩]) :
    AInv b X (sg.join (bitsOf b ce)) z (Rd.new 0 1 sn sg ce (bitsOf b ce)) ∧ rest (Rd.new 0 1 sn sg ce (bitsOf b ce)) = 3 + ((bitsOf b ce).minus sg).words.length + (if sn = 0 then 0 else 2) := by
  have est : (Rd.new 0 1 sn sg ce (bitsOf b ce)).st = if ((bitsOf b ce).minus sg).words = [] then 1 else 0 := rfl
  refine ⟨⟨RInv.new hs hc (by rw [hh]; rfl) hw, hg, hx, hh, rfl, ?_, ?_, ?_⟩, ?_⟩
  · rw [est]; intro hx; split at hx <;> omega
  · rw [est]; intro hx; split at hx <;> omega
  · rw [est]; intro hx; split at hx <;> omega
  · have esn : (Rd.new 0 1 sn sg ce (bitsOf b ce)).sn = sn := rfl
    have em : (Rd.new 0 1 sn sg ce (bitsOf b ce)).miss = ((bitsOf b ce).minus sg).words := rfl
    unfold rest
    rw [est, esn, em]
    by_cases hm : ((bitsOf b ce).minus sg).words = []
    · rw [if_pos hm, hm]
      simp
    · rw [if_neg hm]
      simp
      omega
theorem AInv.left_zero {b : Int} {X : List Int} {J : Sg} {z : SSt} {r : Rd} (h : AInv b X J z r) (h0 : rest r = 0) : r.st = 4 := by
  have h5 := h.inv.fit.st
  unfold rest at h0
  split at h0
  · omega
  · split at h0
    · omega
    · split at h0
      · omega
      · split at h0
        · omega
        · omega
/-- When it is done. -/
theorem AInv.done {b : Int} {X : List Int} {J : Sg} {z : SSt} {r : Rd} (h : AInv b X J z r) (h4 : r.st = 4) : r.valX = loadR X r.ce ∧ r.e = 0 ∧ r.sg = J ∧ r.sn = 0 := by
  have hm := Rd.miss_nil.1 (h.inv.full (by omega))
  refine ⟨?_, h.s4 h4, by rw [← hm]; exact h.jo, h.s3 (by omega)⟩
  unfold Rd.valX
  rw [if_pos (h.s4 h4)]
  exact h.va (by omega)
end Go.Proofs.Ytajfjkhbimehbaa

namespace Go.Proofs.Ytajfjkhbimehbaa
open Go.RowKit
set_option linter.unusedVariables false
set_option linter.unusedSimpArgs false
attribute [local go_sem ↓] Go.wp_at_zero Go.wp_at_succ exec_neFr run_neFr

theorem loadR_nat {xs : List Int} {k : Nat} (h : k < xs.length) : loadR xs (k : Int) = xs.getD k 0 := by
  unfold loadR cin
  rw [decide_eq_true (by omega : (0 : Int) ≤ (k : Int)), decide_eq_true (by omega : (k : Int) < (xs.length : Int))]
  simp
theorem fill_getD (n : Nat) (zs : List Int) (h : zs.length + 1 = n) (k : Nat) (hk : k < n) : (fillRow (List.replicate n 0) zs).getD k 0 = if k < zs.length then zs.getD k 0 else 0 := by
  unfold fillRow
  rw [if_neg (by simp; omega)]
  by_cases hz : k < zs.length
  · rw [if_pos hz]
    simp [List.getElem?_append_left hz]
  · rw [if_neg hz]
    rw [List.getD_eq_getElem?_getD, List.getElem?_append_right (by omega), List.getElem?_drop, List.getElem?_replicate]
    split <;> simp
theorem vField_slots (p q : Option Addr) (n m k l : Nat) (a b : Int) (w : World) : (Instr.field 54 (.agg #[.slice p n k, .int .i64 a, .int .i64 b, .slice q m l]) 2).run Try.prog w = .ok (.slice q m l) w := by kernel_rfl
theorem neSig (x y : Int) (w : World) : (binOp .neq 32 (.agg #[.int .u64 x, .int .u64 y]) (.agg #[.int .u64 x, .int .u64 y])).run Try.prog w = .ok (.bool false) w := eqSig x y w
theorem anyH_mono {P : Program} {md : Region.Mode} {ops : Array Oper} {Q : Exit → Act → World → Prop} {S S' : World → Prop} (hS : ∀ W, S W → S' W) : ∀ (fuel : Nat) (listed : Array Bool) (a : Act) (w : World), wpAnyH P md ops Q S fuel listed a w → wpAnyH P md ops Q S' fuel listed a w
  | 0, _, _, _, h => h
  | fuel + 1, _, _, _, h => ⟨h.1, fun i hi => wpOp_mono (fun a' w' h' => ⟨hS w' h'.1, anyH_mono hS fuel _ a' w' h'.2⟩) (h.2 i hi)⟩
attribute [local go_sem ↓] vField_slots eqSig
/-- What the law keeps between two reads. -/
def ARel (w : World) (n b : Int) (X : List Int) (A : Ad) (F : Nat) (k : Nat) (sn : Int) (sg : Sg) (wr : World) : Prop :=
  ∃ z v, z.ok (rdC n b) k ∧ z.ws = [(sg.lo : Int), (sg.hi : Int)] ∧ z.x.n = 0 ∧ z.xs = X ∧ z.hs = [⟨1, 2, 1, 1, false, 0⟩] ∧ sg.ok ∧ (sn = 0 ∨ sn = 1) ∧ St w [boxI F #[.int .i64 0, .int .i64 1, .int .i64 sn, .int .u64 sg.lo, .int .u64 sg.hi] 34, spI A (rdC n b) z v (.slice none 0 0)] wr

set_option maxRecDepth 100000 in
set_option maxHeartbeats 8000000 in
theorem alone_walk (bits_ : Int) (la : Option Addr) (ll lc : Nat) (zs : List Int) (ta : Option Addr) (tl tc : Nat) (ts : List Int) (w : World) (hL : NumsIn w la ll zs) (hll : ll ≤ 17592186044416) (hT : IntsIn w ta tl ts) :
    Calls Try.prog 3 #[.int .i64 bits_, .slice la ll lc, .slice ta tl tc] w fun e w' => e = .returned (.bool true) ∧ Kept (fun _ => False) w w' := by
  obtain ⟨b, hb, b1, b8⟩ : ∃ n : Int, 1 + bits .and .i64 bits_ 127 = n ∧ 1 ≤ n ∧ n ≤ 128 := ⟨1 + bits_ % 128, by rw [show bits .and .i64 bits_ 127 = bits_ % 128 from and_mask bits_ 7 (by decide)], by omega, by omega⟩
  obtain ⟨n, hn, n1, n8⟩ : ∃ n : Nat, 1 + bits .and .i64 (ll : Int) 255 = (n : Int) ∧ 1 ≤ n ∧ n ≤ 256 := ⟨(1 + (ll : Int) % 256).toNat, by rw [and255]; omega, by omega, by omega⟩
  have hfc : (rdC n b).fits = true := rdC_fits (by omega) ⟨b1, b8⟩
  have HL : Hid (NumsIn w la ll zs) := hL
  have HT : Hid (IntsIn w ta tl ts) := hT
  have hll' : (ll : Int) ≤ 17592186044416 := by omega
  have ll0 : (0 : Int) ≤ (ll : Int) := by omega
  clear hL hT
  go_enter Try.func3, Try.ntmps3
  go_wp2_with fail
  refine (up_any _).mono ?_
  rintro e w1 ⟨rfl, k1⟩
  have hq := reader_st ((St.nil w).calm k1) n b hfc
  clear k1
  have n0' : (0 : Int) ≤ (n : Int) := by omega
  have n8' : (n : Int) ≤ 256 := by omega
  go_wp2_with (first | simp only [hn] | simp only [hb])
  refine hq.mono ?_
  rintro e w2 ⟨A, v2, rfl, s2⟩
  clear hq
  unfold spp
  by_cases hbig : 255 < ll
  · as_aux_lemma =>
      have hb1 : (255 : Int) < (ll : Int) := by omega
      have HK : Hid (Kept (fun _ => False) w w2) := s2.same
      clear s2
      go_wp2
      go_ret
      exact ⟨rfl, HK.out⟩
  · have hb1 : ¬ (255 : Int) < (ll : Int) := by omega
    have HZL : Hid (zs.length = ll) := HL.out.1.symm
    have HNL : Hid (n = ll + 1) := by
      show n = ll + 1
      rw [and255] at hn
      omega
    have hN : NumsIn w2 la ll zs := HL.out.kept s2.same
    have hq := spFill s2 0 rfl (rdZ_ok hfc) (by omega) (lc := lc) hN hll
    unfold spp at hq
    clear s2 hN
    go_wp2_with fail
    refine hq.mono ?_
    rintro e w3 ⟨rfl, s3⟩
    clear hq
    have s4 := s3.box #[.int .i64 0, .int .i64 1, .int .i64 1, .int .u64 0, .int .u64 0] 34
    obtain ⟨X, HX⟩ : ∃ X, Hid (fillRow (List.replicate n 0) zs = X) := ⟨_, rfl⟩
    have H5 : Hid (ARel w n b X A w3.heap.size (3 + 8 * 0) 1 Sg.zero (w3.alloc (.cells #[.int .i64 0, .int .i64 1, .int .i64 1, .int .u64 0, .int .u64 0] 34))) := ⟨_, _, (rdZ_ok hfc).fill zs, rfl, rfl, by rw [← HX.out]; show fillRow (rdZ n b).xs zs = _; rw [rdZ_xs]; simp, rfl, Sg.ok_zero, .inr rfl, s4⟩
    clear s3 s4
    go_upto_region 9 with fail
    generalize w3.alloc (.cells #[.int .i64 0, .int .i64 1, .int .i64 1, .int .u64 0, .int .u64 0] 34) = w4 at *
    generalize w3.heap.size = F at *
    go_wp2_with fail
    go_loopw [13, 14, 15, 16, 17, 18, 19, 20, 21, 22, 23, 24] (fun a _ _ _ _ _ _ _ _ _ _ _ wr => ∃ (i : Nat) (sn : Int) (sg : Sg), a = .int .i64 i ∧ i ≤ tl ∧ i ≤ 300 ∧ ARel w n b X A F (3 + 8 * i) sn sg wr) (fun a _ _ _ _ _ _ _ _ _ _ _ _ => tl - (intOf a).toNat)
    case atStart => exact ⟨0, 1, Sg.zero, rfl, Nat.zero_le _, by omega, H5.out⟩
    case round =>
      clear H5
      obtain ⟨i, sn, sg, rfl, hi, hi3, z, v, ok, hws, hg, hx, hh, hsg, hsn, hS⟩ := hrel
      have hi0 : (0 : Int) ≤ (i : Int) := by omega
      by_cases hlt : i < tl ∧ i < 300
      · obtain ⟨hlt, hlt3⟩ := hlt
        have hi1 : (i : Int) < (tl : Int) := by omega
        have hi2 : (i : Int) < 300 := by omega
        obtain ⟨g, o, rfl, hgc⟩ := HT.out.2 (by omega)
        have ct := hS.same.cell (hgc i hlt) (fun f => f)
        clear hgc
        generalize ts.getD i 0 = t at ct
        obtain ⟨q, hq7, hq8⟩ : ∃ q : Nat, bits .and .i64 t 255 = (q : Int) ∧ q < 256 := ⟨(t % 256).toNat, by rw [and255]; omega, by omega⟩
        obtain ⟨c, hcq, hcn⟩ : ∃ a : Nat, (q : Int) % (n : Int) = (a : Int) ∧ a < n := ⟨q % n, (Int.natCast_emod q n).symm, Nat.mod_lt _ (by omega)⟩
        have c0 : (0 : Int) ≤ (c : Int) := by omega
        have c1 : (c : Int) < (n : Int) := by omega
        have q0 : (0 : Int) ≤ (q : Int) := by omega
        have nz : ¬ (n : Int) = 0 := by omega
        have s5 := hS.box #[.int .i64 c] 3
        have e0 : (wr.alloc (.cells #[.int .i64 c] 3)).cell? ⟨wr.heap.size, 0, none⟩ = some (.int .i64 c) := s5.cell 0 rfl 0
        have hof := of_any (some ⟨wr.heap.size, 0, none⟩) 1 1 [(c : Int)] b (wr.alloc (.cells #[.int .i64 c] 3)) ⟨rfl, fun _ => ⟨_, 0, rfl, fun j hj => by
          obtain rfl : j = 0 := by omega
          exact e0⟩⟩ (by omega)
        have hofE : (ofR [(c : Int)] b).2 = 0 := by
          have hE : hashE (c : Int) b = 0 := by
            unfold hashE
            rw [if_pos ⟨b1, b8⟩, if_pos ⟨c0, by omega⟩]
          unfold ofR ofGo
          rw [if_pos ⟨b1, b8⟩, if_pos hE]
          rfl
        rw [hofE] at hof
        have HXL : Hid (z.xs.length = n) := by
          have := ok.cl
          have hr : (rdC (n : Int) b).ce = n := rfl
          rw [hr] at this
          show _ = _
          omega
        obtain ⟨inv, hrest⟩ := AInv.new (b := b) (X := X) (sn := sn) (ce := c) hsg ⟨c0, by have := HXL.out; omega⟩ hws hg hx hh
        obtain ⟨B, HB⟩ : ∃ B, Hid (bitsOf b c = B) := ⟨_, rfl⟩
        have hbok : B.ok := by rw [← HB.out]; exact bitsOf_ok _ _
        have htou := fun W => touched_any sg B hsg hbok W
        have hnew := fun (its : List It) (W : World) (i : Nat) (hi : its[i]? = some (spI A (rdC n b) z v (.slice none 0 0))) (h : St w its W) => rdNew_st h i hi 0 1 sn sg c hsg ((inN_iff _ _).2 ⟨c0, c1⟩) rfl
        change Calls Try.prog 11 _ _ (fun e w' => e = .returned (.tuple #[(bitsOf b c).val, .int .i64 0]) ∧ _) at hof
        change ∀ (its : List It) (W : World) (i : Nat) (hi : its[i]? = some (spI A (rdC n b) z v (.slice none 0 0))) (h : St w its W), Calls Try.prog 13 #[spp A, .agg #[.int .i64 0, .int .i64 1, .int .i64 sn, .int .u64 sg.lo, .int .u64 sg.hi], .int .i64 c] W fun e w' => ∃ k, e = .returned (.tuple #[.pointer (some ⟨k, 0, none⟩), .int .i64 0]) ∧ St w (rdI k A.sp (Rd.new 0 1 sn sg c (bitsOf b c)) :: its) w' at hnew
        have HJ : Hid (sg.join (bitsOf b c) = sg.join B) := by show _ = _; rw [HB.out]
        rw [HB.out] at hof hnew inv hrest
        have hjoin := fun W => join_any sg B hsg hbok W
        have hjok : (sg.join B).ok := Sg.ok_join hsg hbok
        clear hofE HB HJ hws hg hx hh
        have hwl : (B.minus sg).words.length ≤ 2 := wordsBelow_le _ 2
        obtain ⟨g0, g1⟩ := sg
        obtain ⟨B0, B1⟩ := B
        simp only [Sg.val, spp] at *
        generalize (Sg.mk B0 B1).minus ⟨g0, g1⟩ = D at *
        generalize hJ : Sg.join ⟨g0, g1⟩ ⟨B0, B1⟩ = J at *
        clear hJ
        go_wp2_with (first | simp only [hcq] | fail)
        refine hof.mono ?_
        rintro e w6 ⟨rfl, k6⟩
        have s7 := (s5.calm k6).box #[.int .u64 B0, .int .u64 B1] 32
        clear hof s5 k6 e0 hS ct
        go_upto_region 14 with fail
        generalize w6.alloc (.cells #[.int .u64 B0, .int .u64 B1] 32) = w7 at *
        generalize w6.heap.size = O at *
        generalize wr.heap.size = P1 at *
        have d3 : w7.cell? ⟨F, 3, none⟩ = some (.int .u64 g0) := s7.cell 2 rfl 3
        have d4 : w7.cell? ⟨F, 4, none⟩ = some (.int .u64 g1) := s7.cell 2 rfl 4
        have o0 : w7.cell? ⟨O, 0, none⟩ = some (.int .u64 B0) := s7.cell 0 rfl 0
        have o1 : w7.cell? ⟨O, 1, none⟩ = some (.int .u64 B1) := s7.cell 0 rfl 1
        have HWL : Hid (D.words.length ≤ 2) := hwl
        have tw := htou w7
        generalize hDW : D.words = DW at *
        clear hDW hwl
        go_wp2_with fail
        refine tw.mono ?_
        rintro e w8 ⟨v8, rfl, ow8, k8⟩
        obtain ⟨a8, c8, rfl⟩ := own_form (w := w8) (t := 3) (z := 1) (v := v8) (n := DW.length) (xs := cellsOf DW) (own_zero ow8)
        have s8 := s7.calm k8
        clear tw htou ow8 k8 s7 d3 d4 o0 o1
        have d0 : w8.cell? ⟨F, 0, none⟩ = some (.int .i64 0) := s8.cell 2 rfl 0
        have d1 : w8.cell? ⟨F, 1, none⟩ = some (.int .i64 1) := s8.cell 2 rfl 1
        have d2 : w8.cell? ⟨F, 2, none⟩ = some (.int .i64 sn) := s8.cell 2 rfl 2
        have d3 : w8.cell? ⟨F, 3, none⟩ = some (.int .u64 g0) := s8.cell 2 rfl 3
        have d4 : w8.cell? ⟨F, 4, none⟩ = some (.int .u64 g1) := s8.cell 2 rfl 4
        have hnw := hnew _ _ 3 rfl s8
        have DL0 : (0 : Int) ≤ (DW.length : Int) := by omega
        have DL1 : (DW.length : Int) ≤ 2 := by have := HWL.out; omega
        obtain ⟨WN, hWN, HWN⟩ : ∃ WN : Nat, (if sn = 1 then (3 : Int) + (DW.length : Int) + 2 else 3 + (DW.length : Int)) = (WN : Int) ∧ Hid (rest (Rd.new 0 1 sn ⟨g0, g1⟩ c ⟨B0, B1⟩) = WN ∧ WN ≤ 7) := by
          rcases hsn with rfl | rfl
          · refine ⟨3 + DW.length, by simp, ?_, by have := HWL.out; omega⟩
            rw [hrest]; simp
          · refine ⟨3 + DW.length + 2, by simp, ?_, by have := HWL.out; omega⟩
            rw [hrest]; simp
        have HINV : Hid (AInv b X J z (Rd.new 0 1 sn ⟨g0, g1⟩ c ⟨B0, B1⟩)) := inv
        have HOK : Hid (z.ok (rdC n b) (3 + 8 * i)) := ok
        clear s8 hnew hrest inv ok
        have hWN0 : (0 : Int) ≤ (WN : Int) := by omega
        have hWN7 : (WN : Int) ≤ 7 := by have := HWN.out.2; omega
        go_upto_if 90 with fail
        go_cut [17] from 58 to 167 (fun x W => x = .int .i64 (WN : Int) ∧ W = w8)
        case first =>
          rcases hsn with rfl | rfl
          · rw [if_neg (by decide)] at hWN
            go_wp2
            go_meet
            exact ⟨by rw [← hWN], rfl⟩
          · rw [if_pos rfl] at hWN
            go_wp2
            go_meet
            exact ⟨by rw [← hWN], rfl⟩
        case rest =>
          obtain ⟨rfl, rfl⟩ := hcut
          clear hWN
          go_wp2_with fail
          refine hnw.mono ?_
          rintro e w9 ⟨K, rfl, s9⟩
          clear hnw d0 d1 d2 d3 d4
          go_wp2_with fail
          have H9 : Hid (∃ z r v, AInv b X J z r ∧ r.ce = c ∧ z.ok (rdC n b) (3 + 8 * i + 0) ∧ rest r + 0 = WN ∧ St w [rdI K A.sp r, boxI O #[.int .u64 B0, .int .u64 B1] 32, boxI P1 #[.int .i64 c] 3, boxI F #[.int .i64 0, .int .i64 1, .int .i64 sn, .int .u64 g0, .int .u64 g1] 34, spI A (rdC n b) z v (.slice none 0 0)] w9) := ⟨_, _, _, HINV.out, rfl, HOK.out, HWN.out.1, s9⟩
          have HW7 : Hid (WN ≤ 7) := HWN.out.2
          clear s9 HINV HOK HWN
          go_loopw [20] (fun a wr => ∃ k : Nat, a = .int .i64 k ∧ Hid (∃ z r v, AInv b X J z r ∧ r.ce = c ∧ z.ok (rdC n b) (3 + 8 * i + k) ∧ rest r + k = WN ∧ St w [rdI K A.sp r, boxI O #[.int .u64 B0, .int .u64 B1] 32, boxI P1 #[.int .i64 c] 3, boxI F #[.int .i64 0, .int .i64 1, .int .i64 sn, .int .u64 g0, .int .u64 g1] 34, spI A (rdC n b) z v (.slice none 0 0)] wr)) (fun a _ => WN - (intOf a).toNat)
          case atStart => exact ⟨0, rfl, H9⟩
          case round =>
            clear H9
            obtain ⟨k, rfl, HZ⟩ := hrel
            obtain ⟨z, r, v, inv, hce, ok, hre, hS⟩ := HZ.out
            clear HZ
            have hd := rdDone hS 0 rfl inv.inv.fit.st
            have k0 : (0 : Int) ≤ (k : Int) := by omega
            by_cases h4 : r.st = 4
            · have hr0 : rest r = 0 := by simp [rest, h4]
              have hk : ¬ (k : Int) < (WN : Int) := by omega
              have HKW : Hid (k ≤ 7) := by show k ≤ 7; have := HW7.out; omega
              clear hre hr0
              rw [show (r.st == 4) = true from by simpa using h4] at hd
              obtain ⟨v1, v2, v3, v4⟩ := inv.done h4
              have hv := rdValue hS 0 rfl
              rw [v1, v2, hce] at hv
              have hzx : z.xs = X := inv.xs
              have HV : Hid (loadR X (c : Int) = if c < ll then zs.getD c 0 else 0) := by
                have hXl : X.length = n := by rw [← HX.out, fillRow_length]; simp
                show _ = _
                rw [loadR_nat (by rw [hXl]; exact hcn), ← HX.out]
                have := HZL.out
                rw [fill_getD n zs (by rw [this]; exact HNL.out.symm) c hcn, this]
              have hfr : r.fromV = .agg #[.int .i64 0, .int .i64 1, .int .i64 0, .int .u64 J.lo, .int .u64 J.hi] := by
                unfold Rd.fromV
                rw [inv.inv.sl, inv.inv.gn, v4, v3]
              have HWS : Hid (z.ws = [(J.lo : Int), (J.hi : Int)] ∧ z.x.n = 0 ∧ z.xs = X ∧ z.hs = [⟨1, 2, 1, 1, false, 0⟩]) := ⟨by rw [inv.inv.ws, v3], inv.gate, inv.xs, inv.hs⟩
              have HFT : Hid (r.st ≤ 4) := inv.inv.fit.st
              have HOK : Hid (z.ok (rdC n b) (3 + 8 * i + k)) := ok
              have H4 : Hid (r.st = 4) := h4
              have H0S : Hid (St w [rdI K A.sp r, boxI O #[.int .u64 B0, .int .u64 B1] 32, boxI P1 #[.int .i64 c] 3, boxI F #[.int .i64 0, .int .i64 1, .int .i64 sn, .int .u64 g0, .int .u64 g1] 34, spI A (rdC n b) z v (.slice none 0 0)] wr) := hS
              generalize hLV : loadR X (c : Int) = LV at *
              clear hLV inv ok hzx v1 v2 v3 v4 h4 hce hS
              obtain ⟨J0, J1⟩ := J
              simp only at hfr HWS hjoin
              go_wp2_with (go_at_call 14; refine hd.mono ?_; rintro e wq ⟨rfl, rfl⟩)
              refine hv.mono ?_
              rintro e w10 ⟨rfl, q9, rfl⟩
              have h10 : St w [rdI K A.sp r, boxI O #[.int .u64 B0, .int .u64 B1] 32, boxI P1 #[.int .i64 c] 3, boxI F #[.int .i64 0, .int .i64 1, .int .i64 sn, .int .u64 g0, .int .u64 g1] 34, spI A (rdC n b) z v (.slice none 0 0)] (wr.drewN q9) := H0S.out.calm ((Kept.refl _ wr).drewN q9)
              clear hv hd H0S
              generalize wr.drewN q9 = w10 at *
              have hcell : c < ll → ∃ g o, la = some ⟨g, o, none⟩ ∧ w10.cell? ⟨g, o + c, none⟩ = some (.int .i64 (zs.getD c 0)) := fun hlc => by
                obtain ⟨g, o, e, hc⟩ := HL.out.2 (by omega)
                exact ⟨g, o, e, h10.same.cell (hc c hlc) (fun f => f)⟩
              have HCL : Hid (c < ll → ∃ g o, la = some ⟨g, o, none⟩ ∧ w10.cell? ⟨g, o + c, none⟩ = some (.int .i64 (zs.getD c 0))) := hcell
              have H10 : Hid (St w [rdI K A.sp r, boxI O #[.int .u64 B0, .int .u64 B1] 32, boxI P1 #[.int .i64 c] 3, boxI F #[.int .i64 0, .int .i64 1, .int .i64 sn, .int .u64 g0, .int .u64 g1] 34, spI A (rdC n b) z v (.slice none 0 0)] w10) := h10
              clear hcell h10
              go_upto_if 130 with fail
              go_cut [23] from 58 to 167 (fun x W => x = .int .i64 LV ∧ W = w10)
              case first =>
                by_cases hlc : c < ll
                · obtain ⟨g', o', rfl, hc'⟩ := HCL.out hlc
                  have hlc' : (c : Int) < (ll : Int) := by omega
                  have hv2 : LV = zs.getD c 0 := by have := HV.out; rw [if_pos hlc] at this; exact this
                  rw [← hv2] at hc'
                  clear hv2
                  go_wp2
                  go_meet
                  exact ⟨rfl, rfl⟩
                · have hlc' : ¬ (c : Int) < (ll : Int) := by omega
                  have HV2 : Hid (LV = 0) := by have := HV.out; rw [if_neg hlc] at this; exact this
                  go_wp2
                  go_meet
                  exact ⟨by rw [HV2.out], rfl⟩
              case rest =>
                obtain ⟨rfl, rfl⟩ := hcut
                clear HCL
                have hd2 := rdDone H10.out 0 rfl HFT.out
                rw [show (r.st == 4) = true from by simpa using H4.out] at hd2
                have hfrm := rdFrom H10.out 0 rfl
                rw [hfr] at hfrm
                have hvv : (LV != LV) = false := by simp
                clear H10
                go_wp2_with (go_at_call 14; refine hd2.mono ?_; rintro e wq ⟨rfl, rfl⟩)
                refine hfrm.mono ?_
                rintro e w11 ⟨rfl, h11⟩
                have h12 := h11.box #[.int .i64 0, .int .i64 1, .int .i64 0, .int .u64 J0, .int .u64 J1] 34
                clear hfrm hd2 h11
                go_upto_region 32 with fail
                generalize w11.alloc (.cells #[.int .i64 0, .int .i64 1, .int .i64 0, .int .u64 J0, .int .u64 J1] 34) = w12 at *
                generalize w11.heap.size = Y at *
                have HSF : Hid (∀ W, St w (boxI Y #[.int .i64 0, .int .i64 1, .int .i64 0, .int .u64 J0, .int .u64 J1] 34 :: [rdI K A.sp r, boxI O #[.int .u64 B0, .int .u64 B1] 32, boxI P1 #[.int .i64 c] 3, boxI F #[.int .i64 0, .int .i64 1, .int .i64 sn, .int .u64 g0, .int .u64 g1] 34, spI A (rdC n b) z v (.slice none 0 0)]) W → W.cell? ⟨Y, 0, none⟩ = some (.int .i64 0) ∧ W.cell? ⟨Y, 1, none⟩ = some (.int .i64 1) ∧ W.cell? ⟨Y, 2, none⟩ = some (.int .i64 0) ∧ W.cell? ⟨Y, 3, none⟩ = some (.int .u64 J0) ∧ W.cell? ⟨Y, 4, none⟩ = some (.int .u64 J1) ∧ W.cell? ⟨F, 3, none⟩ = some (.int .u64 g0) ∧ W.cell? ⟨F, 4, none⟩ = some (.int .u64 g1) ∧ W.cell? ⟨O, 0, none⟩ = some (.int .u64 B0) ∧ W.cell? ⟨O, 1, none⟩ = some (.int .u64 B1)) := fun W h => ⟨h.cell 0 rfl 0, h.cell 0 rfl 1, h.cell 0 rfl 2, h.cell 0 rfl 3, h.cell 0 rfl 4, h.cell 4 rfl 3, h.cell 4 rfl 4, h.cell 2 rfl 0, h.cell 2 rfl 1⟩
                obtain ⟨y0, y1, y2, y3, y4, y5, y6, y7, y8⟩ := HSF.out _ h12
                have hjn : Calls Try.prog 18 #[.agg #[.int .u64 g0, .int .u64 g1], .agg #[.int .u64 B0, .int .u64 B1]] w12.drew fun e W => e = .returned (.agg #[.int .u64 J0, .int .u64 J1]) ∧ (W.cell? ⟨Y, 0, none⟩ = some (.int .i64 0) ∧ W.cell? ⟨Y, 1, none⟩ = some (.int .i64 1) ∧ W.cell? ⟨Y, 2, none⟩ = some (.int .i64 0) ∧ W.cell? ⟨Y, 3, none⟩ = some (.int .u64 J0) ∧ W.cell? ⟨Y, 4, none⟩ = some (.int .u64 J1) ∧ W.cell? ⟨F, 3, none⟩ = some (.int .u64 g0) ∧ W.cell? ⟨F, 4, none⟩ = some (.int .u64 g1) ∧ W.cell? ⟨O, 0, none⟩ = some (.int .u64 B0) ∧ W.cell? ⟨O, 1, none⟩ = some (.int .u64 B1)) ∧ Hid (St w (boxI Y #[.int .i64 0, .int .i64 1, .int .i64 0, .int .u64 J0, .int .u64 J1] 34 :: [rdI K A.sp r, boxI O #[.int .u64 B0, .int .u64 B1] 32, boxI P1 #[.int .i64 c] 3, boxI F #[.int .i64 0, .int .i64 1, .int .i64 sn, .int .u64 g0, .int .u64 g1] 34, spI A (rdC n b) z v (.slice none 0 0)]) W) := by
                  refine (hjoin w12.drew).mono ?_
                  rintro e w' ⟨he, hk'⟩
                  have h' := h12.drew.calm hk'
                  exact ⟨he, HSF.out _ h', h'⟩
                have hvw : ∀ W0, Hid (St w (boxI Y #[.int .i64 0, .int .i64 1, .int .i64 0, .int .u64 J0, .int .u64 J1] 34 :: [rdI K A.sp r, boxI O #[.int .u64 B0, .int .u64 B1] 32, boxI P1 #[.int .i64 c] 3, boxI F #[.int .i64 0, .int .i64 1, .int .i64 sn, .int .u64 g0, .int .u64 g1] 34, spI A (rdC n b) z v (.slice none 0 0)]) W0) → Calls Try.prog 19 #[.pointer (some ⟨A.sp, 0, none⟩)] W0 fun e W => ∃ pa na ca p cap, e = .returned (.agg #[.slice pa na ca, .int .i64 z.x.n, .int .i64 z.x.o, .slice (some ⟨p, 0, none⟩) 1 cap]) ∧ (W.cell? ⟨Y, 0, none⟩ = some (.int .i64 0) ∧ W.cell? ⟨Y, 1, none⟩ = some (.int .i64 1) ∧ W.cell? ⟨Y, 2, none⟩ = some (.int .i64 0) ∧ W.cell? ⟨Y, 3, none⟩ = some (.int .u64 J0) ∧ W.cell? ⟨Y, 4, none⟩ = some (.int .u64 J1) ∧ W.cell? ⟨F, 3, none⟩ = some (.int .u64 g0) ∧ W.cell? ⟨F, 4, none⟩ = some (.int .u64 g1) ∧ W.cell? ⟨O, 0, none⟩ = some (.int .u64 B0) ∧ W.cell? ⟨O, 1, none⟩ = some (.int .u64 B1)) ∧ W.cell? ⟨p, 6, none⟩ = some (.int .u64 J0) ∧ W.cell? ⟨p, 7, none⟩ = some (.int .u64 J1) ∧ Hid (St w (boxI Y #[.int .i64 0, .int .i64 1, .int .i64 0, .int .u64 J0, .int .u64 J1] 34 :: [rdI K A.sp r, boxI O #[.int .u64 B0, .int .u64 B1] 32, boxI P1 #[.int .i64 c] 3, boxI F #[.int .i64 0, .int .i64 1, .int .i64 sn, .int .u64 g0, .int .u64 g1] 34, spI A (rdC n b) z v (.slice none 0 0)]) W) := by
                  intro W0 hW
                  refine (spView hW.out 5 rfl HOK.out.wl HOK.out.h1 HOK.out.h8).mono ?_
                  rintro e w' ⟨va, vs, he, h'⟩
                  rw [HWS.out.1, HWS.out.2.2.2] at h'
                  obtain ⟨pa, ca, rfl⟩ := own_form (h'.get 0 rfl)
                  obtain ⟨p, cap, rfl⟩ := h'.form 1 rfl (by simp)
                  exact ⟨pa, _, ca, p, cap, he, HSF.out _ h'.pop.pop, h'.ownCell 1 rfl 6 (by simp), h'.ownCell 1 rfl 7 (by simp), h'.pop.pop⟩
                have hVF := vField_slots
                have hSg := eqSig J0 J1
                clear hjoin h12
                generalize z.x.n = zxn at hvw
                generalize z.x.o = zxo at hvw
                refine wp_region_held_drew (S := fun W => W.cell? ⟨Y, 0, none⟩ = some (.int .i64 0) ∧ W.cell? ⟨Y, 1, none⟩ = some (.int .i64 1) ∧ W.cell? ⟨Y, 2, none⟩ = some (.int .i64 0) ∧ W.cell? ⟨Y, 3, none⟩ = some (.int .u64 J0) ∧ W.cell? ⟨Y, 4, none⟩ = some (.int .u64 J1) ∧ W.cell? ⟨F, 3, none⟩ = some (.int .u64 g0) ∧ W.cell? ⟨F, 4, none⟩ = some (.int .u64 g1) ∧ W.cell? ⟨O, 0, none⟩ = some (.int .u64 B0) ∧ W.cell? ⟨O, 1, none⟩ = some (.int .u64 B1)) (by kernel_rfl) ⟨y0, y1, y2, y3, y4, y5, y6, y7, y8⟩ (fun hHeld => ?_)
                refine wpAnyH_take (i := 0) (oi := { dst := some 149, op := Op.load 34 (Operand.tmp 24), type := 34, pos := "law.go:203", after := #[], guard := none }) (v := ?v0) rfl (by kernel_rfl) (by kernel_rfl) (by kernel_rfl) (fun _ _ _ h => h) (Or.inl ⟨by rfl, ?hy0⟩) (by assumption) ?_
                case hy0 => (intro W hSw; (try dsimp only at hSw); go_simp; (try with_reducible rfl))
                try simp only [Act.put, List.setIfInBounds_toArray, List.set_cons_zero, List.set_cons_succ]
                refine wpAnyH_take (i := 1) (oi := { dst := some 150, op := Op.fieldAddr 34 (Operand.tmp 12) 3, type := 0, pos := "law.go:203", after := #[], guard := none }) (v := ?v1) rfl (by kernel_rfl) (by kernel_rfl) (by kernel_rfl) (fun _ _ _ h => h) (Or.inl ⟨by rfl, ?hy1⟩) (by assumption) ?_
                case hy1 => (intro W hSw; (try dsimp only at hSw); go_simp; (try with_reducible rfl))
                try simp only [Act.put, List.setIfInBounds_toArray, List.set_cons_zero, List.set_cons_succ]
                refine wpAnyH_take (i := 2) (oi := { dst := some 151, op := Op.load 32 (Operand.tmp 150), type := 32, pos := "law.go:203", after := #[{ on := 1, ground := Ground.data }], guard := none }) (v := ?v2) rfl (by kernel_rfl) (by kernel_rfl) (by kernel_rfl) (fun _ _ _ h => h) (Or.inl ⟨by rfl, ?hy2⟩) (by assumption) ?_
                case hy2 => (intro W hSw; (try dsimp only at hSw); go_simp; (try with_reducible rfl))
                try simp only [Act.put, List.setIfInBounds_toArray, List.set_cons_zero, List.set_cons_succ]
                refine wpAnyH_take (i := 3) (oi := { dst := some 152, op := Op.load 32 (Operand.tmp 15), type := 32, pos := "law.go:203", after := #[], guard := none }) (v := ?v3) rfl (by kernel_rfl) (by kernel_rfl) (by kernel_rfl) (fun _ _ _ h => h) (Or.inl ⟨by rfl, ?hy3⟩) (by assumption) ?_
                case hy3 => (intro W hSw; (try dsimp only at hSw); go_simp; (try with_reducible rfl))
                try simp only [Act.put, List.setIfInBounds_toArray, List.set_cons_zero, List.set_cons_succ]
                refine wpAnyH_ready (rs := [4]) (by kernel_rfl) (by simp) ?_
                refine AllReadyH.cons (o := { dst := some 153, op := Op.call { callee := Callee.value (Operand.func 18), args := #[Operand.tmp 151, Operand.tmp 152], argTypes := #[32, 32] }, type := 32, pos := "law.go:203", after := #[{ on := 2, ground := Ground.data }, { on := 3, ground := Ground.data }], guard := none }) rfl (fun K hK => ?_) AllReadyH.nil
                go_simp
                refine hjn.mono ?_
                rintro e w13 ⟨rfl, rS, H13⟩
                go_wp2_with fail
                refine hK.out _ _ rS (fun hHeld => ?_)
                clear hK K
                try simp only [Act.put, List.setIfInBounds_toArray, List.set_cons_zero, List.set_cons_succ]
                refine wpAnyH_take (i := 5) (oi := { dst := some 154, op := Op.build 34 #[(1, Operand.const (Value.int IntKind.i64 1)), (3, Operand.tmp 153)], type := 34, pos := "law.go:203", after := #[{ on := 4, ground := Ground.data }], guard := none }) (v := ?v5) rfl (by kernel_rfl) (by kernel_rfl) (by kernel_rfl) (fun _ _ _ h => h) (Or.inl ⟨by rfl, ?hy5⟩) (by assumption) ?_
                case hy5 => (intro W hSw; (try dsimp only at hSw); go_simp; (try with_reducible rfl))
                try simp only [Act.put, List.setIfInBounds_toArray, List.set_cons_zero, List.set_cons_succ]
                refine wpAnyH_take (i := 6) (oi := { dst := some 155, op := Op.binOp BinOp.neq 34 (Operand.tmp 149) (Operand.tmp 154) 34, type := 4, pos := "law.go:203", after := #[{ on := 0, ground := Ground.data }, { on := 5, ground := Ground.data }], guard := none }) (v := ?v6) rfl (by kernel_rfl) (by kernel_rfl) (by kernel_rfl) (fun _ _ _ h => h) (Or.inl ⟨by rfl, ?hy6⟩) (by assumption) ?_
                case hy6 => (intro W hSw; (try dsimp only at hSw); go_simp; (try with_reducible rfl))
                try simp only [Act.put, List.setIfInBounds_toArray, List.set_cons_zero, List.set_cons_succ]
                refine wpAnyH_take (i := 7) (oi := { dst := some 156, op := Op.move (Operand.tmp 155), type := 4, pos := "law.go:203", after := #[{ on := 6, ground := Ground.data }, { on := 4, ground := Ground.chain }], guard := none }) (v := ?v7) rfl (by kernel_rfl) (by kernel_rfl) (by kernel_rfl) (fun _ _ _ h => h) (Or.inl ⟨by rfl, ?hy7⟩) (by assumption) ?_
                case hy7 => (intro W hSw; (try dsimp only at hSw); go_simp; (try with_reducible rfl))
                try simp only [Act.put, List.setIfInBounds_toArray, List.set_cons_zero, List.set_cons_succ]
                refine wpAnyH_take (i := 8) (oi := { dst := some 157, op := Op.move (Operand.tmp 10), type := 25, pos := "law.go:203", after := #[{ on := 7, ground := Ground.guard }], guard := some (7, false) }) (v := ?v8) rfl (by kernel_rfl) (by kernel_rfl) (by kernel_rfl) (fun _ _ _ h => h) (Or.inl ⟨by rfl, ?hy8⟩) (by assumption) ?_
                case hy8 => (intro W hSw; (try dsimp only at hSw); go_simp; (try with_reducible rfl))
                try simp only [Act.put, List.setIfInBounds_toArray, List.set_cons_zero, List.set_cons_succ]
                refine wpAnyH_take (i := 14) (oi := { dst := some 163, op := Op.fieldAddr 34 (Operand.tmp 24) 3, type := 0, pos := "law.go:203", after := #[{ on := 7, ground := Ground.guard }], guard := some (7, false) }) (v := ?v14) rfl (by kernel_rfl) (by kernel_rfl) (by kernel_rfl) (fun _ _ _ h => h) (Or.inl ⟨by rfl, ?hy14⟩) (by assumption) ?_
                case hy14 => (intro W hSw; (try dsimp only at hSw); go_simp; (try with_reducible rfl))
                try simp only [Act.put, List.setIfInBounds_toArray, List.set_cons_zero, List.set_cons_succ]
                refine wpAnyH_take (i := 15) (oi := { dst := some 164, op := Op.load 32 (Operand.tmp 163), type := 32, pos := "law.go:203", after := #[{ on := 14, ground := Ground.data }, { on := 7, ground := Ground.guard }], guard := some (7, false) }) (v := ?v15) rfl (by kernel_rfl) (by kernel_rfl) (by kernel_rfl) (fun _ _ _ h => h) (Or.inl ⟨by rfl, ?hy15⟩) (by assumption) ?_
                case hy15 => (intro W hSw; (try dsimp only at hSw); go_simp; (try with_reducible rfl))
                try simp only [Act.put, List.setIfInBounds_toArray, List.set_cons_zero, List.set_cons_succ]
                refine wpAnyH_ready (rs := [9]) (by kernel_rfl) (by simp) ?_
                refine AllReadyH.cons (o := { dst := some 158, op := Op.call { callee := Callee.value (Operand.func 19), args := #[Operand.tmp 157], argTypes := #[25] }, type := 54, pos := "law.go:203", after := #[{ on := 8, ground := Ground.data }, { on := 7, ground := Ground.chain }, { on := 7, ground := Ground.guard }], guard := some (7, false) }) rfl (fun K hK => ?_) AllReadyH.nil
                go_simp
                refine (hvw _ H13).mono ?_
                rintro e w14 ⟨pa, na, ca, p, cap, rfl, rS2, l6, l7, H14⟩
                go_wp2_with fail
                refine hK.out _ _ rS2 (fun hHeld => ?_)
                clear hK K
                try simp only [Act.put, List.setIfInBounds_toArray, List.set_cons_zero, List.set_cons_succ]
                refine anyH_mono (S := fun W => W.cell? ⟨Y, 0, none⟩ = some (.int .i64 0) ∧ W.cell? ⟨Y, 1, none⟩ = some (.int .i64 1) ∧ W.cell? ⟨Y, 2, none⟩ = some (.int .i64 0) ∧ W.cell? ⟨Y, 3, none⟩ = some (.int .u64 J0) ∧ W.cell? ⟨Y, 4, none⟩ = some (.int .u64 J1) ∧ W.cell? ⟨F, 3, none⟩ = some (.int .u64 g0) ∧ W.cell? ⟨F, 4, none⟩ = some (.int .u64 g1) ∧ W.cell? ⟨O, 0, none⟩ = some (.int .u64 B0) ∧ W.cell? ⟨O, 1, none⟩ = some (.int .u64 B1) ∧ W.cell? ⟨p, 6, none⟩ = some (.int .u64 J0) ∧ W.cell? ⟨p, 7, none⟩ = some (.int .u64 J1)) (fun W h => ⟨h.1, h.2.1, h.2.2.1, h.2.2.2.1, h.2.2.2.2.1, h.2.2.2.2.2.1, h.2.2.2.2.2.2.1, h.2.2.2.2.2.2.2.1, h.2.2.2.2.2.2.2.2.1⟩) _ _ _ _ ?_
                have hHeld2 : w14.cell? ⟨Y, 0, none⟩ = some (.int .i64 0) ∧ w14.cell? ⟨Y, 1, none⟩ = some (.int .i64 1) ∧ w14.cell? ⟨Y, 2, none⟩ = some (.int .i64 0) ∧ w14.cell? ⟨Y, 3, none⟩ = some (.int .u64 J0) ∧ w14.cell? ⟨Y, 4, none⟩ = some (.int .u64 J1) ∧ w14.cell? ⟨F, 3, none⟩ = some (.int .u64 g0) ∧ w14.cell? ⟨F, 4, none⟩ = some (.int .u64 g1) ∧ w14.cell? ⟨O, 0, none⟩ = some (.int .u64 B0) ∧ w14.cell? ⟨O, 1, none⟩ = some (.int .u64 B1) ∧ w14.cell? ⟨p, 6, none⟩ = some (.int .u64 J0) ∧ w14.cell? ⟨p, 7, none⟩ = some (.int .u64 J1) := ⟨rS2.1, rS2.2.1, rS2.2.2.1, rS2.2.2.2.1, rS2.2.2.2.2.1, rS2.2.2.2.2.2.1, rS2.2.2.2.2.2.2.1, rS2.2.2.2.2.2.2.2.1, rS2.2.2.2.2.2.2.2.2, l6, l7⟩
                clear hHeld
                refine wpAnyH_take (i := 10) (oi := { dst := some 159, op := Op.field 54 (Operand.tmp 158) 2, type := 52, pos := "law.go:203", after := #[{ on := 9, ground := Ground.data }, { on := 7, ground := Ground.guard }], guard := some (7, false) }) (v := ?v10) rfl (by kernel_rfl) (by kernel_rfl) (by kernel_rfl) (fun _ _ _ h => h) (Or.inl ⟨by rfl, ?hy10⟩) (by assumption) ?_
                case hy10 => (intro W hSw; (try dsimp only at hSw); go_simp; (try with_reducible rfl))
                try simp only [Act.put, List.setIfInBounds_toArray, List.set_cons_zero, List.set_cons_succ]
                refine wpAnyH_take (i := 11) (oi := { dst := some 160, op := Op.indexAddr 52 (Operand.tmp 159) (Operand.const (Value.int IntKind.i64 0)), type := 0, pos := "law.go:203", after := #[{ on := 10, ground := Ground.data }, { on := 7, ground := Ground.guard }], guard := some (7, false) }) (v := ?v11) rfl (by kernel_rfl) (by kernel_rfl) (by kernel_rfl) (fun _ _ _ h => h) (Or.inl ⟨by rfl, ?hy11⟩) (by assumption) ?_
                case hy11 => (intro W hSw; (try dsimp only at hSw); go_simp; (try with_reducible rfl))
                try simp only [Act.put, List.setIfInBounds_toArray, List.set_cons_zero, List.set_cons_succ]
                refine wpAnyH_take (i := 12) (oi := { dst := some 161, op := Op.fieldAddr 49 (Operand.tmp 160) 1, type := 0, pos := "law.go:203", after := #[{ on := 11, ground := Ground.data }, { on := 7, ground := Ground.guard }], guard := some (7, false) }) (v := ?v12) rfl (by kernel_rfl) (by kernel_rfl) (by kernel_rfl) (fun _ _ _ h => h) (Or.inl ⟨by rfl, ?hy12⟩) (by assumption) ?_
                case hy12 => (intro W hSw; (try dsimp only at hSw); go_simp; (try with_reducible rfl))
                try simp only [Act.put, List.setIfInBounds_toArray, List.set_cons_zero, List.set_cons_succ]
                refine wpAnyH_take (i := 13) (oi := { dst := some 162, op := Op.load 32 (Operand.tmp 161), type := 32, pos := "law.go:203", after := #[{ on := 12, ground := Ground.data }, { on := 7, ground := Ground.guard }], guard := some (7, false) }) (v := ?v13) rfl (by kernel_rfl) (by kernel_rfl) (by kernel_rfl) (fun _ _ _ h => h) (Or.inl ⟨by rfl, ?hy13⟩) (by assumption) ?_
                case hy13 => (intro W hSw; (try dsimp only at hSw); go_simp; (try with_reducible rfl))
                try simp only [Act.put, List.setIfInBounds_toArray, List.set_cons_zero, List.set_cons_succ]
                refine wpAnyH_take (i := 16) (oi := { dst := some 165, op := Op.binOp BinOp.neq 32 (Operand.tmp 162) (Operand.tmp 164) 32, type := 4, pos := "law.go:203", after := #[{ on := 13, ground := Ground.data }, { on := 15, ground := Ground.data }, { on := 7, ground := Ground.guard }], guard := some (7, false) }) (v := ?v16) rfl (by kernel_rfl) (by kernel_rfl) (by kernel_rfl) (fun _ _ _ h => h) (Or.inl ⟨by rfl, ?hy16⟩) (by assumption) ?_
                case hy16 => (intro W hSw; (try dsimp only at hSw); go_simp; (try with_reducible rfl))
                try simp only [Act.put, List.setIfInBounds_toArray, List.set_cons_zero, List.set_cons_succ]
                refine wpAnyH_take (i := 17) (oi := { dst := some 166, op := Op.pick (Operand.tmp 156) (Operand.const (Value.bool true)) (Operand.tmp 165), type := 4, pos := "law.go:203", after := #[{ on := 7, ground := Ground.data }, { on := 16, ground := Ground.data }], guard := none }) (v := ?v17) rfl (by kernel_rfl) (by kernel_rfl) (by kernel_rfl) (fun _ _ _ h => h) (Or.inl ⟨by rfl, ?hy17⟩) (by assumption) ?_
                case hy17 => (intro W hSw; (try dsimp only at hSw); go_simp; (try with_reducible rfl))
                try simp only [Act.put, List.setIfInBounds_toArray, List.set_cons_zero, List.set_cons_succ]
                refine wpAnyH_done (by kernel_rfl) ?_ _
                clear hjn hvw hVF hSg l6 l7 y0 y1 y2 y3 y4 y5 y6 y7 y8 rS rS2 hHeld2
                obtain ⟨y0, y1, y2, y3, y4, -, -, -, -⟩ := HSF.out _ H14.out
                have f0 : w14.cell? ⟨F, 0, none⟩ = some (.int .i64 0) := H14.out.cell 4 rfl 0
                have f1 : w14.cell? ⟨F, 1, none⟩ = some (.int .i64 1) := H14.out.cell 4 rfl 1
                have f2 : w14.cell? ⟨F, 2, none⟩ = some (.int .i64 sn) := H14.out.cell 4 rfl 2
                have f3 : w14.cell? ⟨F, 3, none⟩ = some (.int .u64 g0) := H14.out.cell 4 rfl 3
                have f4 : w14.cell? ⟨F, 4, none⟩ = some (.int .u64 g1) := H14.out.cell 4 rfl 4
                have r0 : w14.frozen? ⟨F, 0, none⟩ = false := H14.out.frozen 4 rfl 0
                have r1 : w14.frozen? ⟨F, 1, none⟩ = false := H14.out.frozen 4 rfl 1
                have r2 : w14.frozen? ⟨F, 2, none⟩ = false := H14.out.frozen 4 rfl 2
                have r3 : w14.frozen? ⟨F, 3, none⟩ = false := H14.out.frozen 4 rfl 3
                have r4 : w14.frozen? ⟨F, 4, none⟩ = false := H14.out.frozen 4 rfl 4
                have HT : Hid (ARel w n b X A F (3 + 8 * (i + 1)) 0 ⟨J0, J1⟩ (((((w14.setCell ⟨F, 0, none⟩ (.int .i64 0)).setCell ⟨F, 1, none⟩ (.int .i64 1)).setCell ⟨F, 2, none⟩ (.int .i64 0)).setCell ⟨F, 3, none⟩ (.int .u64 J0)).setCell ⟨F, 4, none⟩ (.int .u64 J1))) := by
                  have h15 := ((((H14.out.write 4 rfl 0 (.int .i64 0)).write 4 rfl 1 (.int .i64 1)).write 4 rfl 2 (.int .i64 0)).write 4 rfl 3 (.int .u64 J0)).write 4 rfl 4 (.int .u64 J1)
                  exact ⟨z, v, HOK.out.more (by have := HKW.out; omega), HWS.out.1, HWS.out.2.1, HWS.out.2.2.1, HWS.out.2.2.2, hjok, .inl rfl, h15.pop.pop.pop.pop⟩
                clear H14 HSF HWS HOK HFT H4 hfr HV
                go_wp2
                go_roundw
                case rel => exact ⟨i + 1, 0, ⟨J0, J1⟩, by go_num, by omega, by omega, HT.out⟩
                case measure => simp [intOf]; omega
            · as_aux_lemma =>
                obtain ⟨inv', ha, hr'⟩ := inv.step h4
                have hk : (k : Int) < (WN : Int) := by omega
                have hq := rdStep hS 4 0 (by omega) rfl rfl ok (by have := HW7.out; omega) inv.inv.fit
                rw [ha] at hq
                have HE : Hid (∀ v9 w9, St w [rdI K A.sp (r.next z), boxI O #[.int .u64 B0, .int .u64 B1] 32, boxI P1 #[.int .i64 c] 3, boxI F #[.int .i64 0, .int .i64 1, .int .i64 sn, .int .u64 g0, .int .u64 g1] 34, spI A (rdC n b) (z.reads r) v9 (.slice none 0 0)] w9 → ∃ z r v, AInv b X J z r ∧ r.ce = c ∧ z.ok (rdC n b) (3 + 8 * i + (k + 1)) ∧ rest r + (k + 1) = WN ∧ St w [rdI K A.sp r, boxI O #[.int .u64 B0, .int .u64 B1] 32, boxI P1 #[.int .i64 c] 3, boxI F #[.int .i64 0, .int .i64 1, .int .i64 sn, .int .u64 g0, .int .u64 g1] 34, spI A (rdC n b) z v (.slice none 0 0)] w9) := fun v9 w9 h9 => ⟨_, _, v9, inv', (r.next_frame z).2.2.1.trans hce, ok.reads r, by omega, h9⟩
                rw [show (r.st == 4) = false from by simpa using h4] at hd
                clear hS inv ok inv' hre hr' hce ha
                go_wp2_with (go_at_call 14; refine hd.mono ?_; rintro e wq ⟨rfl, rfl⟩)
                refine hq.mono ?_
                rintro e w10 ⟨rfl, v10, h10⟩
                have H10 : Hid _ := HE.out v10 w10 h10
                clear hq hd h10 HE
                go_wp2
                go_roundw
                case rel => exact ⟨k + 1, by go_num, H10⟩
                case measure => simp [intOf]; omega
      · have HK : Hid (Kept (fun _ => False) w wr) := hS.same
        clear hS ok
        by_cases h1 : i < tl
        · as_aux_lemma =>
            have hi1 : (i : Int) < (tl : Int) := by omega
            have hi2 : ¬ (i : Int) < 300 := by omega
            go_wp2
            go_ret
            exact ⟨rfl, HK.out⟩
        · as_aux_lemma =>
            have hi1 : ¬ (i : Int) < (tl : Int) := by omega
            go_wp2
            go_ret
            exact ⟨rfl, HK.out⟩
end Go.Proofs.Ytajfjkhbimehbaa
