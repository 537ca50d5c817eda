/- Which bits are published. No program is named here. The law ReadPublishes, step by step. -/
import Derived.Test.YtajfjkhbimehbaaRdI
import Derived.Test.YtajfjkhbimehbaaUp
import Derived.Test.YtajfjkhbimehbaaOps
import Derived.Test.YtajfjkhbimehbaaRest
import Derived.Deep.RegionHeld3
import Derived.OrdersHeld
namespace Go.Proofs.Ytajfjkhbimehbaa
open Go.RowKit
set_option linter.unusedVariables false
set_option linter.unusedSimpArgs false

/-- All bits of one are bits of the other. -/
def Sub (s t : Sg) : Prop := s.join t = t
theorem Sub.parts {s t : Sg} : Sub s t ↔ s.lo ||| t.lo = t.lo ∧ s.hi ||| t.hi = t.hi := by
  obtain ⟨a, b⟩ := s
  obtain ⟨c, d⟩ := t
  simp [Sub, Sg.join]
theorem Sub.zero (t : Sg) : Sub Sg.zero t := Sub.parts.2 ⟨by simp [Sg.zero], by simp [Sg.zero]⟩
theorem or_sub {x y z : Nat} (h : x ||| z = z) (k : y ||| z = z) : (x ||| y) ||| z = z := by rw [Nat.or_assoc, k, h]
theorem Sub.join {s t u : Sg} (h : Sub s u) (k : Sub t u) : Sub (s.join t) u := by
  have h := Sub.parts.1 h
  have k := Sub.parts.1 k
  exact Sub.parts.2 ⟨or_sub h.1 k.1, or_sub h.2 k.2⟩
theorem Sub.more {s t : Sg} (h : Sub s t) (u : Sg) : Sub s (t.join u) := by
  have h := Sub.parts.1 h
  exact Sub.parts.2 ⟨by show s.lo ||| (t.lo ||| u.lo) = _; rw [← Nat.or_assoc, h.1]; rfl, by show s.hi ||| (t.hi ||| u.hi) = _; rw [← Nat.or_assoc, h.2]; rfl⟩
theorem Sub.right (t u : Sg) : Sub u (t.join u) := by
  refine Sub.parts.2 ⟨?_, ?_⟩
  · show u.lo ||| (t.lo ||| u.lo) = t.lo ||| u.lo
    rw [Nat.or_comm u.lo, Nat.or_assoc, Nat.or_self]
  · show u.hi ||| (t.hi ||| u.hi) = t.hi ||| u.hi
    rw [Nat.or_comm u.hi, Nat.or_assoc, Nat.or_self]
theorem Sub.same {s t : Sg} (h : Sub s t) : (s.join t).same t = true := by
  rw [show s.join t = t from h]
  simp [Sg.same]
theorem put_join (s : Sg) (k : Nat) : s.put k = s.join (Sg.zero.put k) := by
  unfold Sg.put Sg.join Sg.zero
  split <;> simp
theorem join_assoc (s t u : Sg) : (s.join t).join u = s.join (t.join u) := by
  unfold Sg.join
  simp only [Nat.or_assoc]
/-- Cells that a space may have. -/
def Fine (b : Int) (l : List Int) : Prop := ∀ x ∈ l, hashE x b = 0
theorem ofGo_append (b : Int) : ∀ (l : List Int) (c : Int) (s : Sg), Fine b l → ofGo b (l ++ [c]) s = ofGo b [c] (ofGo b l s).1
  | [], c, s, _ => rfl
  | x :: l, c, s, h => by
    have hx : hashE x b = 0 := h x (by simp)
    show ofGo b (x :: (l ++ [c])) s = _
    rw [ofGo, if_pos hx]
    rw [show ofGo b (x :: l) s = ofGo b l ((s.put (hash1 x b).toNat).put (hash2 x b).toNat) by rw [ofGo, if_pos hx]]
    exact ofGo_append b l c _ (fun y hy => h y (by simp [hy]))
theorem ofGo_fine (b : Int) : ∀ (l : List Int) (s : Sg), Fine b l → (ofGo b l s).2 = 0
  | [], s, _ => rfl
  | x :: l, s, h => by
    rw [ofGo, if_pos (h x (by simp))]
    exact ofGo_fine b l _ (fun y hy => h y (by simp [hy]))
theorem ofR_fine {b : Int} {l : List Int} (h : Fine b l) (hb : 1 ≤ b ∧ b ≤ 128) : (ofR l b).2 = 0 := by
  unfold ofR
  rw [if_pos hb]
  exact ofGo_fine b l _ h
theorem ofR_append {b : Int} {l : List Int} {c : Int} (h : Fine b l) (hc : hashE c b = 0) (hb : 1 ≤ b ∧ b ≤ 128) : (ofR (l ++ [c]) b).1 = (ofR l b).1.join (bitsOf b c) := by
  unfold bitsOf ofR
  rw [if_pos hb, if_pos hb, if_pos hb, ofGo_append b l c _ h]
  generalize (ofGo b l Sg.zero).1 = s
  rw [ofGo, if_pos hc, ofGo, ofGo, if_pos hc, ofGo]
  show (s.put _).put _ = s.join ((Sg.zero.put _).put _)
  rw [put_join (s.put _), put_join s, join_assoc, ← put_join (Sg.zero.put _)]
theorem hashE_in {b c : Int} (hb : 1 ≤ b ∧ b ≤ 128) (hc : 0 ≤ c ∧ c < 16) : hashE c b = 0 := by
  unfold hashE
  rw [if_pos hb, if_pos ⟨hc.1, by omega⟩]
/-- What is published keeps within the bits of the cells. -/
theorem RInv.sub_next {b : Int} {z : SSt} {r : Rd} {t : Sg} (h : RInv b z r) (hs : Sub r.sg t) (hb : Sub r.bi t) : Sub (r.next z).sg t := by
  by_cases h0 : r.st = 0
  · have en : r.next z = r.pub := by unfold Rd.next; rw [if_pos h0]
    rw [en]
    have hs := Sub.parts.1 hs
    have hb := Sub.parts.1 hb
    rcases (Rd.pub_ways (h.fit.pub h0)).1 with ⟨_, e2⟩ | ⟨_, e2⟩
    · rw [e2]; exact Sub.parts.2 ⟨or_sub hs.1 hb.1, hs.2⟩
    · rw [e2]; exact Sub.parts.2 ⟨hs.1, or_sub hs.2 hb.2⟩
  · have e2 : (r.next z).sg = r.sg := by
      unfold Rd.next
      rw [if_neg h0]
      split
      · rfl
      · split
        · split
          · split <;> rfl
          · rfl
        · split <;> rfl
    rw [e2]
    exact hs
/-- Ahead of a load all bits of the cell are there. -/
theorem RInv.sub_load {b : Int} {z : SSt} {r : Rd} (h : RInv b z r) (h1 : r.st = 1) : Sub r.bi (r.next z).sg := by
  have hm := Rd.miss_nil.1 (h.full (by omega))
  have e2 : (r.next z).sg = r.sg := by
    unfold Rd.next
    rw [if_neg (by omega), if_pos h1]
  rw [e2]
  have := Sub.right r.sg r.bi
  rw [hm] at this
  exact this
end Go.Proofs.Ytajfjkhbimehbaa

namespace Go.Proofs.Ytajfjkhbimehbaa
open Go.RowKit
set_option linter.unusedVariables false
set_option linter.unusedSimpArgs false
attribute [local go_sem ↓] Go.wp_at_zero Go.wp_at_succ

theorem vField_slots (p q : Option Addr) (n m k l : Nat) (a b : Int) (w : World) : (Instr.field 54 (.agg #[.slice p n k, .int .i64 a, .int .i64 b, .slice q m l]) 2).run Try.prog w = .ok (.slice q m l) w := by kernel_rfl
theorem fField_sig (a b c x y : Int) (w : World) : (Instr.field 34 (.agg #[.int .i64 a, .int .i64 b, .int .i64 c, .int .u64 x, .int .u64 y]) 3).run Try.prog w = .ok (.agg #[.int .u64 x, .int .u64 y]) w := by kernel_rfl
attribute [local go_sem ↓] vField_slots eqSig fField_sig
theorem word_cells {hs : List Hd} (h : hs.length = 1) (x y : Int) : (slCells (slots hs [x, y]))[6]? = some (.int .u64 x) ∧ (slCells (slots hs [x, y]))[7]? = some (.int .u64 y) := by
  match hs, h with
  | [a], _ => exact ⟨rfl, rfl⟩
theorem own_room {w : World} {e : TypeId} {g n cap : Nat} {xs : List Value} (h : w.ownsRow 0 e 1 (.slice (some ⟨g, 0, none⟩) n cap) n xs) : n ≤ cap := by
  rcases h.2 with ⟨hv, _⟩ | ⟨g2, cap2, cur, hv, _, _, hnc, _⟩
  · cases hv
  · simp only [Value.slice.injEq, Option.some.injEq, Addr.mk.injEq, and_true, true_and] at hv
    omega
def intC (l : List Int) : List Value := l.map (Value.int .i64)
theorem intC_append (l : List Int) (c : Int) : intC (l ++ [c]) = intC l ++ [.int .i64 c] := by simp [intC]
theorem intC_length (l : List Int) : (intC l).length = l.length := by simp [intC]
theorem intC_at (l : List Int) (j : Nat) (h : j < l.length) : (intC l)[j]? = some (.int .i64 (l.getD j 0)) := by simp [intC, h]
theorem own_ints {w : World} {v : Value} {l : List Int} (h : w.ownsRow 0 3 1 v l.length (intC l)) : ∃ a cap, v = .slice a l.length cap ∧ IntsIn w a l.length l := by
  obtain ⟨a, cap, rfl⟩ := own_form (w := w) (t := 3) (z := 1) (v := v) (n := l.length) (xs := intC l) h
  refine ⟨a, cap, rfl, rfl, fun h0 => ?_⟩
  obtain ⟨g, cap', e, _, _⟩ := h.form h0
  simp only [Value.slice.injEq] at e
  obtain ⟨rfl, _, rfl⟩ := e
  refine ⟨g, 0, rfl, fun j hj => ?_⟩
  rw [Nat.zero_add, h.cellAt j (by omega)]
  exact intC_at l j hj
/-- What the law keeps: no read is under way. -/
def PN (w : World) (b : Int) (A : Ad) (F : Nat) (k : Nat) (sn : Int) (sg : Sg) (bl : List Int) (vb : Value) (wr : World) : Prop :=
  ∃ z v, z.ok (rdC 16 b) k ∧ z.ws = [(sg.lo : Int), (sg.hi : Int)] ∧ sg.ok ∧ Fine b bl ∧ Sub sg (ofR bl b).1 ∧ bl.length ≤ k ∧ St w [ownI 3 1 vb bl.length (intC bl), boxI F #[.int .i64 0, .int .i64 1, .int .i64 sn, .int .u64 sg.lo, .int .u64 sg.hi] 34, spI A (rdC 16 b) z v (.slice none 0 0)] wr
/-- A read is under way. -/
def PX (w : World) (b : Int) (A : Ad) (F K : Nat) (k : Nat) (fs : Array Value) (bl : List Int) (vb : Value) (wr : World) : Prop :=
  ∃ z r v l, z.ok (rdC 16 b) k ∧ RInv b z r ∧ r.st ≠ 4 ∧ bl = l ++ [r.ce] ∧ Fine b bl ∧ Sub r.sg (ofR bl b).1 ∧ Sub r.bi (ofR bl b).1 ∧ bl.length ≤ k + 1 ∧ fs.size = 5 ∧ (∃ a c d x y, fs = #[.int .i64 a, .int .i64 c, .int .i64 d, .int .u64 x, .int .u64 y]) ∧ St w [rdI K A.sp r, ownI 3 1 vb bl.length (intC bl), boxI F fs 34, spI A (rdC 16 b) z v (.slice none 0 0)] wr

set_option maxRecDepth 100000 in
set_option maxHeartbeats 8000000 in
theorem pub_walk (bits_ : Int) (ta : Option Addr) (tl tc : Nat) (ts : List Int) (sa : Option Addr) (sl sc : Nat) (f : Nat → OpD) (w : World) (hT : IntsIn w ta tl ts) (htl : tl ≤ 17592186044416) (hS : ScriptAt w sa sl f) (hsl : sl * 80 ≤ 140737488351232) :
    Calls Try.prog 6 #[.int .i64 bits_, .slice ta tl tc, .slice sa sl sc] w fun e w' => e = .returned (.bool true) ∧ Kept (fun _ => False) w w' := by
  obtain ⟨b, hb, b1, b8⟩ : ∃ n : Int, 1 + bits .and .i64 bits_ 127 = n ∧ 1 ≤ n ∧ n ≤ 128 := ⟨1 + bits_ % 128, by rw [show bits .and .i64 bits_ 127 = bits_ % 128 from and_mask bits_ 7 (by decide)], by omega, by omega⟩
  have hfc : (rdC 16 b).fits = true := rdC_fits (by omega) ⟨b1, b8⟩
  have HSC : Hid (ScriptAt w sa sl f) := hS
  have HT : Hid (IntsIn w ta tl ts) := hT
  have hsl' : (sl : Int) ≤ 1759218604390 := by omega
  have htl' : (tl : Int) ≤ 17592186044416 := by omega
  clear hS hT
  go_enter Try.func6, Try.ntmps6
  go_wp2_with fail
  refine (up_any _).mono ?_
  rintro e w1 ⟨rfl, k1⟩
  have hq := reader_st ((St.nil w).calm k1) 16 b hfc
  clear k1
  go_wp2_with (simp only [hb])
  refine hq.mono ?_
  rintro e w2 ⟨A, v2, rfl, s2⟩
  clear hq
  unfold spp
  have s3 := s2.box #[.int .i64 0, .int .i64 1, .int .i64 1, .int .u64 0, .int .u64 0] 34
  have H3 : Hid (PN w b A w2.heap.size (2 + 0) 1 Sg.zero [] (.slice none 0 0) (w2.alloc (.cells #[.int .i64 0, .int .i64 1, .int .i64 1, .int .u64 0, .int .u64 0] 34))) := by
    refine ⟨rdZ 16 b, v2, rdZ_ok hfc, rfl, Sg.ok_zero, fun x hx => by simp at hx, Sub.zero _, by simp, ?_⟩
    exact St.own (e := 3) (z := 1) (v := .slice none 0 0) (n := 0) (xs := []) s3 (Kept.refl _ _) (World.ownsRow_nil _ _ _ _)
  clear s2 s3
  go_upto_region 7 with fail
  generalize w2.alloc (.cells #[.int .i64 0, .int .i64 1, .int .i64 1, .int .u64 0, .int .u64 0] 34) = w4 at *
  generalize w2.heap.size = F at *
  go_wp2_with fail
  go_loopw [12, 13, 14, 15, 16, 17, 18, 19, 20, 21, 22, 23, 24] (fun vb0 nx xp a _ _ _ _ _ _ _ _ _ wr => ∃ (i j : Nat) (bl : List Int) (vb : Value), vb = vb0 ∧ a = .int .i64 i ∧ nx = .int .i64 j ∧ i ≤ sl ∧ j ≤ tl ∧ ((xp = .pointer none ∧ ∃ sn sg, Hid (PN w b A F (2 + i) sn sg bl vb wr)) ∨ (∃ K fs, xp = .pointer (some ⟨K, 0, none⟩) ∧ j < tl ∧ Hid (PX w b A F K (2 + i) fs bl vb wr)))) (fun _ _ _ a _ _ _ _ _ _ _ _ _ _ => sl - (intOf a).toNat)
  case atStart => exact ⟨0, 0, [], _, rfl, rfl, rfl, Nat.zero_le _, Nat.zero_le _, .inl ⟨rfl, 1, Sg.zero, H3⟩⟩
  case round =>
    clear H3
    obtain ⟨i, j, bl, vb, rfl, rfl, rfl, hi, hj, hmode⟩ := hrel
    have hi0 : (0 : Int) ≤ (i : Int) := by omega
    have hj0 : (0 : Int) ≤ (j : Int) := by omega
    by_cases hlt : i < sl
    · have hi1 : (i : Int) < (sl : Int) := by omega
      obtain ⟨sb, so, rfl, hops⟩ := HSC.out.resolve_left (by omega)
      have o0 : wr.cell? ⟨sb, so + i * 10, none⟩ = some (.int .i64 (f i).kind) := by
        have hk : Kept (fun _ => False) w wr := by
          rcases hmode with ⟨_, sn, sg, h⟩ | ⟨K, fs, _, _, h⟩
          · obtain ⟨z, v, _, _, _, _, _, _, h⟩ := h.out; exact h.same
          · obtain ⟨z, r, v, l, _, _, _, _, _, _, _, _, _, _, h⟩ := h.out; exact h.same
        exact ((hops i hlt).kept hk).c0
      clear hops
      generalize (f i).kind = kd at *
      by_cases k5 : kd = 5
      · subst k5
        rcases hmode with ⟨rfl, sn, sg, HP⟩ | ⟨K, fs, rfl, hjt, HP⟩
        · as_aux_lemma =>
            obtain ⟨z, v, ok, hws, hsg, hfin, hsub, hbl, hS⟩ := HP.out
            have hg := spGate hS 2 rfl
            have ht := spTake hS 2 rfl ok (by omega) 2
            unfold spp at hg
            clear HP
            have HE : Hid (∀ v5 w5, _ → PN w b A F (2 + (i + 1)) sn sg bl vb w5) := fun v5 w5 (h5 : St w _ w5) => ⟨z.take 2, v5, ok.take 2, hws, hsg, hfin, hsub, by omega, h5⟩
            go_wp2_with (go_at_call 20; refine hg.mono ?_; rintro e wq ⟨rfl, rfl⟩)
            refine ht.mono ?_
            rintro e w5 ⟨rfl, v5, h5⟩
            have H5 : Hid (PN w b A F (2 + (i + 1)) sn sg bl vb w5) := HE.out v5 w5 h5
            clear ht hg h5 hS HE
            go_wp2
            go_roundw
            case rel => exact ⟨i + 1, j, bl, _, rfl, by go_num, rfl, by omega, hj, .inl ⟨rfl, sn, sg, H5⟩⟩
            case measure => simp [intOf]; omega
        · as_aux_lemma =>
            obtain ⟨z, r, v, l, ok, inv, h4, hbe, hfin, hsub, hsb, hbl, hfs, hfe, hS⟩ := HP.out
            have hg := spGate hS 3 rfl
            have ht := spTake hS 3 rfl ok (by omega) 2
            unfold spp at hg
            clear HP
            have HE : Hid (∀ v5 w5, _ → PX w b A F K (2 + (i + 1)) fs bl vb w5) := fun v5 w5 (h5 : St w _ w5) => ⟨z.take 2, r, v5, l, ok.take 2, ⟨inv.fit, inv.sl, inv.gn, inv.bi, inv.ce, inv.hl, inv.ws, inv.full⟩, h4, hbe, hfin, hsub, hsb, by omega, hfs, hfe, h5⟩
            go_wp2_with (go_at_call 20; refine hg.mono ?_; rintro e wq ⟨rfl, rfl⟩)
            refine ht.mono ?_
            rintro e w5 ⟨rfl, v5, h5⟩
            have H5 : Hid (PX w b A F K (2 + (i + 1)) fs bl vb w5) := HE.out v5 w5 h5
            clear ht hg h5 hS HE
            go_wp2
            go_roundw
            case rel => exact ⟨i + 1, j, bl, _, rfl, by go_num, rfl, by omega, hj, .inr ⟨K, fs, rfl, hjt, H5⟩⟩
            case measure => simp [intOf]; omega
      · have k5' : (kd == 5) = false := by simpa using k5
        by_cases k6 : kd = 6
        · subst k6
          rcases hmode with ⟨rfl, sn, sg, HP⟩ | ⟨K, fs, rfl, hjt, HP⟩
          · as_aux_lemma =>
              obtain ⟨z, v, ok, hws, hsg, hfin, hsub, hbl, hS⟩ := HP.out
              have hg := spGate hS 2 rfl
              have ht := spGive hS 2 rfl ok (by omega) 2
              unfold spp at hg
              clear HP
              have HE : Hid (∀ v5 w5, _ → PN w b A F (2 + (i + 1)) sn sg bl vb w5) := fun v5 w5 (h5 : St w _ w5) => ⟨z.give 2, v5, ok.give 2, hws, hsg, hfin, hsub, by omega, h5⟩
              go_wp2_with (go_at_call 20; refine hg.mono ?_; rintro e wq ⟨rfl, rfl⟩)
              refine ht.mono ?_
              rintro e w5 ⟨rfl, v5, h5⟩
              have H5 : Hid (PN w b A F (2 + (i + 1)) sn sg bl vb w5) := HE.out v5 w5 h5
              clear ht hg h5 hS HE
              go_wp2
              go_roundw
              case rel => exact ⟨i + 1, j, bl, _, rfl, by go_num, rfl, by omega, hj, .inl ⟨rfl, sn, sg, H5⟩⟩
              case measure => simp [intOf]; omega
          · as_aux_lemma =>
              obtain ⟨z, r, v, l, ok, inv, h4, hbe, hfin, hsub, hsb, hbl, hfs, hfe, hS⟩ := HP.out
              have hg := spGate hS 3 rfl
              have ht := spGive hS 3 rfl ok (by omega) 2
              unfold spp at hg
              clear HP
              have HE : Hid (∀ v5 w5, _ → PX w b A F K (2 + (i + 1)) fs bl vb w5) := fun v5 w5 (h5 : St w _ w5) => ⟨z.give 2, r, v5, l, ok.give 2, ⟨inv.fit, inv.sl, inv.gn, inv.bi, inv.ce, inv.hl, inv.ws, inv.full⟩, h4, hbe, hfin, hsub, hsb, by omega, hfs, hfe, h5⟩
              go_wp2_with (go_at_call 20; refine hg.mono ?_; rintro e wq ⟨rfl, rfl⟩)
              refine ht.mono ?_
              rintro e w5 ⟨rfl, v5, h5⟩
              have H5 : Hid (PX w b A F K (2 + (i + 1)) fs bl vb w5) := HE.out v5 w5 h5
              clear ht hg h5 hS HE
              go_wp2
              go_roundw
              case rel => exact ⟨i + 1, j, bl, _, rfl, by go_num, rfl, by omega, hj, .inr ⟨K, fs, rfl, hjt, H5⟩⟩
              case measure => simp [intOf]; omega
        · have k6' : (kd == 6) = false := by simpa using k6
          clear k5 k6
          rcases hmode with ⟨rfl, sn, sg, HP⟩ | ⟨K, fs, rfl, hjt, HP⟩
          · obtain ⟨z, v, ok, hws, hsg, hfin, hsub, hbl, hS⟩ := HP.out
            clear HP
            by_cases hjt : j < tl
            · have hj1 : (j : Int) < (tl : Int) := by omega
              obtain ⟨tb, to_, rfl, htc⟩ := HT.out.2 (by omega)
              have hTC := htc j hjt
              have HTW : Hid (∀ W, Kept (fun _ => False) w W → W.cell? ⟨tb, to_ + j, none⟩ = some (.int .i64 (ts.getD j 0))) := fun W kk => by
                rw [World.cell?_of_block (kk.block tb (World.block_lt_of_cell? w _ hTC) (fun f => f))]
                exact hTC
              clear htc hTC
              generalize ts.getD j 0 = tx at *
              obtain ⟨q, hq, hq16⟩ : ∃ q : Nat, bits .and .i64 tx 15 = (q : Int) ∧ q < 16 := ⟨(tx % 16).toNat, by rw [show bits .and .i64 tx 15 = tx % 16 from and_mask tx 4 (by decide)]; omega, by omega⟩
              have hx16 : z.xs.length = 16 := by have := ok.cl; simp [rdC] at this; exact_mod_cast this
              have hh1 : z.hs.length = 1 := by have := ok.hl; simp [rdC] at this; exact_mod_cast this
              have hnew := rdNew_st hS.drew 2 rfl 0 1 sn sg (q : Int) hsg (show inN 16 (q : Int) = true from by unfold inN; rw [decide_eq_true (by omega : (0 : Int) ≤ q), decide_eq_true (by omega : (q : Int) < 16)]; rfl) rfl
              unfold spp at hnew
              have HPX : Hid (∀ K W vb', St w (rdI K A.sp (Rd.new 0 1 sn sg q (bitsOf b q)) :: ownI 3 1 vb' (bl.length + 1) (intC (bl ++ [(q : Int)])) :: boxI F #[.int .i64 0, .int .i64 1, .int .i64 sn, .int .u64 sg.lo, .int .u64 sg.hi] 34 :: [spI A (rdC 16 b) z v (.slice none 0 0)]) W → PX w b A F K (2 + i) #[.int .i64 0, .int .i64 1, .int .i64 sn, .int .u64 sg.lo, .int .u64 sg.hi] (bl ++ [(q : Int)]) vb' W) := by
                intro K W vb' hW
                have hce : hashE (q : Int) b = 0 := hashE_in ⟨b1, b8⟩ ⟨by omega, by omega⟩
                have hof := ofR_append hfin hce ⟨b1, b8⟩
                refine ⟨z, Rd.new 0 1 sn sg q (bitsOf b q), v, bl, ok, RInv.new hsg ⟨by omega, by omega⟩ hh1 hws, ?_, rfl, ?_, ?_, ?_, by simp; omega, rfl, ⟨_, _, _, _, _, rfl⟩, ?_⟩
                · show (if (Rd.new 0 1 sn sg q (bitsOf b q)).miss = [] then 1 else 0) ≠ 4
                  split <;> omega
                · intro x hx
                  rcases List.mem_append.1 hx with hx | hx
                  · exact hfin x hx
                  · rw [List.mem_singleton.1 hx]; exact hce
                · rw [hof]; exact hsub.more _
                · rw [hof]; exact Sub.right _ _
                · rw [show (bl ++ [(q : Int)]).length = bl.length + 1 by simp]; exact hW
              obtain ⟨la, lc, rfl⟩ := own_form (show wr.ownsRow 0 3 1 vb bl.length (intC bl) from hS.get 0 rfl)
              have HBB : Hid (bl.length ≤ 2 + i) := hbl
              have hbl' : bl.length ≤ 1759218604395 := by omega
              obtain ⟨S0, S1⟩ := sg
              simp only at hnew
              have HCF : Hid (∀ K W, St w (rdI K A.sp (Rd.new 0 1 sn ⟨S0, S1⟩ q (bitsOf b q)) :: ownI 3 1 (.slice la bl.length lc) bl.length (intC bl) :: boxI F #[.int .i64 0, .int .i64 1, .int .i64 sn, .int .u64 S0, .int .u64 S1] 34 :: [spI A (rdC 16 b) z v (.slice none 0 0)]) W → (W.cell? ⟨F, 0, none⟩ = some (.int .i64 0) ∧ W.cell? ⟨F, 1, none⟩ = some (.int .i64 1) ∧ W.cell? ⟨F, 2, none⟩ = some (.int .i64 sn) ∧ W.cell? ⟨F, 3, none⟩ = some (.int .u64 S0) ∧ W.cell? ⟨F, 4, none⟩ = some (.int .u64 S1) ∧ W.cell? ⟨tb, to_ + j, none⟩ = some (.int .i64 tx))) := fun K W h => ⟨h.cell 2 rfl 0, h.cell 2 rfl 1, h.cell 2 rfl 2, h.cell 2 rfl 3, h.cell 2 rfl 4, HTW.out _ h.same⟩
              have hn1 : Calls Try.prog 13 #[.pointer (some ⟨A.sp, 0, none⟩), .agg #[.int .i64 0, .int .i64 1, .int .i64 sn, .int .u64 S0, .int .u64 S1], .int .i64 (q : Nat)] wr.drew fun e w' => ∃ K, e = .returned (.tuple #[.pointer (some ⟨K, 0, none⟩), .int .i64 0]) ∧ (w'.cell? ⟨F, 0, none⟩ = some (.int .i64 0) ∧ w'.cell? ⟨F, 1, none⟩ = some (.int .i64 1) ∧ w'.cell? ⟨F, 2, none⟩ = some (.int .i64 sn) ∧ w'.cell? ⟨F, 3, none⟩ = some (.int .u64 S0) ∧ w'.cell? ⟨F, 4, none⟩ = some (.int .u64 S1) ∧ w'.cell? ⟨tb, to_ + j, none⟩ = some (.int .i64 tx)) ∧ Hid (St w (rdI K A.sp (Rd.new 0 1 sn ⟨S0, S1⟩ q (bitsOf b q)) :: ownI 3 1 (.slice la bl.length lc) bl.length (intC bl) :: boxI F #[.int .i64 0, .int .i64 1, .int .i64 sn, .int .u64 S0, .int .u64 S1] 34 :: [spI A (rdC 16 b) z v (.slice none 0 0)]) w') := by
                refine hnew.mono ?_
                rintro e w' ⟨K, he, h'⟩
                exact ⟨K, he, HCF.out K w' h', h'⟩
              have c0 : wr.cell? ⟨F, 0, none⟩ = some (.int .i64 0) := hS.cell 1 rfl 0
              have c1 : wr.cell? ⟨F, 1, none⟩ = some (.int .i64 1) := hS.cell 1 rfl 1
              have c2 : wr.cell? ⟨F, 2, none⟩ = some (.int .i64 sn) := hS.cell 1 rfl 2
              have c3 : wr.cell? ⟨F, 3, none⟩ = some (.int .u64 S0) := hS.cell 1 rfl 3
              have c4 : wr.cell? ⟨F, 4, none⟩ = some (.int .u64 S1) := hS.cell 1 rfl 4
              have t0 := HTW.out _ hS.same
              clear hS hnew ok hws hsg hfin hsub hbl hx16 hh1
              go_upto_region 19 with fail
              go_region_held3 (fun W => W.cell? ⟨F, 0, none⟩ = some (.int .i64 0) ∧ W.cell? ⟨F, 1, none⟩ = some (.int .i64 1) ∧ W.cell? ⟨F, 2, none⟩ = some (.int .i64 sn) ∧ W.cell? ⟨F, 3, none⟩ = some (.int .u64 S0) ∧ W.cell? ⟨F, 4, none⟩ = some (.int .u64 S1) ∧ W.cell? ⟨tb, to_ + j, none⟩ = some (.int .i64 tx)) (first | go_keep | exact rS)
                (first | (go_at_call 13; refine hn1.mono ?_; rintro e w5 ⟨K, rfl, rS, HS5⟩))
              clear hn1 c0 c1 c2 c3 c4 t0 rS HCF
              have t1 := HTW.out _ HS5.out.same
              have ho : w5.ownsRow 0 3 1 (.slice la bl.length lc) bl.length (intC bl) := HS5.out.get 1 rfl
              have HG : Hid (∀ g cap w6, w6.ownsRow 0 3 1 (.slice (some ⟨g, 0, none⟩) (bl.length + 1) cap) (bl.length + 1) (intC bl ++ [.int .i64 (q : Int)]) → (w5.alloc (.cells #[.int .i64 (q : Int)] 3)).grownBy w6 (Value.ownBlock (.slice la bl.length lc)) → (Value.ownBlock (.slice la bl.length lc) = some g ∨ g = w5.heap.size + 1) → PX w b A F K (2 + i) #[.int .i64 0, .int .i64 1, .int .i64 sn, .int .u64 S0, .int .u64 S1] (bl ++ [(q : Int)]) (.slice (some ⟨g, 0, none⟩) (bl.length + 1) cap) w6) := by
                intro g cap w6 p1 p2 p3
                refine HPX.out K w6 _ ?_
                rw [intC_append]
                refine HS5.out.ownGrow 1 rfl p1 (((Kept.refl _ w5).alloc _).grown p2 (fun k e => .inl e)) ?_
                rcases p3 with e | e
                · exact .inl (by rw [e]; rfl)
                · exact .inr ⟨g, rfl, by omega⟩
              clear HS5 HPX
              obtain ⟨i0, hi0, hz0, hz1, hz2⟩ := info_parts Try.infoInt
              obtain ⟨NB, HNB⟩ : ∃ NB, Hid (bl.length = NB) := ⟨_, rfl⟩
              rw [HNB.out] at ho hbl' ⊢
              rw [HNB.out] at HG
              go_upto_region 24 with (first | simp only [hq] | (at_builtin; refine wpList_append_lies _ rfl (.tmp 87) (.tmp 93) 23 rfl 0 3 i0 _ 1 8 Try.underlying23 hi0 hz0 hz1 hz2 rfl (by omega) _ NB (intC bl) rfl (ho.alloc _) ⟨w5.heap.size, 0, none⟩ 1 1 [.int .i64 (q : Int)] rfl (by simp) (World.news_of_block (cs := #[.int .i64 (q : Int)]) (t := 3) (fr := (0, 0)) (heap_alloc_new w5 _)) (by simp [Value.oneCell']) (by omega) (by unfold maxLen; omega) (by omega) (Nat.zero_le _) (w5.heap.size + 1) (by simp) ?_; intro g bc w6 hown6 hgrow6 hat6 hlt6; have HP0 := HG.out g bc w6 hown6 hgrow6 hat6; clear HG hown6 hgrow6 hat6 hlt6))
              clear ho t1
              obtain ⟨bl2, hb2⟩ : ∃ y, y = bl ++ [(q : Int)] := ⟨_, rfl⟩
              obtain ⟨fs, hfs0⟩ : ∃ y : Array Value, y = #[.int .i64 0, .int .i64 1, .int .i64 sn, .int .u64 S0, .int .u64 S1] := ⟨_, rfl⟩
              rw [← hb2, ← hfs0] at HP0
              have hnb2 : NB + 1 = bl2.length := by rw [hb2, ← HNB.out]; simp
              rw [hnb2] at HP0 ⊢
              have HP : Hid (PX w b A F K (2 + i) fs bl2 (.slice (some ⟨g, 0, none⟩) bl2.length bc) w6) := HP0
              clear HP0 hb2 hfs0 hnb2 HNB hbl' HBB hq
              obtain ⟨z, r, v, l, ok, inv, h4, hbe, hfin, hsub, hsb, hbl, hfs, hfe, hS⟩ := HP.out
              clear HP
              have hj1 : (j : Int) < (tl : Int) := by omega
              have hbl1 : bl2.length = l.length + 1 := by rw [hbe]; simp
              have HBE : Hid (bl2 = l ++ [r.ce]) := hbe
              have HBL : Hid (bl2.length = l.length + 1 ∧ bl2.length ≤ 2 + i + 1) := ⟨hbl1, hbl⟩
              have HFE : Hid (∃ a c d x y, fs = #[.int .i64 a, .int .i64 c, .int .i64 d, .int .u64 x, .int .u64 y]) := hfe
              have HFIN : Hid (Fine b bl2) := hfin
              clear hbe hbl1 hbl hfe hfs hfin
              obtain ⟨LL, HLE⟩ : ∃ LL, Hid (l.length = LL) := ⟨_, rfl⟩
              have HBLE : Hid (bl2.length = LL + 1) := by show _ = _; rw [HBL.out.1, HLE.out]
              rw [HBLE.out] at hS ⊢
              have m0 : w6.cell? ⟨A.sp, 0, none⟩ = some (.pointer (some ⟨A.m, 0, none⟩)) := spCell hS 3 rfl 0
              have hl1 := spLog hS 3 rfl ok (by omega)
              have HOK : Hid (z.ok (rdC 16 b) (2 + i)) := ok
              have HINV : Hid (RInv b z r) := inv
              have H4 : Hid (r.st ≠ 4) := h4
              clear hS ok inv h4
              go_wp2_with fail
              refine hl1.mono ?_
              rintro e w5 ⟨v5, rfl, h5⟩
              obtain ⟨a5, c5, rfl⟩ := own_form (h5.get 0 rfl)
              clear hl1 m0
              have hst := rdStep h5.pop 3 0 (by omega) rfl rfl HOK.out (by omega) HINV.out.fit
              obtain ⟨an, HAN⟩ : ∃ an, Hid (r.ans z = an) := ⟨_, rfl⟩
              rw [HAN.out] at hst
              clear h5
              obtain ⟨ka, kb, kc, hno, -, hk1⟩ := SSt.reads_note HINV.out.fit H4.out (by rw [HINV.out.sl, HINV.out.hl]; omega) (by simp only [cin, Bool.and_eq_true, decide_eq_true_eq]; exact HINV.out.ce)
              have HLL : Hid ((z.reads r).s.l = z.s.l ++ [⟨z.s.st, z.s.th, ka, kb, kc, true⟩]) := by show _ = _; rw [hno]; rfl
              have HZL : Hid (z.s.l.length ≤ 2 + i) := HOK.out.met.len
              clear hno
              have INV2 : Hid (RInv b (z.reads r) (r.next z)) := HINV.out.next
              have OK2 : Hid ((z.reads r).ok (rdC 16 b) (2 + i + 1)) := HOK.out.reads r
              have SUB2 : Hid (Sub (r.next z).sg (ofR bl2 b).1) := HINV.out.sub_next hsub hsb
              have LOAD2 : Hid (r.st = 1 → Sub r.bi (r.next z).sg) := HINV.out.sub_load
              have FR2 : Hid ((r.next z).ce = r.ce ∧ (r.next z).bi = r.bi) := ⟨(r.next_frame z).2.2.1, (r.next_frame z).2.2.2⟩
              have HSB : Hid (Sub r.bi (ofR bl2 b).1) := hsb
              clear hsub hsb
              go_wp2_with fail
              refine hst.mono ?_
              rintro e w6 ⟨rfl, v6, h6⟩
              clear hst
              have m1 : w6.cell? ⟨A.sp, 0, none⟩ = some (.pointer (some ⟨A.m, 0, none⟩)) := spCell h6 3 rfl 0
              have hl2 := spLog h6 3 rfl OK2.out (by omega)
              clear h6
              go_wp2_with fail
              refine hl2.mono ?_
              rintro e w7 ⟨v7, rfl, h7⟩
              rw [HLL.out, List.length_append, List.length_singleton] at h7
              obtain ⟨p, cl, rfl⟩ := h7.form 0 rfl (by omega)
              clear hl2 m1
              obtain ⟨ZL, HZE⟩ : ∃ ZL, Hid (z.s.l.length = ZL) := ⟨_, rfl⟩
              rw [HZE.out] at h7 ⊢
              have hvw := spView h7 4 rfl OK2.out.wl OK2.out.h1 OK2.out.h8
              rw [INV2.out.ws, INV2.out.hl] at hvw
              unfold spp at hvw
              clear h7
              obtain ⟨sg2, HG2⟩ : ∃ sg2, Hid ((r.next z).sg = sg2) := ⟨_, rfl⟩
              rw [HG2.out] at hvw
              obtain ⟨G0, G1⟩ := sg2
              go_wp2_with fail
              refine hvw.mono ?_
              rintro e w8 ⟨va, vs, rfl, h8⟩
              clear hvw
              obtain ⟨pa, ca, rfl⟩ := own_form (h8.get 0 rfl)
              obtain ⟨ps, cs, rfl⟩ := h8.form 1 rfl (by omega)
              have l6 : w8.cell? ⟨ps, 6, none⟩ = some (.int .u64 G0) := (h8.ownCell 1 rfl 6 (by omega)).trans (word_cells INV2.out.hl _ _).1
              have l7 : w8.cell? ⟨ps, 7, none⟩ = some (.int .u64 G1) := (h8.ownCell 1 rfl 7 (by omega)).trans (word_cells INV2.out.hl _ _).2
              have h9 := h8.box #[.int .u64 G0, .int .u64 G1] 32
              clear h8
              have hps : (0 : Int) < 1 := by omega
              go_upto_region 29 with fail
              generalize w8.alloc (.cells #[.int .u64 G0, .int .u64 G1] 32) = w9 at *
              generalize w8.heap.size = WB at *
              have ho : w9.ownsRow 0 3 1 (.slice (some ⟨g, 0, none⟩) (LL + 1) bc) (LL + 1) (intC bl2) := h9.get 5 rfl
              have hroom : LL + 1 ≤ bc := own_room ho
              have HCE : Hid (∀ W : World, W.ownsRow 0 3 1 (.slice (some ⟨g, 0, none⟩) (LL + 1) bc) (LL + 1) (intC bl2) → ∀ j, j < LL + 1 → W.cell? ⟨g, j, none⟩ = some (.int .i64 (bl2.getD j 0))) := fun W h j hj => (h.cellAt j (by omega)).trans (intC_at bl2 j (by rw [HBLE.out]; exact hj))
              have hll1 : LL + 1 ≤ 2 + i + 1 := by have := HBL.out.2; rw [HBLE.out] at this; exact this
              have hof := of_any (some ⟨g, 0, none⟩) (LL + 1) bc bl2 b w9 ⟨HBLE.out.symm, fun _ => ⟨g, 0, rfl, fun j hj => by rw [Nat.zero_add]; exact HCE.out _ ho j hj⟩⟩ (by omega)
              rw [ofR_fine HFIN.out ⟨b1, b8⟩] at hof
              obtain ⟨T, HTE⟩ : ∃ T, Hid ((ofR bl2 b).1 = T) := ⟨_, rfl⟩
              rw [HTE.out] at hof
              have HTOK : Hid T.ok := by show T.ok; rw [← HTE.out]; exact ofR_ok _ _
              obtain ⟨T0, T1⟩ := T
              simp only [Sg.val] at hof
              clear ho l6 l7
              go_wp2_with fail
              refine hof.mono ?_
              rintro e w10 ⟨rfl, k10⟩
              have h10 := (h9.calm k10).box #[.int .u64 T0, .int .u64 T1] 32
              clear hof h9 k10
              go_upto_region 30 with fail
              generalize w10.alloc (.cells #[.int .u64 T0, .int .u64 T1] 32) = w11 at *
              generalize w10.heap.size = AB at *
              have zl0 : (0 : Int) ≤ (LL : Int) := by omega
              have zl2 : ((LL + 1 : Nat) : Int) - 1 = (LL : Int) := by omega
              have zl3 : (LL : Int) ≤ ((LL + 1 : Nat) : Int) := by omega
              have zl4 : ((LL + 1 : Nat) : Int) ≤ (bc : Int) := by omega
              have zl5 : (LL : Int) ≤ (bc : Int) := by omega
              have zl6 : (LL : Int) ≤ 4611686018427 := by omega
              have hbce : bl2.getD LL 0 = r.ce := by
                rw [HBE.out, ← HLE.out]
                simp
              have e0 : w11.cell? ⟨g, LL, none⟩ = some (.int .i64 r.ce) := by
                have := HCE.out _ (h10.get 6 rfl) LL (by omega)
                rw [hbce] at this
                exact this
              have hof2 := of_any (some ⟨g, LL, none⟩) 1 (bc - LL) [r.ce] b w11 ⟨rfl, fun _ => ⟨g, LL, rfl, fun j hj => by
                obtain rfl : j = 0 := by omega
                exact e0⟩⟩ (by omega)
              rw [ofR_fine (fun x hx => HFIN.out x (by rw [HBE.out]; simp at hx; simp [hx])) ⟨b1, b8⟩] at hof2
              change Calls Try.prog 11 _ _ (fun e w' => e = .returned (.tuple #[(bitsOf b r.ce).val, .int .i64 0]) ∧ _) at hof2
              rw [← HINV.out.bi] at hof2
              obtain ⟨B, HBB⟩ : ∃ B, Hid (r.bi = B) := ⟨_, rfl⟩
              rw [HBB.out] at hof2
              have HBOK : Hid B.ok := by show B.ok; rw [← HBB.out]; exact HINV.out.fit.bi
              obtain ⟨B0, B1⟩ := B
              simp only [Sg.val] at hof2
              clear hbce e0
              go_wp2_with (first | simp only [zl2] | fail)
              refine hof2.mono ?_
              rintro e w12 ⟨rfl, k12⟩
              have h12 := (h10.calm k12).box #[.int .u64 B0, .int .u64 B1] 32
              clear hof2 h10 k12
              go_upto_region 31 with fail
              generalize w12.alloc (.cells #[.int .u64 B0, .int .u64 B1] 32) = w13 at *
              generalize w12.heap.size = OB at *
              obtain ⟨HL, hHL⟩ : ∃ HL : World → Prop, HL = fun W => St w (boxI OB #[.int .u64 B0, .int .u64 B1] 32 :: boxI AB #[.int .u64 T0, .int .u64 T1] 32 :: boxI WB #[.int .u64 G0, .int .u64 G1] 32 :: ownI 2 1 (.slice pa (z.reads r).xs.length ca) (z.reads r).xs.length (clCells (z.reads r).xs) :: ownI 49 8 (.slice (some ⟨ps, 0, none⟩) 1 cs) 1 (slCells (slots (z.reads r).hs [(G0 : Int), (G1 : Int)])) :: ownI 78 6 (.slice (some ⟨p, 0, none⟩) (ZL + 1) cl) (ZL + 1) (logCells (z.s.l ++ [⟨z.s.st, z.s.th, ka, kb, kc, true⟩])) :: rdI K A.sp (r.next z) :: ownI 3 1 (.slice (some ⟨g, 0, none⟩) (LL + 1) bc) (LL + 1) (intC bl2) :: boxI F fs 34 :: [spI A (rdC 16 b) (z.reads r) v6 (.slice none 0 0)]) W := ⟨_, rfl⟩
              have hD : Hid (HL w13.drew) := by show HL _; rw [hHL]; exact h12.drew
              have HSF : Hid (∀ W, Hid (HL W) → W.cell? ⟨WB, 0, none⟩ = some (.int .u64 G0) ∧ W.cell? ⟨WB, 1, none⟩ = some (.int .u64 G1) ∧ W.cell? ⟨AB, 0, none⟩ = some (.int .u64 T0) ∧ W.cell? ⟨AB, 1, none⟩ = some (.int .u64 T1) ∧ W.cell? ⟨OB, 0, none⟩ = some (.int .u64 B0) ∧ W.cell? ⟨OB, 1, none⟩ = some (.int .u64 B1) ∧ W.cell? ⟨p, ZL * 6 + 2, none⟩ = some (.int .i64 ka) ∧ Hid (HL W)) := by
                intro W hW
                have h : St w (boxI OB #[.int .u64 B0, .int .u64 B1] 32 :: boxI AB #[.int .u64 T0, .int .u64 T1] 32 :: boxI WB #[.int .u64 G0, .int .u64 G1] 32 :: ownI 2 1 (.slice pa (z.reads r).xs.length ca) (z.reads r).xs.length (clCells (z.reads r).xs) :: ownI 49 8 (.slice (some ⟨ps, 0, none⟩) 1 cs) 1 (slCells (slots (z.reads r).hs [(G0 : Int), (G1 : Int)])) :: ownI 78 6 (.slice (some ⟨p, 0, none⟩) (ZL + 1) cl) (ZL + 1) (logCells (z.s.l ++ [⟨z.s.st, z.s.th, ka, kb, kc, true⟩])) :: rdI K A.sp (r.next z) :: ownI 3 1 (.slice (some ⟨g, 0, none⟩) (LL + 1) bc) (LL + 1) (intC bl2) :: boxI F fs 34 :: [spI A (rdC 16 b) (z.reads r) v6 (.slice none 0 0)]) W := by have := hW.out; rw [hHL] at this; exact this
                refine ⟨h.cell 2 rfl 0, h.cell 2 rfl 1, h.cell 1 rfl 0, h.cell 1 rfl 1, h.cell 0 rfl 0, h.cell 0 rfl 1, ?_, hW⟩
                have hlog := h.ownCell 5 rfl (ZL * 6 + 2) (by omega)
                rw [← HZE.out] at hlog ⊢
                exact hlog.trans (logCells_last _ _)
              have HG2OK : Hid (Sg.mk G0 G1).ok := by show (Sg.mk G0 G1).ok; rw [← HG2.out]; exact INV2.out.fit.sg
              have hw1 : ∀ W, Hid (HL W) → Calls Try.prog 32 #[.agg #[.int .u64 G0, .int .u64 G1], .agg #[.int .u64 T0, .int .u64 T1]] W fun e w' => e = .returned (.bool true) ∧ Hid (HL w') := by
                intro W hW
                refine (sigWithin_any ⟨G0, G1⟩ ⟨T0, T1⟩ HG2OK.out HTOK.out W).mono ?_
                rintro e w' ⟨he, hk⟩
                refine ⟨?_, ?_⟩
                · rw [he, Sub.same (by rw [← HG2.out, ← HTE.out]; exact SUB2.out)]
                · show HL w'
                  have := hW.out
                  rw [hHL] at this ⊢
                  exact St.calm this hk
              have hw2 : r.st = 1 → ∀ W, Hid (HL W) → Calls Try.prog 32 #[.agg #[.int .u64 B0, .int .u64 B1], .agg #[.int .u64 G0, .int .u64 G1]] W fun e w' => e = .returned (.bool true) ∧ Hid (HL w') := by
                intro h1 W hW
                refine (sigWithin_any ⟨B0, B1⟩ ⟨G0, G1⟩ HBOK.out HG2OK.out W).mono ?_
                rintro e w' ⟨he, hk⟩
                refine ⟨?_, ?_⟩
                · rw [he, Sub.same (by rw [← HG2.out, ← HBB.out]; exact LOAD2.out h1)]
                · show HL w'
                  have := hW.out
                  rw [hHL] at this ⊢
                  exact St.calm this hk
              obtain ⟨sn2, HSN2⟩ : ∃ sn2, Hid ((r.next z).sn = sn2) := ⟨_, rfl⟩
              have hfr : ∀ W, Hid (HL W) → Calls Try.prog 17 #[.pointer (some ⟨K, 0, none⟩)] W fun e w' => e = .returned (.agg #[.int .i64 0, .int .i64 1, .int .i64 sn2, .int .u64 G0, .int .u64 G1]) ∧ Hid (HL w') := by
                intro W hW
                have h := hW.out
                rw [hHL] at h
                refine (rdFrom h 6 rfl).mono ?_
                rintro e w' ⟨he, h'⟩
                refine ⟨?_, by show HL w'; rw [hHL]; exact h'⟩
                rw [he]
                unfold Rd.fromV
                rw [INV2.out.sl, INV2.out.gn, HSN2.out, HG2.out]
              have HFR : Hid (∀ W, HL W → Calls Try.prog 17 #[.pointer (some ⟨K, 0, none⟩)] W fun e w' => e = .returned (.agg #[.int .i64 0, .int .i64 1, .int .i64 sn2, .int .u64 G0, .int .u64 G1]) ∧ Hid (HL w')) := fun W h => hfr W h
              have HDN : Hid (∀ W, HL W → Calls Try.prog 14 #[.pointer (some ⟨K, 0, none⟩)] W fun e w' => e = .returned (.bool ((r.next z).st == 4)) ∧ w' = W) := by
                intro W h
                rw [hHL] at h
                exact rdDone h 6 rfl INV2.out.fit.st
              have HXE : Hid (∀ W, HL W → (r.next z).st ≠ 4 → PX w b A F K (2 + (i + 1)) fs bl2 (.slice (some ⟨g, 0, none⟩) (LL + 1) bc) W) := by
                intro W h h4'
                rw [hHL] at h
                refine ⟨_, _, v6, l, OK2.out, INV2.out, h4', by rw [FR2.out.1]; exact HBE.out, HFIN.out, SUB2.out, by rw [FR2.out.2]; exact HSB.out, by have := HBL.out.2; omega, ?_, HFE.out, ?_⟩
                · obtain ⟨_, _, _, _, _, e⟩ := HFE.out
                  rw [e]; rfl
                · rw [HBLE.out]
                  exact h.pop.pop.pop.pop.pop.pop
              have HNE : Hid (∀ W, Hid (HL W) → (r.next z).st = 4 → ∃ qa qc qd qx qy : Int, W.cell? ⟨F, 0, none⟩ = some (.int .i64 qa) ∧ W.cell? ⟨F, 1, none⟩ = some (.int .i64 qc) ∧ W.cell? ⟨F, 2, none⟩ = some (.int .i64 qd) ∧ W.cell? ⟨F, 3, none⟩ = some (.int .u64 qx) ∧ W.cell? ⟨F, 4, none⟩ = some (.int .u64 qy) ∧ W.frozen? ⟨F, 0, none⟩ = false ∧ W.frozen? ⟨F, 1, none⟩ = false ∧ W.frozen? ⟨F, 2, none⟩ = false ∧ W.frozen? ⟨F, 3, none⟩ = false ∧ W.frozen? ⟨F, 4, none⟩ = false ∧ Hid (PN w b A F (2 + (i + 1)) sn2 ⟨G0, G1⟩ bl2 (.slice (some ⟨g, 0, none⟩) (LL + 1) bc) (((((W.setCell ⟨F, 0, none⟩ (.int .i64 0)).setCell ⟨F, 1, none⟩ (.int .i64 1)).setCell ⟨F, 2, none⟩ (.int .i64 sn2)).setCell ⟨F, 3, none⟩ (.int .u64 G0)).setCell ⟨F, 4, none⟩ (.int .u64 G1)))) := by
                intro W hW h4'
                have h := hW.out
                rw [hHL] at h
                obtain ⟨qa, qc, qd, qx, qy, hq⟩ := HFE.out
                rw [hq] at h
                refine ⟨qa, qc, qd, qx, qy, h.cell 8 rfl 0, h.cell 8 rfl 1, h.cell 8 rfl 2, h.cell 8 rfl 3, h.cell 8 rfl 4, h.frozen 8 rfl 0, h.frozen 8 rfl 1, h.frozen 8 rfl 2, h.frozen 8 rfl 3, h.frozen 8 rfl 4, ?_⟩
                have a1 := h.write 8 rfl 0 (.int .i64 0)
                have a2 := a1.write 8 rfl 1 (.int .i64 1)
                have a3 := a2.write 8 rfl 2 (.int .i64 sn2)
                have a4 := a3.write 8 rfl 3 (.int .u64 G0)
                have a5 := a4.write 8 rfl 4 (.int .u64 G1)
                refine ⟨z.reads r, v6, OK2.out, by rw [INV2.out.ws, HG2.out], HG2OK.out, HFIN.out, by rw [← HG2.out]; exact SUB2.out, by have := HBL.out.2; omega, ?_⟩
                rw [HBLE.out]
                exact a5.pop.pop.pop.pop.pop.pop.pop
              clear hHL h12 hroom
              have hZ : ((ZL : Int) + 1 != (ZL : Int) + 1) = false := by simp
              have hZw : IntKind.i64.wrap ((ZL : Int) + 1) = (ZL : Int) + 1 := by
                rw [IntKind.wrap_i64]
                have := HZL.out
                rw [HZE.out] at this
                omega
              have hZ0 : (0 : Int) ≤ (ZL : Int) := by omega
              have hZ1 : (ZL : Int) < ((ZL + 1 : Nat) : Int) := by omega
              have hZ2 : (ZL : Int) < (ZL : Int) + 1 := by omega
              cases hka : (ka == 1) with
              | false =>
                as_aux_lemma =>
                  clear hw2 hk1
                  refine wp_region_held_drew (S := fun W => W.cell? ⟨WB, 0, none⟩ = some (.int .u64 G0) ∧ W.cell? ⟨WB, 1, none⟩ = some (.int .u64 G1) ∧ W.cell? ⟨AB, 0, none⟩ = some (.int .u64 T0) ∧ W.cell? ⟨AB, 1, none⟩ = some (.int .u64 T1) ∧ W.cell? ⟨OB, 0, none⟩ = some (.int .u64 B0) ∧ W.cell? ⟨OB, 1, none⟩ = some (.int .u64 B1) ∧ W.cell? ⟨p, ZL * 6 + 2, none⟩ = some (.int .i64 ka) ∧ Hid (HL W)) (by kernel_rfl) (HSF.out _ hD) (fun hHeld => ?_)
                  refine wpAnyH_take (i := 0) (oi := { dst := some 133, op := Op.move (Operand.tmp 22), type := 28, pos := "more.go:47", after := #[], guard := none }) (v := ?vnF0) rfl (by kernel_rfl) (by kernel_rfl) (by kernel_rfl) (fun _ _ _ h => h) (Or.inl ⟨by rfl, ?hynF0⟩) (by assumption) ?_
                  case hynF0 => (intro W hSw; (try dsimp only at hSw); go_simp; (try with_reducible rfl))
                  try simp only [Act.put, List.setIfInBounds_toArray, List.set_cons_zero, List.set_cons_succ]
                  refine wpAnyH_take (i := 1) (oi := { dst := some 134, op := Op.binOp BinOp.neq 28 (Operand.tmp 133) (Operand.const (Value.int IntKind.i64 0)) 28, type := 4, pos := "more.go:47", after := #[{ on := 0, ground := Ground.data }], guard := none }) (v := ?vnF1) rfl (by kernel_rfl) (by kernel_rfl) (by kernel_rfl) (fun _ _ _ h => h) (Or.inl ⟨by rfl, ?hynF1⟩) (by assumption) ?_
                  case hynF1 => (intro W hSw; (try dsimp only at hSw); go_simp; (try with_reducible rfl))
                  try simp only [Act.put, List.setIfInBounds_toArray, List.set_cons_zero, List.set_cons_succ]
                  refine wpAnyH_take (i := 2) (oi := { dst := some 135, op := Op.move (Operand.tmp 134), type := 4, pos := "more.go:47", after := #[{ on := 1, ground := Ground.data }], guard := none }) (v := ?vnF2) rfl (by kernel_rfl) (by kernel_rfl) (by kernel_rfl) (fun _ _ _ h => h) (Or.inl ⟨by rfl, ?hynF2⟩) (by assumption) ?_
                  case hynF2 => (intro W hSw; (try dsimp only at hSw); go_simp; (try with_reducible rfl))
                  try simp only [Act.put, List.setIfInBounds_toArray, List.set_cons_zero, List.set_cons_succ]
                  refine wpAnyH_take (i := 3) (oi := { dst := some 136, op := Op.move (Operand.tmp 24), type := 28, pos := "more.go:47", after := #[{ on := 2, ground := Ground.guard }], guard := some (2, false) }) (v := ?vnF3) rfl (by kernel_rfl) (by kernel_rfl) (by kernel_rfl) (fun _ _ _ h => h) (Or.inl ⟨by rfl, ?hynF3⟩) (by assumption) ?_
                  case hynF3 => (intro W hSw; (try dsimp only at hSw); go_simp; (try with_reducible rfl))
                  try simp only [Act.put, List.setIfInBounds_toArray, List.set_cons_zero, List.set_cons_succ]
                  refine wpAnyH_take (i := 4) (oi := { dst := some 137, op := Op.binOp BinOp.neq 28 (Operand.tmp 136) (Operand.const (Value.int IntKind.i64 0)) 28, type := 4, pos := "more.go:47", after := #[{ on := 3, ground := Ground.data }, { on := 2, ground := Ground.guard }], guard := some (2, false) }) (v := ?vnF4) rfl (by kernel_rfl) (by kernel_rfl) (by kernel_rfl) (fun _ _ _ h => h) (Or.inl ⟨by rfl, ?hynF4⟩) (by assumption) ?_
                  case hynF4 => (intro W hSw; (try dsimp only at hSw); go_simp; (try with_reducible rfl))
                  try simp only [Act.put, List.setIfInBounds_toArray, List.set_cons_zero, List.set_cons_succ]
                  refine wpAnyH_take (i := 5) (oi := { dst := some 138, op := Op.pick (Operand.tmp 135) (Operand.const (Value.bool true)) (Operand.tmp 137), type := 4, pos := "more.go:47", after := #[{ on := 2, ground := Ground.data }, { on := 4, ground := Ground.data }], guard := none }) (v := ?vnF5) rfl (by kernel_rfl) (by kernel_rfl) (by kernel_rfl) (fun _ _ _ h => h) (Or.inl ⟨by rfl, ?hynF5⟩) (by assumption) ?_
                  case hynF5 => (intro W hSw; (try dsimp only at hSw); go_simp; (try with_reducible rfl))
                  try simp only [Act.put, List.setIfInBounds_toArray, List.set_cons_zero, List.set_cons_succ]
                  refine wpAnyH_take (i := 6) (oi := { dst := some 139, op := Op.move (Operand.tmp 138), type := 4, pos := "more.go:47", after := #[{ on := 5, ground := Ground.data }, { on := 2, ground := Ground.chain }], guard := none }) (v := ?vnF6) rfl (by kernel_rfl) (by kernel_rfl) (by kernel_rfl) (fun _ _ _ h => h) (Or.inl ⟨by rfl, ?hynF6⟩) (by assumption) ?_
                  case hynF6 => (intro W hSw; (try dsimp only at hSw); go_simp; (try with_reducible rfl))
                  try simp only [Act.put, List.setIfInBounds_toArray, List.set_cons_zero, List.set_cons_succ]
                  refine wpAnyH_take (i := 7) (oi := { dst := some 140, op := Op.load 32 (Operand.tmp 20), type := 32, pos := "more.go:47", after := #[{ on := 6, ground := Ground.guard }], guard := some (6, false) }) (v := ?vnF7) rfl (by kernel_rfl) (by kernel_rfl) (by kernel_rfl) (fun _ _ _ h => h) (Or.inl ⟨by rfl, ?hynF7⟩) (by assumption) ?_
                  case hynF7 => (intro W hSw; (try dsimp only at hSw); go_simp; (try with_reducible rfl))
                  try simp only [Act.put, List.setIfInBounds_toArray, List.set_cons_zero, List.set_cons_succ]
                  refine wpAnyH_take (i := 8) (oi := { dst := some 141, op := Op.load 32 (Operand.tmp 21), type := 32, pos := "more.go:47", after := #[{ on := 6, ground := Ground.guard }], guard := some (6, false) }) (v := ?vnF8) rfl (by kernel_rfl) (by kernel_rfl) (by kernel_rfl) (fun _ _ _ h => h) (Or.inl ⟨by rfl, ?hynF8⟩) (by assumption) ?_
                  case hynF8 => (intro W hSw; (try dsimp only at hSw); go_simp; (try with_reducible rfl))
                  try simp only [Act.put, List.setIfInBounds_toArray, List.set_cons_zero, List.set_cons_succ]
                  refine wpAnyH_ready (rs := [9]) (by kernel_rfl) (by simp) ?_
                  refine AllReadyH.cons (o := { dst := some 142, op := Op.call { callee := Callee.value (Operand.func 32), args := #[Operand.tmp 140, Operand.tmp 141], argTypes := #[32, 32] }, type := 4, pos := "more.go:47", after := #[{ on := 7, ground := Ground.data }, { on := 8, ground := Ground.data }, { on := 6, ground := Ground.chain }, { on := 6, ground := Ground.guard }], guard := some (6, false) }) rfl (fun K_ hK => ?_) AllReadyH.nil
                  go_simp
                  refine (hw1 _ hD).mono ?_
                  rintro e wa ⟨rfl, hDa⟩
                  go_wp2_with fail
                  refine hK.out _ _ (HSF.out _ hDa) (fun hHeld => ?_)
                  clear hK K_
                  try simp only [Act.put, List.setIfInBounds_toArray, List.set_cons_zero, List.set_cons_succ]
                  refine wpAnyH_take (i := 10) (oi := { dst := some 143, op := Op.unOp UnOp.not 4 (Operand.tmp 142), type := 4, pos := "more.go:47", after := #[{ on := 9, ground := Ground.data }, { on := 6, ground := Ground.guard }], guard := some (6, false) }) (v := ?vnF10) rfl (by kernel_rfl) (by kernel_rfl) (by kernel_rfl) (fun _ _ _ h => h) (Or.inl ⟨by rfl, ?hynF10⟩) (by assumption) ?_
                  case hynF10 => (intro W hSw; (try dsimp only at hSw); go_simp; (try with_reducible rfl))
                  try simp only [Act.put, List.setIfInBounds_toArray, List.set_cons_zero, List.set_cons_succ]
                  refine wpAnyH_take (i := 11) (oi := { dst := some 144, op := Op.pick (Operand.tmp 139) (Operand.const (Value.bool true)) (Operand.tmp 143), type := 4, pos := "more.go:47", after := #[{ on := 6, ground := Ground.data }, { on := 10, ground := Ground.data }], guard := none }) (v := ?vnF11) rfl (by kernel_rfl) (by kernel_rfl) (by kernel_rfl) (fun _ _ _ h => h) (Or.inl ⟨by rfl, ?hynF11⟩) (by assumption) ?_
                  case hynF11 => (intro W hSw; (try dsimp only at hSw); go_simp; (try with_reducible rfl))
                  try simp only [Act.put, List.setIfInBounds_toArray, List.set_cons_zero, List.set_cons_succ]
                  refine wpAnyH_take (i := 12) (oi := { dst := some 145, op := Op.move (Operand.tmp 144), type := 4, pos := "more.go:47", after := #[{ on := 11, ground := Ground.data }, { on := 9, ground := Ground.chain }], guard := none }) (v := ?vnF12) rfl (by kernel_rfl) (by kernel_rfl) (by kernel_rfl) (fun _ _ _ h => h) (Or.inl ⟨by rfl, ?hynF12⟩) (by assumption) ?_
                  case hynF12 => (intro W hSw; (try dsimp only at hSw); go_simp; (try with_reducible rfl))
                  try simp only [Act.put, List.setIfInBounds_toArray, List.set_cons_zero, List.set_cons_succ]
                  refine wpAnyH_take (i := 13) (oi := { dst := some 146, op := Op.move (Operand.tmp 19), type := 67, pos := "more.go:47", after := #[{ on := 12, ground := Ground.guard }], guard := some (12, false) }) (v := ?vnF13) rfl (by kernel_rfl) (by kernel_rfl) (by kernel_rfl) (fun _ _ _ h => h) (Or.inl ⟨by rfl, ?hynF13⟩) (by assumption) ?_
                  case hynF13 => (intro W hSw; (try dsimp only at hSw); go_simp; (try with_reducible rfl))
                  try simp only [Act.put, List.setIfInBounds_toArray, List.set_cons_zero, List.set_cons_succ]
                  refine wpAnyH_take (i := 14) (oi := { dst := some 147, op := Op.call { callee := Callee.builtin Builtin.len, args := #[Operand.tmp 146], argTypes := #[67] }, type := 3, pos := "more.go:47", after := #[{ on := 13, ground := Ground.data }, { on := 12, ground := Ground.guard }], guard := some (12, false) }) (v := ?vnF14) rfl (by kernel_rfl) (by kernel_rfl) (by kernel_rfl) (fun _ _ _ h => h) (Or.inl ⟨by rfl, ?hynF14⟩) (by assumption) ?_
                  case hynF14 => (intro W hSw; (try dsimp only at hSw); go_simp; (try with_reducible rfl))
                  try simp only [Act.put, List.setIfInBounds_toArray, List.set_cons_zero, List.set_cons_succ]
                  refine wpAnyH_take (i := 15) (oi := { dst := some 148, op := Op.move (Operand.tmp 18), type := 3, pos := "more.go:47", after := #[{ on := 12, ground := Ground.guard }], guard := some (12, false) }) (v := ?vnF15) rfl (by kernel_rfl) (by kernel_rfl) (by kernel_rfl) (fun _ _ _ h => h) (Or.inl ⟨by rfl, ?hynF15⟩) (by assumption) ?_
                  case hynF15 => (intro W hSw; (try dsimp only at hSw); go_simp; (try with_reducible rfl))
                  try simp only [Act.put, List.setIfInBounds_toArray, List.set_cons_zero, List.set_cons_succ]
                  refine wpAnyH_take (i := 16) (oi := { dst := some 149, op := Op.binOp BinOp.add 3 (Operand.tmp 148) (Operand.const (Value.int IntKind.i64 1)) 3, type := 3, pos := "more.go:47", after := #[{ on := 15, ground := Ground.data }, { on := 12, ground := Ground.guard }], guard := some (12, false) }) (v := ?vnF16) rfl (by kernel_rfl) (by kernel_rfl) (by kernel_rfl) (fun _ _ _ h => h) (Or.inl ⟨by rfl, ?hynF16⟩) (by assumption) ?_
                  case hynF16 => (intro W hSw; (try dsimp only at hSw); go_simp; (try with_reducible rfl))
                  try simp only [Act.put, List.setIfInBounds_toArray, List.set_cons_zero, List.set_cons_succ]
                  refine wpAnyH_take (i := 17) (oi := { dst := some 150, op := Op.binOp BinOp.neq 3 (Operand.tmp 147) (Operand.tmp 149) 3, type := 4, pos := "more.go:47", after := #[{ on := 14, ground := Ground.data }, { on := 16, ground := Ground.data }, { on := 12, ground := Ground.guard }], guard := some (12, false) }) (v := ?vnF17) rfl (by kernel_rfl) (by kernel_rfl) (by kernel_rfl) (fun _ _ _ h => h) (Or.inl ⟨by rfl, ?hynF17⟩) (by assumption) ?_
                  case hynF17 => (intro W hSw; (try dsimp only at hSw); go_simp; (try with_reducible rfl))
                  try simp only [Act.put, List.setIfInBounds_toArray, List.set_cons_zero, List.set_cons_succ]
                  refine wpAnyH_take (i := 18) (oi := { dst := some 151, op := Op.pick (Operand.tmp 145) (Operand.const (Value.bool true)) (Operand.tmp 150), type := 4, pos := "more.go:47", after := #[{ on := 12, ground := Ground.data }, { on := 17, ground := Ground.data }], guard := none }) (v := ?vnF18) rfl (by kernel_rfl) (by kernel_rfl) (by kernel_rfl) (fun _ _ _ h => h) (Or.inl ⟨by rfl, ?hynF18⟩) (by assumption) ?_
                  case hynF18 => (intro W hSw; (try dsimp only at hSw); go_simp; (try with_reducible rfl))
                  try simp only [Act.put, List.setIfInBounds_toArray, List.set_cons_zero, List.set_cons_succ]
                  refine wpAnyH_take (i := 19) (oi := { dst := some 152, op := Op.move (Operand.tmp 151), type := 4, pos := "more.go:47", after := #[{ on := 18, ground := Ground.data }, { on := 12, ground := Ground.chain }], guard := none }) (v := ?vnF19) rfl (by kernel_rfl) (by kernel_rfl) (by kernel_rfl) (fun _ _ _ h => h) (Or.inl ⟨by rfl, ?hynF19⟩) (by assumption) ?_
                  case hynF19 => (intro W hSw; (try dsimp only at hSw); go_simp; (try with_reducible rfl))
                  try simp only [Act.put, List.setIfInBounds_toArray, List.set_cons_zero, List.set_cons_succ]
                  refine wpAnyH_take (i := 20) (oi := { dst := some 153, op := Op.move (Operand.tmp 19), type := 67, pos := "more.go:47", after := #[{ on := 19, ground := Ground.guard }], guard := some (19, false) }) (v := ?vnF20) rfl (by kernel_rfl) (by kernel_rfl) (by kernel_rfl) (fun _ _ _ h => h) (Or.inl ⟨by rfl, ?hynF20⟩) (by assumption) ?_
                  case hynF20 => (intro W hSw; (try dsimp only at hSw); go_simp; (try with_reducible rfl))
                  try simp only [Act.put, List.setIfInBounds_toArray, List.set_cons_zero, List.set_cons_succ]
                  refine wpAnyH_take (i := 21) (oi := { dst := some 154, op := Op.move (Operand.tmp 18), type := 3, pos := "more.go:47", after := #[{ on := 19, ground := Ground.guard }], guard := some (19, false) }) (v := ?vnF21) rfl (by kernel_rfl) (by kernel_rfl) (by kernel_rfl) (fun _ _ _ h => h) (Or.inl ⟨by rfl, ?hynF21⟩) (by assumption) ?_
                  case hynF21 => (intro W hSw; (try dsimp only at hSw); go_simp; (try with_reducible rfl))
                  try simp only [Act.put, List.setIfInBounds_toArray, List.set_cons_zero, List.set_cons_succ]
                  refine wpAnyH_take (i := 22) (oi := { dst := some 155, op := Op.indexAddr 67 (Operand.tmp 153) (Operand.tmp 154), type := 0, pos := "more.go:47", after := #[{ on := 20, ground := Ground.data }, { on := 21, ground := Ground.data }, { on := 19, ground := Ground.guard }], guard := some (19, false) }) (v := ?vnF22) rfl (by kernel_rfl) (by kernel_rfl) (by kernel_rfl) (fun _ _ _ h => h) (Or.inl ⟨by rfl, ?hynF22⟩) (by assumption) ?_
                  case hynF22 => (intro W hSw; (try dsimp only at hSw); go_simp; (try with_reducible rfl))
                  try simp only [Act.put, List.setIfInBounds_toArray, List.set_cons_zero, List.set_cons_succ]
                  refine wpAnyH_take (i := 23) (oi := { dst := some 156, op := Op.fieldAddr 78 (Operand.tmp 155) 2, type := 0, pos := "more.go:47", after := #[{ on := 22, ground := Ground.data }, { on := 19, ground := Ground.guard }], guard := some (19, false) }) (v := ?vnF23) rfl (by kernel_rfl) (by kernel_rfl) (by kernel_rfl) (fun _ _ _ h => h) (Or.inl ⟨by rfl, ?hynF23⟩) (by assumption) ?_
                  case hynF23 => (intro W hSw; (try dsimp only at hSw); go_simp; (try with_reducible rfl))
                  try simp only [Act.put, List.setIfInBounds_toArray, List.set_cons_zero, List.set_cons_succ]
                  refine wpAnyH_take (i := 24) (oi := { dst := some 157, op := Op.load 3 (Operand.tmp 156), type := 3, pos := "more.go:47", after := #[{ on := 23, ground := Ground.data }, { on := 19, ground := Ground.guard }], guard := some (19, false) }) (v := ?vnF24) rfl (by kernel_rfl) (by kernel_rfl) (by kernel_rfl) (fun _ _ _ h => h) (Or.inl ⟨by rfl, ?hynF24⟩) (by assumption) ?_
                  case hynF24 => (intro W hSw; (try dsimp only at hSw); go_simp; (try with_reducible rfl))
                  try simp only [Act.put, List.setIfInBounds_toArray, List.set_cons_zero, List.set_cons_succ]
                  refine wpAnyH_take (i := 25) (oi := { dst := some 158, op := Op.binOp BinOp.eql 3 (Operand.tmp 157) (Operand.const (Value.int IntKind.i64 1)) 3, type := 4, pos := "more.go:47", after := #[{ on := 24, ground := Ground.data }, { on := 19, ground := Ground.guard }], guard := some (19, false) }) (v := .bool false) rfl (by kernel_rfl) (by kernel_rfl) (by kernel_rfl) (fun _ _ _ h => h) (Or.inl ⟨by rfl, ?hynF25⟩) (by assumption) ?_
                  case hynF25 => (intro W hSw; (try dsimp only at hSw); go_simp; all_goals (first | with_reducible rfl | (simp only [hka]; done) | simp [hka]))
                  try simp only [Act.put, List.setIfInBounds_toArray, List.set_cons_zero, List.set_cons_succ]
                  refine wpAnyH_take (i := 26) (oi := { dst := some 159, op := Op.move (Operand.tmp 158), type := 4, pos := "more.go:47", after := #[{ on := 25, ground := Ground.data }, { on := 19, ground := Ground.chain }, { on := 19, ground := Ground.guard }], guard := some (19, false) }) (v := ?vnF26) rfl (by kernel_rfl) (by kernel_rfl) (by kernel_rfl) (fun _ _ _ h => h) (Or.inl ⟨by rfl, ?hynF26⟩) (by assumption) ?_
                  case hynF26 => (intro W hSw; (try dsimp only at hSw); go_simp; (try with_reducible rfl))
                  try simp only [Act.put, List.setIfInBounds_toArray, List.set_cons_zero, List.set_cons_succ]
                  refine wpAnyH_take (i := 27) (oi := { dst := some 160, op := Op.load 32 (Operand.tmp 23), type := 32, pos := "more.go:47", after := #[{ on := 26, ground := Ground.guard }], guard := some (26, true) }) (v := undef) rfl (by kernel_rfl) (by kernel_rfl) (by kernel_rfl) (fun _ _ _ h => h) (Or.inr ⟨by rfl, rfl⟩) (by assumption) ?_
                  try simp only [Act.put, List.setIfInBounds_toArray, List.set_cons_zero, List.set_cons_succ]
                  refine wpAnyH_take (i := 28) (oi := { dst := some 161, op := Op.load 32 (Operand.tmp 20), type := 32, pos := "more.go:47", after := #[{ on := 26, ground := Ground.guard }], guard := some (26, true) }) (v := undef) rfl (by kernel_rfl) (by kernel_rfl) (by kernel_rfl) (fun _ _ _ h => h) (Or.inr ⟨by rfl, rfl⟩) (by assumption) ?_
                  try simp only [Act.put, List.setIfInBounds_toArray, List.set_cons_zero, List.set_cons_succ]
                  refine wpAnyH_take (i := 29) (oi := { dst := some 162, op := Op.call { callee := Callee.value (Operand.func 32), args := #[Operand.tmp 160, Operand.tmp 161], argTypes := #[32, 32] }, type := 4, pos := "more.go:47", after := #[{ on := 27, ground := Ground.data }, { on := 28, ground := Ground.data }, { on := 26, ground := Ground.chain }, { on := 26, ground := Ground.guard }], guard := some (26, true) }) (v := undef) rfl (by kernel_rfl) (by kernel_rfl) (by kernel_rfl) (fun _ _ _ h => h) (Or.inr ⟨by rfl, rfl⟩) (by assumption) ?_
                  try simp only [Act.put, List.setIfInBounds_toArray, List.set_cons_zero, List.set_cons_succ]
                  refine wpAnyH_take (i := 30) (oi := { dst := some 163, op := Op.unOp UnOp.not 4 (Operand.tmp 162), type := 4, pos := "more.go:47", after := #[{ on := 29, ground := Ground.data }, { on := 26, ground := Ground.guard }], guard := some (26, true) }) (v := undef) rfl (by kernel_rfl) (by kernel_rfl) (by kernel_rfl) (fun _ _ _ h => h) (Or.inr ⟨by rfl, rfl⟩) (by assumption) ?_
                  try simp only [Act.put, List.setIfInBounds_toArray, List.set_cons_zero, List.set_cons_succ]
                  refine wpAnyH_take (i := 31) (oi := { dst := some 164, op := Op.pick (Operand.tmp 159) (Operand.tmp 163) (Operand.const (Value.bool false)), type := 4, pos := "more.go:47", after := #[{ on := 26, ground := Ground.data }, { on := 30, ground := Ground.data }, { on := 19, ground := Ground.guard }], guard := some (19, false) }) (v := ?vnF31) rfl (by kernel_rfl) (by kernel_rfl) (by kernel_rfl) (fun _ _ _ h => h) (Or.inl ⟨by rfl, ?hynF31⟩) (by assumption) ?_
                  case hynF31 => (intro W hSw; (try dsimp only at hSw); go_simp; (try with_reducible rfl))
                  try simp only [Act.put, List.setIfInBounds_toArray, List.set_cons_zero, List.set_cons_succ]
                  refine wpAnyH_take (i := 32) (oi := { dst := some 165, op := Op.pick (Operand.tmp 152) (Operand.const (Value.bool true)) (Operand.tmp 164), type := 4, pos := "more.go:47", after := #[{ on := 19, ground := Ground.data }, { on := 31, ground := Ground.data }], guard := none }) (v := ?vnF32) rfl (by kernel_rfl) (by kernel_rfl) (by kernel_rfl) (fun _ _ _ h => h) (Or.inl ⟨by rfl, ?hynF32⟩) (by assumption) ?_
                  case hynF32 => (intro W hSw; (try dsimp only at hSw); go_simp; (try with_reducible rfl))
                  try simp only [Act.put, List.setIfInBounds_toArray, List.set_cons_zero, List.set_cons_succ]
                  refine wpAnyH_take (i := 33) (oi := { dst := some 166, op := Op.move (Operand.tmp 165), type := 4, pos := "more.go:47", after := #[{ on := 32, ground := Ground.data }, { on := 29, ground := Ground.chain }], guard := none }) (v := ?vnF33) rfl (by kernel_rfl) (by kernel_rfl) (by kernel_rfl) (fun _ _ _ h => h) (Or.inl ⟨by rfl, ?hynF33⟩) (by assumption) ?_
                  case hynF33 => (intro W hSw; (try dsimp only at hSw); go_simp; (try with_reducible rfl))
                  try simp only [Act.put, List.setIfInBounds_toArray, List.set_cons_zero, List.set_cons_succ]
                  refine wpAnyH_take (i := 34) (oi := { dst := some 167, op := Op.load 32 (Operand.tmp 20), type := 32, pos := "more.go:47", after := #[{ on := 33, ground := Ground.guard }], guard := some (33, false) }) (v := ?vnF34) rfl (by kernel_rfl) (by kernel_rfl) (by kernel_rfl) (fun _ _ _ h => h) (Or.inl ⟨by rfl, ?hynF34⟩) (by assumption) ?_
                  case hynF34 => (intro W hSw; (try dsimp only at hSw); go_simp; (try with_reducible rfl))
                  try simp only [Act.put, List.setIfInBounds_toArray, List.set_cons_zero, List.set_cons_succ]
                  refine wpAnyH_take (i := 35) (oi := { dst := some 168, op := Op.move (Operand.tmp 14), type := 38, pos := "more.go:47", after := #[{ on := 33, ground := Ground.guard }], guard := some (33, false) }) (v := ?vnF35) rfl (by kernel_rfl) (by kernel_rfl) (by kernel_rfl) (fun _ _ _ h => h) (Or.inl ⟨by rfl, ?hynF35⟩) (by assumption) ?_
                  case hynF35 => (intro W hSw; (try dsimp only at hSw); go_simp; (try with_reducible rfl))
                  try simp only [Act.put, List.setIfInBounds_toArray, List.set_cons_zero, List.set_cons_succ]
                  refine wpAnyH_ready (rs := [36]) (by kernel_rfl) (by simp) ?_
                  refine AllReadyH.cons (o := { dst := some 169, op := Op.call { callee := Callee.value (Operand.func 17), args := #[Operand.tmp 168], argTypes := #[38] }, type := 34, pos := "more.go:47", after := #[{ on := 35, ground := Ground.data }, { on := 33, ground := Ground.chain }, { on := 33, ground := Ground.guard }], guard := some (33, false) }) rfl (fun K_ hK => ?_) AllReadyH.nil
                  go_simp
                  refine (hfr _ hDa).mono ?_
                  rintro e wx ⟨rfl, hDx⟩
                  go_wp2_with fail
                  refine hK.out _ _ (HSF.out _ hDx) (fun hHeld => ?_)
                  clear hK K_
                  try simp only [Act.put, List.setIfInBounds_toArray, List.set_cons_zero, List.set_cons_succ]
                  refine wpAnyH_take (i := 37) (oi := { dst := some 170, op := Op.field 34 (Operand.tmp 169) 3, type := 32, pos := "more.go:47", after := #[{ on := 36, ground := Ground.data }, { on := 33, ground := Ground.guard }], guard := some (33, false) }) (v := ?vnF37) rfl (by kernel_rfl) (by kernel_rfl) (by kernel_rfl) (fun _ _ _ h => h) (Or.inl ⟨by rfl, ?hynF37⟩) (by assumption) ?_
                  case hynF37 => (intro W hSw; (try dsimp only at hSw); go_simp; (try with_reducible rfl))
                  try simp only [Act.put, List.setIfInBounds_toArray, List.set_cons_zero, List.set_cons_succ]
                  refine wpAnyH_take (i := 38) (oi := { dst := some 171, op := Op.binOp BinOp.neq 32 (Operand.tmp 167) (Operand.tmp 170) 32, type := 4, pos := "more.go:47", after := #[{ on := 34, ground := Ground.data }, { on := 37, ground := Ground.data }, { on := 33, ground := Ground.guard }], guard := some (33, false) }) (v := ?vnF38) rfl (by kernel_rfl) (by kernel_rfl) (by kernel_rfl) (fun _ _ _ h => h) (Or.inl ⟨by rfl, ?hynF38⟩) (by assumption) ?_
                  case hynF38 => (intro W hSw; (try dsimp only at hSw); go_simp; (try with_reducible rfl))
                  try simp only [Act.put, List.setIfInBounds_toArray, List.set_cons_zero, List.set_cons_succ]
                  refine wpAnyH_take (i := 39) (oi := { dst := some 172, op := Op.pick (Operand.tmp 166) (Operand.const (Value.bool true)) (Operand.tmp 171), type := 4, pos := "more.go:47", after := #[{ on := 33, ground := Ground.data }, { on := 38, ground := Ground.data }], guard := none }) (v := ?vnF39) rfl (by kernel_rfl) (by kernel_rfl) (by kernel_rfl) (fun _ _ _ h => h) (Or.inl ⟨by rfl, ?hynF39⟩) (by assumption) ?_
                  case hynF39 => (intro W hSw; (try dsimp only at hSw); go_simp; (try with_reducible rfl))
                  try simp only [Act.put, List.setIfInBounds_toArray, List.set_cons_zero, List.set_cons_succ]
                  refine wpAnyH_done (by kernel_rfl) ?_ _
                  clear hw1 hfr HSF
                  have hdn := HDN.out _ hDx.out
                  by_cases hs4 : (r.next z).st = 4
                  · rw [show ((r.next z).st == 4) = true from by simpa using hs4] at hdn
                    have hfr := HFR.out _ hDx.out
                    clear hHeld
                    go_wp2_with (go_at_call 14; refine hdn.mono ?_; rintro e wq ⟨rfl, rfl⟩)
                    refine hfr.mono ?_
                    rintro e w15 ⟨rfl, h15⟩
                    clear hfr hdn
                    obtain ⟨qa, qc, qd, qx, qy, x0, x1, x2, x3, x4, y0, y1, y2, y3, y4, HPN⟩ := HNE.out _ h15 hs4
                    clear h15
                    go_wp2
                    go_roundw
                    case rel => exact ⟨i + 1, j + 1, bl2, _, rfl, by go_num, by go_num, by omega, by omega, .inl ⟨rfl, sn2, ⟨G0, G1⟩, HPN⟩⟩
                    case measure => simp [intOf]; omega
                  · rw [show ((r.next z).st == 4) = false from by simpa using hs4] at hdn
                    have HPX : Hid (PX w b A F K (2 + (i + 1)) fs bl2 (.slice (some ⟨g, 0, none⟩) (LL + 1) bc) wx) := HXE.out _ hDx.out hs4
                    clear hHeld
                    go_wp2_with (go_at_call 14; refine hdn.mono ?_; rintro e wq ⟨rfl, rfl⟩)
                    go_roundw
                    case rel => exact ⟨i + 1, j, bl2, _, rfl, by go_num, rfl, by omega, hj, .inr ⟨K, fs, rfl, hjt, HPX⟩⟩
                    case measure => simp [intOf]; omega
              | true =>
                as_aux_lemma =>
                  have hst1 : r.st = 1 := by
                    rw [hka] at hk1
                    simpa using hk1.symm
                  replace hw2 := hw2 hst1
                  refine wp_region_held_drew (S := fun W => W.cell? ⟨WB, 0, none⟩ = some (.int .u64 G0) ∧ W.cell? ⟨WB, 1, none⟩ = some (.int .u64 G1) ∧ W.cell? ⟨AB, 0, none⟩ = some (.int .u64 T0) ∧ W.cell? ⟨AB, 1, none⟩ = some (.int .u64 T1) ∧ W.cell? ⟨OB, 0, none⟩ = some (.int .u64 B0) ∧ W.cell? ⟨OB, 1, none⟩ = some (.int .u64 B1) ∧ W.cell? ⟨p, ZL * 6 + 2, none⟩ = some (.int .i64 ka) ∧ Hid (HL W)) (by kernel_rfl) (HSF.out _ hD) (fun hHeld => ?_)
                  refine wpAnyH_take (i := 0) (oi := { dst := some 133, op := Op.move (Operand.tmp 22), type := 28, pos := "more.go:47", after := #[], guard := none }) (v := ?vnT0) rfl (by kernel_rfl) (by kernel_rfl) (by kernel_rfl) (fun _ _ _ h => h) (Or.inl ⟨by rfl, ?hynT0⟩) (by assumption) ?_
                  case hynT0 => (intro W hSw; (try dsimp only at hSw); go_simp; (try with_reducible rfl))
                  try simp only [Act.put, List.setIfInBounds_toArray, List.set_cons_zero, List.set_cons_succ]
                  refine wpAnyH_take (i := 1) (oi := { dst := some 134, op := Op.binOp BinOp.neq 28 (Operand.tmp 133) (Operand.const (Value.int IntKind.i64 0)) 28, type := 4, pos := "more.go:47", after := #[{ on := 0, ground := Ground.data }], guard := none }) (v := ?vnT1) rfl (by kernel_rfl) (by kernel_rfl) (by kernel_rfl) (fun _ _ _ h => h) (Or.inl ⟨by rfl, ?hynT1⟩) (by assumption) ?_
                  case hynT1 => (intro W hSw; (try dsimp only at hSw); go_simp; (try with_reducible rfl))
                  try simp only [Act.put, List.setIfInBounds_toArray, List.set_cons_zero, List.set_cons_succ]
                  refine wpAnyH_take (i := 2) (oi := { dst := some 135, op := Op.move (Operand.tmp 134), type := 4, pos := "more.go:47", after := #[{ on := 1, ground := Ground.data }], guard := none }) (v := ?vnT2) rfl (by kernel_rfl) (by kernel_rfl) (by kernel_rfl) (fun _ _ _ h => h) (Or.inl ⟨by rfl, ?hynT2⟩) (by assumption) ?_
                  case hynT2 => (intro W hSw; (try dsimp only at hSw); go_simp; (try with_reducible rfl))
                  try simp only [Act.put, List.setIfInBounds_toArray, List.set_cons_zero, List.set_cons_succ]
                  refine wpAnyH_take (i := 3) (oi := { dst := some 136, op := Op.move (Operand.tmp 24), type := 28, pos := "more.go:47", after := #[{ on := 2, ground := Ground.guard }], guard := some (2, false) }) (v := ?vnT3) rfl (by kernel_rfl) (by kernel_rfl) (by kernel_rfl) (fun _ _ _ h => h) (Or.inl ⟨by rfl, ?hynT3⟩) (by assumption) ?_
                  case hynT3 => (intro W hSw; (try dsimp only at hSw); go_simp; (try with_reducible rfl))
                  try simp only [Act.put, List.setIfInBounds_toArray, List.set_cons_zero, List.set_cons_succ]
                  refine wpAnyH_take (i := 4) (oi := { dst := some 137, op := Op.binOp BinOp.neq 28 (Operand.tmp 136) (Operand.const (Value.int IntKind.i64 0)) 28, type := 4, pos := "more.go:47", after := #[{ on := 3, ground := Ground.data }, { on := 2, ground := Ground.guard }], guard := some (2, false) }) (v := ?vnT4) rfl (by kernel_rfl) (by kernel_rfl) (by kernel_rfl) (fun _ _ _ h => h) (Or.inl ⟨by rfl, ?hynT4⟩) (by assumption) ?_
                  case hynT4 => (intro W hSw; (try dsimp only at hSw); go_simp; (try with_reducible rfl))
                  try simp only [Act.put, List.setIfInBounds_toArray, List.set_cons_zero, List.set_cons_succ]
                  refine wpAnyH_take (i := 5) (oi := { dst := some 138, op := Op.pick (Operand.tmp 135) (Operand.const (Value.bool true)) (Operand.tmp 137), type := 4, pos := "more.go:47", after := #[{ on := 2, ground := Ground.data }, { on := 4, ground := Ground.data }], guard := none }) (v := ?vnT5) rfl (by kernel_rfl) (by kernel_rfl) (by kernel_rfl) (fun _ _ _ h => h) (Or.inl ⟨by rfl, ?hynT5⟩) (by assumption) ?_
                  case hynT5 => (intro W hSw; (try dsimp only at hSw); go_simp; (try with_reducible rfl))
                  try simp only [Act.put, List.setIfInBounds_toArray, List.set_cons_zero, List.set_cons_succ]
                  refine wpAnyH_take (i := 6) (oi := { dst := some 139, op := Op.move (Operand.tmp 138), type := 4, pos := "more.go:47", after := #[{ on := 5, ground := Ground.data }, { on := 2, ground := Ground.chain }], guard := none }) (v := ?vnT6) rfl (by kernel_rfl) (by kernel_rfl) (by kernel_rfl) (fun _ _ _ h => h) (Or.inl ⟨by rfl, ?hynT6⟩) (by assumption) ?_
                  case hynT6 => (intro W hSw; (try dsimp only at hSw); go_simp; (try with_reducible rfl))
                  try simp only [Act.put, List.setIfInBounds_toArray, List.set_cons_zero, List.set_cons_succ]
                  refine wpAnyH_take (i := 7) (oi := { dst := some 140, op := Op.load 32 (Operand.tmp 20), type := 32, pos := "more.go:47", after := #[{ on := 6, ground := Ground.guard }], guard := some (6, false) }) (v := ?vnT7) rfl (by kernel_rfl) (by kernel_rfl) (by kernel_rfl) (fun _ _ _ h => h) (Or.inl ⟨by rfl, ?hynT7⟩) (by assumption) ?_
                  case hynT7 => (intro W hSw; (try dsimp only at hSw); go_simp; (try with_reducible rfl))
                  try simp only [Act.put, List.setIfInBounds_toArray, List.set_cons_zero, List.set_cons_succ]
                  refine wpAnyH_take (i := 8) (oi := { dst := some 141, op := Op.load 32 (Operand.tmp 21), type := 32, pos := "more.go:47", after := #[{ on := 6, ground := Ground.guard }], guard := some (6, false) }) (v := ?vnT8) rfl (by kernel_rfl) (by kernel_rfl) (by kernel_rfl) (fun _ _ _ h => h) (Or.inl ⟨by rfl, ?hynT8⟩) (by assumption) ?_
                  case hynT8 => (intro W hSw; (try dsimp only at hSw); go_simp; (try with_reducible rfl))
                  try simp only [Act.put, List.setIfInBounds_toArray, List.set_cons_zero, List.set_cons_succ]
                  refine wpAnyH_ready (rs := [9]) (by kernel_rfl) (by simp) ?_
                  refine AllReadyH.cons (o := { dst := some 142, op := Op.call { callee := Callee.value (Operand.func 32), args := #[Operand.tmp 140, Operand.tmp 141], argTypes := #[32, 32] }, type := 4, pos := "more.go:47", after := #[{ on := 7, ground := Ground.data }, { on := 8, ground := Ground.data }, { on := 6, ground := Ground.chain }, { on := 6, ground := Ground.guard }], guard := some (6, false) }) rfl (fun K_ hK => ?_) AllReadyH.nil
                  go_simp
                  refine (hw1 _ hD).mono ?_
                  rintro e wa ⟨rfl, hDa⟩
                  go_wp2_with fail
                  refine hK.out _ _ (HSF.out _ hDa) (fun hHeld => ?_)
                  clear hK K_
                  try simp only [Act.put, List.setIfInBounds_toArray, List.set_cons_zero, List.set_cons_succ]
                  refine wpAnyH_take (i := 10) (oi := { dst := some 143, op := Op.unOp UnOp.not 4 (Operand.tmp 142), type := 4, pos := "more.go:47", after := #[{ on := 9, ground := Ground.data }, { on := 6, ground := Ground.guard }], guard := some (6, false) }) (v := ?vnT10) rfl (by kernel_rfl) (by kernel_rfl) (by kernel_rfl) (fun _ _ _ h => h) (Or.inl ⟨by rfl, ?hynT10⟩) (by assumption) ?_
                  case hynT10 => (intro W hSw; (try dsimp only at hSw); go_simp; (try with_reducible rfl))
                  try simp only [Act.put, List.setIfInBounds_toArray, List.set_cons_zero, List.set_cons_succ]
                  refine wpAnyH_take (i := 11) (oi := { dst := some 144, op := Op.pick (Operand.tmp 139) (Operand.const (Value.bool true)) (Operand.tmp 143), type := 4, pos := "more.go:47", after := #[{ on := 6, ground := Ground.data }, { on := 10, ground := Ground.data }], guard := none }) (v := ?vnT11) rfl (by kernel_rfl) (by kernel_rfl) (by kernel_rfl) (fun _ _ _ h => h) (Or.inl ⟨by rfl, ?hynT11⟩) (by assumption) ?_
                  case hynT11 => (intro W hSw; (try dsimp only at hSw); go_simp; (try with_reducible rfl))
                  try simp only [Act.put, List.setIfInBounds_toArray, List.set_cons_zero, List.set_cons_succ]
                  refine wpAnyH_take (i := 12) (oi := { dst := some 145, op := Op.move (Operand.tmp 144), type := 4, pos := "more.go:47", after := #[{ on := 11, ground := Ground.data }, { on := 9, ground := Ground.chain }], guard := none }) (v := ?vnT12) rfl (by kernel_rfl) (by kernel_rfl) (by kernel_rfl) (fun _ _ _ h => h) (Or.inl ⟨by rfl, ?hynT12⟩) (by assumption) ?_
                  case hynT12 => (intro W hSw; (try dsimp only at hSw); go_simp; (try with_reducible rfl))
                  try simp only [Act.put, List.setIfInBounds_toArray, List.set_cons_zero, List.set_cons_succ]
                  refine wpAnyH_take (i := 13) (oi := { dst := some 146, op := Op.move (Operand.tmp 19), type := 67, pos := "more.go:47", after := #[{ on := 12, ground := Ground.guard }], guard := some (12, false) }) (v := ?vnT13) rfl (by kernel_rfl) (by kernel_rfl) (by kernel_rfl) (fun _ _ _ h => h) (Or.inl ⟨by rfl, ?hynT13⟩) (by assumption) ?_
                  case hynT13 => (intro W hSw; (try dsimp only at hSw); go_simp; (try with_reducible rfl))
                  try simp only [Act.put, List.setIfInBounds_toArray, List.set_cons_zero, List.set_cons_succ]
                  refine wpAnyH_take (i := 14) (oi := { dst := some 147, op := Op.call { callee := Callee.builtin Builtin.len, args := #[Operand.tmp 146], argTypes := #[67] }, type := 3, pos := "more.go:47", after := #[{ on := 13, ground := Ground.data }, { on := 12, ground := Ground.guard }], guard := some (12, false) }) (v := ?vnT14) rfl (by kernel_rfl) (by kernel_rfl) (by kernel_rfl) (fun _ _ _ h => h) (Or.inl ⟨by rfl, ?hynT14⟩) (by assumption) ?_
                  case hynT14 => (intro W hSw; (try dsimp only at hSw); go_simp; (try with_reducible rfl))
                  try simp only [Act.put, List.setIfInBounds_toArray, List.set_cons_zero, List.set_cons_succ]
                  refine wpAnyH_take (i := 15) (oi := { dst := some 148, op := Op.move (Operand.tmp 18), type := 3, pos := "more.go:47", after := #[{ on := 12, ground := Ground.guard }], guard := some (12, false) }) (v := ?vnT15) rfl (by kernel_rfl) (by kernel_rfl) (by kernel_rfl) (fun _ _ _ h => h) (Or.inl ⟨by rfl, ?hynT15⟩) (by assumption) ?_
                  case hynT15 => (intro W hSw; (try dsimp only at hSw); go_simp; (try with_reducible rfl))
                  try simp only [Act.put, List.setIfInBounds_toArray, List.set_cons_zero, List.set_cons_succ]
                  refine wpAnyH_take (i := 16) (oi := { dst := some 149, op := Op.binOp BinOp.add 3 (Operand.tmp 148) (Operand.const (Value.int IntKind.i64 1)) 3, type := 3, pos := "more.go:47", after := #[{ on := 15, ground := Ground.data }, { on := 12, ground := Ground.guard }], guard := some (12, false) }) (v := ?vnT16) rfl (by kernel_rfl) (by kernel_rfl) (by kernel_rfl) (fun _ _ _ h => h) (Or.inl ⟨by rfl, ?hynT16⟩) (by assumption) ?_
                  case hynT16 => (intro W hSw; (try dsimp only at hSw); go_simp; (try with_reducible rfl))
                  try simp only [Act.put, List.setIfInBounds_toArray, List.set_cons_zero, List.set_cons_succ]
                  refine wpAnyH_take (i := 17) (oi := { dst := some 150, op := Op.binOp BinOp.neq 3 (Operand.tmp 147) (Operand.tmp 149) 3, type := 4, pos := "more.go:47", after := #[{ on := 14, ground := Ground.data }, { on := 16, ground := Ground.data }, { on := 12, ground := Ground.guard }], guard := some (12, false) }) (v := ?vnT17) rfl (by kernel_rfl) (by kernel_rfl) (by kernel_rfl) (fun _ _ _ h => h) (Or.inl ⟨by rfl, ?hynT17⟩) (by assumption) ?_
                  case hynT17 => (intro W hSw; (try dsimp only at hSw); go_simp; (try with_reducible rfl))
                  try simp only [Act.put, List.setIfInBounds_toArray, List.set_cons_zero, List.set_cons_succ]
                  refine wpAnyH_take (i := 18) (oi := { dst := some 151, op := Op.pick (Operand.tmp 145) (Operand.const (Value.bool true)) (Operand.tmp 150), type := 4, pos := "more.go:47", after := #[{ on := 12, ground := Ground.data }, { on := 17, ground := Ground.data }], guard := none }) (v := ?vnT18) rfl (by kernel_rfl) (by kernel_rfl) (by kernel_rfl) (fun _ _ _ h => h) (Or.inl ⟨by rfl, ?hynT18⟩) (by assumption) ?_
                  case hynT18 => (intro W hSw; (try dsimp only at hSw); go_simp; (try with_reducible rfl))
                  try simp only [Act.put, List.setIfInBounds_toArray, List.set_cons_zero, List.set_cons_succ]
                  refine wpAnyH_take (i := 19) (oi := { dst := some 152, op := Op.move (Operand.tmp 151), type := 4, pos := "more.go:47", after := #[{ on := 18, ground := Ground.data }, { on := 12, ground := Ground.chain }], guard := none }) (v := ?vnT19) rfl (by kernel_rfl) (by kernel_rfl) (by kernel_rfl) (fun _ _ _ h => h) (Or.inl ⟨by rfl, ?hynT19⟩) (by assumption) ?_
                  case hynT19 => (intro W hSw; (try dsimp only at hSw); go_simp; (try with_reducible rfl))
                  try simp only [Act.put, List.setIfInBounds_toArray, List.set_cons_zero, List.set_cons_succ]
                  refine wpAnyH_take (i := 20) (oi := { dst := some 153, op := Op.move (Operand.tmp 19), type := 67, pos := "more.go:47", after := #[{ on := 19, ground := Ground.guard }], guard := some (19, false) }) (v := ?vnT20) rfl (by kernel_rfl) (by kernel_rfl) (by kernel_rfl) (fun _ _ _ h => h) (Or.inl ⟨by rfl, ?hynT20⟩) (by assumption) ?_
                  case hynT20 => (intro W hSw; (try dsimp only at hSw); go_simp; (try with_reducible rfl))
                  try simp only [Act.put, List.setIfInBounds_toArray, List.set_cons_zero, List.set_cons_succ]
                  refine wpAnyH_take (i := 21) (oi := { dst := some 154, op := Op.move (Operand.tmp 18), type := 3, pos := "more.go:47", after := #[{ on := 19, ground := Ground.guard }], guard := some (19, false) }) (v := ?vnT21) rfl (by kernel_rfl) (by kernel_rfl) (by kernel_rfl) (fun _ _ _ h => h) (Or.inl ⟨by rfl, ?hynT21⟩) (by assumption) ?_
                  case hynT21 => (intro W hSw; (try dsimp only at hSw); go_simp; (try with_reducible rfl))
                  try simp only [Act.put, List.setIfInBounds_toArray, List.set_cons_zero, List.set_cons_succ]
                  refine wpAnyH_take (i := 22) (oi := { dst := some 155, op := Op.indexAddr 67 (Operand.tmp 153) (Operand.tmp 154), type := 0, pos := "more.go:47", after := #[{ on := 20, ground := Ground.data }, { on := 21, ground := Ground.data }, { on := 19, ground := Ground.guard }], guard := some (19, false) }) (v := ?vnT22) rfl (by kernel_rfl) (by kernel_rfl) (by kernel_rfl) (fun _ _ _ h => h) (Or.inl ⟨by rfl, ?hynT22⟩) (by assumption) ?_
                  case hynT22 => (intro W hSw; (try dsimp only at hSw); go_simp; (try with_reducible rfl))
                  try simp only [Act.put, List.setIfInBounds_toArray, List.set_cons_zero, List.set_cons_succ]
                  refine wpAnyH_take (i := 23) (oi := { dst := some 156, op := Op.fieldAddr 78 (Operand.tmp 155) 2, type := 0, pos := "more.go:47", after := #[{ on := 22, ground := Ground.data }, { on := 19, ground := Ground.guard }], guard := some (19, false) }) (v := ?vnT23) rfl (by kernel_rfl) (by kernel_rfl) (by kernel_rfl) (fun _ _ _ h => h) (Or.inl ⟨by rfl, ?hynT23⟩) (by assumption) ?_
                  case hynT23 => (intro W hSw; (try dsimp only at hSw); go_simp; (try with_reducible rfl))
                  try simp only [Act.put, List.setIfInBounds_toArray, List.set_cons_zero, List.set_cons_succ]
                  refine wpAnyH_take (i := 24) (oi := { dst := some 157, op := Op.load 3 (Operand.tmp 156), type := 3, pos := "more.go:47", after := #[{ on := 23, ground := Ground.data }, { on := 19, ground := Ground.guard }], guard := some (19, false) }) (v := ?vnT24) rfl (by kernel_rfl) (by kernel_rfl) (by kernel_rfl) (fun _ _ _ h => h) (Or.inl ⟨by rfl, ?hynT24⟩) (by assumption) ?_
                  case hynT24 => (intro W hSw; (try dsimp only at hSw); go_simp; (try with_reducible rfl))
                  try simp only [Act.put, List.setIfInBounds_toArray, List.set_cons_zero, List.set_cons_succ]
                  refine wpAnyH_take (i := 25) (oi := { dst := some 158, op := Op.binOp BinOp.eql 3 (Operand.tmp 157) (Operand.const (Value.int IntKind.i64 1)) 3, type := 4, pos := "more.go:47", after := #[{ on := 24, ground := Ground.data }, { on := 19, ground := Ground.guard }], guard := some (19, false) }) (v := .bool true) rfl (by kernel_rfl) (by kernel_rfl) (by kernel_rfl) (fun _ _ _ h => h) (Or.inl ⟨by rfl, ?hynT25⟩) (by assumption) ?_
                  case hynT25 => (intro W hSw; (try dsimp only at hSw); go_simp; all_goals (first | with_reducible rfl | (simp only [hka]; done) | simp [hka]))
                  try simp only [Act.put, List.setIfInBounds_toArray, List.set_cons_zero, List.set_cons_succ]
                  refine wpAnyH_take (i := 26) (oi := { dst := some 159, op := Op.move (Operand.tmp 158), type := 4, pos := "more.go:47", after := #[{ on := 25, ground := Ground.data }, { on := 19, ground := Ground.chain }, { on := 19, ground := Ground.guard }], guard := some (19, false) }) (v := ?vnT26) rfl (by kernel_rfl) (by kernel_rfl) (by kernel_rfl) (fun _ _ _ h => h) (Or.inl ⟨by rfl, ?hynT26⟩) (by assumption) ?_
                  case hynT26 => (intro W hSw; (try dsimp only at hSw); go_simp; (try with_reducible rfl))
                  try simp only [Act.put, List.setIfInBounds_toArray, List.set_cons_zero, List.set_cons_succ]
                  refine wpAnyH_take (i := 27) (oi := { dst := some 160, op := Op.load 32 (Operand.tmp 23), type := 32, pos := "more.go:47", after := #[{ on := 26, ground := Ground.guard }], guard := some (26, true) }) (v := ?vnT27) rfl (by kernel_rfl) (by kernel_rfl) (by kernel_rfl) (fun _ _ _ h => h) (Or.inl ⟨by rfl, ?hynT27⟩) (by assumption) ?_
                  case hynT27 => (intro W hSw; (try dsimp only at hSw); go_simp; (try with_reducible rfl))
                  try simp only [Act.put, List.setIfInBounds_toArray, List.set_cons_zero, List.set_cons_succ]
                  refine wpAnyH_take (i := 28) (oi := { dst := some 161, op := Op.load 32 (Operand.tmp 20), type := 32, pos := "more.go:47", after := #[{ on := 26, ground := Ground.guard }], guard := some (26, true) }) (v := ?vnT28) rfl (by kernel_rfl) (by kernel_rfl) (by kernel_rfl) (fun _ _ _ h => h) (Or.inl ⟨by rfl, ?hynT28⟩) (by assumption) ?_
                  case hynT28 => (intro W hSw; (try dsimp only at hSw); go_simp; (try with_reducible rfl))
                  try simp only [Act.put, List.setIfInBounds_toArray, List.set_cons_zero, List.set_cons_succ]
                  refine wpAnyH_ready (rs := [29]) (by kernel_rfl) (by simp) ?_
                  refine AllReadyH.cons (o := { dst := some 162, op := Op.call { callee := Callee.value (Operand.func 32), args := #[Operand.tmp 160, Operand.tmp 161], argTypes := #[32, 32] }, type := 4, pos := "more.go:47", after := #[{ on := 27, ground := Ground.data }, { on := 28, ground := Ground.data }, { on := 26, ground := Ground.chain }, { on := 26, ground := Ground.guard }], guard := some (26, true) }) rfl (fun K_ hK => ?_) AllReadyH.nil
                  go_simp
                  refine (hw2 _ hDa).mono ?_
                  rintro e wb ⟨rfl, hDb⟩
                  go_wp2_with fail
                  refine hK.out _ _ (HSF.out _ hDb) (fun hHeld => ?_)
                  clear hK K_
                  try simp only [Act.put, List.setIfInBounds_toArray, List.set_cons_zero, List.set_cons_succ]
                  refine wpAnyH_take (i := 30) (oi := { dst := some 163, op := Op.unOp UnOp.not 4 (Operand.tmp 162), type := 4, pos := "more.go:47", after := #[{ on := 29, ground := Ground.data }, { on := 26, ground := Ground.guard }], guard := some (26, true) }) (v := ?vnT30) rfl (by kernel_rfl) (by kernel_rfl) (by kernel_rfl) (fun _ _ _ h => h) (Or.inl ⟨by rfl, ?hynT30⟩) (by assumption) ?_
                  case hynT30 => (intro W hSw; (try dsimp only at hSw); go_simp; (try with_reducible rfl))
                  try simp only [Act.put, List.setIfInBounds_toArray, List.set_cons_zero, List.set_cons_succ]
                  refine wpAnyH_take (i := 31) (oi := { dst := some 164, op := Op.pick (Operand.tmp 159) (Operand.tmp 163) (Operand.const (Value.bool false)), type := 4, pos := "more.go:47", after := #[{ on := 26, ground := Ground.data }, { on := 30, ground := Ground.data }, { on := 19, ground := Ground.guard }], guard := some (19, false) }) (v := ?vnT31) rfl (by kernel_rfl) (by kernel_rfl) (by kernel_rfl) (fun _ _ _ h => h) (Or.inl ⟨by rfl, ?hynT31⟩) (by assumption) ?_
                  case hynT31 => (intro W hSw; (try dsimp only at hSw); go_simp; (try with_reducible rfl))
                  try simp only [Act.put, List.setIfInBounds_toArray, List.set_cons_zero, List.set_cons_succ]
                  refine wpAnyH_take (i := 32) (oi := { dst := some 165, op := Op.pick (Operand.tmp 152) (Operand.const (Value.bool true)) (Operand.tmp 164), type := 4, pos := "more.go:47", after := #[{ on := 19, ground := Ground.data }, { on := 31, ground := Ground.data }], guard := none }) (v := ?vnT32) rfl (by kernel_rfl) (by kernel_rfl) (by kernel_rfl) (fun _ _ _ h => h) (Or.inl ⟨by rfl, ?hynT32⟩) (by assumption) ?_
                  case hynT32 => (intro W hSw; (try dsimp only at hSw); go_simp; (try with_reducible rfl))
                  try simp only [Act.put, List.setIfInBounds_toArray, List.set_cons_zero, List.set_cons_succ]
                  refine wpAnyH_take (i := 33) (oi := { dst := some 166, op := Op.move (Operand.tmp 165), type := 4, pos := "more.go:47", after := #[{ on := 32, ground := Ground.data }, { on := 29, ground := Ground.chain }], guard := none }) (v := ?vnT33) rfl (by kernel_rfl) (by kernel_rfl) (by kernel_rfl) (fun _ _ _ h => h) (Or.inl ⟨by rfl, ?hynT33⟩) (by assumption) ?_
                  case hynT33 => (intro W hSw; (try dsimp only at hSw); go_simp; (try with_reducible rfl))
                  try simp only [Act.put, List.setIfInBounds_toArray, List.set_cons_zero, List.set_cons_succ]
                  refine wpAnyH_take (i := 34) (oi := { dst := some 167, op := Op.load 32 (Operand.tmp 20), type := 32, pos := "more.go:47", after := #[{ on := 33, ground := Ground.guard }], guard := some (33, false) }) (v := ?vnT34) rfl (by kernel_rfl) (by kernel_rfl) (by kernel_rfl) (fun _ _ _ h => h) (Or.inl ⟨by rfl, ?hynT34⟩) (by assumption) ?_
                  case hynT34 => (intro W hSw; (try dsimp only at hSw); go_simp; (try with_reducible rfl))
                  try simp only [Act.put, List.setIfInBounds_toArray, List.set_cons_zero, List.set_cons_succ]
                  refine wpAnyH_take (i := 35) (oi := { dst := some 168, op := Op.move (Operand.tmp 14), type := 38, pos := "more.go:47", after := #[{ on := 33, ground := Ground.guard }], guard := some (33, false) }) (v := ?vnT35) rfl (by kernel_rfl) (by kernel_rfl) (by kernel_rfl) (fun _ _ _ h => h) (Or.inl ⟨by rfl, ?hynT35⟩) (by assumption) ?_
                  case hynT35 => (intro W hSw; (try dsimp only at hSw); go_simp; (try with_reducible rfl))
                  try simp only [Act.put, List.setIfInBounds_toArray, List.set_cons_zero, List.set_cons_succ]
                  refine wpAnyH_ready (rs := [36]) (by kernel_rfl) (by simp) ?_
                  refine AllReadyH.cons (o := { dst := some 169, op := Op.call { callee := Callee.value (Operand.func 17), args := #[Operand.tmp 168], argTypes := #[38] }, type := 34, pos := "more.go:47", after := #[{ on := 35, ground := Ground.data }, { on := 33, ground := Ground.chain }, { on := 33, ground := Ground.guard }], guard := some (33, false) }) rfl (fun K_ hK => ?_) AllReadyH.nil
                  go_simp
                  refine (hfr _ hDb).mono ?_
                  rintro e wx ⟨rfl, hDx⟩
                  go_wp2_with fail
                  refine hK.out _ _ (HSF.out _ hDx) (fun hHeld => ?_)
                  clear hK K_
                  try simp only [Act.put, List.setIfInBounds_toArray, List.set_cons_zero, List.set_cons_succ]
                  refine wpAnyH_take (i := 37) (oi := { dst := some 170, op := Op.field 34 (Operand.tmp 169) 3, type := 32, pos := "more.go:47", after := #[{ on := 36, ground := Ground.data }, { on := 33, ground := Ground.guard }], guard := some (33, false) }) (v := ?vnT37) rfl (by kernel_rfl) (by kernel_rfl) (by kernel_rfl) (fun _ _ _ h => h) (Or.inl ⟨by rfl, ?hynT37⟩) (by assumption) ?_
                  case hynT37 => (intro W hSw; (try dsimp only at hSw); go_simp; (try with_reducible rfl))
                  try simp only [Act.put, List.setIfInBounds_toArray, List.set_cons_zero, List.set_cons_succ]
                  refine wpAnyH_take (i := 38) (oi := { dst := some 171, op := Op.binOp BinOp.neq 32 (Operand.tmp 167) (Operand.tmp 170) 32, type := 4, pos := "more.go:47", after := #[{ on := 34, ground := Ground.data }, { on := 37, ground := Ground.data }, { on := 33, ground := Ground.guard }], guard := some (33, false) }) (v := ?vnT38) rfl (by kernel_rfl) (by kernel_rfl) (by kernel_rfl) (fun _ _ _ h => h) (Or.inl ⟨by rfl, ?hynT38⟩) (by assumption) ?_
                  case hynT38 => (intro W hSw; (try dsimp only at hSw); go_simp; (try with_reducible rfl))
                  try simp only [Act.put, List.setIfInBounds_toArray, List.set_cons_zero, List.set_cons_succ]
                  refine wpAnyH_take (i := 39) (oi := { dst := some 172, op := Op.pick (Operand.tmp 166) (Operand.const (Value.bool true)) (Operand.tmp 171), type := 4, pos := "more.go:47", after := #[{ on := 33, ground := Ground.data }, { on := 38, ground := Ground.data }], guard := none }) (v := ?vnT39) rfl (by kernel_rfl) (by kernel_rfl) (by kernel_rfl) (fun _ _ _ h => h) (Or.inl ⟨by rfl, ?hynT39⟩) (by assumption) ?_
                  case hynT39 => (intro W hSw; (try dsimp only at hSw); go_simp; (try with_reducible rfl))
                  try simp only [Act.put, List.setIfInBounds_toArray, List.set_cons_zero, List.set_cons_succ]
                  refine wpAnyH_done (by kernel_rfl) ?_ _
                  clear hw1 hw2 hfr HSF
                  have hdn := HDN.out _ hDx.out
                  by_cases hs4 : (r.next z).st = 4
                  · rw [show ((r.next z).st == 4) = true from by simpa using hs4] at hdn
                    have hfr := HFR.out _ hDx.out
                    clear hHeld
                    go_wp2_with (go_at_call 14; refine hdn.mono ?_; rintro e wq ⟨rfl, rfl⟩)
                    refine hfr.mono ?_
                    rintro e w15 ⟨rfl, h15⟩
                    clear hfr hdn
                    obtain ⟨qa, qc, qd, qx, qy, x0, x1, x2, x3, x4, y0, y1, y2, y3, y4, HPN⟩ := HNE.out _ h15 hs4
                    clear h15
                    go_wp2
                    go_roundw
                    case rel => exact ⟨i + 1, j + 1, bl2, _, rfl, by go_num, by go_num, by omega, by omega, .inl ⟨rfl, sn2, ⟨G0, G1⟩, HPN⟩⟩
                    case measure => simp [intOf]; omega
                  · rw [show ((r.next z).st == 4) = false from by simpa using hs4] at hdn
                    have HPX : Hid (PX w b A F K (2 + (i + 1)) fs bl2 (.slice (some ⟨g, 0, none⟩) (LL + 1) bc) wx) := HXE.out _ hDx.out hs4
                    clear hHeld
                    go_wp2_with (go_at_call 14; refine hdn.mono ?_; rintro e wq ⟨rfl, rfl⟩)
                    go_roundw
                    case rel => exact ⟨i + 1, j, bl2, _, rfl, by go_num, rfl, by omega, hj, .inr ⟨K, fs, rfl, hjt, HPX⟩⟩
                    case measure => simp [intOf]; omega
            · as_aux_lemma =>
                have hj1 : ¬ (j : Int) < (tl : Int) := by omega
                have HE : Hid (PN w b A F (2 + (i + 1)) sn sg bl vb wr) := ⟨z, v, ok.more (by omega), hws, hsg, hfin, hsub, by omega, hS⟩
                clear hS
                go_wp2
                go_roundw
                case rel => exact ⟨i + 1, j, bl, _, rfl, by go_num, rfl, by omega, hj, .inl ⟨rfl, sn, sg, HE⟩⟩
                case measure => simp [intOf]; omega
          · obtain ⟨z, r, v, l, ok, inv, h4, hbe, hfin, hsub, hsb, hbl, hfs, hfe, hS⟩ := HP.out
            clear HP
            have hj1 : (j : Int) < (tl : Int) := by omega
            have hbl1 : bl.length = l.length + 1 := by rw [hbe]; simp
            obtain ⟨g, bc, rfl⟩ := hS.form 1 rfl (by omega)
            have HBE : Hid (bl = l ++ [r.ce]) := hbe
            have HBL : Hid (bl.length = l.length + 1 ∧ bl.length ≤ 2 + i + 1) := ⟨hbl1, hbl⟩
            have HFE : Hid (∃ a c d x y, fs = #[.int .i64 a, .int .i64 c, .int .i64 d, .int .u64 x, .int .u64 y]) := hfe
            have HFIN : Hid (Fine b bl) := hfin
            clear hbe hbl1 hbl hfe hfs hfin
            obtain ⟨LL, HLE⟩ : ∃ LL, Hid (l.length = LL) := ⟨_, rfl⟩
            have HBLE : Hid (bl.length = LL + 1) := by show _ = _; rw [HBL.out.1, HLE.out]
            rw [HBLE.out] at hS ⊢
            have m0 : wr.cell? ⟨A.sp, 0, none⟩ = some (.pointer (some ⟨A.m, 0, none⟩)) := spCell hS 3 rfl 0
            have hl1 := spLog hS 3 rfl ok (by omega)
            have HOK : Hid (z.ok (rdC 16 b) (2 + i)) := ok
            have HINV : Hid (RInv b z r) := inv
            have H4 : Hid (r.st ≠ 4) := h4
            clear hS ok inv h4
            go_wp2_with fail
            refine hl1.mono ?_
            rintro e w5 ⟨v5, rfl, h5⟩
            obtain ⟨a5, c5, rfl⟩ := own_form (h5.get 0 rfl)
            clear hl1 m0
            have hst := rdStep h5.pop 3 0 (by omega) rfl rfl HOK.out (by omega) HINV.out.fit
            obtain ⟨an, HAN⟩ : ∃ an, Hid (r.ans z = an) := ⟨_, rfl⟩
            rw [HAN.out] at hst
            clear h5
            obtain ⟨ka, kb, kc, hno, -, hk1⟩ := SSt.reads_note HINV.out.fit H4.out (by rw [HINV.out.sl, HINV.out.hl]; omega) (by simp only [cin, Bool.and_eq_true, decide_eq_true_eq]; exact HINV.out.ce)
            have HLL : Hid ((z.reads r).s.l = z.s.l ++ [⟨z.s.st, z.s.th, ka, kb, kc, true⟩]) := by show _ = _; rw [hno]; rfl
            have HZL : Hid (z.s.l.length ≤ 2 + i) := HOK.out.met.len
            clear hno
            have INV2 : Hid (RInv b (z.reads r) (r.next z)) := HINV.out.next
            have OK2 : Hid ((z.reads r).ok (rdC 16 b) (2 + i + 1)) := HOK.out.reads r
            have SUB2 : Hid (Sub (r.next z).sg (ofR bl b).1) := HINV.out.sub_next hsub hsb
            have LOAD2 : Hid (r.st = 1 → Sub r.bi (r.next z).sg) := HINV.out.sub_load
            have FR2 : Hid ((r.next z).ce = r.ce ∧ (r.next z).bi = r.bi) := ⟨(r.next_frame z).2.2.1, (r.next_frame z).2.2.2⟩
            have HSB : Hid (Sub r.bi (ofR bl b).1) := hsb
            clear hsub hsb
            go_wp2_with fail
            refine hst.mono ?_
            rintro e w6 ⟨rfl, v6, h6⟩
            clear hst
            have m1 : w6.cell? ⟨A.sp, 0, none⟩ = some (.pointer (some ⟨A.m, 0, none⟩)) := spCell h6 3 rfl 0
            have hl2 := spLog h6 3 rfl OK2.out (by omega)
            clear h6
            go_wp2_with fail
            refine hl2.mono ?_
            rintro e w7 ⟨v7, rfl, h7⟩
            rw [HLL.out, List.length_append, List.length_singleton] at h7
            obtain ⟨p, cl, rfl⟩ := h7.form 0 rfl (by omega)
            clear hl2 m1
            obtain ⟨ZL, HZE⟩ : ∃ ZL, Hid (z.s.l.length = ZL) := ⟨_, rfl⟩
            rw [HZE.out] at h7 ⊢
            have hvw := spView h7 4 rfl OK2.out.wl OK2.out.h1 OK2.out.h8
            rw [INV2.out.ws, INV2.out.hl] at hvw
            unfold spp at hvw
            clear h7
            obtain ⟨sg2, HG2⟩ : ∃ sg2, Hid ((r.next z).sg = sg2) := ⟨_, rfl⟩
            rw [HG2.out] at hvw
            obtain ⟨G0, G1⟩ := sg2
            go_wp2_with fail
            refine hvw.mono ?_
            rintro e w8 ⟨va, vs, rfl, h8⟩
            clear hvw
            obtain ⟨pa, ca, rfl⟩ := own_form (h8.get 0 rfl)
            obtain ⟨ps, cs, rfl⟩ := h8.form 1 rfl (by omega)
            have l6 : w8.cell? ⟨ps, 6, none⟩ = some (.int .u64 G0) := (h8.ownCell 1 rfl 6 (by omega)).trans (word_cells INV2.out.hl _ _).1
            have l7 : w8.cell? ⟨ps, 7, none⟩ = some (.int .u64 G1) := (h8.ownCell 1 rfl 7 (by omega)).trans (word_cells INV2.out.hl _ _).2
            have h9 := h8.box #[.int .u64 G0, .int .u64 G1] 32
            clear h8
            have hps : (0 : Int) < 1 := by omega
            go_upto_region 29 with fail
            generalize w8.alloc (.cells #[.int .u64 G0, .int .u64 G1] 32) = w9 at *
            generalize w8.heap.size = WB at *
            have ho : w9.ownsRow 0 3 1 (.slice (some ⟨g, 0, none⟩) (LL + 1) bc) (LL + 1) (intC bl) := h9.get 5 rfl
            have hroom : LL + 1 ≤ bc := own_room ho
            have HCE : Hid (∀ W : World, W.ownsRow 0 3 1 (.slice (some ⟨g, 0, none⟩) (LL + 1) bc) (LL + 1) (intC bl) → ∀ j, j < LL + 1 → W.cell? ⟨g, j, none⟩ = some (.int .i64 (bl.getD j 0))) := fun W h j hj => (h.cellAt j (by omega)).trans (intC_at bl j (by rw [HBLE.out]; exact hj))
            have hll1 : LL + 1 ≤ 2 + i + 1 := by have := HBL.out.2; rw [HBLE.out] at this; exact this
            have hof := of_any (some ⟨g, 0, none⟩) (LL + 1) bc bl b w9 ⟨HBLE.out.symm, fun _ => ⟨g, 0, rfl, fun j hj => by rw [Nat.zero_add]; exact HCE.out _ ho j hj⟩⟩ (by omega)
            rw [ofR_fine HFIN.out ⟨b1, b8⟩] at hof
            obtain ⟨T, HTE⟩ : ∃ T, Hid ((ofR bl b).1 = T) := ⟨_, rfl⟩
            rw [HTE.out] at hof
            have HTOK : Hid T.ok := by show T.ok; rw [← HTE.out]; exact ofR_ok _ _
            obtain ⟨T0, T1⟩ := T
            simp only [Sg.val] at hof
            clear ho l6 l7
            go_wp2_with fail
            refine hof.mono ?_
            rintro e w10 ⟨rfl, k10⟩
            have h10 := (h9.calm k10).box #[.int .u64 T0, .int .u64 T1] 32
            clear hof h9 k10
            go_upto_region 30 with fail
            generalize w10.alloc (.cells #[.int .u64 T0, .int .u64 T1] 32) = w11 at *
            generalize w10.heap.size = AB at *
            have zl0 : (0 : Int) ≤ (LL : Int) := by omega
            have zl2 : ((LL + 1 : Nat) : Int) - 1 = (LL : Int) := by omega
            have zl3 : (LL : Int) ≤ ((LL + 1 : Nat) : Int) := by omega
            have zl4 : ((LL + 1 : Nat) : Int) ≤ (bc : Int) := by omega
            have zl5 : (LL : Int) ≤ (bc : Int) := by omega
            have zl6 : (LL : Int) ≤ 4611686018427 := by omega
            have hbce : bl.getD LL 0 = r.ce := by
              rw [HBE.out, ← HLE.out]
              simp
            have e0 : w11.cell? ⟨g, LL, none⟩ = some (.int .i64 r.ce) := by
              have := HCE.out _ (h10.get 6 rfl) LL (by omega)
              rw [hbce] at this
              exact this
            have hof2 := of_any (some ⟨g, LL, none⟩) 1 (bc - LL) [r.ce] b w11 ⟨rfl, fun _ => ⟨g, LL, rfl, fun j hj => by
              obtain rfl : j = 0 := by omega
              exact e0⟩⟩ (by omega)
            rw [ofR_fine (fun x hx => HFIN.out x (by rw [HBE.out]; simp at hx; simp [hx])) ⟨b1, b8⟩] at hof2
            change Calls Try.prog 11 _ _ (fun e w' => e = .returned (.tuple #[(bitsOf b r.ce).val, .int .i64 0]) ∧ _) at hof2
            rw [← HINV.out.bi] at hof2
            obtain ⟨B, HBB⟩ : ∃ B, Hid (r.bi = B) := ⟨_, rfl⟩
            rw [HBB.out] at hof2
            have HBOK : Hid B.ok := by show B.ok; rw [← HBB.out]; exact HINV.out.fit.bi
            obtain ⟨B0, B1⟩ := B
            simp only [Sg.val] at hof2
            clear hbce e0
            go_wp2_with (first | simp only [zl2] | fail)
            refine hof2.mono ?_
            rintro e w12 ⟨rfl, k12⟩
            have h12 := (h10.calm k12).box #[.int .u64 B0, .int .u64 B1] 32
            clear hof2 h10 k12
            go_upto_region 31 with fail
            generalize w12.alloc (.cells #[.int .u64 B0, .int .u64 B1] 32) = w13 at *
            generalize w12.heap.size = OB at *
            obtain ⟨HL, hHL⟩ : ∃ HL : World → Prop, HL = fun W => St w (boxI OB #[.int .u64 B0, .int .u64 B1] 32 :: boxI AB #[.int .u64 T0, .int .u64 T1] 32 :: boxI WB #[.int .u64 G0, .int .u64 G1] 32 :: ownI 2 1 (.slice pa (z.reads r).xs.length ca) (z.reads r).xs.length (clCells (z.reads r).xs) :: ownI 49 8 (.slice (some ⟨ps, 0, none⟩) 1 cs) 1 (slCells (slots (z.reads r).hs [(G0 : Int), (G1 : Int)])) :: ownI 78 6 (.slice (some ⟨p, 0, none⟩) (ZL + 1) cl) (ZL + 1) (logCells (z.s.l ++ [⟨z.s.st, z.s.th, ka, kb, kc, true⟩])) :: rdI K A.sp (r.next z) :: ownI 3 1 (.slice (some ⟨g, 0, none⟩) (LL + 1) bc) (LL + 1) (intC bl) :: boxI F fs 34 :: [spI A (rdC 16 b) (z.reads r) v6 (.slice none 0 0)]) W := ⟨_, rfl⟩
            have hD : Hid (HL w13.drew) := by show HL _; rw [hHL]; exact h12.drew
            have HSF : Hid (∀ W, Hid (HL W) → W.cell? ⟨WB, 0, none⟩ = some (.int .u64 G0) ∧ W.cell? ⟨WB, 1, none⟩ = some (.int .u64 G1) ∧ W.cell? ⟨AB, 0, none⟩ = some (.int .u64 T0) ∧ W.cell? ⟨AB, 1, none⟩ = some (.int .u64 T1) ∧ W.cell? ⟨OB, 0, none⟩ = some (.int .u64 B0) ∧ W.cell? ⟨OB, 1, none⟩ = some (.int .u64 B1) ∧ W.cell? ⟨p, ZL * 6 + 2, none⟩ = some (.int .i64 ka) ∧ Hid (HL W)) := by
              intro W hW
              have h : St w (boxI OB #[.int .u64 B0, .int .u64 B1] 32 :: boxI AB #[.int .u64 T0, .int .u64 T1] 32 :: boxI WB #[.int .u64 G0, .int .u64 G1] 32 :: ownI 2 1 (.slice pa (z.reads r).xs.length ca) (z.reads r).xs.length (clCells (z.reads r).xs) :: ownI 49 8 (.slice (some ⟨ps, 0, none⟩) 1 cs) 1 (slCells (slots (z.reads r).hs [(G0 : Int), (G1 : Int)])) :: ownI 78 6 (.slice (some ⟨p, 0, none⟩) (ZL + 1) cl) (ZL + 1) (logCells (z.s.l ++ [⟨z.s.st, z.s.th, ka, kb, kc, true⟩])) :: rdI K A.sp (r.next z) :: ownI 3 1 (.slice (some ⟨g, 0, none⟩) (LL + 1) bc) (LL + 1) (intC bl) :: boxI F fs 34 :: [spI A (rdC 16 b) (z.reads r) v6 (.slice none 0 0)]) W := by have := hW.out; rw [hHL] at this; exact this
              refine ⟨h.cell 2 rfl 0, h.cell 2 rfl 1, h.cell 1 rfl 0, h.cell 1 rfl 1, h.cell 0 rfl 0, h.cell 0 rfl 1, ?_, hW⟩
              have hlog := h.ownCell 5 rfl (ZL * 6 + 2) (by omega)
              rw [← HZE.out] at hlog ⊢
              exact hlog.trans (logCells_last _ _)
            have HG2OK : Hid (Sg.mk G0 G1).ok := by show (Sg.mk G0 G1).ok; rw [← HG2.out]; exact INV2.out.fit.sg
            have hw1 : ∀ W, Hid (HL W) → Calls Try.prog 32 #[.agg #[.int .u64 G0, .int .u64 G1], .agg #[.int .u64 T0, .int .u64 T1]] W fun e w' => e = .returned (.bool true) ∧ Hid (HL w') := by
              intro W hW
              refine (sigWithin_any ⟨G0, G1⟩ ⟨T0, T1⟩ HG2OK.out HTOK.out W).mono ?_
              rintro e w' ⟨he, hk⟩
              refine ⟨?_, ?_⟩
              · rw [he, Sub.same (by rw [← HG2.out, ← HTE.out]; exact SUB2.out)]
              · show HL w'
                have := hW.out
                rw [hHL] at this ⊢
                exact St.calm this hk
            have hw2 : r.st = 1 → ∀ W, Hid (HL W) → Calls Try.prog 32 #[.agg #[.int .u64 B0, .int .u64 B1], .agg #[.int .u64 G0, .int .u64 G1]] W fun e w' => e = .returned (.bool true) ∧ Hid (HL w') := by
              intro h1 W hW
              refine (sigWithin_any ⟨B0, B1⟩ ⟨G0, G1⟩ HBOK.out HG2OK.out W).mono ?_
              rintro e w' ⟨he, hk⟩
              refine ⟨?_, ?_⟩
              · rw [he, Sub.same (by rw [← HG2.out, ← HBB.out]; exact LOAD2.out h1)]
              · show HL w'
                have := hW.out
                rw [hHL] at this ⊢
                exact St.calm this hk
            obtain ⟨sn2, HSN2⟩ : ∃ sn2, Hid ((r.next z).sn = sn2) := ⟨_, rfl⟩
            have hfr : ∀ W, Hid (HL W) → Calls Try.prog 17 #[.pointer (some ⟨K, 0, none⟩)] W fun e w' => e = .returned (.agg #[.int .i64 0, .int .i64 1, .int .i64 sn2, .int .u64 G0, .int .u64 G1]) ∧ Hid (HL w') := by
              intro W hW
              have h := hW.out
              rw [hHL] at h
              refine (rdFrom h 6 rfl).mono ?_
              rintro e w' ⟨he, h'⟩
              refine ⟨?_, by show HL w'; rw [hHL]; exact h'⟩
              rw [he]
              unfold Rd.fromV
              rw [INV2.out.sl, INV2.out.gn, HSN2.out, HG2.out]
            have HFR : Hid (∀ W, HL W → Calls Try.prog 17 #[.pointer (some ⟨K, 0, none⟩)] W fun e w' => e = .returned (.agg #[.int .i64 0, .int .i64 1, .int .i64 sn2, .int .u64 G0, .int .u64 G1]) ∧ Hid (HL w')) := fun W h => hfr W h
            have HDN : Hid (∀ W, HL W → Calls Try.prog 14 #[.pointer (some ⟨K, 0, none⟩)] W fun e w' => e = .returned (.bool ((r.next z).st == 4)) ∧ w' = W) := by
              intro W h
              rw [hHL] at h
              exact rdDone h 6 rfl INV2.out.fit.st
            have HXE : Hid (∀ W, HL W → (r.next z).st ≠ 4 → PX w b A F K (2 + (i + 1)) fs bl (.slice (some ⟨g, 0, none⟩) (LL + 1) bc) W) := by
              intro W h h4'
              rw [hHL] at h
              refine ⟨_, _, v6, l, OK2.out, INV2.out, h4', by rw [FR2.out.1]; exact HBE.out, HFIN.out, SUB2.out, by rw [FR2.out.2]; exact HSB.out, by have := HBL.out.2; omega, ?_, HFE.out, ?_⟩
              · obtain ⟨_, _, _, _, _, e⟩ := HFE.out
                rw [e]; rfl
              · rw [HBLE.out]
                exact h.pop.pop.pop.pop.pop.pop
            have HNE : Hid (∀ W, Hid (HL W) → (r.next z).st = 4 → ∃ qa qc qd qx qy : Int, W.cell? ⟨F, 0, none⟩ = some (.int .i64 qa) ∧ W.cell? ⟨F, 1, none⟩ = some (.int .i64 qc) ∧ W.cell? ⟨F, 2, none⟩ = some (.int .i64 qd) ∧ W.cell? ⟨F, 3, none⟩ = some (.int .u64 qx) ∧ W.cell? ⟨F, 4, none⟩ = some (.int .u64 qy) ∧ W.frozen? ⟨F, 0, none⟩ = false ∧ W.frozen? ⟨F, 1, none⟩ = false ∧ W.frozen? ⟨F, 2, none⟩ = false ∧ W.frozen? ⟨F, 3, none⟩ = false ∧ W.frozen? ⟨F, 4, none⟩ = false ∧ Hid (PN w b A F (2 + (i + 1)) sn2 ⟨G0, G1⟩ bl (.slice (some ⟨g, 0, none⟩) (LL + 1) bc) (((((W.setCell ⟨F, 0, none⟩ (.int .i64 0)).setCell ⟨F, 1, none⟩ (.int .i64 1)).setCell ⟨F, 2, none⟩ (.int .i64 sn2)).setCell ⟨F, 3, none⟩ (.int .u64 G0)).setCell ⟨F, 4, none⟩ (.int .u64 G1)))) := by
              intro W hW h4'
              have h := hW.out
              rw [hHL] at h
              obtain ⟨qa, qc, qd, qx, qy, hq⟩ := HFE.out
              rw [hq] at h
              refine ⟨qa, qc, qd, qx, qy, h.cell 8 rfl 0, h.cell 8 rfl 1, h.cell 8 rfl 2, h.cell 8 rfl 3, h.cell 8 rfl 4, h.frozen 8 rfl 0, h.frozen 8 rfl 1, h.frozen 8 rfl 2, h.frozen 8 rfl 3, h.frozen 8 rfl 4, ?_⟩
              have a1 := h.write 8 rfl 0 (.int .i64 0)
              have a2 := a1.write 8 rfl 1 (.int .i64 1)
              have a3 := a2.write 8 rfl 2 (.int .i64 sn2)
              have a4 := a3.write 8 rfl 3 (.int .u64 G0)
              have a5 := a4.write 8 rfl 4 (.int .u64 G1)
              refine ⟨z.reads r, v6, OK2.out, by rw [INV2.out.ws, HG2.out], HG2OK.out, HFIN.out, by rw [← HG2.out]; exact SUB2.out, by have := HBL.out.2; omega, ?_⟩
              rw [HBLE.out]
              exact a5.pop.pop.pop.pop.pop.pop.pop
            clear hHL h12 hroom
            have hZ : ((ZL : Int) + 1 != (ZL : Int) + 1) = false := by simp
            have hZw : IntKind.i64.wrap ((ZL : Int) + 1) = (ZL : Int) + 1 := by
              rw [IntKind.wrap_i64]
              have := HZL.out
              rw [HZE.out] at this
              omega
            have hZ0 : (0 : Int) ≤ (ZL : Int) := by omega
            have hZ1 : (ZL : Int) < ((ZL + 1 : Nat) : Int) := by omega
            have hZ2 : (ZL : Int) < (ZL : Int) + 1 := by omega
            cases hka : (ka == 1) with
            | false =>
              as_aux_lemma =>
                clear hw2 hk1
                refine wp_region_held_drew (S := fun W => W.cell? ⟨WB, 0, none⟩ = some (.int .u64 G0) ∧ W.cell? ⟨WB, 1, none⟩ = some (.int .u64 G1) ∧ W.cell? ⟨AB, 0, none⟩ = some (.int .u64 T0) ∧ W.cell? ⟨AB, 1, none⟩ = some (.int .u64 T1) ∧ W.cell? ⟨OB, 0, none⟩ = some (.int .u64 B0) ∧ W.cell? ⟨OB, 1, none⟩ = some (.int .u64 B1) ∧ W.cell? ⟨p, ZL * 6 + 2, none⟩ = some (.int .i64 ka) ∧ Hid (HL W)) (by kernel_rfl) (HSF.out _ hD) (fun hHeld => ?_)
                refine wpAnyH_take (i := 0) (oi := { dst := some 133, op := Op.move (Operand.tmp 22), type := 28, pos := "more.go:47", after := #[], guard := none }) (v := ?vxF0) rfl (by kernel_rfl) (by kernel_rfl) (by kernel_rfl) (fun _ _ _ h => h) (Or.inl ⟨by rfl, ?hyxF0⟩) (by assumption) ?_
                case hyxF0 => (intro W hSw; (try dsimp only at hSw); go_simp; (try with_reducible rfl))
                try simp only [Act.put, List.setIfInBounds_toArray, List.set_cons_zero, List.set_cons_succ]
                refine wpAnyH_take (i := 1) (oi := { dst := some 134, op := Op.binOp BinOp.neq 28 (Operand.tmp 133) (Operand.const (Value.int IntKind.i64 0)) 28, type := 4, pos := "more.go:47", after := #[{ on := 0, ground := Ground.data }], guard := none }) (v := ?vxF1) rfl (by kernel_rfl) (by kernel_rfl) (by kernel_rfl) (fun _ _ _ h => h) (Or.inl ⟨by rfl, ?hyxF1⟩) (by assumption) ?_
                case hyxF1 => (intro W hSw; (try dsimp only at hSw); go_simp; (try with_reducible rfl))
                try simp only [Act.put, List.setIfInBounds_toArray, List.set_cons_zero, List.set_cons_succ]
                refine wpAnyH_take (i := 2) (oi := { dst := some 135, op := Op.move (Operand.tmp 134), type := 4, pos := "more.go:47", after := #[{ on := 1, ground := Ground.data }], guard := none }) (v := ?vxF2) rfl (by kernel_rfl) (by kernel_rfl) (by kernel_rfl) (fun _ _ _ h => h) (Or.inl ⟨by rfl, ?hyxF2⟩) (by assumption) ?_
                case hyxF2 => (intro W hSw; (try dsimp only at hSw); go_simp; (try with_reducible rfl))
                try simp only [Act.put, List.setIfInBounds_toArray, List.set_cons_zero, List.set_cons_succ]
                refine wpAnyH_take (i := 3) (oi := { dst := some 136, op := Op.move (Operand.tmp 24), type := 28, pos := "more.go:47", after := #[{ on := 2, ground := Ground.guard }], guard := some (2, false) }) (v := ?vxF3) rfl (by kernel_rfl) (by kernel_rfl) (by kernel_rfl) (fun _ _ _ h => h) (Or.inl ⟨by rfl, ?hyxF3⟩) (by assumption) ?_
                case hyxF3 => (intro W hSw; (try dsimp only at hSw); go_simp; (try with_reducible rfl))
                try simp only [Act.put, List.setIfInBounds_toArray, List.set_cons_zero, List.set_cons_succ]
                refine wpAnyH_take (i := 4) (oi := { dst := some 137, op := Op.binOp BinOp.neq 28 (Operand.tmp 136) (Operand.const (Value.int IntKind.i64 0)) 28, type := 4, pos := "more.go:47", after := #[{ on := 3, ground := Ground.data }, { on := 2, ground := Ground.guard }], guard := some (2, false) }) (v := ?vxF4) rfl (by kernel_rfl) (by kernel_rfl) (by kernel_rfl) (fun _ _ _ h => h) (Or.inl ⟨by rfl, ?hyxF4⟩) (by assumption) ?_
                case hyxF4 => (intro W hSw; (try dsimp only at hSw); go_simp; (try with_reducible rfl))
                try simp only [Act.put, List.setIfInBounds_toArray, List.set_cons_zero, List.set_cons_succ]
                refine wpAnyH_take (i := 5) (oi := { dst := some 138, op := Op.pick (Operand.tmp 135) (Operand.const (Value.bool true)) (Operand.tmp 137), type := 4, pos := "more.go:47", after := #[{ on := 2, ground := Ground.data }, { on := 4, ground := Ground.data }], guard := none }) (v := ?vxF5) rfl (by kernel_rfl) (by kernel_rfl) (by kernel_rfl) (fun _ _ _ h => h) (Or.inl ⟨by rfl, ?hyxF5⟩) (by assumption) ?_
                case hyxF5 => (intro W hSw; (try dsimp only at hSw); go_simp; (try with_reducible rfl))
                try simp only [Act.put, List.setIfInBounds_toArray, List.set_cons_zero, List.set_cons_succ]
                refine wpAnyH_take (i := 6) (oi := { dst := some 139, op := Op.move (Operand.tmp 138), type := 4, pos := "more.go:47", after := #[{ on := 5, ground := Ground.data }, { on := 2, ground := Ground.chain }], guard := none }) (v := ?vxF6) rfl (by kernel_rfl) (by kernel_rfl) (by kernel_rfl) (fun _ _ _ h => h) (Or.inl ⟨by rfl, ?hyxF6⟩) (by assumption) ?_
                case hyxF6 => (intro W hSw; (try dsimp only at hSw); go_simp; (try with_reducible rfl))
                try simp only [Act.put, List.setIfInBounds_toArray, List.set_cons_zero, List.set_cons_succ]
                refine wpAnyH_take (i := 7) (oi := { dst := some 140, op := Op.load 32 (Operand.tmp 20), type := 32, pos := "more.go:47", after := #[{ on := 6, ground := Ground.guard }], guard := some (6, false) }) (v := ?vxF7) rfl (by kernel_rfl) (by kernel_rfl) (by kernel_rfl) (fun _ _ _ h => h) (Or.inl ⟨by rfl, ?hyxF7⟩) (by assumption) ?_
                case hyxF7 => (intro W hSw; (try dsimp only at hSw); go_simp; (try with_reducible rfl))
                try simp only [Act.put, List.setIfInBounds_toArray, List.set_cons_zero, List.set_cons_succ]
                refine wpAnyH_take (i := 8) (oi := { dst := some 141, op := Op.load 32 (Operand.tmp 21), type := 32, pos := "more.go:47", after := #[{ on := 6, ground := Ground.guard }], guard := some (6, false) }) (v := ?vxF8) rfl (by kernel_rfl) (by kernel_rfl) (by kernel_rfl) (fun _ _ _ h => h) (Or.inl ⟨by rfl, ?hyxF8⟩) (by assumption) ?_
                case hyxF8 => (intro W hSw; (try dsimp only at hSw); go_simp; (try with_reducible rfl))
                try simp only [Act.put, List.setIfInBounds_toArray, List.set_cons_zero, List.set_cons_succ]
                refine wpAnyH_ready (rs := [9]) (by kernel_rfl) (by simp) ?_
                refine AllReadyH.cons (o := { dst := some 142, op := Op.call { callee := Callee.value (Operand.func 32), args := #[Operand.tmp 140, Operand.tmp 141], argTypes := #[32, 32] }, type := 4, pos := "more.go:47", after := #[{ on := 7, ground := Ground.data }, { on := 8, ground := Ground.data }, { on := 6, ground := Ground.chain }, { on := 6, ground := Ground.guard }], guard := some (6, false) }) rfl (fun K_ hK => ?_) AllReadyH.nil
                go_simp
                refine (hw1 _ hD).mono ?_
                rintro e wa ⟨rfl, hDa⟩
                go_wp2_with fail
                refine hK.out _ _ (HSF.out _ hDa) (fun hHeld => ?_)
                clear hK K_
                try simp only [Act.put, List.setIfInBounds_toArray, List.set_cons_zero, List.set_cons_succ]
                refine wpAnyH_take (i := 10) (oi := { dst := some 143, op := Op.unOp UnOp.not 4 (Operand.tmp 142), type := 4, pos := "more.go:47", after := #[{ on := 9, ground := Ground.data }, { on := 6, ground := Ground.guard }], guard := some (6, false) }) (v := ?vxF10) rfl (by kernel_rfl) (by kernel_rfl) (by kernel_rfl) (fun _ _ _ h => h) (Or.inl ⟨by rfl, ?hyxF10⟩) (by assumption) ?_
                case hyxF10 => (intro W hSw; (try dsimp only at hSw); go_simp; (try with_reducible rfl))
                try simp only [Act.put, List.setIfInBounds_toArray, List.set_cons_zero, List.set_cons_succ]
                refine wpAnyH_take (i := 11) (oi := { dst := some 144, op := Op.pick (Operand.tmp 139) (Operand.const (Value.bool true)) (Operand.tmp 143), type := 4, pos := "more.go:47", after := #[{ on := 6, ground := Ground.data }, { on := 10, ground := Ground.data }], guard := none }) (v := ?vxF11) rfl (by kernel_rfl) (by kernel_rfl) (by kernel_rfl) (fun _ _ _ h => h) (Or.inl ⟨by rfl, ?hyxF11⟩) (by assumption) ?_
                case hyxF11 => (intro W hSw; (try dsimp only at hSw); go_simp; (try with_reducible rfl))
                try simp only [Act.put, List.setIfInBounds_toArray, List.set_cons_zero, List.set_cons_succ]
                refine wpAnyH_take (i := 12) (oi := { dst := some 145, op := Op.move (Operand.tmp 144), type := 4, pos := "more.go:47", after := #[{ on := 11, ground := Ground.data }, { on := 9, ground := Ground.chain }], guard := none }) (v := ?vxF12) rfl (by kernel_rfl) (by kernel_rfl) (by kernel_rfl) (fun _ _ _ h => h) (Or.inl ⟨by rfl, ?hyxF12⟩) (by assumption) ?_
                case hyxF12 => (intro W hSw; (try dsimp only at hSw); go_simp; (try with_reducible rfl))
                try simp only [Act.put, List.setIfInBounds_toArray, List.set_cons_zero, List.set_cons_succ]
                refine wpAnyH_take (i := 13) (oi := { dst := some 146, op := Op.move (Operand.tmp 19), type := 67, pos := "more.go:47", after := #[{ on := 12, ground := Ground.guard }], guard := some (12, false) }) (v := ?vxF13) rfl (by kernel_rfl) (by kernel_rfl) (by kernel_rfl) (fun _ _ _ h => h) (Or.inl ⟨by rfl, ?hyxF13⟩) (by assumption) ?_
                case hyxF13 => (intro W hSw; (try dsimp only at hSw); go_simp; (try with_reducible rfl))
                try simp only [Act.put, List.setIfInBounds_toArray, List.set_cons_zero, List.set_cons_succ]
                refine wpAnyH_take (i := 14) (oi := { dst := some 147, op := Op.call { callee := Callee.builtin Builtin.len, args := #[Operand.tmp 146], argTypes := #[67] }, type := 3, pos := "more.go:47", after := #[{ on := 13, ground := Ground.data }, { on := 12, ground := Ground.guard }], guard := some (12, false) }) (v := ?vxF14) rfl (by kernel_rfl) (by kernel_rfl) (by kernel_rfl) (fun _ _ _ h => h) (Or.inl ⟨by rfl, ?hyxF14⟩) (by assumption) ?_
                case hyxF14 => (intro W hSw; (try dsimp only at hSw); go_simp; (try with_reducible rfl))
                try simp only [Act.put, List.setIfInBounds_toArray, List.set_cons_zero, List.set_cons_succ]
                refine wpAnyH_take (i := 15) (oi := { dst := some 148, op := Op.move (Operand.tmp 18), type := 3, pos := "more.go:47", after := #[{ on := 12, ground := Ground.guard }], guard := some (12, false) }) (v := ?vxF15) rfl (by kernel_rfl) (by kernel_rfl) (by kernel_rfl) (fun _ _ _ h => h) (Or.inl ⟨by rfl, ?hyxF15⟩) (by assumption) ?_
                case hyxF15 => (intro W hSw; (try dsimp only at hSw); go_simp; (try with_reducible rfl))
                try simp only [Act.put, List.setIfInBounds_toArray, List.set_cons_zero, List.set_cons_succ]
                refine wpAnyH_take (i := 16) (oi := { dst := some 149, op := Op.binOp BinOp.add 3 (Operand.tmp 148) (Operand.const (Value.int IntKind.i64 1)) 3, type := 3, pos := "more.go:47", after := #[{ on := 15, ground := Ground.data }, { on := 12, ground := Ground.guard }], guard := some (12, false) }) (v := ?vxF16) rfl (by kernel_rfl) (by kernel_rfl) (by kernel_rfl) (fun _ _ _ h => h) (Or.inl ⟨by rfl, ?hyxF16⟩) (by assumption) ?_
                case hyxF16 => (intro W hSw; (try dsimp only at hSw); go_simp; (try with_reducible rfl))
                try simp only [Act.put, List.setIfInBounds_toArray, List.set_cons_zero, List.set_cons_succ]
                refine wpAnyH_take (i := 17) (oi := { dst := some 150, op := Op.binOp BinOp.neq 3 (Operand.tmp 147) (Operand.tmp 149) 3, type := 4, pos := "more.go:47", after := #[{ on := 14, ground := Ground.data }, { on := 16, ground := Ground.data }, { on := 12, ground := Ground.guard }], guard := some (12, false) }) (v := ?vxF17) rfl (by kernel_rfl) (by kernel_rfl) (by kernel_rfl) (fun _ _ _ h => h) (Or.inl ⟨by rfl, ?hyxF17⟩) (by assumption) ?_
                case hyxF17 => (intro W hSw; (try dsimp only at hSw); go_simp; (try with_reducible rfl))
                try simp only [Act.put, List.setIfInBounds_toArray, List.set_cons_zero, List.set_cons_succ]
                refine wpAnyH_take (i := 18) (oi := { dst := some 151, op := Op.pick (Operand.tmp 145) (Operand.const (Value.bool true)) (Operand.tmp 150), type := 4, pos := "more.go:47", after := #[{ on := 12, ground := Ground.data }, { on := 17, ground := Ground.data }], guard := none }) (v := ?vxF18) rfl (by kernel_rfl) (by kernel_rfl) (by kernel_rfl) (fun _ _ _ h => h) (Or.inl ⟨by rfl, ?hyxF18⟩) (by assumption) ?_
                case hyxF18 => (intro W hSw; (try dsimp only at hSw); go_simp; (try with_reducible rfl))
                try simp only [Act.put, List.setIfInBounds_toArray, List.set_cons_zero, List.set_cons_succ]
                refine wpAnyH_take (i := 19) (oi := { dst := some 152, op := Op.move (Operand.tmp 151), type := 4, pos := "more.go:47", after := #[{ on := 18, ground := Ground.data }, { on := 12, ground := Ground.chain }], guard := none }) (v := ?vxF19) rfl (by kernel_rfl) (by kernel_rfl) (by kernel_rfl) (fun _ _ _ h => h) (Or.inl ⟨by rfl, ?hyxF19⟩) (by assumption) ?_
                case hyxF19 => (intro W hSw; (try dsimp only at hSw); go_simp; (try with_reducible rfl))
                try simp only [Act.put, List.setIfInBounds_toArray, List.set_cons_zero, List.set_cons_succ]
                refine wpAnyH_take (i := 20) (oi := { dst := some 153, op := Op.move (Operand.tmp 19), type := 67, pos := "more.go:47", after := #[{ on := 19, ground := Ground.guard }], guard := some (19, false) }) (v := ?vxF20) rfl (by kernel_rfl) (by kernel_rfl) (by kernel_rfl) (fun _ _ _ h => h) (Or.inl ⟨by rfl, ?hyxF20⟩) (by assumption) ?_
                case hyxF20 => (intro W hSw; (try dsimp only at hSw); go_simp; (try with_reducible rfl))
                try simp only [Act.put, List.setIfInBounds_toArray, List.set_cons_zero, List.set_cons_succ]
                refine wpAnyH_take (i := 21) (oi := { dst := some 154, op := Op.move (Operand.tmp 18), type := 3, pos := "more.go:47", after := #[{ on := 19, ground := Ground.guard }], guard := some (19, false) }) (v := ?vxF21) rfl (by kernel_rfl) (by kernel_rfl) (by kernel_rfl) (fun _ _ _ h => h) (Or.inl ⟨by rfl, ?hyxF21⟩) (by assumption) ?_
                case hyxF21 => (intro W hSw; (try dsimp only at hSw); go_simp; (try with_reducible rfl))
                try simp only [Act.put, List.setIfInBounds_toArray, List.set_cons_zero, List.set_cons_succ]
                refine wpAnyH_take (i := 22) (oi := { dst := some 155, op := Op.indexAddr 67 (Operand.tmp 153) (Operand.tmp 154), type := 0, pos := "more.go:47", after := #[{ on := 20, ground := Ground.data }, { on := 21, ground := Ground.data }, { on := 19, ground := Ground.guard }], guard := some (19, false) }) (v := ?vxF22) rfl (by kernel_rfl) (by kernel_rfl) (by kernel_rfl) (fun _ _ _ h => h) (Or.inl ⟨by rfl, ?hyxF22⟩) (by assumption) ?_
                case hyxF22 => (intro W hSw; (try dsimp only at hSw); go_simp; (try with_reducible rfl))
                try simp only [Act.put, List.setIfInBounds_toArray, List.set_cons_zero, List.set_cons_succ]
                refine wpAnyH_take (i := 23) (oi := { dst := some 156, op := Op.fieldAddr 78 (Operand.tmp 155) 2, type := 0, pos := "more.go:47", after := #[{ on := 22, ground := Ground.data }, { on := 19, ground := Ground.guard }], guard := some (19, false) }) (v := ?vxF23) rfl (by kernel_rfl) (by kernel_rfl) (by kernel_rfl) (fun _ _ _ h => h) (Or.inl ⟨by rfl, ?hyxF23⟩) (by assumption) ?_
                case hyxF23 => (intro W hSw; (try dsimp only at hSw); go_simp; (try with_reducible rfl))
                try simp only [Act.put, List.setIfInBounds_toArray, List.set_cons_zero, List.set_cons_succ]
                refine wpAnyH_take (i := 24) (oi := { dst := some 157, op := Op.load 3 (Operand.tmp 156), type := 3, pos := "more.go:47", after := #[{ on := 23, ground := Ground.data }, { on := 19, ground := Ground.guard }], guard := some (19, false) }) (v := ?vxF24) rfl (by kernel_rfl) (by kernel_rfl) (by kernel_rfl) (fun _ _ _ h => h) (Or.inl ⟨by rfl, ?hyxF24⟩) (by assumption) ?_
                case hyxF24 => (intro W hSw; (try dsimp only at hSw); go_simp; (try with_reducible rfl))
                try simp only [Act.put, List.setIfInBounds_toArray, List.set_cons_zero, List.set_cons_succ]
                refine wpAnyH_take (i := 25) (oi := { dst := some 158, op := Op.binOp BinOp.eql 3 (Operand.tmp 157) (Operand.const (Value.int IntKind.i64 1)) 3, type := 4, pos := "more.go:47", after := #[{ on := 24, ground := Ground.data }, { on := 19, ground := Ground.guard }], guard := some (19, false) }) (v := .bool false) rfl (by kernel_rfl) (by kernel_rfl) (by kernel_rfl) (fun _ _ _ h => h) (Or.inl ⟨by rfl, ?hyxF25⟩) (by assumption) ?_
                case hyxF25 => (intro W hSw; (try dsimp only at hSw); go_simp; all_goals (first | with_reducible rfl | (simp only [hka]; done) | simp [hka]))
                try simp only [Act.put, List.setIfInBounds_toArray, List.set_cons_zero, List.set_cons_succ]
                refine wpAnyH_take (i := 26) (oi := { dst := some 159, op := Op.move (Operand.tmp 158), type := 4, pos := "more.go:47", after := #[{ on := 25, ground := Ground.data }, { on := 19, ground := Ground.chain }, { on := 19, ground := Ground.guard }], guard := some (19, false) }) (v := ?vxF26) rfl (by kernel_rfl) (by kernel_rfl) (by kernel_rfl) (fun _ _ _ h => h) (Or.inl ⟨by rfl, ?hyxF26⟩) (by assumption) ?_
                case hyxF26 => (intro W hSw; (try dsimp only at hSw); go_simp; (try with_reducible rfl))
                try simp only [Act.put, List.setIfInBounds_toArray, List.set_cons_zero, List.set_cons_succ]
                refine wpAnyH_take (i := 27) (oi := { dst := some 160, op := Op.load 32 (Operand.tmp 23), type := 32, pos := "more.go:47", after := #[{ on := 26, ground := Ground.guard }], guard := some (26, true) }) (v := undef) rfl (by kernel_rfl) (by kernel_rfl) (by kernel_rfl) (fun _ _ _ h => h) (Or.inr ⟨by rfl, rfl⟩) (by assumption) ?_
                try simp only [Act.put, List.setIfInBounds_toArray, List.set_cons_zero, List.set_cons_succ]
                refine wpAnyH_take (i := 28) (oi := { dst := some 161, op := Op.load 32 (Operand.tmp 20), type := 32, pos := "more.go:47", after := #[{ on := 26, ground := Ground.guard }], guard := some (26, true) }) (v := undef) rfl (by kernel_rfl) (by kernel_rfl) (by kernel_rfl) (fun _ _ _ h => h) (Or.inr ⟨by rfl, rfl⟩) (by assumption) ?_
                try simp only [Act.put, List.setIfInBounds_toArray, List.set_cons_zero, List.set_cons_succ]
                refine wpAnyH_take (i := 29) (oi := { dst := some 162, op := Op.call { callee := Callee.value (Operand.func 32), args := #[Operand.tmp 160, Operand.tmp 161], argTypes := #[32, 32] }, type := 4, pos := "more.go:47", after := #[{ on := 27, ground := Ground.data }, { on := 28, ground := Ground.data }, { on := 26, ground := Ground.chain }, { on := 26, ground := Ground.guard }], guard := some (26, true) }) (v := undef) rfl (by kernel_rfl) (by kernel_rfl) (by kernel_rfl) (fun _ _ _ h => h) (Or.inr ⟨by rfl, rfl⟩) (by assumption) ?_
                try simp only [Act.put, List.setIfInBounds_toArray, List.set_cons_zero, List.set_cons_succ]
                refine wpAnyH_take (i := 30) (oi := { dst := some 163, op := Op.unOp UnOp.not 4 (Operand.tmp 162), type := 4, pos := "more.go:47", after := #[{ on := 29, ground := Ground.data }, { on := 26, ground := Ground.guard }], guard := some (26, true) }) (v := undef) rfl (by kernel_rfl) (by kernel_rfl) (by kernel_rfl) (fun _ _ _ h => h) (Or.inr ⟨by rfl, rfl⟩) (by assumption) ?_
                try simp only [Act.put, List.setIfInBounds_toArray, List.set_cons_zero, List.set_cons_succ]
                refine wpAnyH_take (i := 31) (oi := { dst := some 164, op := Op.pick (Operand.tmp 159) (Operand.tmp 163) (Operand.const (Value.bool false)), type := 4, pos := "more.go:47", after := #[{ on := 26, ground := Ground.data }, { on := 30, ground := Ground.data }, { on := 19, ground := Ground.guard }], guard := some (19, false) }) (v := ?vxF31) rfl (by kernel_rfl) (by kernel_rfl) (by kernel_rfl) (fun _ _ _ h => h) (Or.inl ⟨by rfl, ?hyxF31⟩) (by assumption) ?_
                case hyxF31 => (intro W hSw; (try dsimp only at hSw); go_simp; (try with_reducible rfl))
                try simp only [Act.put, List.setIfInBounds_toArray, List.set_cons_zero, List.set_cons_succ]
                refine wpAnyH_take (i := 32) (oi := { dst := some 165, op := Op.pick (Operand.tmp 152) (Operand.const (Value.bool true)) (Operand.tmp 164), type := 4, pos := "more.go:47", after := #[{ on := 19, ground := Ground.data }, { on := 31, ground := Ground.data }], guard := none }) (v := ?vxF32) rfl (by kernel_rfl) (by kernel_rfl) (by kernel_rfl) (fun _ _ _ h => h) (Or.inl ⟨by rfl, ?hyxF32⟩) (by assumption) ?_
                case hyxF32 => (intro W hSw; (try dsimp only at hSw); go_simp; (try with_reducible rfl))
                try simp only [Act.put, List.setIfInBounds_toArray, List.set_cons_zero, List.set_cons_succ]
                refine wpAnyH_take (i := 33) (oi := { dst := some 166, op := Op.move (Operand.tmp 165), type := 4, pos := "more.go:47", after := #[{ on := 32, ground := Ground.data }, { on := 29, ground := Ground.chain }], guard := none }) (v := ?vxF33) rfl (by kernel_rfl) (by kernel_rfl) (by kernel_rfl) (fun _ _ _ h => h) (Or.inl ⟨by rfl, ?hyxF33⟩) (by assumption) ?_
                case hyxF33 => (intro W hSw; (try dsimp only at hSw); go_simp; (try with_reducible rfl))
                try simp only [Act.put, List.setIfInBounds_toArray, List.set_cons_zero, List.set_cons_succ]
                refine wpAnyH_take (i := 34) (oi := { dst := some 167, op := Op.load 32 (Operand.tmp 20), type := 32, pos := "more.go:47", after := #[{ on := 33, ground := Ground.guard }], guard := some (33, false) }) (v := ?vxF34) rfl (by kernel_rfl) (by kernel_rfl) (by kernel_rfl) (fun _ _ _ h => h) (Or.inl ⟨by rfl, ?hyxF34⟩) (by assumption) ?_
                case hyxF34 => (intro W hSw; (try dsimp only at hSw); go_simp; (try with_reducible rfl))
                try simp only [Act.put, List.setIfInBounds_toArray, List.set_cons_zero, List.set_cons_succ]
                refine wpAnyH_take (i := 35) (oi := { dst := some 168, op := Op.move (Operand.tmp 14), type := 38, pos := "more.go:47", after := #[{ on := 33, ground := Ground.guard }], guard := some (33, false) }) (v := ?vxF35) rfl (by kernel_rfl) (by kernel_rfl) (by kernel_rfl) (fun _ _ _ h => h) (Or.inl ⟨by rfl, ?hyxF35⟩) (by assumption) ?_
                case hyxF35 => (intro W hSw; (try dsimp only at hSw); go_simp; (try with_reducible rfl))
                try simp only [Act.put, List.setIfInBounds_toArray, List.set_cons_zero, List.set_cons_succ]
                refine wpAnyH_ready (rs := [36]) (by kernel_rfl) (by simp) ?_
                refine AllReadyH.cons (o := { dst := some 169, op := Op.call { callee := Callee.value (Operand.func 17), args := #[Operand.tmp 168], argTypes := #[38] }, type := 34, pos := "more.go:47", after := #[{ on := 35, ground := Ground.data }, { on := 33, ground := Ground.chain }, { on := 33, ground := Ground.guard }], guard := some (33, false) }) rfl (fun K_ hK => ?_) AllReadyH.nil
                go_simp
                refine (hfr _ hDa).mono ?_
                rintro e wx ⟨rfl, hDx⟩
                go_wp2_with fail
                refine hK.out _ _ (HSF.out _ hDx) (fun hHeld => ?_)
                clear hK K_
                try simp only [Act.put, List.setIfInBounds_toArray, List.set_cons_zero, List.set_cons_succ]
                refine wpAnyH_take (i := 37) (oi := { dst := some 170, op := Op.field 34 (Operand.tmp 169) 3, type := 32, pos := "more.go:47", after := #[{ on := 36, ground := Ground.data }, { on := 33, ground := Ground.guard }], guard := some (33, false) }) (v := ?vxF37) rfl (by kernel_rfl) (by kernel_rfl) (by kernel_rfl) (fun _ _ _ h => h) (Or.inl ⟨by rfl, ?hyxF37⟩) (by assumption) ?_
                case hyxF37 => (intro W hSw; (try dsimp only at hSw); go_simp; (try with_reducible rfl))
                try simp only [Act.put, List.setIfInBounds_toArray, List.set_cons_zero, List.set_cons_succ]
                refine wpAnyH_take (i := 38) (oi := { dst := some 171, op := Op.binOp BinOp.neq 32 (Operand.tmp 167) (Operand.tmp 170) 32, type := 4, pos := "more.go:47", after := #[{ on := 34, ground := Ground.data }, { on := 37, ground := Ground.data }, { on := 33, ground := Ground.guard }], guard := some (33, false) }) (v := ?vxF38) rfl (by kernel_rfl) (by kernel_rfl) (by kernel_rfl) (fun _ _ _ h => h) (Or.inl ⟨by rfl, ?hyxF38⟩) (by assumption) ?_
                case hyxF38 => (intro W hSw; (try dsimp only at hSw); go_simp; (try with_reducible rfl))
                try simp only [Act.put, List.setIfInBounds_toArray, List.set_cons_zero, List.set_cons_succ]
                refine wpAnyH_take (i := 39) (oi := { dst := some 172, op := Op.pick (Operand.tmp 166) (Operand.const (Value.bool true)) (Operand.tmp 171), type := 4, pos := "more.go:47", after := #[{ on := 33, ground := Ground.data }, { on := 38, ground := Ground.data }], guard := none }) (v := ?vxF39) rfl (by kernel_rfl) (by kernel_rfl) (by kernel_rfl) (fun _ _ _ h => h) (Or.inl ⟨by rfl, ?hyxF39⟩) (by assumption) ?_
                case hyxF39 => (intro W hSw; (try dsimp only at hSw); go_simp; (try with_reducible rfl))
                try simp only [Act.put, List.setIfInBounds_toArray, List.set_cons_zero, List.set_cons_succ]
                refine wpAnyH_done (by kernel_rfl) ?_ _
                clear hw1 hfr HSF
                have hdn := HDN.out _ hDx.out
                by_cases hs4 : (r.next z).st = 4
                · rw [show ((r.next z).st == 4) = true from by simpa using hs4] at hdn
                  have hfr := HFR.out _ hDx.out
                  clear hHeld
                  go_wp2_with (go_at_call 14; refine hdn.mono ?_; rintro e wq ⟨rfl, rfl⟩)
                  refine hfr.mono ?_
                  rintro e w15 ⟨rfl, h15⟩
                  clear hfr hdn
                  obtain ⟨qa, qc, qd, qx, qy, x0, x1, x2, x3, x4, y0, y1, y2, y3, y4, HPN⟩ := HNE.out _ h15 hs4
                  clear h15
                  go_wp2
                  go_roundw
                  case rel => exact ⟨i + 1, j + 1, bl, _, rfl, by go_num, by go_num, by omega, by omega, .inl ⟨rfl, sn2, ⟨G0, G1⟩, HPN⟩⟩
                  case measure => simp [intOf]; omega
                · rw [show ((r.next z).st == 4) = false from by simpa using hs4] at hdn
                  have HPX : Hid (PX w b A F K (2 + (i + 1)) fs bl (.slice (some ⟨g, 0, none⟩) (LL + 1) bc) wx) := HXE.out _ hDx.out hs4
                  clear hHeld
                  go_wp2_with (go_at_call 14; refine hdn.mono ?_; rintro e wq ⟨rfl, rfl⟩)
                  go_roundw
                  case rel => exact ⟨i + 1, j, bl, _, rfl, by go_num, rfl, by omega, hj, .inr ⟨K, fs, rfl, hjt, HPX⟩⟩
                  case measure => simp [intOf]; omega
            | true =>
              as_aux_lemma =>
                have hst1 : r.st = 1 := by
                  rw [hka] at hk1
                  simpa using hk1.symm
                replace hw2 := hw2 hst1
                refine wp_region_held_drew (S := fun W => W.cell? ⟨WB, 0, none⟩ = some (.int .u64 G0) ∧ W.cell? ⟨WB, 1, none⟩ = some (.int .u64 G1) ∧ W.cell? ⟨AB, 0, none⟩ = some (.int .u64 T0) ∧ W.cell? ⟨AB, 1, none⟩ = some (.int .u64 T1) ∧ W.cell? ⟨OB, 0, none⟩ = some (.int .u64 B0) ∧ W.cell? ⟨OB, 1, none⟩ = some (.int .u64 B1) ∧ W.cell? ⟨p, ZL * 6 + 2, none⟩ = some (.int .i64 ka) ∧ Hid (HL W)) (by kernel_rfl) (HSF.out _ hD) (fun hHeld => ?_)
                refine wpAnyH_take (i := 0) (oi := { dst := some 133, op := Op.move (Operand.tmp 22), type := 28, pos := "more.go:47", after := #[], guard := none }) (v := ?vxT0) rfl (by kernel_rfl) (by kernel_rfl) (by kernel_rfl) (fun _ _ _ h => h) (Or.inl ⟨by rfl, ?hyxT0⟩) (by assumption) ?_
                case hyxT0 => (intro W hSw; (try dsimp only at hSw); go_simp; (try with_reducible rfl))
                try simp only [Act.put, List.setIfInBounds_toArray, List.set_cons_zero, List.set_cons_succ]
                refine wpAnyH_take (i := 1) (oi := { dst := some 134, op := Op.binOp BinOp.neq 28 (Operand.tmp 133) (Operand.const (Value.int IntKind.i64 0)) 28, type := 4, pos := "more.go:47", after := #[{ on := 0, ground := Ground.data }], guard := none }) (v := ?vxT1) rfl (by kernel_rfl) (by kernel_rfl) (by kernel_rfl) (fun _ _ _ h => h) (Or.inl ⟨by rfl, ?hyxT1⟩) (by assumption) ?_
                case hyxT1 => (intro W hSw; (try dsimp only at hSw); go_simp; (try with_reducible rfl))
                try simp only [Act.put, List.setIfInBounds_toArray, List.set_cons_zero, List.set_cons_succ]
                refine wpAnyH_take (i := 2) (oi := { dst := some 135, op := Op.move (Operand.tmp 134), type := 4, pos := "more.go:47", after := #[{ on := 1, ground := Ground.data }], guard := none }) (v := ?vxT2) rfl (by kernel_rfl) (by kernel_rfl) (by kernel_rfl) (fun _ _ _ h => h) (Or.inl ⟨by rfl, ?hyxT2⟩) (by assumption) ?_
                case hyxT2 => (intro W hSw; (try dsimp only at hSw); go_simp; (try with_reducible rfl))
                try simp only [Act.put, List.setIfInBounds_toArray, List.set_cons_zero, List.set_cons_succ]
                refine wpAnyH_take (i := 3) (oi := { dst := some 136, op := Op.move (Operand.tmp 24), type := 28, pos := "more.go:47", after := #[{ on := 2, ground := Ground.guard }], guard := some (2, false) }) (v := ?vxT3) rfl (by kernel_rfl) (by kernel_rfl) (by kernel_rfl) (fun _ _ _ h => h) (Or.inl ⟨by rfl, ?hyxT3⟩) (by assumption) ?_
                case hyxT3 => (intro W hSw; (try dsimp only at hSw); go_simp; (try with_reducible rfl))
                try simp only [Act.put, List.setIfInBounds_toArray, List.set_cons_zero, List.set_cons_succ]
                refine wpAnyH_take (i := 4) (oi := { dst := some 137, op := Op.binOp BinOp.neq 28 (Operand.tmp 136) (Operand.const (Value.int IntKind.i64 0)) 28, type := 4, pos := "more.go:47", after := #[{ on := 3, ground := Ground.data }, { on := 2, ground := Ground.guard }], guard := some (2, false) }) (v := ?vxT4) rfl (by kernel_rfl) (by kernel_rfl) (by kernel_rfl) (fun _ _ _ h => h) (Or.inl ⟨by rfl, ?hyxT4⟩) (by assumption) ?_
                case hyxT4 => (intro W hSw; (try dsimp only at hSw); go_simp; (try with_reducible rfl))
                try simp only [Act.put, List.setIfInBounds_toArray, List.set_cons_zero, List.set_cons_succ]
                refine wpAnyH_take (i := 5) (oi := { dst := some 138, op := Op.pick (Operand.tmp 135) (Operand.const (Value.bool true)) (Operand.tmp 137), type := 4, pos := "more.go:47", after := #[{ on := 2, ground := Ground.data }, { on := 4, ground := Ground.data }], guard := none }) (v := ?vxT5) rfl (by kernel_rfl) (by kernel_rfl) (by kernel_rfl) (fun _ _ _ h => h) (Or.inl ⟨by rfl, ?hyxT5⟩) (by assumption) ?_
                case hyxT5 => (intro W hSw; (try dsimp only at hSw); go_simp; (try with_reducible rfl))
                try simp only [Act.put, List.setIfInBounds_toArray, List.set_cons_zero, List.set_cons_succ]
                refine wpAnyH_take (i := 6) (oi := { dst := some 139, op := Op.move (Operand.tmp 138), type := 4, pos := "more.go:47", after := #[{ on := 5, ground := Ground.data }, { on := 2, ground := Ground.chain }], guard := none }) (v := ?vxT6) rfl (by kernel_rfl) (by kernel_rfl) (by kernel_rfl) (fun _ _ _ h => h) (Or.inl ⟨by rfl, ?hyxT6⟩) (by assumption) ?_
                case hyxT6 => (intro W hSw; (try dsimp only at hSw); go_simp; (try with_reducible rfl))
                try simp only [Act.put, List.setIfInBounds_toArray, List.set_cons_zero, List.set_cons_succ]
                refine wpAnyH_take (i := 7) (oi := { dst := some 140, op := Op.load 32 (Operand.tmp 20), type := 32, pos := "more.go:47", after := #[{ on := 6, ground := Ground.guard }], guard := some (6, false) }) (v := ?vxT7) rfl (by kernel_rfl) (by kernel_rfl) (by kernel_rfl) (fun _ _ _ h => h) (Or.inl ⟨by rfl, ?hyxT7⟩) (by assumption) ?_
                case hyxT7 => (intro W hSw; (try dsimp only at hSw); go_simp; (try with_reducible rfl))
                try simp only [Act.put, List.setIfInBounds_toArray, List.set_cons_zero, List.set_cons_succ]
                refine wpAnyH_take (i := 8) (oi := { dst := some 141, op := Op.load 32 (Operand.tmp 21), type := 32, pos := "more.go:47", after := #[{ on := 6, ground := Ground.guard }], guard := some (6, false) }) (v := ?vxT8) rfl (by kernel_rfl) (by kernel_rfl) (by kernel_rfl) (fun _ _ _ h => h) (Or.inl ⟨by rfl, ?hyxT8⟩) (by assumption) ?_
                case hyxT8 => (intro W hSw; (try dsimp only at hSw); go_simp; (try with_reducible rfl))
                try simp only [Act.put, List.setIfInBounds_toArray, List.set_cons_zero, List.set_cons_succ]
                refine wpAnyH_ready (rs := [9]) (by kernel_rfl) (by simp) ?_
                refine AllReadyH.cons (o := { dst := some 142, op := Op.call { callee := Callee.value (Operand.func 32), args := #[Operand.tmp 140, Operand.tmp 141], argTypes := #[32, 32] }, type := 4, pos := "more.go:47", after := #[{ on := 7, ground := Ground.data }, { on := 8, ground := Ground.data }, { on := 6, ground := Ground.chain }, { on := 6, ground := Ground.guard }], guard := some (6, false) }) rfl (fun K_ hK => ?_) AllReadyH.nil
                go_simp
                refine (hw1 _ hD).mono ?_
                rintro e wa ⟨rfl, hDa⟩
                go_wp2_with fail
                refine hK.out _ _ (HSF.out _ hDa) (fun hHeld => ?_)
                clear hK K_
                try simp only [Act.put, List.setIfInBounds_toArray, List.set_cons_zero, List.set_cons_succ]
                refine wpAnyH_take (i := 10) (oi := { dst := some 143, op := Op.unOp UnOp.not 4 (Operand.tmp 142), type := 4, pos := "more.go:47", after := #[{ on := 9, ground := Ground.data }, { on := 6, ground := Ground.guard }], guard := some (6, false) }) (v := ?vxT10) rfl (by kernel_rfl) (by kernel_rfl) (by kernel_rfl) (fun _ _ _ h => h) (Or.inl ⟨by rfl, ?hyxT10⟩) (by assumption) ?_
                case hyxT10 => (intro W hSw; (try dsimp only at hSw); go_simp; (try with_reducible rfl))
                try simp only [Act.put, List.setIfInBounds_toArray, List.set_cons_zero, List.set_cons_succ]
                refine wpAnyH_take (i := 11) (oi := { dst := some 144, op := Op.pick (Operand.tmp 139) (Operand.const (Value.bool true)) (Operand.tmp 143), type := 4, pos := "more.go:47", after := #[{ on := 6, ground := Ground.data }, { on := 10, ground := Ground.data }], guard := none }) (v := ?vxT11) rfl (by kernel_rfl) (by kernel_rfl) (by kernel_rfl) (fun _ _ _ h => h) (Or.inl ⟨by rfl, ?hyxT11⟩) (by assumption) ?_
                case hyxT11 => (intro W hSw; (try dsimp only at hSw); go_simp; (try with_reducible rfl))
                try simp only [Act.put, List.setIfInBounds_toArray, List.set_cons_zero, List.set_cons_succ]
                refine wpAnyH_take (i := 12) (oi := { dst := some 145, op := Op.move (Operand.tmp 144), type := 4, pos := "more.go:47", after := #[{ on := 11, ground := Ground.data }, { on := 9, ground := Ground.chain }], guard := none }) (v := ?vxT12) rfl (by kernel_rfl) (by kernel_rfl) (by kernel_rfl) (fun _ _ _ h => h) (Or.inl ⟨by rfl, ?hyxT12⟩) (by assumption) ?_
                case hyxT12 => (intro W hSw; (try dsimp only at hSw); go_simp; (try with_reducible rfl))
                try simp only [Act.put, List.setIfInBounds_toArray, List.set_cons_zero, List.set_cons_succ]
                refine wpAnyH_take (i := 13) (oi := { dst := some 146, op := Op.move (Operand.tmp 19), type := 67, pos := "more.go:47", after := #[{ on := 12, ground := Ground.guard }], guard := some (12, false) }) (v := ?vxT13) rfl (by kernel_rfl) (by kernel_rfl) (by kernel_rfl) (fun _ _ _ h => h) (Or.inl ⟨by rfl, ?hyxT13⟩) (by assumption) ?_
                case hyxT13 => (intro W hSw; (try dsimp only at hSw); go_simp; (try with_reducible rfl))
                try simp only [Act.put, List.setIfInBounds_toArray, List.set_cons_zero, List.set_cons_succ]
                refine wpAnyH_take (i := 14) (oi := { dst := some 147, op := Op.call { callee := Callee.builtin Builtin.len, args := #[Operand.tmp 146], argTypes := #[67] }, type := 3, pos := "more.go:47", after := #[{ on := 13, ground := Ground.data }, { on := 12, ground := Ground.guard }], guard := some (12, false) }) (v := ?vxT14) rfl (by kernel_rfl) (by kernel_rfl) (by kernel_rfl) (fun _ _ _ h => h) (Or.inl ⟨by rfl, ?hyxT14⟩) (by assumption) ?_
                case hyxT14 => (intro W hSw; (try dsimp only at hSw); go_simp; (try with_reducible rfl))
                try simp only [Act.put, List.setIfInBounds_toArray, List.set_cons_zero, List.set_cons_succ]
                refine wpAnyH_take (i := 15) (oi := { dst := some 148, op := Op.move (Operand.tmp 18), type := 3, pos := "more.go:47", after := #[{ on := 12, ground := Ground.guard }], guard := some (12, false) }) (v := ?vxT15) rfl (by kernel_rfl) (by kernel_rfl) (by kernel_rfl) (fun _ _ _ h => h) (Or.inl ⟨by rfl, ?hyxT15⟩) (by assumption) ?_
                case hyxT15 => (intro W hSw; (try dsimp only at hSw); go_simp; (try with_reducible rfl))
                try simp only [Act.put, List.setIfInBounds_toArray, List.set_cons_zero, List.set_cons_succ]
                refine wpAnyH_take (i := 16) (oi := { dst := some 149, op := Op.binOp BinOp.add 3 (Operand.tmp 148) (Operand.const (Value.int IntKind.i64 1)) 3, type := 3, pos := "more.go:47", after := #[{ on := 15, ground := Ground.data }, { on := 12, ground := Ground.guard }], guard := some (12, false) }) (v := ?vxT16) rfl (by kernel_rfl) (by kernel_rfl) (by kernel_rfl) (fun _ _ _ h => h) (Or.inl ⟨by rfl, ?hyxT16⟩) (by assumption) ?_
                case hyxT16 => (intro W hSw; (try dsimp only at hSw); go_simp; (try with_reducible rfl))
                try simp only [Act.put, List.setIfInBounds_toArray, List.set_cons_zero, List.set_cons_succ]
                refine wpAnyH_take (i := 17) (oi := { dst := some 150, op := Op.binOp BinOp.neq 3 (Operand.tmp 147) (Operand.tmp 149) 3, type := 4, pos := "more.go:47", after := #[{ on := 14, ground := Ground.data }, { on := 16, ground := Ground.data }, { on := 12, ground := Ground.guard }], guard := some (12, false) }) (v := ?vxT17) rfl (by kernel_rfl) (by kernel_rfl) (by kernel_rfl) (fun _ _ _ h => h) (Or.inl ⟨by rfl, ?hyxT17⟩) (by assumption) ?_
                case hyxT17 => (intro W hSw; (try dsimp only at hSw); go_simp; (try with_reducible rfl))
                try simp only [Act.put, List.setIfInBounds_toArray, List.set_cons_zero, List.set_cons_succ]
                refine wpAnyH_take (i := 18) (oi := { dst := some 151, op := Op.pick (Operand.tmp 145) (Operand.const (Value.bool true)) (Operand.tmp 150), type := 4, pos := "more.go:47", after := #[{ on := 12, ground := Ground.data }, { on := 17, ground := Ground.data }], guard := none }) (v := ?vxT18) rfl (by kernel_rfl) (by kernel_rfl) (by kernel_rfl) (fun _ _ _ h => h) (Or.inl ⟨by rfl, ?hyxT18⟩) (by assumption) ?_
                case hyxT18 => (intro W hSw; (try dsimp only at hSw); go_simp; (try with_reducible rfl))
                try simp only [Act.put, List.setIfInBounds_toArray, List.set_cons_zero, List.set_cons_succ]
                refine wpAnyH_take (i := 19) (oi := { dst := some 152, op := Op.move (Operand.tmp 151), type := 4, pos := "more.go:47", after := #[{ on := 18, ground := Ground.data }, { on := 12, ground := Ground.chain }], guard := none }) (v := ?vxT19) rfl (by kernel_rfl) (by kernel_rfl) (by kernel_rfl) (fun _ _ _ h => h) (Or.inl ⟨by rfl, ?hyxT19⟩) (by assumption) ?_
                case hyxT19 => (intro W hSw; (try dsimp only at hSw); go_simp; (try with_reducible rfl))
                try simp only [Act.put, List.setIfInBounds_toArray, List.set_cons_zero, List.set_cons_succ]
                refine wpAnyH_take (i := 20) (oi := { dst := some 153, op := Op.move (Operand.tmp 19), type := 67, pos := "more.go:47", after := #[{ on := 19, ground := Ground.guard }], guard := some (19, false) }) (v := ?vxT20) rfl (by kernel_rfl) (by kernel_rfl) (by kernel_rfl) (fun _ _ _ h => h) (Or.inl ⟨by rfl, ?hyxT20⟩) (by assumption) ?_
                case hyxT20 => (intro W hSw; (try dsimp only at hSw); go_simp; (try with_reducible rfl))
                try simp only [Act.put, List.setIfInBounds_toArray, List.set_cons_zero, List.set_cons_succ]
                refine wpAnyH_take (i := 21) (oi := { dst := some 154, op := Op.move (Operand.tmp 18), type := 3, pos := "more.go:47", after := #[{ on := 19, ground := Ground.guard }], guard := some (19, false) }) (v := ?vxT21) rfl (by kernel_rfl) (by kernel_rfl) (by kernel_rfl) (fun _ _ _ h => h) (Or.inl ⟨by rfl, ?hyxT21⟩) (by assumption) ?_
                case hyxT21 => (intro W hSw; (try dsimp only at hSw); go_simp; (try with_reducible rfl))
                try simp only [Act.put, List.setIfInBounds_toArray, List.set_cons_zero, List.set_cons_succ]
                refine wpAnyH_take (i := 22) (oi := { dst := some 155, op := Op.indexAddr 67 (Operand.tmp 153) (Operand.tmp 154), type := 0, pos := "more.go:47", after := #[{ on := 20, ground := Ground.data }, { on := 21, ground := Ground.data }, { on := 19, ground := Ground.guard }], guard := some (19, false) }) (v := ?vxT22) rfl (by kernel_rfl) (by kernel_rfl) (by kernel_rfl) (fun _ _ _ h => h) (Or.inl ⟨by rfl, ?hyxT22⟩) (by assumption) ?_
                case hyxT22 => (intro W hSw; (try dsimp only at hSw); go_simp; (try with_reducible rfl))
                try simp only [Act.put, List.setIfInBounds_toArray, List.set_cons_zero, List.set_cons_succ]
                refine wpAnyH_take (i := 23) (oi := { dst := some 156, op := Op.fieldAddr 78 (Operand.tmp 155) 2, type := 0, pos := "more.go:47", after := #[{ on := 22, ground := Ground.data }, { on := 19, ground := Ground.guard }], guard := some (19, false) }) (v := ?vxT23) rfl (by kernel_rfl) (by kernel_rfl) (by kernel_rfl) (fun _ _ _ h => h) (Or.inl ⟨by rfl, ?hyxT23⟩) (by assumption) ?_
                case hyxT23 => (intro W hSw; (try dsimp only at hSw); go_simp; (try with_reducible rfl))
                try simp only [Act.put, List.setIfInBounds_toArray, List.set_cons_zero, List.set_cons_succ]
                refine wpAnyH_take (i := 24) (oi := { dst := some 157, op := Op.load 3 (Operand.tmp 156), type := 3, pos := "more.go:47", after := #[{ on := 23, ground := Ground.data }, { on := 19, ground := Ground.guard }], guard := some (19, false) }) (v := ?vxT24) rfl (by kernel_rfl) (by kernel_rfl) (by kernel_rfl) (fun _ _ _ h => h) (Or.inl ⟨by rfl, ?hyxT24⟩) (by assumption) ?_
                case hyxT24 => (intro W hSw; (try dsimp only at hSw); go_simp; (try with_reducible rfl))
                try simp only [Act.put, List.setIfInBounds_toArray, List.set_cons_zero, List.set_cons_succ]
                refine wpAnyH_take (i := 25) (oi := { dst := some 158, op := Op.binOp BinOp.eql 3 (Operand.tmp 157) (Operand.const (Value.int IntKind.i64 1)) 3, type := 4, pos := "more.go:47", after := #[{ on := 24, ground := Ground.data }, { on := 19, ground := Ground.guard }], guard := some (19, false) }) (v := .bool true) rfl (by kernel_rfl) (by kernel_rfl) (by kernel_rfl) (fun _ _ _ h => h) (Or.inl ⟨by rfl, ?hyxT25⟩) (by assumption) ?_
                case hyxT25 => (intro W hSw; (try dsimp only at hSw); go_simp; all_goals (first | with_reducible rfl | (simp only [hka]; done) | simp [hka]))
                try simp only [Act.put, List.setIfInBounds_toArray, List.set_cons_zero, List.set_cons_succ]
                refine wpAnyH_take (i := 26) (oi := { dst := some 159, op := Op.move (Operand.tmp 158), type := 4, pos := "more.go:47", after := #[{ on := 25, ground := Ground.data }, { on := 19, ground := Ground.chain }, { on := 19, ground := Ground.guard }], guard := some (19, false) }) (v := ?vxT26) rfl (by kernel_rfl) (by kernel_rfl) (by kernel_rfl) (fun _ _ _ h => h) (Or.inl ⟨by rfl, ?hyxT26⟩) (by assumption) ?_
                case hyxT26 => (intro W hSw; (try dsimp only at hSw); go_simp; (try with_reducible rfl))
                try simp only [Act.put, List.setIfInBounds_toArray, List.set_cons_zero, List.set_cons_succ]
                refine wpAnyH_take (i := 27) (oi := { dst := some 160, op := Op.load 32 (Operand.tmp 23), type := 32, pos := "more.go:47", after := #[{ on := 26, ground := Ground.guard }], guard := some (26, true) }) (v := ?vxT27) rfl (by kernel_rfl) (by kernel_rfl) (by kernel_rfl) (fun _ _ _ h => h) (Or.inl ⟨by rfl, ?hyxT27⟩) (by assumption) ?_
                case hyxT27 => (intro W hSw; (try dsimp only at hSw); go_simp; (try with_reducible rfl))
                try simp only [Act.put, List.setIfInBounds_toArray, List.set_cons_zero, List.set_cons_succ]
                refine wpAnyH_take (i := 28) (oi := { dst := some 161, op := Op.load 32 (Operand.tmp 20), type := 32, pos := "more.go:47", after := #[{ on := 26, ground := Ground.guard }], guard := some (26, true) }) (v := ?vxT28) rfl (by kernel_rfl) (by kernel_rfl) (by kernel_rfl) (fun _ _ _ h => h) (Or.inl ⟨by rfl, ?hyxT28⟩) (by assumption) ?_
                case hyxT28 => (intro W hSw; (try dsimp only at hSw); go_simp; (try with_reducible rfl))
                try simp only [Act.put, List.setIfInBounds_toArray, List.set_cons_zero, List.set_cons_succ]
                refine wpAnyH_ready (rs := [29]) (by kernel_rfl) (by simp) ?_
                refine AllReadyH.cons (o := { dst := some 162, op := Op.call { callee := Callee.value (Operand.func 32), args := #[Operand.tmp 160, Operand.tmp 161], argTypes := #[32, 32] }, type := 4, pos := "more.go:47", after := #[{ on := 27, ground := Ground.data }, { on := 28, ground := Ground.data }, { on := 26, ground := Ground.chain }, { on := 26, ground := Ground.guard }], guard := some (26, true) }) rfl (fun K_ hK => ?_) AllReadyH.nil
                go_simp
                refine (hw2 _ hDa).mono ?_
                rintro e wb ⟨rfl, hDb⟩
                go_wp2_with fail
                refine hK.out _ _ (HSF.out _ hDb) (fun hHeld => ?_)
                clear hK K_
                try simp only [Act.put, List.setIfInBounds_toArray, List.set_cons_zero, List.set_cons_succ]
                refine wpAnyH_take (i := 30) (oi := { dst := some 163, op := Op.unOp UnOp.not 4 (Operand.tmp 162), type := 4, pos := "more.go:47", after := #[{ on := 29, ground := Ground.data }, { on := 26, ground := Ground.guard }], guard := some (26, true) }) (v := ?vxT30) rfl (by kernel_rfl) (by kernel_rfl) (by kernel_rfl) (fun _ _ _ h => h) (Or.inl ⟨by rfl, ?hyxT30⟩) (by assumption) ?_
                case hyxT30 => (intro W hSw; (try dsimp only at hSw); go_simp; (try with_reducible rfl))
                try simp only [Act.put, List.setIfInBounds_toArray, List.set_cons_zero, List.set_cons_succ]
                refine wpAnyH_take (i := 31) (oi := { dst := some 164, op := Op.pick (Operand.tmp 159) (Operand.tmp 163) (Operand.const (Value.bool false)), type := 4, pos := "more.go:47", after := #[{ on := 26, ground := Ground.data }, { on := 30, ground := Ground.data }, { on := 19, ground := Ground.guard }], guard := some (19, false) }) (v := ?vxT31) rfl (by kernel_rfl) (by kernel_rfl) (by kernel_rfl) (fun _ _ _ h => h) (Or.inl ⟨by rfl, ?hyxT31⟩) (by assumption) ?_
                case hyxT31 => (intro W hSw; (try dsimp only at hSw); go_simp; (try with_reducible rfl))
                try simp only [Act.put, List.setIfInBounds_toArray, List.set_cons_zero, List.set_cons_succ]
                refine wpAnyH_take (i := 32) (oi := { dst := some 165, op := Op.pick (Operand.tmp 152) (Operand.const (Value.bool true)) (Operand.tmp 164), type := 4, pos := "more.go:47", after := #[{ on := 19, ground := Ground.data }, { on := 31, ground := Ground.data }], guard := none }) (v := ?vxT32) rfl (by kernel_rfl) (by kernel_rfl) (by kernel_rfl) (fun _ _ _ h => h) (Or.inl ⟨by rfl, ?hyxT32⟩) (by assumption) ?_
                case hyxT32 => (intro W hSw; (try dsimp only at hSw); go_simp; (try with_reducible rfl))
                try simp only [Act.put, List.setIfInBounds_toArray, List.set_cons_zero, List.set_cons_succ]
                refine wpAnyH_take (i := 33) (oi := { dst := some 166, op := Op.move (Operand.tmp 165), type := 4, pos := "more.go:47", after := #[{ on := 32, ground := Ground.data }, { on := 29, ground := Ground.chain }], guard := none }) (v := ?vxT33) rfl (by kernel_rfl) (by kernel_rfl) (by kernel_rfl) (fun _ _ _ h => h) (Or.inl ⟨by rfl, ?hyxT33⟩) (by assumption) ?_
                case hyxT33 => (intro W hSw; (try dsimp only at hSw); go_simp; (try with_reducible rfl))
                try simp only [Act.put, List.setIfInBounds_toArray, List.set_cons_zero, List.set_cons_succ]
                refine wpAnyH_take (i := 34) (oi := { dst := some 167, op := Op.load 32 (Operand.tmp 20), type := 32, pos := "more.go:47", after := #[{ on := 33, ground := Ground.guard }], guard := some (33, false) }) (v := ?vxT34) rfl (by kernel_rfl) (by kernel_rfl) (by kernel_rfl) (fun _ _ _ h => h) (Or.inl ⟨by rfl, ?hyxT34⟩) (by assumption) ?_
                case hyxT34 => (intro W hSw; (try dsimp only at hSw); go_simp; (try with_reducible rfl))
                try simp only [Act.put, List.setIfInBounds_toArray, List.set_cons_zero, List.set_cons_succ]
                refine wpAnyH_take (i := 35) (oi := { dst := some 168, op := Op.move (Operand.tmp 14), type := 38, pos := "more.go:47", after := #[{ on := 33, ground := Ground.guard }], guard := some (33, false) }) (v := ?vxT35) rfl (by kernel_rfl) (by kernel_rfl) (by kernel_rfl) (fun _ _ _ h => h) (Or.inl ⟨by rfl, ?hyxT35⟩) (by assumption) ?_
                case hyxT35 => (intro W hSw; (try dsimp only at hSw); go_simp; (try with_reducible rfl))
                try simp only [Act.put, List.setIfInBounds_toArray, List.set_cons_zero, List.set_cons_succ]
                refine wpAnyH_ready (rs := [36]) (by kernel_rfl) (by simp) ?_
                refine AllReadyH.cons (o := { dst := some 169, op := Op.call { callee := Callee.value (Operand.func 17), args := #[Operand.tmp 168], argTypes := #[38] }, type := 34, pos := "more.go:47", after := #[{ on := 35, ground := Ground.data }, { on := 33, ground := Ground.chain }, { on := 33, ground := Ground.guard }], guard := some (33, false) }) rfl (fun K_ hK => ?_) AllReadyH.nil
                go_simp
                refine (hfr _ hDb).mono ?_
                rintro e wx ⟨rfl, hDx⟩
                go_wp2_with fail
                refine hK.out _ _ (HSF.out _ hDx) (fun hHeld => ?_)
                clear hK K_
                try simp only [Act.put, List.setIfInBounds_toArray, List.set_cons_zero, List.set_cons_succ]
                refine wpAnyH_take (i := 37) (oi := { dst := some 170, op := Op.field 34 (Operand.tmp 169) 3, type := 32, pos := "more.go:47", after := #[{ on := 36, ground := Ground.data }, { on := 33, ground := Ground.guard }], guard := some (33, false) }) (v := ?vxT37) rfl (by kernel_rfl) (by kernel_rfl) (by kernel_rfl) (fun _ _ _ h => h) (Or.inl ⟨by rfl, ?hyxT37⟩) (by assumption) ?_
                case hyxT37 => (intro W hSw; (try dsimp only at hSw); go_simp; (try with_reducible rfl))
                try simp only [Act.put, List.setIfInBounds_toArray, List.set_cons_zero, List.set_cons_succ]
                refine wpAnyH_take (i := 38) (oi := { dst := some 171, op := Op.binOp BinOp.neq 32 (Operand.tmp 167) (Operand.tmp 170) 32, type := 4, pos := "more.go:47", after := #[{ on := 34, ground := Ground.data }, { on := 37, ground := Ground.data }, { on := 33, ground := Ground.guard }], guard := some (33, false) }) (v := ?vxT38) rfl (by kernel_rfl) (by kernel_rfl) (by kernel_rfl) (fun _ _ _ h => h) (Or.inl ⟨by rfl, ?hyxT38⟩) (by assumption) ?_
                case hyxT38 => (intro W hSw; (try dsimp only at hSw); go_simp; (try with_reducible rfl))
                try simp only [Act.put, List.setIfInBounds_toArray, List.set_cons_zero, List.set_cons_succ]
                refine wpAnyH_take (i := 39) (oi := { dst := some 172, op := Op.pick (Operand.tmp 166) (Operand.const (Value.bool true)) (Operand.tmp 171), type := 4, pos := "more.go:47", after := #[{ on := 33, ground := Ground.data }, { on := 38, ground := Ground.data }], guard := none }) (v := ?vxT39) rfl (by kernel_rfl) (by kernel_rfl) (by kernel_rfl) (fun _ _ _ h => h) (Or.inl ⟨by rfl, ?hyxT39⟩) (by assumption) ?_
                case hyxT39 => (intro W hSw; (try dsimp only at hSw); go_simp; (try with_reducible rfl))
                try simp only [Act.put, List.setIfInBounds_toArray, List.set_cons_zero, List.set_cons_succ]
                refine wpAnyH_done (by kernel_rfl) ?_ _
                clear hw1 hw2 hfr HSF
                have hdn := HDN.out _ hDx.out
                by_cases hs4 : (r.next z).st = 4
                · rw [show ((r.next z).st == 4) = true from by simpa using hs4] at hdn
                  have hfr := HFR.out _ hDx.out
                  clear hHeld
                  go_wp2_with (go_at_call 14; refine hdn.mono ?_; rintro e wq ⟨rfl, rfl⟩)
                  refine hfr.mono ?_
                  rintro e w15 ⟨rfl, h15⟩
                  clear hfr hdn
                  obtain ⟨qa, qc, qd, qx, qy, x0, x1, x2, x3, x4, y0, y1, y2, y3, y4, HPN⟩ := HNE.out _ h15 hs4
                  clear h15
                  go_wp2
                  go_roundw
                  case rel => exact ⟨i + 1, j + 1, bl, _, rfl, by go_num, by go_num, by omega, by omega, .inl ⟨rfl, sn2, ⟨G0, G1⟩, HPN⟩⟩
                  case measure => simp [intOf]; omega
                · rw [show ((r.next z).st == 4) = false from by simpa using hs4] at hdn
                  have HPX : Hid (PX w b A F K (2 + (i + 1)) fs bl (.slice (some ⟨g, 0, none⟩) (LL + 1) bc) wx) := HXE.out _ hDx.out hs4
                  clear hHeld
                  go_wp2_with (go_at_call 14; refine hdn.mono ?_; rintro e wq ⟨rfl, rfl⟩)
                  go_roundw
                  case rel => exact ⟨i + 1, j, bl, _, rfl, by go_num, rfl, by omega, hj, .inr ⟨K, fs, rfl, hjt, HPX⟩⟩
                  case measure => simp [intOf]; omega
    · have hi1 : ¬ (i : Int) < (sl : Int) := by omega
      have HK : Hid (Kept (fun _ => False) w wr) := by
        rcases hmode with ⟨_, sn, sg, h⟩ | ⟨K, fs, _, _, h⟩
        · obtain ⟨z, v, _, _, _, _, _, _, h⟩ := h.out; exact h.same
        · obtain ⟨z, r, v, l, _, _, _, _, _, _, _, _, _, _, h⟩ := h.out; exact h.same
      rcases hmode with ⟨rfl, _⟩ | ⟨K, fs, rfl, _⟩
      · as_aux_lemma =>
          go_wp2
          go_ret
          exact ⟨rfl, HK.out⟩
      · as_aux_lemma =>
          go_wp2
          go_ret
          exact ⟨rfl, HK.out⟩
end Go.Proofs.Ytajfjkhbimehbaa
