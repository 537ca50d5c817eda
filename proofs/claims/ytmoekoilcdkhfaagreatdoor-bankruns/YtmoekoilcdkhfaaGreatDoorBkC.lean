/- Package bank: texts that are filled, the texts of the deeds. -/
import Derived.Test.YtmoekoilcdkhfaaGreatDoorBkB
import Derived.Deep.RegionLaw
namespace Go.Proofs.YtmoekoilcdkhfaaGreatDoor
open Go.RowKit
set_option linter.unusedVariables false
set_option linter.unusedSimpArgs false
attribute [local go_sem ↓] Go.wp_at_zero Go.wp_at_succ

theorem countB_le1 (s : List UInt8) : Lib.countB (bs s) ⟨#[35]⟩ ≤ s.length := by
  have := Lib.countB_le ⟨#[35]⟩ (by decide) (bs s).size (bs s) (Nat.le_refl _)
  simpa [bs, ByteArray.size] using this
theorem replace_any (s x : List UInt8) (w : World) (hE : Env w) (hs : s.length ≤ 100000) (hx : x.length ≤ 21) :
    Calls Tryz.prog 79 #[.string (bs s), .string ⟨#[35]⟩, .string (bs x), .int .i64 1] w fun e w' => e = .returned (.string (bs (Lib.replace s [35] x 1))) ∧ Kept (fun _ => False) w w' := by
  obtain ⟨m, hm⟩ := hE.ml
  have hc := countB_le1 s
  have hz : Lib.countB (bs s) ⟨#[35]⟩ * (bs x).size ≤ 100000 * 21 := Nat.mul_le_mul (by omega) (by simpa [bs, ByteArray.size] using hx)
  have hs2 : (bs s).size ≤ 100000 := by simpa [bs, ByteArray.size] using hs
  refine (Tryz.strings_Replace (bs s) ⟨#[35]⟩ (bs x) 1 m w (by omega) hm (by decide) (by omega)).mono ?_
  rintro e w' ⟨rfl, k⟩
  exact ⟨rfl, kept_below k⟩
theorem fillM_len : ∀ (xs : List Int) (t : List UInt8), (∀ x ∈ xs, -9223372036854775808 ≤ x ∧ x ≤ 9223372036854775807) → (fillM t xs).length ≤ t.length + 21 * xs.length
  | [], t, _ => by simp [fillM]
  | x :: xs, t, h => by
    have h1 := replace_len t (Lib.itoa x)
    have h2 := Lib.itoa_length_le x (h x (by simp)).1 (h x (by simp)).2
    have h3 := fillM_len xs (Lib.replace t [35] (Lib.itoa x) 1) (fun y hy => h y (by simp [hy]))
    have e : fillM t (x :: xs) = fillM (Lib.replace t [35] (Lib.itoa x) 1) xs := rfl
    rw [e]
    simp only [List.length_cons]
    omega
set_option maxHeartbeats 2000000 in
theorem fill_any (t : List UInt8) (xs : List Int) (la : Option Addr) (n lc : Nat) (w : World) (hE : Env w) (hX : XIn w la n xs) (hr : ∀ x ∈ xs, -9223372036854775808 ≤ x ∧ x ≤ 9223372036854775807) (ht : t.length ≤ 1000) (hn : n ≤ 20) :
    Calls Tryz.prog 63 #[.string (bs t), .slice la n lc] w fun e w' => e = .returned (.string (bs (fillM t xs))) ∧ Kept (fun _ => False) w w' := by
  have HX := hid hX
  have HN : Hid (n = xs.length) := hX.1
  have HR := hid hr
  have HE := hid hE
  clear hX hr hE
  go_enter Tryz.func63, Tryz.ntmps63
  go_wp2
  go_loopw [0, 9] (fun s i wr => ∃ j : Nat, i = .int .i64 j ∧ j ≤ n ∧ s = .string (bs (fillM t (xs.take j))) ∧ Kept (fun _ => False) w wr) (fun _ i _ => n - (intOf i).toNat)
  case atStart => exact ⟨0, rfl, Nat.zero_le _, rfl, Kept.refl _ _⟩
  case round =>
    obtain ⟨j, rfl, hj, rfl, hk⟩ := hrel
    by_cases hlt : j < n
    · obtain ⟨g, o, rfl⟩ := HX.out.addr (by omega)
      have c1 := (HX.out.kept hk).cell hlt
      have hjl : j < xs.length := by have := HN.out; omega
      have hm : xs.getD j 0 ∈ xs := by simp [List.getD_eq_getElem?_getD, hjl]
      have hb := HR.out _ hm
      have HT : Hid (fillM t (xs.take (j + 1)) = Lib.replace (fillM t (xs.take j)) [35] (Lib.itoa (xs.getD j 0)) 1) := by
        show _ = _
        rw [List.take_succ_eq_append_getElem hjl, fillM_snoc]
        simp [List.getD_eq_getElem?_getD, hjl]
      have hlen := fillM_len (xs.take j) t (fun x hx => HR.out x (List.mem_of_mem_take hx))
      have hl2 : (xs.take j).length ≤ 20 := by rw [List.length_take]; omega
      have h0 : (0 : Int) ≤ (j : Int) := Int.natCast_nonneg _
      have h1 : (j : Int) < (n : Int) := by omega
      have hq := itoa_any (xs.getD j 0) hb.1 hb.2 (HE.out.kept hk)
      have hi := Lib.itoa_length_le (xs.getD j 0) hb.1 hb.2
      have HRp : Hid (∀ W, Kept (fun _ => False) wr W → Calls Tryz.prog 79 #[.string (bs (fillM t (xs.take j))), .string ⟨#[35]⟩, .string (bs (Lib.itoa (xs.getD j 0))), .int .i64 1] W fun e w' => e = .returned (.string (bs (Lib.replace (fillM t (xs.take j)) [35] (Lib.itoa (xs.getD j 0)) 1))) ∧ Kept (fun _ => False) W w') := fun W k => replace_any _ _ W ((HE.out.kept hk).kept k) (by omega) hi
      clear hm hb hlen hl2 hi hjl
      generalize xs.getD j 0 = z at *
      generalize fillM t (xs.take j) = s at *
      generalize Lib.replace s [35] (Lib.itoa z) 1 = s2 at *
      go_wp2_with (first | (go_at_call 80; refine hq.mono ?_; rintro e w1 ⟨rfl, k1⟩; have hp := HRp.out w1 k1; clear HRp hq) | (go_at_call 79; refine hp.mono ?_; rintro e w2 ⟨rfl, k2⟩))
      go_roundw
      case rel => exact ⟨j + 1, by simp, by omega, by rw [HT.out], (hk.trans k1 (fun _ _ f => f)).trans k2 (fun _ _ f => f)⟩
      case measure => simp [intOf]; omega
    · have h1 : ¬ (j : Int) < (n : Int) := by omega
      have e : xs.take j = xs := List.take_of_length_le (by have := HN.out; omega)
      rw [e]
      clear e
      go_wp2
      go_ret
      exact ⟨rfl, hk⟩
theorem buildN1 (W : World) (a : Int) : (Instr.buildSlice 62 1 #[(0, .int .i64 a)]).run Tryz.prog W = .ok (.slice (some ⟨W.heap.size, 0, none⟩) 1 1) (W.alloc (.cells #[.int .i64 a] 3)) := by kernel_rfl
theorem buildN2 (W : World) (a b : Int) : (Instr.buildSlice 62 2 #[(0, .int .i64 a), (1, .int .i64 b)]).run Tryz.prog W = .ok (.slice (some ⟨W.heap.size, 0, none⟩) 2 2) (W.alloc (.cells #[.int .i64 a, .int .i64 b] 3)) := by kernel_rfl
theorem buildN3 (W : World) (a b c : Int) : (Instr.buildSlice 62 3 #[(0, .int .i64 a), (1, .int .i64 b), (2, .int .i64 c)]).run Tryz.prog W = .ok (.slice (some ⟨W.heap.size, 0, none⟩) 3 3) (W.alloc (.cells #[.int .i64 a, .int .i64 b, .int .i64 c] 3)) := by kernel_rfl
theorem buildN4 (W : World) (a b c d : Int) : (Instr.buildSlice 62 4 #[(0, .int .i64 a), (1, .int .i64 b), (2, .int .i64 c), (3, .int .i64 d)]).run Tryz.prog W = .ok (.slice (some ⟨W.heap.size, 0, none⟩) 4 4) (W.alloc (.cells #[.int .i64 a, .int .i64 b, .int .i64 c, .int .i64 d] 3)) := by kernel_rfl
theorem xin_new {W : World} {g : Nat} {zs : List Int} {t : TypeId} {cs : Array Value} (h : W.heap[g]? = some (.cells cs t (0, 0))) (hc : cs = (xC zs).toArray) : XIn W (some ⟨g, 0, none⟩) zs.length zs := by
  refine ⟨rfl, fun _ => ⟨g, 0, rfl, fun j hj => ?_⟩⟩
  subst hc
  rw [Nat.zero_add, cell_of_heap h]
  simpa using xC_at zs j hj
/-- What a deed's text is filled with. -/
structure Fits (base n : Int) (d : Dd) : Prop where
  h0 : 0 ≤ base
  h1 : base ≤ 256
  h2 : 0 ≤ n
  h3 : n ≤ 64
  h4 : 0 ≤ d.a
  h5 : d.a ≤ 64
  h6 : 0 ≤ d.b
  h7 : d.b ≤ 64
  h8 : 0 ≤ d.x
  h9 : d.x ≤ 2147483648
section
variable {w : World} {base n : Int} {d : Dd}
set_option maxHeartbeats 2000000 in
theorem payT_any (hE : Env w) (hf : Fits base n d) : Calls Tryz.prog 62 #[.int .i64 base, .int .i64 n, d.val] w fun e w' => e = .returned (.string (bs (fillM payT [base + d.a, base + d.a, d.x]))) ∧ Kept (fun _ => False) w w' := by
  obtain ⟨op, a, b, x, y⟩ := d
  obtain ⟨h0, h1, h2, h3, h4, h5, h6, h7, h8, h9⟩ := hf
  simp only at h4 h5 h6 h7 h8 h9
  have s1 := (St.nil w).box #[.int .i64 op, .int .i64 a, .int .i64 b, .int .i64 x, .int .i64 y] 40
  have HK := hid (s1.alloc (.cells #[.int .i64 (base + a), .int .i64 (base + a), .int .i64 (x)] 3)).same
  show Calls _ _ #[.int .i64 base, .int .i64 n, .agg #[.int .i64 op, .int .i64 a, .int .i64 b, .int .i64 x, .int .i64 y]] _ _
  have hbs := buildN3 (w.alloc (.cells #[.int .i64 op, .int .i64 a, .int .i64 b, .int .i64 x, .int .i64 y] 40)) (base + a) (base + a) (x)
  have hq := fill_any payT [base + a, base + a, x] (some ⟨(w.alloc (.cells #[.int .i64 op, .int .i64 a, .int .i64 b, .int .i64 x, .int .i64 y] 40)).heap.size, 0, none⟩) 3 3 ((w.alloc (.cells #[.int .i64 op, .int .i64 a, .int .i64 b, .int .i64 x, .int .i64 y] 40)).alloc (.cells #[.int .i64 (base + a), .int .i64 (base + a), .int .i64 (x)] 3)) (hE.kept HK.out) (xin_new (zs := [base + a, base + a, x]) (heap_alloc_new _ _) rfl) (by
    intro z hz
    simp only [List.mem_cons, List.not_mem_nil, or_false] at hz
    omega) (by decide) (by decide)
  generalize hM : w.heap.size = M at *
  generalize hw1 : w.alloc (.cells #[.int .i64 op, .int .i64 a, .int .i64 b, .int .i64 x, .int .i64 y] 40) = w1 at *
  have b1 : w1.cell? ⟨M, 1, none⟩ = some (.int .i64 a) := s1.cell 0 rfl 1
  have b3 : w1.cell? ⟨M, 3, none⟩ = some (.int .i64 x) := s1.cell 0 rfl 3
  generalize hrr : fillM payT [base + a, base + a, x] = rr at *
  clear s1 hE
  go_enter Tryz.func62, Tryz.ntmps62
  unfold payT at hq
  go_wp2_with (first | simp only [hbs] | simp only [hw1, hM] | (go_at_call 63; refine hq.mono ?_; rintro e w2 ⟨rfl, k2⟩))
  go_ret
  exact ⟨rfl, HK.out.trans k2 (fun _ _ f => f)⟩
set_option maxHeartbeats 2000000 in
theorem addT_any (hE : Env w) (hf : Fits base n d) : Calls Tryz.prog 69 #[.int .i64 base, d.val] w fun e w' => e = .returned (.string (bs (fillM addT [base + d.b, base + d.b, d.x]))) ∧ Kept (fun _ => False) w w' := by
  obtain ⟨op, a, b, x, y⟩ := d
  obtain ⟨h0, h1, h2, h3, h4, h5, h6, h7, h8, h9⟩ := hf
  simp only at h4 h5 h6 h7 h8 h9
  have s1 := (St.nil w).box #[.int .i64 op, .int .i64 a, .int .i64 b, .int .i64 x, .int .i64 y] 40
  have HK := hid (s1.alloc (.cells #[.int .i64 (base + b), .int .i64 (base + b), .int .i64 (x)] 3)).same
  show Calls _ _ #[.int .i64 base, .agg #[.int .i64 op, .int .i64 a, .int .i64 b, .int .i64 x, .int .i64 y]] _ _
  have hbs := buildN3 (w.alloc (.cells #[.int .i64 op, .int .i64 a, .int .i64 b, .int .i64 x, .int .i64 y] 40)) (base + b) (base + b) (x)
  have hq := fill_any addT [base + b, base + b, x] (some ⟨(w.alloc (.cells #[.int .i64 op, .int .i64 a, .int .i64 b, .int .i64 x, .int .i64 y] 40)).heap.size, 0, none⟩) 3 3 ((w.alloc (.cells #[.int .i64 op, .int .i64 a, .int .i64 b, .int .i64 x, .int .i64 y] 40)).alloc (.cells #[.int .i64 (base + b), .int .i64 (base + b), .int .i64 (x)] 3)) (hE.kept HK.out) (xin_new (zs := [base + b, base + b, x]) (heap_alloc_new _ _) rfl) (by
    intro z hz
    simp only [List.mem_cons, List.not_mem_nil, or_false] at hz
    omega) (by decide) (by decide)
  generalize hM : w.heap.size = M at *
  generalize hw1 : w.alloc (.cells #[.int .i64 op, .int .i64 a, .int .i64 b, .int .i64 x, .int .i64 y] 40) = w1 at *
  have b2 : w1.cell? ⟨M, 2, none⟩ = some (.int .i64 b) := s1.cell 0 rfl 2
  have b3 : w1.cell? ⟨M, 3, none⟩ = some (.int .i64 x) := s1.cell 0 rfl 3
  generalize hrr : fillM addT [base + b, base + b, x] = rr at *
  clear s1 hE
  go_enter Tryz.func69, Tryz.ntmps69
  unfold addT at hq
  go_wp2_with (first | simp only [hbs] | simp only [hw1, hM] | (go_at_call 63; refine hq.mono ?_; rintro e w2 ⟨rfl, k2⟩))
  go_ret
  exact ⟨rfl, HK.out.trans k2 (fun _ _ f => f)⟩
set_option maxHeartbeats 2000000 in
theorem seeT_any (hE : Env w) (hf : Fits base n d) : Calls Tryz.prog 71 #[.int .i64 base, .int .i64 n, d.val] w fun e w' => e = .returned (.string (bs (fillM seeT [base + d.a]))) ∧ Kept (fun _ => False) w w' := by
  obtain ⟨op, a, b, x, y⟩ := d
  obtain ⟨h0, h1, h2, h3, h4, h5, h6, h7, h8, h9⟩ := hf
  simp only at h4 h5 h6 h7 h8 h9
  have s1 := (St.nil w).box #[.int .i64 op, .int .i64 a, .int .i64 b, .int .i64 x, .int .i64 y] 40
  have HK := hid (s1.alloc (.cells #[.int .i64 (base + a)] 3)).same
  show Calls _ _ #[.int .i64 base, .int .i64 n, .agg #[.int .i64 op, .int .i64 a, .int .i64 b, .int .i64 x, .int .i64 y]] _ _
  have hbs := buildN1 (w.alloc (.cells #[.int .i64 op, .int .i64 a, .int .i64 b, .int .i64 x, .int .i64 y] 40)) (base + a)
  have hq := fill_any seeT [base + a] (some ⟨(w.alloc (.cells #[.int .i64 op, .int .i64 a, .int .i64 b, .int .i64 x, .int .i64 y] 40)).heap.size, 0, none⟩) 1 1 ((w.alloc (.cells #[.int .i64 op, .int .i64 a, .int .i64 b, .int .i64 x, .int .i64 y] 40)).alloc (.cells #[.int .i64 (base + a)] 3)) (hE.kept HK.out) (xin_new (zs := [base + a]) (heap_alloc_new _ _) rfl) (by
    intro z hz
    simp only [List.mem_cons, List.not_mem_nil, or_false] at hz
    omega) (by decide) (by decide)
  generalize hM : w.heap.size = M at *
  generalize hw1 : w.alloc (.cells #[.int .i64 op, .int .i64 a, .int .i64 b, .int .i64 x, .int .i64 y] 40) = w1 at *
  have b1 : w1.cell? ⟨M, 1, none⟩ = some (.int .i64 a) := s1.cell 0 rfl 1
  generalize hrr : fillM seeT [base + a] = rr at *
  clear s1 hE
  go_enter Tryz.func71, Tryz.ntmps71
  unfold seeT at hq
  go_wp2_with (first | simp only [hbs] | simp only [hw1, hM] | (go_at_call 63; refine hq.mono ?_; rintro e w2 ⟨rfl, k2⟩))
  go_ret
  exact ⟨rfl, HK.out.trans k2 (fun _ _ f => f)⟩
set_option maxHeartbeats 2000000 in
theorem sumT_any (hE : Env w) (hf : Fits base n d) : Calls Tryz.prog 73 #[.int .i64 base, .int .i64 n, d.val] w fun e w' => e = .returned (.string (bs (fillM sumT [base, base + n]))) ∧ Kept (fun _ => False) w w' := by
  obtain ⟨op, a, b, x, y⟩ := d
  obtain ⟨h0, h1, h2, h3, h4, h5, h6, h7, h8, h9⟩ := hf
  simp only at h4 h5 h6 h7 h8 h9
  have s1 := (St.nil w).box #[.int .i64 op, .int .i64 a, .int .i64 b, .int .i64 x, .int .i64 y] 40
  have HK := hid (s1.alloc (.cells #[.int .i64 (base), .int .i64 (base + n)] 3)).same
  show Calls _ _ #[.int .i64 base, .int .i64 n, .agg #[.int .i64 op, .int .i64 a, .int .i64 b, .int .i64 x, .int .i64 y]] _ _
  have hbs := buildN2 (w.alloc (.cells #[.int .i64 op, .int .i64 a, .int .i64 b, .int .i64 x, .int .i64 y] 40)) (base) (base + n)
  have hq := fill_any sumT [base, base + n] (some ⟨(w.alloc (.cells #[.int .i64 op, .int .i64 a, .int .i64 b, .int .i64 x, .int .i64 y] 40)).heap.size, 0, none⟩) 2 2 ((w.alloc (.cells #[.int .i64 op, .int .i64 a, .int .i64 b, .int .i64 x, .int .i64 y] 40)).alloc (.cells #[.int .i64 (base), .int .i64 (base + n)] 3)) (hE.kept HK.out) (xin_new (zs := [base, base + n]) (heap_alloc_new _ _) rfl) (by
    intro z hz
    simp only [List.mem_cons, List.not_mem_nil, or_false] at hz
    omega) (by decide) (by decide)
  generalize hM : w.heap.size = M at *
  generalize hw1 : w.alloc (.cells #[.int .i64 op, .int .i64 a, .int .i64 b, .int .i64 x, .int .i64 y] 40) = w1 at *

  generalize hrr : fillM sumT [base, base + n] = rr at *
  clear s1 hE
  go_enter Tryz.func73, Tryz.ntmps73
  unfold sumT at hq
  go_wp2_with (first | simp only [hbs] | simp only [hw1, hM] | (go_at_call 63; refine hq.mono ?_; rintro e w2 ⟨rfl, k2⟩))
  go_ret
  exact ⟨rfl, HK.out.trans k2 (fun _ _ f => f)⟩

end
end Go.Proofs.YtmoekoilcdkhfaaGreatDoor
