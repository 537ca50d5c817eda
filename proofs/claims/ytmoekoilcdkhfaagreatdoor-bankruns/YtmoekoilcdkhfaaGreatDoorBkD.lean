/- Package bank: the table of deeds, the row of a deed. -/
import Derived.Test.YtmoekoilcdkhfaaGreatDoorBkC
import Derived.Laws.EntriesVeiled
namespace Go.Proofs.YtmoekoilcdkhfaaGreatDoor
open Go.RowKit
set_option linter.unusedVariables false
set_option linter.unusedSimpArgs false
attribute [local go_sem ↓] Go.wp_at_zero Go.wp_at_succ

section
variable {w : World} {base n : Int} {d : Dd}
set_option maxHeartbeats 2000000 in
theorem emptyT_any : Calls Tryz.prog 67 #[.int .i64 base, d.val] w fun e w' => e = .returned (.string ⟨#[]⟩) ∧ Kept (fun _ => False) w w' := by
  obtain ⟨op, a, b, x, y⟩ := d
  have HK := hid (kept_alloc w (.cells #[.int .i64 op, .int .i64 a, .int .i64 b, .int .i64 x, .int .i64 y] 40))
  show Calls _ _ #[_, .agg #[.int .i64 op, .int .i64 a, .int .i64 b, .int .i64 x, .int .i64 y]] _ _
  go_enter Tryz.func67, Tryz.ntmps67
  go_wp2
  go_ret
  exact ⟨rfl, HK.out⟩
theorem bs_append (a b : List UInt8) : bs a ++ bs b = bs (a ++ b) := by
  apply ByteArray.ext
  simp [bs]
set_option maxHeartbeats 4000000 in
theorem thereT_any {F B : Nat} {rr : List UInt8} (hE : Env w) (hf : Fits base n d) (hB : w.heap[B]? = some (.cells #[fnV F] 124 (0, 0)))
    (hF : F = 67 ∨ F = 69) (hl : rr.length ≤ 1000)
    (hrest : ∀ W, Kept (fun _ => False) w W → Calls Tryz.prog F #[.int .i64 base, d.val] W fun e w' => e = .returned (.string (bs rr)) ∧ Kept (fun _ => False) W w') :
    Calls Tryz.prog 82 #[.int .i64 base, .int .i64 n, d.val, .pointer (some ⟨B, 0, none⟩)] w fun e w' => e = .returned (.string (bs (fillM takeT [base + d.a, d.x, base + d.a, d.x] ++ (rr ++ outT)))) ∧ Kept (fun _ => False) w w' := by
  obtain ⟨op, a, b, x, y⟩ := d
  obtain ⟨h0, h1, h2, h3, h4, h5, h6, h7, h8, h9⟩ := hf
  simp only at h4 h5 h6 h7 h8 h9
  have hR2 : ∀ W, Kept (fun _ => False) w W → Calls Tryz.prog F #[.int .i64 base, .agg #[.int .i64 op, .int .i64 a, .int .i64 b, .int .i64 x, .int .i64 y]] W fun e w' => e = .returned (.string (bs rr)) ∧ Kept (fun _ => False) W w' := hrest
  show Calls _ _ #[_, _, .agg #[.int .i64 op, .int .i64 a, .int .i64 b, .int .i64 x, .int .i64 y], _] _ _
  have hlen := fillM_len [base + a, x, base + a, x] takeT (by
    intro z hz
    simp only [List.mem_cons, List.not_mem_nil, or_false] at hz
    omega)
  have hq : ∀ (W : World) (H : Nat), Kept (fun _ => False) w W → W.heap[H]? = some (.cells #[.int .i64 (base + a), .int .i64 x, .int .i64 (base + a), .int .i64 x] 3 (0, 0)) → Calls Tryz.prog 63 #[.string (bs takeT), .slice (some ⟨H, 0, none⟩) 4 4] W fun e w' => e = .returned (.string (bs (fillM takeT [base + a, x, base + a, x]))) ∧ Kept (fun _ => False) W w' := fun W H k hH => fill_any takeT [base + a, x, base + a, x] (some ⟨H, 0, none⟩) 4 4 W (hE.kept k) (xin_new (zs := [base + a, x, base + a, x]) hH rfl) (by
    intro z hz
    simp only [List.mem_cons, List.not_mem_nil, or_false] at hz
    omega) (by decide) (by decide)
  have hlT : takeT.length ≤ 200 := by decide
  have hlO : outT.length ≤ 10 := by decide
  have s1 := (St.nil w).box #[.int .i64 op, .int .i64 a, .int .i64 b, .int .i64 x, .int .i64 y] 40
  have HK := hid s1.same
  have HR : Hid (∀ W, Kept (fun _ => False) w W → W.cell? ⟨B, 0, none⟩ = some (fnV F)) := fun W k => cell_of_heap ((k.block B (lt_of_heap hB) (fun f => f)).trans hB)
  simp only
  have hl4 : [base + a, x, base + a, x].length = 4 := rfl
  rw [hl4] at hlen
  generalize hrr : fillM takeT [base + a, x, base + a, x] = ff at *
  have z1 : (bs ff).size + (bs rr).size ≤ 9223372036854775807 := by simp only [bs, ByteArray.size, List.size_toArray]; omega
  have z2 : (bs ff ++ bs rr).size + (bs outT).size ≤ 9223372036854775807 := by rw [bs_append]; simp only [bs, ByteArray.size, List.size_toArray, List.length_append]; omega
  have HF : Hid (bs ff ++ bs rr ++ bs outT = bs (ff ++ (rr ++ outT))) := by
    show _ = _
    rw [bs_append, bs_append, List.append_assoc]
  have HQ := hid hq
  have HR2 := hid hR2
  generalize hM : w.heap.size = M at *
  generalize hw1 : w.alloc (.cells #[.int .i64 op, .int .i64 a, .int .i64 b, .int .i64 x, .int .i64 y] 40) = w1 at *
  have b1 : w1.drew.cell? ⟨M, 1, none⟩ = some (.int .i64 a) := s1.drew.cell 0 rfl 1
  have b3 : w1.drew.cell? ⟨M, 3, none⟩ = some (.int .i64 x) := s1.drew.cell 0 rfl 3
  have HC : Hid (∀ W, Kept (fun _ => False) w1 W → W.cell? ⟨B, 0, none⟩ = some (fnV F) ∧ W.cell? ⟨M, 0, none⟩ = some (.int .i64 op) ∧ W.cell? ⟨M, 1, none⟩ = some (.int .i64 a) ∧ W.cell? ⟨M, 2, none⟩ = some (.int .i64 b) ∧ W.cell? ⟨M, 3, none⟩ = some (.int .i64 x) ∧ W.cell? ⟨M, 4, none⟩ = some (.int .i64 y)) := fun W k => ⟨HR.out W (HK.out.trans k (fun _ _ f => f)), (s1.calm k).cell 0 rfl 0, (s1.calm k).cell 0 rfl 1, (s1.calm k).cell 0 rfl 2, (s1.calm k).cell 0 rfl 3, (s1.calm k).cell 0 rfl 4⟩
  have hbs := fun W => buildN4 W (base + a) x (base + a) x
  have kk0 : Kept (fun _ => False) w1 ((w1.alloc (.cells #[.int .i64 (base + a), .int .i64 x, .int .i64 (base + a), .int .i64 x] 3)).drew.drew) := ((Kept.refl _ w1).alloc _).drew.drew
  have kF : Calls Tryz.prog 63 #[.string (bs takeT), .slice (some ⟨w1.heap.size, 0, none⟩) 4 4] ((w1.alloc (.cells #[.int .i64 (base + a), .int .i64 x, .int .i64 (base + a), .int .i64 x] 3)).drew.drew) fun e w' => e = .returned (.string (bs ff)) ∧ (w'.cell? ⟨B, 0, none⟩ = some (fnV F) ∧ w'.cell? ⟨M, 0, none⟩ = some (.int .i64 op) ∧ w'.cell? ⟨M, 1, none⟩ = some (.int .i64 a) ∧ w'.cell? ⟨M, 2, none⟩ = some (.int .i64 b) ∧ w'.cell? ⟨M, 3, none⟩ = some (.int .i64 x) ∧ w'.cell? ⟨M, 4, none⟩ = some (.int .i64 y)) ∧ Kept (fun _ => False) w1 w' :=
    (HQ.out _ w1.heap.size (HK.out.trans kk0 (fun _ _ f => f)) (heap_alloc_new w1 _)).mono fun e w' h => ⟨h.1, HC.out _ (kk0.trans h.2 (fun _ _ f => f)), kk0.trans h.2 (fun _ _ f => f)⟩
  have kR : ∀ W, Kept (fun _ => False) w1 W → Calls Tryz.prog F #[.int .i64 base, .agg #[.int .i64 op, .int .i64 a, .int .i64 b, .int .i64 x, .int .i64 y]] W fun e w' => e = .returned (.string (bs rr)) ∧ (w'.cell? ⟨B, 0, none⟩ = some (fnV F) ∧ w'.cell? ⟨M, 0, none⟩ = some (.int .i64 op) ∧ w'.cell? ⟨M, 1, none⟩ = some (.int .i64 a) ∧ w'.cell? ⟨M, 2, none⟩ = some (.int .i64 b) ∧ w'.cell? ⟨M, 3, none⟩ = some (.int .i64 x) ∧ w'.cell? ⟨M, 4, none⟩ = some (.int .i64 y)) ∧ Kept (fun _ => False) w1 w' := fun W k => (HR2.out W (HK.out.trans k (fun _ _ f => f))).mono fun e w' h => ⟨h.1, HC.out _ (k.trans h.2 (fun _ _ f => f)), k.trans h.2 (fun _ _ f => f)⟩
  have HKR := hid kR
  have hSB := HC.out _ kk0
  obtain ⟨c0, d0, d1, d2, d3, d4⟩ := HC.out _ ((Kept.refl _ w1).drew.drew)
  have lB : B < w1.heap.size := Nat.lt_of_lt_of_le (lt_of_heap hB) HK.out.size
  have lM : M < w1.heap.size := World.block_lt_of_cell? w1 _ (s1.cell 0 rfl 0)
  have n1 : ¬ B = w1.heap.size := by omega
  have n2 : ¬ w1.heap.size = B := by omega
  have n3 : ¬ M = w1.heap.size := by omega
  have n4 : ¬ w1.heap.size = M := by omega
  clear hE hB hrest hq hR2 hlen hlT hlO hl4 hrr s1 HQ HR2 HC HR kR kk0 lB lM
  have z1' : ¬ 9223372036854775807 < (bs ff).size + (bs rr).size := by omega
  have z2' : ¬ 9223372036854775807 < (bs ff).size + (bs rr).size + 6 := by
    rw [ByteArray.size_append] at z2
    have : (bs outT).size = 6 := by decide
    omega
  generalize hoo : bs ff = tf at *
  generalize bs rr = tr at *
  go_enter Tryz.func82, Tryz.ntmps82
  go_upto_region 1 with (simp only [hw1, hM])
  go_region
  clear b1 b3 hM hw1
  unfold takeT at kF
  unfold outT at z2 HF
  go_upto_region 2 with fail
  rcases hF with rfl | rfl
  · go_region_held3 (fun W => W.cell? ⟨B, 0, none⟩ = some (fnV 67) ∧ W.cell? ⟨M, 0, none⟩ = some (.int .i64 op) ∧ W.cell? ⟨M, 1, none⟩ = some (.int .i64 a) ∧ W.cell? ⟨M, 2, none⟩ = some (.int .i64 b) ∧ W.cell? ⟨M, 3, none⟩ = some (.int .i64 x) ∧ W.cell? ⟨M, 4, none⟩ = some (.int .i64 y)) (first | go_keep | exact rS | exact hSB | (obtain ⟨q0, q1, q2, q3, q4, q5⟩ := rS; exact ⟨by go_simp, by go_simp, by go_simp, by go_simp, by go_simp, by go_simp⟩))
      (first | simp only [hbs] | (go_at_call 63; refine kF.mono ?_; rintro e w2 ⟨rfl, rS, k2⟩) | (go_at_call 67; refine (HKR.out _ k2).mono ?_; rintro e w3 ⟨rfl, rS, k3⟩))
    go_wp2
    go_ret
    exact ⟨congrArg (fun t => Ending.returned (.string t)) HF.out, HK.out.trans k3 (fun _ _ f => f)⟩
  · go_region_held3 (fun W => W.cell? ⟨B, 0, none⟩ = some (fnV 69) ∧ W.cell? ⟨M, 0, none⟩ = some (.int .i64 op) ∧ W.cell? ⟨M, 1, none⟩ = some (.int .i64 a) ∧ W.cell? ⟨M, 2, none⟩ = some (.int .i64 b) ∧ W.cell? ⟨M, 3, none⟩ = some (.int .i64 x) ∧ W.cell? ⟨M, 4, none⟩ = some (.int .i64 y)) (first | go_keep | exact rS | exact hSB | (obtain ⟨q0, q1, q2, q3, q4, q5⟩ := rS; exact ⟨by go_simp, by go_simp, by go_simp, by go_simp, by go_simp, by go_simp⟩))
      (first | simp only [hbs] | (go_at_call 63; refine kF.mono ?_; rintro e w2 ⟨rfl, rS, k2⟩) | (go_at_call 69; refine (HKR.out _ k2).mono ?_; rintro e w3 ⟨rfl, rS, k3⟩))
    go_wp2
    go_ret
    exact ⟨congrArg (fun t => Ending.returned (.string t)) HF.out, HK.out.trans k3 (fun _ _ f => f)⟩
end
end Go.Proofs.YtmoekoilcdkhfaaGreatDoor
